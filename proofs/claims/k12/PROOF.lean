import PyProof.Rows.All
import Wide.All
import OpenK.AllK
import Wide.FinOn
import Lean
import PyProof.EqAt
import PyProof.EqKinds
import PyProof.TupleCall
import PyProof.LongRange
import PyProof.ListRange
import PyProof.RaisesMany
import PyProof.ExcBaseAll.ValueError
import PyProof.ExcArgs
import PyProof.InstStoreFacts
import PyProof.ExcAttrAll.ValueError
import PyProof.RulesAs
import PyProof.RulesDel
import PyProof.ReprRoads
import PyProof.CallFns
import PyProof.InstSpecial
import PyProof.Rows.RuleN_isinstance
import KE.KIsNot
import PyProof.ReprLen
import PyProof.EnumMake
import PyProof.EnumFor
import PyProof.EnumStmt
import PyProof.Rows.EnumRows
import PyProof.RulesDelMore
import PyProof.Rows.SetFrom
import PyProof.ZipIter
import PyProof.IsRules
import PyProof.Conv_int_bool
import PyProof.IsiTuple
import PyProof.NeKinds
import KE.KEqDict
import PyProof.Rows.FStr
import PyProof.Rows.StrNews
import PyProof.StrCalls2
import PyProof.StrLawsChain
import PyProof.StrLawsTight
import PyProof.StrOps2
import PyProof.WalkInts
import PyProof.DictCompW
import PyProof.DictWalks
import PyProof.Rows.DictUnroll
import PyProof.FactsAll.dict
import PyProof.AttrMissHeap
import PyProof.FactsAll.zip
import KE.KDictOf
import PyProof.EqKinds
import PyProof.FactsAll.list_3
import PySem.Challenge.RW_roomslaid_k12_lines_refused
set_option autoImplicit true
set_option Elab.async false
set_option linter.all false
set_option maxRecDepth 100000
open PySem.W (Frag keepIn findIn codeIn nsIn fnOf mg_of isFn mg_none_of)
open PySem.Str renaming ofString->δ,join->π,cps_append->vb,append_assoc->zr
open List renaming length_map->ε,length_append->ζ,getElem?_eq_some_iff->η,getElem?_eq_getElem->θ,map_append->ν,mem_cons->ξ,mem_singleton->τ,length_cons->υ,size_toArray->χ,mem_of_getElem?->ψ,getElem?_append_right->Γ,not_mem_nil->Δ,getD_eq_getElem?_getD->Θ,mem_cons_self->qy,getElem?_append_left->rf,mem_cons_of_mem->rg,length_take->rh,mem_map->rm,mem_append->rn,mem_append_right->rq,mem_append_left->sm,getElem?_map->sv,Nodup->sw,map_map->sx,mem_iff_getElem?->tq,range->tw,all_eq_true->ue,append_assoc->ug,length_eq_zero_iff->uh,pairwise_singleton->ui,map_cons->uj,length_singleton->uk,filter_cons_of_neg->uw,append_nil->uy,getElem?_take_of_lt->vd,take_of_length_le->vt,take_add_one->vz,length_range->wb,nodup_append->wm,flatMap_append->wq,take_length->wu,filter_cons_of_pos->xg,nodup_cons->xj,flatMap_singleton->xm,zipWith_cons_cons->xo,length_drop->xu,length_replicate->yc,take_append_drop->yf,range_succ->yh,lookup->yl,contains_cons->yt,find?_cons->yv,mem_of_mem_drop->zk,getElem_mem->zo,cons_append->zp,pairwise_iff_getElem->zt,map_congr_left->zv,sum_cons->Ac,mem_range->Aq,getElem?_set_self->Ar,replicate->Au,flatMap_cons->AC,pairwise_map->AD,getElem?_eq_none->AH,eq_nil_or_concat->AI,concat_eq_append->AJ,getElem_map->AN,any_cons->AO,getElem?_set_ne->AQ
open PySem renaming wpAny_bind->ι,Shared->ο,sizeLine->ρ,wpAny_pure->Φ,mainGlobals->Ψ,sizeLine_eq->qx,wpAny->rj,model->rl,strLen_append->rp,starEach->sf,boot_len->si,FuncData->sq,wpAny_mono->ua,mem_of_lookup->ve,Program->vh,wpAny_truthy_bool->vi,wpAny_loadPart_at->vj,Around->vm,Heap->vn,compareOp->vo,World->vy,wpAny_holding->wf,Spec->wj,wpAny_isSubtype_exc->wo,Within->ww,wpAny_Call_Name_kw->xx,bootBuiltins->yi,binaryOp->yk,wpAny_standAt->ym,backTo->yn,wpAny_getItem_str_slice->yo,behindInMarks->yy,attributeBase->za,foldedSetIterable->zd,sysModules->zf,wpAny_call->zi,codeAny_call_builtin->zj,letOwnedTupleGo->Ad,Builtin->Ae,wpAny_passesOwn->Af,codeAny->Ag,assignEach->Ai,getMethod->Ak,keywordEach->Am,sliceBounds->Ap,codeAny_mono->As,checkBuiltinCall->AM
open Nat renaming le_refl->μ,lt_of_lt_of_le->ω,zero_le->sd,le_trans->sg,ne_of_lt->sk,min_le_left->uz,sub_self->vc,lt_irrefl->vq,lt_of_le_of_lt->wd,le_of_lt->wk,lt_succ_self->zm,not_lt_zero->Ah,lt_or_eq_of_le->Aj,le_succ->An
open PySem.Heap renaming get?_push_of_some->ς,lt_size->ra,get?_push_size->sj,get?_update_other->uq,SameBut->xk,get?_update_self->yd,get?_none_of_le->yj,size_push->zh
open PySem.W renaming Frag->Ξ,kin_not->uu,findIn->uv,mg_none_of->vk,mroIn->wz,looks_findIn->xa,instObj->xh,callWith_K->xy,methodCall_KW->yb,hasDictIn->ze,InstAt->zg,looks_clsIn->zu,Looks->zy,nsOkIn->Ay,specialIn->Az,plainGet->AK,handedOut_of->AR
open Bool renaming false_ne_true->Ω,and_eq_true->ub,false_and->vp,true_and->wg,eq_false_iff->xb,eq_iff_iff->xi,false_eq_true->ya
open PySem.F renaming plainAttrs_list->qw,slot_list_append->rb,type_list_append->rc,plainAttrs_str->sr,slot_str_join->ul,type_str_join->uo,excBase_ValueError->wl,args_tuple_add_2->zw,entry_tuple_add->Ao,slot_tuple_add->Av,slot_str_split->AE,type_str_split->AF
open PySem.Value renaming ref->se,none->xw,bool->yq
open False renaming elim->su
open Or renaming inl->sy
open PySem.SeqAt renaming EqAt->uc
open True renaming intro->ud
open Option.some renaming inj->ux
open Ne renaming symm->va
open Array renaming toList_append->vf,length_toList->wn
open PySem.PassesOwn renaming never->vg
open PySem.Txt renaming split->vw
open PyProof.Rows renaming boot_isinstance->wc,callWith_type1->zc,callWith_builtin1->AL
open PySem.Builtin.Str renaming occurrences->we
open PySem.W.Looks renaming here->wt,of_pure->zb
open Option renaming isSome_iff_exists->wx,map_eq_some_iff->yr
open PySem.Obj renaming mapFields->wy
open Int renaming zero_add->xq,natCast_add->yw,toNat_natCast->Aw
open PySem.Builtin.ObjectAttr renaming storeInOwnDict->yg,ownDictForStores->zz
open Sum renaming inr->yp
open ForInStep renaming yield->yu
open PySem.Builtin.List renaming listTooLong->zx
open List.cons renaming inj->Aa
open List.Pairwise renaming nil->Ax
namespace L2
open PySem PySem.Spec PyProof.Rows
abbrev Key:=Sum Int Str
def oH:Key->Value->Bool
 |.inl k,v=>Value.isInt k v
 |.inr x,v=>Value.isStrOf x v
def keyH (w:vy):Key->Int
 |.inl k=>hashInt k
 |.inr x=>hashStr w x
theorem qZ:∀{k:Key}{v:Value},oH k v=true->(∃i t,k=Sum.inl i/\v=Value.int i t)\/(∃x t,k=yp x/\v=Value.str x t)
 |.inl i,v,h=>by
  obtain⟨t,e⟩:=Value.isInt_shape (k:=i) (v:=v) h;exact .inl ⟨i,t,rfl,e⟩
 |.inr x,v,h=>by
  obtain⟨t,e⟩:=Value.isStrOf_shape (x:=x) (v:=v) h;exact .inr ⟨x,t,rfl,e⟩
theorem aBf(i:Int)(t:Tok):oH (.inl i) (.int i t)=true:=by simp[oH,Value.isInt]
theorem aBy(x:Str)(t:Tok):oH (.inr x) (.str x t)=true:=by simp[oH,Value.isStrOf]
theorem aIf(a b:Int):decide ((Sum.inl a:Key)=Sum.inl b)=(a == b):=by
 by_cases e:a=b
 ·subst e;simp
 ·have h:¬ (Sum.inl a:Key)=Sum.inl b:=fun q=>e (Sum.inl.inj q);rw[decide_eq_false h];exact(beq_eq_false_iff_ne.mpr e).symm
theorem aIi(a b:Str):decide ((yp a:Key)=yp b)=decide (a=b):=by
 by_cases e:a=b
 ·subst e;simp
 ·have h:¬ (yp a:Key)=yp b:=fun q=>e (yp.inj q);rw[decide_eq_false h,decide_eq_false e]
theorem aIc(a:Int)(b:Str):decide ((Sum.inl a:Key)=yp b)=false:=decide_eq_false (fun q=>nomatch q)
theorem aId(a:Str)(b:Int):decide ((yp a:Key)=Sum.inl b)=false:=decide_eq_false (fun q=>nomatch q)
def vX (prog:vh) (w:vy):PySem.KeyKind prog w Key where
 is:=oH
 hash:=keyH w
 inj:=fun v a b ha hb=>by
  rcases qZ ha with⟨i,t,rfl,rfl⟩|⟨x,t,rfl,rfl⟩
  ·rcases qZ hb with⟨j,u,rfl,e⟩|⟨y,u,rfl,e⟩
   ·injection e with e1 _;rw[e1]
   ·exact nomatch e
  ·rcases qZ hb with⟨j,u,rfl,e⟩|⟨y,u,rfl,e⟩
   ·exact nomatch e
   ·injection e with e1 _;rw[e1]
 byValue:=fun k v h=>by
  rcases qZ h with⟨i,t,rfl,rfl⟩|⟨x,t,rfl,rfl⟩ <;> rfl
 pyHash:=fun hv h=>by
  rcases qZ hv with⟨i,t,rfl,rfl⟩|⟨x,t,rfl,rfl⟩
  ·exact wpAny_pyHash_int h
  ·exact wpAny_pyHash_str h
 eqBool:=fun hu hv h=>by
  rcases qZ hu with⟨i,t,rfl,rfl⟩|⟨x,t,rfl,rfl⟩
  ·rcases qZ hv with⟨j,u,rfl,rfl⟩|⟨y,u,rfl,rfl⟩
   ·rw[aIf]at h;exact wpAny_eqBool_int h
   ·rw[aIc]at h;exact uc.int_str i t y u _ _ _ _ h
  ·rcases qZ hv with⟨j,u,rfl,rfl⟩|⟨y,u,rfl,rfl⟩
   ·rw[aId]at h;exact uc.str_int x t j u _ _ _ _ h
   ·rw[aIi]at h;exact wpAny_eqBool_str h
 «strs»:=fun k x t v h=>by
  rcases qZ h with⟨i,u,rfl,e⟩|⟨y,u,rfl,e⟩
  ·exact nomatch e
  ·injection e with e1 _;subst e1;cases v <;> rfl
theorem sR(prog:vh)(w:vy)(i:Int)(t:Tok):(vX prog w).is (.inl i) (.int i t)=true:=aBf i t
theorem tK(prog:vh)(w:vy)(x:Str)(t:Tok):(vX prog w).is (.inr x) (.str x t)=true:=aBy x t
inductive V where
 |non|bl (b:Bool)|int (i:Int)|str (x:Str)|byt (b:Array UInt8)|flt (b:UInt64)|ref (a:Addr)|ty (n:String)
 deriving DecidableEq
def RelV:V->Value->Prop
 |.non,u=>u=xw
 |.bl b,u=>u=yq b
 |.int i,u=>∃t,u=Value.int i t
 |.str x,u=>∃t,u=Value.str x t
 |.byt b,u=>∃t,u=Value.bytes b t
 |.flt b,u=>∃t,u=Value.float b t
 |.ref a,u=>u=se a
 |.ty n,u=>u=Value.type n
abbrev kK:List V->List Value->Prop:=Paired RelV
theorem kK.length(r:kK xs us):xs.length=us.length:=Paired.length r
theorem kK.get:∀{xs:List V}{us:List Value}{i:Nat}{x:V},kK xs us->xs[i]?=some x->∃u,us[i]?=some u/\RelV x u
 |_,_,_,_,.nil,e=>by simp at e
 |_,_,0,_,.cons r _,e=>by simp at e;subst e;exact⟨_,rfl,r⟩
 |_,_,i+1,x,.cons _ t,e=>by
  obtain⟨u,h1,h2⟩:=kK.get (i:=i) (x:=x) t (by simpa using e);exact⟨u,by simpa using h1,h2⟩
theorem kK.set(r:RelV x u):∀{xs:List V}{us:List Value}(i:Nat),kK xs us->kK (xs.set i x) (us.set i u)
 |_,_,_,.nil=>.nil
 |_,_,0,.cons _ t=>.cons r t
 |_,_,i+1,.cons q t=>.cons q (kK.set r i t)
theorem kK.append:∀{xs ys:List V}{us ws:List Value},kK xs us->kK ys ws->kK (xs++ys) (us++ws)
 |_,_,_,_,.nil,s=>s
 |_,_,_,_,.cons r t,s=>.cons r (kK.append t s)
theorem kK.take:∀{xs:List V}{us:List Value}(n:Nat),kK xs us->kK (xs.take n) (us.take n)
 |_,_,0,_=>.nil
 |_,_,_+1,.nil=>.nil
 |_,_,n+1,.cons r t=>.cons r (kK.take n t)
theorem kK.drop:∀{xs:List V}{us:List Value}(n:Nat),kK xs us->kK (xs.drop n) (us.drop n)
 |_,_,0,r=>r
 |_,_,_+1,.nil=>.nil
 |_,_,n+1,.cons _ t=>kK.drop n t
theorem kK.none_of:∀{xs:List V}{us:List Value}{i:Nat},kK xs us->xs[i]?=none->us[i]?=none:=fun {xs us i} r e=>by
 have h1:=r.length;have h2:xs.length<=i:=List.getElem?_eq_none_iff.mp e;exact List.getElem?_eq_none_iff.mpr (by omega)
def yQ:Option V->Option Value->Prop
 |some v,some u=>RelV v u
 |none,none=>True
 |_,_=>False
def KV {κ : Type} : List (κ×V)->List (κ×Value)->Prop:=Paired fun (p : κ×V) (q : κ×Value)=>p.1=q.1/\RelV p.2 q.2
def kV:Key->V
 |.inl i=>.int i
 |.inr x=>.str x
inductive HO where
 /-- a list -/
 |lst (xs:List V)
 /-- a tuple (never changes) -/
 |tup (xs:List V)
 /-- a dict whose keys are ints and texts;one whose keys are tuples of ints and texts (the empty one is both) -/
 |dK (kvs:List (Key×V))|dT (kvs:List (List Key×V))
 /-- a set of ints: its members,its size -/
 |set (S:Int->Bool) (n:Nat)
 /-- an instance of the class at C,its dict at dx,its attributes -/
 |ins (C dx:Addr) (fs:List (Str×V))
 /-- the dict of the instance at x -/
 |own (x:Addr)
 /-- the dict of an exception -/
 |xd (fs:List (Str×V))
 /-- a bound method,f of x -/
 |met (f x:Addr)
 /-- a range object lo,lo+1,.. below hi -/
 |rng (lo hi:Int)
 /-- a thing that is known to the object (the script;a dict while a loop walks it): read,never written while it is so -/
 |frz (o:Obj) (u:HO)
 /-- a code object's table -/
 |tbl (ps:Array Value)
 /-- any other thing,by what is true of its one object (a def of one's own: SetO a S n := HO.ext fun h => ..) -/
 |ext (φ : vn->Prop)
abbrev Hp:=Addr->Option HO
def upd (H:Hp) (a:Addr) (o:HO):Hp:=fun b=>if b=a then some o else H b
theorem jL : upd H a o a=some o:=by unfold upd;rw[if_pos rfl]
theorem jW{H:Hp}{a b:Addr}(h:b≠a):upd H a o b=H b:=by unfold upd;rw[if_neg h]
theorem gW{H:Hp}(h:H a=some o)(h':H b=some u)(d:o≠u):a≠b:=by
 intro e;subst e;rw[h]at h';exact d (ux h')
theorem jK{H:Hp}(h:H a=some o)(h':H b=none):a≠b:=by
 intro e;subst e;rw[h]at h';cases h'
section
variable (P:vh) (w:vy)
def vC (H:Hp) (h:vn) (a:Addr):HO->Prop
 |.lst xs=>xs.length<=ρ/\∃(its:List Value) (n:Nat),kK xs its/\h.get? a=some { cls:=.type "list",data:=.seq its.toArray n }
 |.tup xs=>xs.length<=ρ/\∃its:List Value,kK xs its/\IsTup h a its.toArray
 |.dK kvs=>kvs.length<=ρ/\(a == zf)=false/\∃vs,KV kvs vs/\h.DictOf (vX P w) a vs
 |.dT kvs=>kvs.length<=ρ/\(a == zf)=false/\∃xs:List (List Key×Addr×Value),
   Paired (fun (p:List Key×V) (q:List Key×Addr×Value)=>p.1=q.1/\H q.2.1=some (.tup (p.1.map kV))/\RelV p.2 q.2.2) kvs xs ∧
   ∃o es ep,h.get? a=some o/\o.ExactDict/\o.data=.dict es ep/\es.toList=xs.map (entryOfKey (tupleKind (vX P w)))/\(xs.map (·.1)).Nodup
 |.set S n=>h.SetOf (intKind P w) a S n
 |.ins C dx fs=>H dx=some (.own a)/\fs.length<=1000/\dx≠a/\h.get? a=some (xh C dx) ∧
   ∃mA,h.Ns1 dx mA/\(∀f,yQ (fs.lookup f) (mA f))/\ww mA (fs.map (·.1))
 |.own _=>∃o,h.get? a=some o
 |.xd fs=>∃mA,h.Ns1 a mA/\∀f,yQ (fs.lookup f) (mA f)
 |.rng lo hi=>∃t u v,h.get? a=some { cls:=.type "range",data:=.fields #[.int lo t,.int hi u,.int 1 v] }
 |.frz o u=>h.get? a=some o/\vC H h a u
 |.tbl ps=>h.get? a=some { cls:=.none,data:=.fields ps }
 |.met f x=>h.get? a=some (PySem.W.methodObj (.ref f) (.ref x))
 |.ext φ=>φ h/\(∃o,h.get? a=some o)/\∀h1 h2:vn,φ h1->(∀o,h1.get? a=some o->h2.get? a=some o)->φ h2
def HOk (H:Hp) (h:vn):Prop:=∀a o,H a=some o->vC P w H h a o
end
section
variable {P:vh}{w:vy}{H H':Hp}{h h':vn}{a:Addr}{o:HO}
theorem vC.lt(x:vC P w H h a o):a<h.objs.size:=by
 cases o with
 |lst xs=>obtain⟨_,_,_,_,e⟩:=x;exact ra e
 |tup xs=>obtain⟨_,_,_,p⟩:=x;exact p.lt
 |dK kvs=>obtain⟨_,_,_,_,o,_,_,e,_⟩:=x;exact ra e
 |dT kvs=>obtain⟨_,_,_,_,o,_,_,e,_⟩:=x;exact ra e
 |set S n=>obtain⟨o,_,_,_,e,_⟩:=x;exact ra e
 |ins C dx fs=>obtain⟨_,_,_,e,_⟩:=x;exact ra e
 |own y=>obtain⟨_,e⟩:=x;exact ra e
 |xd fs=>obtain⟨_,⟨_,_,_,e,_⟩,_⟩:=x;exact ra e
 |rng lo hi=>obtain⟨_,_,_,e⟩:=x;exact ra e
 |frz ob u=>obtain⟨e,_⟩:=x;exact ra e
 |tbl ps=>exact ra (show h.get? a=some _ from x)
 |met f y=>exact ra (show h.get? a=some _ from x)
 |ext φ=>obtain⟨_,⟨_,e⟩,_⟩:=x;exact ra e
theorem Paired.mapP{α β : Type}{F G : α->β->Prop}: ∀{l₁ : List α}{l₂ : List β},Paired F l₁ l₂->(∀a b,F a b->G a b)->Paired G l₁ l₂
 |_,_,.nil,_=>.nil
 |_,_,.cons r t,f=>.cons (f _ _ r) (Paired.mapP t f)
theorem vC.stay(x:vC P w H h a o)(k:∀b u,(b=a\/H b=some (.own a))->h.get? b=some u->h'.get? b=some u)
  (ho:∀b,H b=some (.own a)->H' b=some (.own a))(ht:∀b xs,H b=some (.tup xs)->H' b=some (.tup xs)):vC P w H' h' a o:=by
 induction o with
 |lst xs=>obtain⟨z,its,n,r,e⟩:=x;exact⟨z,its,n,r,k _ _ (.inl rfl) e⟩
 |tup xs=>obtain⟨z,its,r,ob,e,c⟩:=x;exact⟨z,its,r,ob,k _ _ (.inl rfl) e,c⟩
 |dK kvs=>obtain⟨z,y,vs,r,ob,es,ep,e,c⟩:=x;exact⟨z,y,vs,r,ob,es,ep,k _ _ (.inl rfl) e,c⟩
 |dT kvs =>
  obtain⟨z,y,xs,r,ob,es,ep,e,c⟩:=x;exact⟨z,y,xs,Paired.mapP r fun p q z=>⟨z.1,ht _ _ z.2.1,z.2.2⟩,ob,es,ep,k _ _ (.inl rfl) e,c⟩
 |set S n=>obtain⟨ob,es,ep,t,e,c⟩:=x;exact⟨ob,es,ep,t,k _ _ (.inl rfl) e,c⟩
 |ins C dx fs =>
  obtain⟨d,z,ne,e,mA,⟨od,es,ep,e2,c⟩,r⟩:=x;exact⟨ho _ d,z,ne,k _ _ (.inl rfl) e,mA,⟨od,es,ep,k _ _ (.inr d) e2,c⟩,r⟩
 |own y=>obtain⟨ob,e⟩:=x;exact⟨ob,k _ _ (.inl rfl) e⟩
 |xd fs=>obtain⟨mA,⟨od,es,ep,e,c⟩,r⟩:=x;exact⟨mA,⟨od,es,ep,k _ _ (.inl rfl) e,c⟩,r⟩
 |rng lo hi=>obtain⟨t,u,v,e⟩:=x;exact⟨t,u,v,k _ _ (.inl rfl) e⟩
 |frz ob u ih=>obtain⟨e,q⟩:=x;exact⟨k _ _ (.inl rfl) e,ih q⟩
 |tbl ps =>
  have e:h.get? a=some { cls:=.none,data:=.fields ps }:=x;show h'.get? a=some { cls:=.none,data:=.fields ps };exact k a _ (.inl rfl) e
 |met f y =>
  have e:h.get? a=some (PySem.W.methodObj (.ref f) (.ref y)):=x;show h'.get? a=some (PySem.W.methodObj (.ref f) (.ref y));exact k a _ (.inl rfl) e
 |ext φ=>obtain⟨p,⟨o,e⟩,st⟩:=x;exact⟨st _ _ p fun o q=>k _ _ (.inl rfl) q,⟨o,k _ _ (.inl rfl) e⟩,st⟩
theorem HOk.lt(x:HOk P w H h)(e:H a=some o):a<h.objs.size:=(x a o e).lt
theorem HOk.fresh(x:HOk P w H h)(e:h.objs.size<=a):H a=none:=by
 cases q:H a with
 |none=>rfl
 |some u=>exact absurd (ω (x.lt q) e) (vq _)
theorem HOk.kept(x:HOk P w H h)(k:∀b u,h.get? b=some u->h'.get? b=some u):HOk P w H h':=fun a o e =>
 (x a o e).stay (fun b u _ q=>k b u q) (fun _ q=>q) fun _ _ q=>q
theorem HOk.laid(x:HOk P w H h)(k:∀b u,h.get? b=some u->h'.get? b=some u)(hp:h.objs.size<=a)(new:vC P w (upd H a o) h' a o):HOk P w (upd H a o) h':=fun b u e=>by
 have hn:=x.fresh hp
 by_cases hb:b=a
 ·subst hb;rw[jL]at e;cases e;exact new
 ·rw[jW hb]at e;exact(x b u e).stay (fun c v _ q=>k c v q) (fun c q=>by rw[jW (jK q hn)];exact q) fun c xs q=>by rw[jW (jK q hn)];exact q
end
def Rd (H:Hp) (a:Addr) (u:HO):Prop:=H a=some u\/∃o,H a=some (.frz o u)
theorem Rd.of{H:Hp}(h:H a=some u):Rd H a u:=.inl h
theorem Rd.ok(r:Rd H a u)(x:HOk P w H h):vC P w H h a u:=by
 rcases r with r|⟨o,r⟩
 ·exact x a u r
 ·obtain⟨_,q⟩:=x a _ r;exact q
def Mut:Option HO->Prop
 |some (.lst _)=>True
 |some (.dK _)=>True
 |some (.dT _)=>True
 |some (.set _ _)=>True
 |some (.ins _ _ _)=>True
 |some (.ext _)=>True
 |_=>False
section
variable {P:vh}{w:vy}{H:Hp}{h h':vn}{x e:Addr}{o':HO}
theorem HOk.write(ok:HOk P w H h)(mu:Mut (H x))(he:e=x\/H e=some (.own x))(k:∀b u,b≠e->h.get? b=some u->h'.get? b=some u)(heo:∃u,h'.get? e=some u)
  (new:vC P w (upd H x o') h' x o'):HOk P w (upd H x o') h':=fun b u q=>by
 have nown:∀c y,H c=some (.own y)->c≠x:=fun c y r z=>by subst z;rw[r]at mu;exact mu
 have ntup:∀c xs,H c=some (.tup xs)->c≠x:=fun c xs r z=>by subst z;rw[r]at mu;exact mu
 by_cases hb:b=x
 ·subst hb;rw[jL]at q;cases q;exact new
 ·rw[jW hb]at q
  by_cases hbe:b=e
  ·have q':H b=some (.own x):=by
    rcases he with z|z
    ·exact absurd (hbe.trans z) hb
    ·rw[hbe];exact z
   rw[q]at q';cases q';obtain⟨v,hv⟩:=heo;exact⟨v,by rw[hbe];exact hv⟩
  ·refine(ok b u q).stay (fun c v hc r=>k c v ?_ r) (fun c r=>by rw[jW (nown c b r)];exact r) fun c xs r=>by rw[jW (ntup c xs r)];exact r
   rcases hc with rfl|hc
   ·exact hbe
   ·rintro rfl;rcases he with z|z
    ·exact nown c b hc z
    ·rw[hc]at z;cases z;exact hb rfl
end
structure Un (fs ex:List Addr) (H H':Hp) (h h':vn):Prop where
 keep:∀b o,h.get? b=some o->H b=none->b∉fs->b∉ex->h'.get? b=some o
 slot:∀b o,h.get? b=some o->H b=none->b∈fs->b∉ex->∃sl,h'.get? b=some { o with slots:=sl }
 free:∀b o,h.get? b=some o->H b=none->b∉ex->H' b=none
 there:∀b o,h.get? b=some o->b∉ex->∃o',h'.get? b=some o'
 tups:∀b xs,H b=some (.tup xs)->H' b=some (.tup xs)
 frzs:∀b o u,H b=some (.frz o u)->H' b=some (.frz o u)
 tbls:∀b ps,H b=some (.tbl ps)->∃more,H' b=some (.tbl (ps++more))
section
variable {fs fs' ex ex':List Addr}{H H1 H2:Hp}{h h1 h2 h':vn}{a x e:Addr}{o:HO}
theorem Un.any(u:Un fs ex H H1 h h1){b:Addr}{ob:Obj}(q:h.get? b=some ob)(n:H b=none)(hx:b∉ex):∃sl,h1.get? b=some { ob with slots:=sl }:=by
 by_cases hb:b∈fs
 ·exact u.slot b ob q n hb hx
 ·exact⟨ob.slots,u.keep b ob q n hb hx⟩
theorem Un.trans(a:Un fs ex H H1 h h1)(b:Un fs ex H1 H2 h1 h2):Un fs ex H H2 h h2 where
 keep:=fun c ob q n hc hx=>b.keep c ob (a.keep c ob q n hc hx) (a.free c ob q n hx) hc hx
 slot:=fun c ob q n hc hx=>by
  obtain⟨sl,e1⟩:=a.slot c ob q n hc hx;obtain⟨sl',e2⟩:=b.slot c _ e1 (a.free c ob q n hx) hc hx;exact⟨sl',e2⟩
 free:=fun c ob q n hx=>by
  obtain⟨o',e1⟩:=a.there c ob q hx;exact b.free c o' e1 (a.free c ob q n hx) hx
 there:=fun c ob q hx=>by
  obtain⟨o',e1⟩:=a.there c ob q hx;exact b.there c o' e1 hx
 tups:=fun c xs q=>b.tups c xs (a.tups c xs q)
 frzs:=fun c ob xs q=>b.frzs c ob xs (a.frzs c ob xs q)
 tbls:=fun c ps q=>by
  obtain⟨m1,e1⟩:=a.tbls c ps q;obtain⟨m2,e2⟩:=b.tbls c _ e1;exact⟨m1++m2,by rw[e2,Array.append_assoc]⟩
theorem Un.kept(k:∀b u,h.get? b=some u->h'.get? b=some u):Un fs ex H H h h' :=
 ⟨fun b ob q _ _ _=>k b ob q,fun b ob q _ _ _=>⟨ob.slots,k b ob q⟩,fun _ _ _ n _=>n,fun b ob q _=>⟨ob,k b ob q⟩,fun _ _ q=>q,fun _ _ _ q=>q,fun _ ps q=>⟨#[],by rw[q];simp⟩⟩
theorem Un.refl:Un fs ex H H h h:=Un.kept fun _ _ q=>q
theorem Un.laid(k:∀b u,h.get? b=some u->h'.get? b=some u)(hp:h.objs.size<=a)(hn:H a=none):Un fs ex H (upd H a o) h h' where
 keep:=fun b u q _ _ _=>k b u q
 slot:=fun b u q _ _ _=>⟨u.slots,k b u q⟩
 free:=fun b u q n _=>by rw[jW (sk (ω (ra q) hp))];exact n
 there:=fun b u q _=>⟨u,k b u q⟩
 tups:=fun b xs q=>by rw[jW (jK q hn)];exact q
 frzs:=fun b u xs q=>by rw[jW (jK q hn)];exact q
 tbls:=fun b ps q=>⟨#[],by rw[jW (jK q hn),q];simp⟩
theorem Un.write(mu:Mut (H x))(he:e=x\/H e=some (.own x))(k:∀b u,b≠e->h.get? b=some u->h'.get? b=some u)(heo:∃u,h'.get? e=some u):Un fs ex H (upd H x o) h h':=by
 have hx:∀b,H b=none->b≠x:=fun b n z=>by subst z;rw[n]at mu;exact mu
 have hb:∀b,H b=none->b≠e:=fun b n z=>by
  subst z;rcases he with r|r
  ·exact hx b n r
  ·rw[n]at r;cases r
 have hm:∀b u,H b=some u->¬ Mut (some u)->b≠x:=fun b u q nm z=>by subst z;rw[q]at mu;exact nm mu
 refine⟨fun b u q n _ _=>k b u (hb b n) q,fun b u q n _ _=>⟨u.slots,k b u (hb b n) q⟩,fun b u q n _=>by rw[jW (hx b n)];exact n,fun b u q _=>?_,
  fun b xs q=>by rw[jW (hm b _ q fun z=>z)];exact q,fun b u xs q=>by rw[jW (hm b _ q fun z=>z)];exact q,fun b ps q=>⟨#[],by rw[jW (hm b _ q fun z=>z),q];simp⟩⟩
 by_cases hbe:b=e
 ·subst hbe;exact heo
 ·exact⟨u,k b u hbe q⟩
theorem Un.mono(u:Un fs ex H H1 h h1)(hs:∀b∈fs,b∈fs')(hx:∀b∈ex,b∈ex'):Un fs' ex' H H1 h h1 :=
 ⟨fun b ob q n hb he=>u.keep b ob q n (fun z=>hb (hs b z)) fun z=>he (hx b z),fun _ _ q n _ he=>u.any q n fun z=>he (hx _ z),fun b ob q n he=>u.free b ob q n fun z=>he (hx b z),fun b ob q he=>u.there b ob q fun z=>he (hx b z),u.tups,u.frzs,u.tbls⟩
end
def trk (h:vn) (H:Hp):List Addr:=(tw h.objs.size).filter fun a=>(H a).isSome
def oY (h:vn) (H:Hp):vn:=PySem.W.hideAll h (trk h H)
theorem aBk(h:vn)(H:Hp):(oY h H).objs.size=h.objs.size:=PySem.W.hideAll_size _ _
theorem aCa{h:vn}{H:Hp}{b:Addr}(e:h.get? b=some o)(n:H b=none):(oY h H).get? b=some o :=
 PySem.W.hideAll_get _ e fun hm=>by
  have q:(H b).isSome=true:=(List.mem_filter.mp hm).2;rw[n]at q;simp at q
theorem aFb{H:Hp}{b:Addr}(e:(oY h H).get? b=some o):h.get? b=some o/\H b=none:=by
 have e':h.get? b=some o:=PySem.W.of_hideAll (trk h H) e;refine⟨e',?_⟩;cases q:H b with
 |none=>rfl
 |some x =>
  have hm:b∈trk h H:=List.mem_filter.mpr ⟨Aq.mpr (ra e'),by simp[q]⟩;have z:(oY h H).get? b=none:=PySem.W.hideAll_none (trk h H) hm;rw[z]at e;cases e
def aEz (g h:vn) (L:Addr):List (Addr×Obj):=(tw h.objs.size).filterMap fun a=>if a=L\/(g.get? a).isSome=true then none else (h.get? a).map fun o=>(a,o)
def rest (g h:vn) (L d:Addr):List (Addr×Obj):=(aEz g h L).filter fun p=>decide (p.1≠d)
structure Mod (K:Ξ) (mg:Str->Option Value) (base:vn):Prop where
 kin:K.In base
 glob:base.Ns Ψ mg
 blt:∃mb,base.Ns builtinsNs mb/\∀x:Str,x ≠ "__name__"->mb x=yi x
 nolimit:base.NoLimit
structure Cx where
 prog:vh
 w:vy
 K:Ξ
 mg:Str->Option Value
 base:vn
 A:vm
 N:List Str
 s₀ : ο
 H₀ : Hp
 env:Env
 outer:List Env
 stack:List Env
 ex:List Addr
 fn:Str->Bool
 calm:Bool
 pn:List (Addr×Obj)
 xe:Value->ο->Prop
def frs (l:List Env):List Addr:=l.filterMap (·.frame)
abbrev Cx.fs (X:Cx):List Addr:=frs X.outer
def Vis (sc:Scope) (x:Str):Prop:=sc.names.lookup x=some .local\/sc.names.lookup x=some .cell\/sc.names.lookup x=some .free
def Loc (sc:Scope) (x:Str):Prop:=sc.names.lookup x=some .local\/sc.names.lookup x=some .cell
def Look (env:Env) (h:vn) (m:Str->Option Value) (x:Str) (u:Value):Prop :=
 (env.kindOf x=some .local/\m x=some u)\/((env.kindOf x=some .cell\/env.kindOf x=some .free)/\∃c,env.cells.lookup x=some c/\h.IsCell c (some u))
structure Cx.Ok (X:Cx):Prop where
 mod:Mod X.K X.mg X.base
 kind:X.env.scope.kind=.function
 glob:X.env.globals=Ψ
 blt:X.env.builtins=builtinsNs
 above:X.s₀.heap.objs.size<=X.env.locals
 inj:∀x y c,X.env.cells.lookup x=some c->X.env.cells.lookup y=some c->x=y
 has:∀x,(X.env.kindOf x=some .cell\/X.env.kindOf x=some .free)->∃c,X.env.cells.lookup x=some c
 cab:∀x c,X.fn x=true->X.env.cells.lookup x=some c->X.s₀.heap.objs.size<=c
 hd:X.calm=true->X.A.handled=none
 frames:X.A.frames=some X.stack
 stk:X.stack=X.outer\/(X.stack=X.env::X.outer/\X.env.frame=some X.env.locals)
 exf:∀b∈X.ex,b≠X.env.locals/\∀x c,X.env.cells.lookup x=some c->c≠b
 bs:∀b o,X.base.get? b=some o->X.s₀.heap.get? b=some o/\X.H₀ b=none
 bsz:X.base.objs.size<=X.s₀.heap.objs.size
 noex:∀b o,X.base.get? b=some o->b∉X.ex
 exfs:∀b∈X.ex,b∉X.fs
 funs:X.s₀.heap.FunFrames X.base X.outer
 frf:∀b∈X.fs,X.H₀ b=none
structure Inv (X:Cx) (pins:List (Addr×Obj)) (σ:List (Option V)) (H:Hp) (s:ο):Prop where
 ok:X.Ok
 os:s.os=X.s₀.os
 bare:AllBare s.gens
 base:Un X.fs X.ex X.H₀ H X.s₀.heap s.heap
 loc:∃m,s.heap.Ns X.env.locals m/\∀(i:Nat) (x:Str) (v:V),X.N[i]?=some x->σ[i]?=some (some v)->Vis X.env.scope x->∃u,RelV v u/\Look X.env s.heap m x u
 cell:∀x c,X.env.cells.lookup x=some c->∃v,s.heap.IsCell c v
 free:H X.env.locals=none
 freeC:∀x c,X.env.cells.lookup x=some c->H c=none
 pin:∀p∈X.pn++pins,s.heap.get? p.1=some p.2/\H p.1=none/\p.1≠X.env.locals/\p.1∉X.fs/\∀v,p.2.data≠.cell v
 hok:HOk X.prog X.w H s.heap
 len : σ.length=X.N.length
section
variable {X:Cx}{pins:List (Addr×Obj)}{σ:List (Option V)}{H H':Hp}{s:ο}{h':vn}
theorem Cx.Ok.nofr(ok:X.Ok){b:Addr}(e:X.base.get? b=some o):b∉X.fs:=fun hb=>by
 have:=(ok.funs.mem hb).1;rw[e]at this;cases this
theorem Inv.bs(I:Inv X pins σ H s):∀b o,X.base.get? b=some o->s.heap.get? b=some o/\H b=none:=fun b o e =>
 ⟨I.base.keep b o (I.ok.bs b o e).1 (I.ok.bs b o e).2 (I.ok.nofr e) (I.ok.noex b o e),I.base.free b o (I.ok.bs b o e).1 (I.ok.bs b o e).2 (I.ok.noex b o e)⟩
theorem Inv.bk(I:Inv X pins σ H s):∀b o,X.base.get? b=some o->s.heap.get? b=some o:=fun b o e=>(I.bs b o e).1
theorem Inv.mod(I:Inv X pins σ H s):Mod X.K X.mg X.base:=I.ok.mod
theorem Inv.kIn(I:Inv X pins σ H s):X.K.In s.heap:=I.ok.mod.kin.keeps I.bk
theorem Inv.nolimit(I:Inv X pins σ H s):s.heap.NoLimit:=I.ok.mod.nolimit.keeps I.bk
theorem Inv.fr(I:Inv X pins σ H s):∃m,Fr X.base X.env.locals s.heap m :=
 let ⟨m,hn,_⟩:=I.loc
 ⟨m,hn,I.bk,sg I.ok.bsz I.ok.above⟩
theorem Inv.lt(I:Inv X pins σ H s):X.env.locals<s.heap.objs.size:=let ⟨_,hn,_⟩:=I.loc;hn.lt
theorem Inv.sz(I:Inv X pins σ H s):X.s₀.heap.objs.size<=s.heap.objs.size:=sg I.ok.above (wk I.lt)
theorem Inv.nofs(I:Inv X pins σ H s){a:Addr}(h:s.heap.objs.size<=a):a∉X.fs:=fun hb=>by
 obtain⟨_,o,ho,_⟩:=I.ok.funs.mem hb;exact absurd (ω (ra ho) (sg I.sz h)) (vq _)
theorem Inv.cne(I:Inv X pins σ H s):∀x c,X.env.cells.lookup x=some c->c≠X.env.locals:=fun x c e z=>by
 obtain⟨v,o,ho,hd⟩:=I.cell x c e;obtain⟨m,⟨o',es,ep,ho',hd',_⟩,_⟩:=I.loc;rw[z,ho']at ho;cases ho;rw[hd']at hd;cases hd
theorem Inv.funs(I:Inv X pins σ H s):s.heap.FunFrames X.base X.outer:=by
 have all:∀(l:List Env),(∀b∈frs l,b∈X.fs)->X.s₀.heap.FunFrames X.base l->s.heap.FunFrames X.base l:=by
  intro l
  induction l with
  |nil=>intro _ _;trivial
  |cons env r ih =>
   intro hs hl;obtain⟨hk,⟨L,o,hf,hn,ho,hd⟩,hr⟩:=hl;have hL:L∈X.fs:=hs L (by unfold frs;rw[List.filterMap_cons,hf];exact qy);obtain⟨sl,e⟩:=I.base.slot L o ho (I.ok.frf L hL) hL fun z=>I.ok.exfs L z hL;exact⟨hk,⟨L,_,hf,hn,e,hd⟩,ih (fun b hb=>hs b (by unfold frs;rw[List.filterMap_cons,hf];exact rg _ hb)) hr⟩
 exact all X.outer (fun _ hb=>hb) I.ok.funs
theorem Inv.stack(I:Inv X pins σ H s):s.heap.FunFrames X.base X.stack:=by
 rcases I.ok.stk with e|⟨e,hf⟩
 ·rw[e];exact I.funs
 ·rw[e];obtain⟨m,hn,_⟩:=I.loc;refine .cons (by rw[I.ok.kind];decide) hf hn ?_ I.funs;exact yj (sg I.ok.bsz I.ok.above)
theorem Inv.stkSub(I:Inv X pins σ H s):∀b∈frs X.stack,b∈X.env.locals::X.fs:=fun b hb=>by
 rcases I.ok.stk with e|⟨e,hf⟩
 ·rw[e]at hb;exact rg _ hb
 ·rw[e]at hb;unfold frs at hb;rw[List.filterMap_cons,hf]at hb;exact hb
theorem Inv.stkFree(I:Inv X pins σ H s):∀b∈frs X.stack,H b=none:=fun b hb=>by
 rcases ξ.mp (I.stkSub b hb) with e|hb
 ·rw[e];exact I.free
 ·obtain⟨_,o,ho,_⟩:=I.ok.funs.mem hb;exact I.base.free b o ho (I.ok.frf b hb) fun z=>I.ok.exfs b z hb
theorem Inv.step{t':Nat}{d':Drawn}{ch:List Addr}(I:Inv X pins σ H s)
  (hch:∀b∈ch,(b∈X.ex\/X.s₀.heap.objs.size<=b)/\b≠X.env.locals/\(∀x c,X.env.cells.lookup x=some c->c≠b)/\∀p∈X.pn++pins,p.1≠b)
  (keep:∀b o,b≠X.env.locals->b∉X.fs->b∉ch->s.heap.get? b=some o->H b=none->h'.get? b=some o)
  (slot:∀b o,b≠X.env.locals->b∈X.fs->b∉ch->s.heap.get? b=some o->H b=none->∃sl,h'.get? b=some { o with slots:=sl })(free:∀b o,b∉ch->s.heap.get? b=some o->H b=none->H' b=none)
  (there:∀b o,b∉ch->s.heap.get? b=some o->∃o',h'.get? b=some o')
  (tups:∀b xs,H b=some (.tup xs)->H' b=some (.tup xs))(frzs:∀b o u,H b=some (.frz o u)->H' b=some (.frz o u))(tbls:∀b ps,H b=some (.tbl ps)->∃more,H' b=some (.tbl (ps++more)))
  (ns:∀m,s.heap.Ns X.env.locals m->h'.Ns X.env.locals m)(hok:HOk X.prog X.w H' h')(hg:AllBare g'):
  Inv X pins σ H' { s with heap:=h',gens:=g',drawn:=d',toks:=t' }:=by
 have neL:∀b o,X.s₀.heap.get? b=some o->b≠X.env.locals:=fun b o e=>sk (ω (ra e) I.ok.above);have neC:∀b o,X.s₀.heap.get? b=some o->b∉X.ex->b∉ch:=fun b o e hx hb=>by
  rcases (hch b hb).1 with z|z
  ·exact hx z
  ·exact absurd (ω (ra e) z) (vq _)
 have cellK:∀x c,X.env.cells.lookup x=some c->∀v,s.heap.IsCell c v->h'.IsCell c v:=fun x c e v ⟨o,ho,hd⟩=>by
  have nch:c∉ch:=fun z=>(hch c z).2.2.1 x c e rfl
  by_cases hc:c∈X.fs
  ·obtain⟨sl,q⟩:=slot c o (I.cne x c e) hc nch ho (I.freeC x c e);exact⟨_,q,hd⟩
  ·exact⟨o,keep c o (I.cne x c e) hc nch ho (I.freeC x c e),hd⟩
 refine⟨I.ok,I.os,hg,⟨fun b o e n hb hx=>?_,fun b o e n hb hx=>?_,fun b o e n hx=>?_,fun b o e hx=>?_,fun b xs e=>tups b xs (I.base.tups b xs e),fun b o xs e=>frzs b o xs (I.base.frzs b o xs e),fun b ps e=>?_⟩,?_,fun x c e=>?_,?_,fun x c e=>?_,fun p hp=>?_,hok,I.len⟩
 ·exact keep b o (neL b o e) hb (neC b o e hx) (I.base.keep b o e n hb hx) (I.base.free b o e n hx)
 ·obtain⟨sl,e1⟩:=I.base.slot b o e n hb hx;obtain⟨sl',e2⟩:=slot b _ (neL b o e) hb (neC b o e hx) e1 (I.base.free b o e n hx);exact⟨sl',e2⟩
 ·obtain⟨o',e1⟩:=I.base.there b o e hx;exact free b o' (neC b o e hx) e1 (I.base.free b o e n hx)
 ·obtain⟨o',e1⟩:=I.base.there b o e hx;exact there b o' (neC b o e hx) e1
 ·obtain⟨m1,e1⟩:=I.base.tbls b ps e;obtain⟨m2,e2⟩:=tbls b _ e1;exact⟨m1++m2,by rw[e2,Array.append_assoc]⟩
 ·obtain⟨m,hn,hl⟩:=I.loc;refine⟨m,ns m hn,fun i x v e1 e2 e3=>?_⟩;obtain⟨u,r,l⟩:=hl i x v e1 e2 e3;refine⟨u,r,?_⟩;rcases l with l|⟨k,c,e,z⟩
  ·exact .inl l
  ·exact .inr ⟨k,c,e,cellK x c e _ z⟩
 ·obtain⟨v,z⟩:=I.cell x c e;exact⟨v,cellK x c e v z⟩
 ·obtain⟨m,⟨o,_,_,ho,_⟩,_⟩:=I.loc;exact free _ o (fun z=>(hch _ z).2.1 rfl) ho I.free
 ·obtain⟨v,o,ho,hd⟩:=I.cell x c e;exact free c o (fun z=>(hch c z).2.2.1 x c e rfl) ho (I.freeC x c e)
 ·obtain⟨e,n,ne,nf,d⟩:=I.pin p hp;have nch:p.1∉ch:=fun z=>(hch p.1 z).2.2.2 p hp rfl;exact⟨keep p.1 p.2 ne nf nch e n,free p.1 p.2 nch e n,ne,nf,d⟩
theorem Inv.un{t':Nat}(I:Inv X pins σ H s)(u:Un X.fs [] H H' s.heap h')(hok:HOk X.prog X.w H' h'):Inv X pins σ H' { s with heap:=h',toks:=t' }:=by
 obtain⟨m,⟨o,es,ep,ho,r⟩,_⟩:=id I.loc;obtain⟨sl,hL⟩:=u.any ho I.free (by simp);exact I.step (g':=s.gens) (d':=s.drawn) (ch:=[]) (fun _ z=>nomatch z) (fun b o _ hb _ e n=>u.keep b o e n hb (by simp)) (fun b o _ hb _ e n=>u.slot b o e n hb (by simp)) (fun b o _ e n=>u.free b o e n (by simp)) (fun b o _ e=>u.there b o e (by simp)) u.tups u.frzs u.tbls (fun m' hm=>by
  obtain⟨o',es',ep',ho',r'⟩:=hm;rw[ho]at ho';cases ho';exact⟨_,es',ep',hL,r'⟩) hok I.bare
theorem Inv.call{t':Nat}{d':Drawn}(I:Inv X pins σ H s)(u:Un (frs X.stack) ch H H' s.heap h')(hok:HOk X.prog X.w H' h')(hg:AllBare g')
  (hch:∀b∈ch,(b∈X.ex\/X.s₀.heap.objs.size<=b)/\b≠X.env.locals/\(∀x c,X.env.cells.lookup x=some c->c≠b)/\∀p∈X.pn++pins,p.1≠b):
  Inv X pins σ H' { s with heap:=h',gens:=g',drawn:=d',toks:=t' }:=by
 obtain⟨m,⟨o,es,ep,ho,r⟩,_⟩:=id I.loc;obtain⟨sl,hL⟩:=u.any ho I.free fun z=>(hch _ z).2.1 rfl;exact I.step (ch:=ch) hch (fun b o hL hb hc e n=>u.keep b o e n (fun z=>(ξ.mp (I.stkSub b z)).elim hL hb) hc) (fun b o _ _ hc e n=>u.any e n hc) (fun b o hc e n=>u.free b o e n hc) (fun b o hc e=>u.there b o e hc) u.tups u.frzs u.tbls (fun m' hm=>by
  obtain⟨o',es',ep',ho',r'⟩:=hm;rw[ho]at ho';cases ho';exact⟨_,es',ep',hL,r'⟩) hok hg
theorem Inv.turned{t':Nat}{it:Addr}(I:Inv X pins σ H s)(k:∀b o,b≠it->s.heap.get? b=some o->h'.get? b=some o)(hn:H it=none)(hL:it≠X.env.locals)
  (h1:it∈X.ex\/X.s₀.heap.objs.size<=it)(h2:∀x c,X.env.cells.lookup x=some c->c≠it)(h3:∀p∈X.pn++pins,p.1≠it):Inv X pins σ H { s with heap:=h',toks:=t' }:=by
 have nit:∀b u,H b=some u->b≠it:=fun b u e z=>by rw[z,hn]at e;cases e
 refine I.step (g':=s.gens) (d':=s.drawn) (ch:=[it]) (fun b hb=>?_) (fun b o _ _ hc e _=>k b o (fun z=>hc (by simp[z])) e) (fun b o _ _ hc e _=>⟨o.slots,k b o (fun z=>hc (by simp[z])) e⟩) (fun _ _ _ _ n=>n)
  (fun b o hc e=>⟨o,k b o (fun z=>hc (by simp[z])) e⟩) (fun _ _ e=>e) (fun _ _ _ e=>e) (fun b ps e=>⟨#[],by rw[e];simp⟩) (fun m hm=>?_) (fun b u e=>?_) I.bare
 ·have e:b=it:=by simpa using hb
  subst e;exact⟨h1,hL,h2,h3⟩
 ·obtain⟨o,es,ep,ho,r⟩:=hm;exact⟨o,es,ep,k _ o (va hL) ho,r⟩
 ·refine(I.hok b u e).stay (fun c v hc q=>k c v ?_ q) (fun _ q=>q) fun _ _ q=>q;rcases hc with z|z
  ·rw[z];exact nit b u e
  ·exact nit c _ z
theorem Inv.tok(I:Inv X pins σ H s)(t:Nat):Inv X pins σ H { s with toks:=t }:=I.un (h':=s.heap) (t':=t) Un.refl I.hok
theorem Inv.kept{t':Nat}(I:Inv X pins σ H s)(k:∀b u,s.heap.get? b=some u->h'.get? b=some u):Inv X pins σ H { s with heap:=h',toks:=t' }:=I.un (Un.kept k) (I.hok.kept k)
theorem Inv.laid{a:Addr}{t':Nat}(I:Inv X pins σ H s)(k:∀b u,s.heap.get? b=some u->h'.get? b=some u)(hp:s.heap.objs.size<=a)(new:vC X.prog X.w (upd H a o) h' a o):
  Inv X pins σ (upd H a o) { s with heap:=h',toks:=t' }:=I.un (Un.laid k hp (I.hok.fresh hp)) (I.hok.laid k hp new)
theorem Inv.write{e:Addr}{t':Nat}(I:Inv X pins σ H s)(mu:Mut (H x))(he:e=x\/H e=some (.own x))(k:∀b u,b≠e->s.heap.get? b=some u->h'.get? b=some u)(heo:∃u,h'.get? e=some u)
  (new:vC X.prog X.w (upd H x o) h' x o):Inv X pins σ (upd H x o) { s with heap:=h',toks:=t' }:=I.un (Un.write mu he k heo) (I.hok.write mu he k heo new)
theorem Inv.pins_of{pins':List (Addr×Obj)}(I:Inv X pins σ H s)(h:∀p∈pins',s.heap.get? p.1=some p.2/\H p.1=none/\p.1≠X.env.locals/\p.1∉X.fs/\∀v,p.2.data≠.cell v):Inv X pins' σ H s :=
 ⟨I.ok,I.os,I.bare,I.base,I.loc,I.cell,I.free,I.freeC,fun p hp=>(rn.mp hp).elim (fun z=>I.pin p (sm _ z)) (h p),I.hok,I.len⟩
theorem lT{N:List Str}(hN:N.Nodup){i j:Nat}(a:N[i]?=some x)(b:N[j]?=some x):i=j:=by
 obtain⟨h1,e1⟩:=η.mp a;obtain⟨h2,e2⟩:=η.mp b;exact(List.getElem_inj hN).mp (e1.trans e2.symm)
theorem cX{i:Nat}{Q:Unit->ο->Prop}(I:Inv X pins σ H s)(hN:X.N.Nodup)(hi:X.N[i]?=some x)(hx:Loc X.env.scope x)(r:RelV v u)
  (h:∀s',Inv X pins (σ.set i (some v)) H s'->(∃a,xk a s.heap s'.heap/\(a=X.env.locals\/X.env.cells.lookup x=some a))->Q () s')(hf:X.fn x=true\/X.env.scope.names.lookup x=some .local:=by first|exact .inl rfl|exact .inr rfl|assumption):rj M A (storeName X.env x u) Q E s:=by
 obtain⟨m,hn,hl⟩:=id I.loc;have hcls:(X.env.scope.kind == .class||(X.env.scope.kind == .module&&X.env.locals != X.env.globals))=false:=by rw[I.ok.kind];rfl
 have hiσ:i<σ.length:=by rw[I.len];exact(η.mp hi).1
 have cne:=I.cne;have tracked:∀{a:Addr}{h':vn},(∃o,s.heap.get? a=some o/\H a=none)->xk a s.heap h'->HOk X.prog X.w H h':=fun {a h'} ha hs b ob e=>by
  obtain⟨_,_,hfree⟩:=ha;refine(I.hok b ob e).stay (fun c w' hc q=>(hs.2 c ?_).trans q) (fun _ q=>q) fun _ _ q=>q;rintro rfl;rcases hc with rfl|hc
  ·rw[hfree]at e;cases e
  ·rw[hfree]at hc;cases hc
 rcases hx with hk|hk
 ·refine wpAny_storeName_local hk hn (fun h' hn' hs=>?_) hcls;obtain⟨oL,_,_,hoL,_⟩:=id hn;refine h _ ⟨I.ok,I.os,I.bare,⟨fun b o e n hb hx=>?_,fun b o e n hb hx=>?_,I.base.free,fun b o e hx=>?_,I.base.tups,I.base.frzs,I.base.tbls⟩,⟨_,hn',fun j y v' e1 e2 e3=>?_⟩,fun y c e=>?_,I.free,I.freeC,fun p hp=>?_,tracked ⟨oL,hoL,I.free⟩ hs,by simpa using I.len⟩ ⟨_,hs,.inl rfl⟩
  ·exact(hs.2 b (sk (ω (ra e) I.ok.above))).trans (I.base.keep b o e n hb hx)
  ·obtain⟨sl,e1⟩:=I.base.slot b o e n hb hx;exact⟨sl,(hs.2 b (sk (ω (ra e) I.ok.above))).trans e1⟩
  ·obtain⟨o',e1⟩:=I.base.there b o e hx;exact⟨o',(hs.2 b (sk (ω (ra e) I.ok.above))).trans e1⟩
  ·by_cases hj:j=i
   ·subst hj;rw[hi]at e1;cases e1;rw[Ar hiσ]at e2;cases e2;exact⟨u,r,.inl ⟨hk,by simp⟩⟩
   ·rw[AQ (va hj)]at e2;obtain⟨u',r',q⟩:=hl j y v' e1 e2 e3;refine⟨u',r',?_⟩;rcases q with⟨k,e⟩|⟨k,c,e,z⟩
    ·refine .inl ⟨k,?_⟩;have:y≠x:=fun e=>hj (lT hN e1 (e ▸ hi));simp[this,e]
    ·exact .inr ⟨k,c,e,z.sameBut hs (cne y c e)⟩
  ·obtain⟨w',z⟩:=I.cell y c e;exact⟨w',z.sameBut hs (cne y c e)⟩
  ·obtain⟨e,n,ne,nf,d⟩:=I.pin p hp;exact⟨(hs.2 p.1 ne).trans e,n,ne,nf,d⟩
 ·have hfn:X.fn x=true:=by
   rcases hf with z|z
   ·exact z
   ·rw[z]at hk;cases hk
  obtain⟨c,hc⟩:=I.ok.has x (.inl hk);obtain⟨w',z⟩:=I.cell x c hc;refine wpAny_storeName_cell I.ok.kind hk hc z (fun h' hc' hs=>?_);obtain⟨oc,hoc,hocd⟩:=id z;refine h { s with heap:=h' } ⟨I.ok,I.os,I.bare,⟨fun b o e n hb hx=>?_,fun b o e n hb hx=>?_,I.base.free,fun b o e hx=>?_,I.base.tups,I.base.frzs,I.base.tbls⟩,⟨m,hn.sameBut hs (va (cne x c hc)),fun j y v' e1 e2 e3=>?_⟩,fun y c' e=>?_,I.free,I.freeC,fun p hp=>?_,tracked ⟨oc,hoc,I.freeC x c hc⟩ hs,by simpa using I.len⟩ ⟨c,hs,.inr hc⟩
  ·exact(hs.2 b (sk (ω (ra e) (I.ok.cab x c hfn hc)))).trans (I.base.keep b o e n hb hx)
  ·obtain⟨sl,e1⟩:=I.base.slot b o e n hb hx;exact⟨sl,(hs.2 b (sk (ω (ra e) (I.ok.cab x c hfn hc)))).trans e1⟩
  ·obtain⟨o',e1⟩:=I.base.there b o e hx;exact⟨o',(hs.2 b (sk (ω (ra e) (I.ok.cab x c hfn hc)))).trans e1⟩
  ·by_cases hj:j=i
   ·subst hj;rw[hi]at e1;cases e1;rw[Ar hiσ]at e2;cases e2;exact⟨u,r,.inr ⟨.inl hk,c,hc,hc'⟩⟩
   ·rw[AQ (va hj)]at e2;obtain⟨u',r',q⟩:=hl j y v' e1 e2 e3;refine⟨u',r',?_⟩;rcases q with q|⟨k,c',e,z'⟩
    ·exact .inl q
    ·refine .inr ⟨k,c',e,z'.sameBut hs ?_⟩;rintro rfl;exact hj (lT hN e1 (I.ok.inj _ _ _ e hc ▸ hi))
  ·by_cases hcc:c'=c
   ·subst hcc;exact⟨_,hc'⟩
   ·obtain⟨w2,z2⟩:=I.cell y c' e;exact⟨w2,z2.sameBut hs hcc⟩
  ·obtain⟨e,n,ne,nf,d⟩:=I.pin p hp;refine⟨(hs.2 p.1 ?_).trans e,n,ne,nf,d⟩;intro q;rw[q,hoc]at e;have q':oc=p.2:=ux e;exact d w' (by rw[←q'];exact hocd)
theorem rQ{i:Nat}{Q:Unit->ο->Prop}(I:Inv X pins σ H s)(hN:X.N.Nodup)(hi:X.N[i]?=some x)(hx:Loc X.env.scope x)(r:RelV v u)
  (h:∀s',Inv X pins (σ.set i (some v)) H s'->Q () s')(hf:X.fn x=true\/X.env.scope.names.lookup x=some .local:=by first|exact .inl rfl|exact .inr rfl|assumption):rj M A (storeName X.env x u) Q E s :=
 cX I hN hi hx r (fun s' I' _=>h s' I') hf
theorem Inv.call'{s':ο}(I:Inv X pins σ H s)(ho:s'.os=s.os)(u:Un (frs X.stack) ch H H' s.heap s'.heap)(hok:HOk X.prog X.w H' s'.heap)(hg:AllBare s'.gens)
  (hch:∀b∈ch,(b∈X.ex\/X.s₀.heap.objs.size<=b)/\b≠X.env.locals/\(∀x c,X.env.cells.lookup x=some c->c≠b)/\∀p∈X.pn++pins,p.1≠b):Inv X pins σ H' s':=by
 obtain⟨h',g',d',t',o'⟩:=s';have e:o'=s.os:=ho;subst e;exact I.call (g':=g') (t':=t') (d':=d') u hok hg hch
end
abbrev XK:=Value->Option Addr->Hp->Prop
abbrev St:=List (Option V)
abbrev VK:=V->Hp->Prop
abbrev TE:=St->Hp->VK->Prop
abbrev TT:=St->Hp->(Bool->Hp->Prop)->Prop
abbrev TA:=St->Hp->(List V->Hp->Prop)->Prop
structure Ends where
 nx:St->Hp->Prop
 rt:VK
 bk:St->Hp->Prop:=fun _ _=>False
 ct:St->Hp->Prop:=fun _ _=>False
abbrev TS:=Ends->St->Hp->Prop
def EP (X:Cx) (pins:List (Addr×Obj)) (σ:St) (Q:VK) (u:Value) (s':ο):Prop:=∃v H',Inv X pins σ H' s'/\RelV v u/\Q v H'
def TP (X:Cx) (pins:List (Addr×Obj)) (σ:St) (Q:Bool->Hp->Prop) (b:Bool) (s':ο):Prop:=∃H',Inv X pins σ H' s'/\Q b H'
def AP (X:Cx) (pins:List (Addr×Obj)) (σ:St) (Q:List V->Hp->Prop) (us:List Value) (s':ο):Prop:=∃vs H',Inv X pins σ H' s'/\kK vs us/\Q vs H'
def SP (X:Cx) (pins:List (Addr×Obj)) (D:Ends) (f:Flow) (s':ο):Prop :=
 match f with
 |.next=>∃σ' H',Inv X pins σ' H' s'/\D.nx σ' H'
 |.brk=>∃σ' H',Inv X pins σ' H' s'/\D.bk σ' H'
 |.cont=>∃σ' H',Inv X pins σ' H' s'/\D.ct σ' H'
 |.ret u=>∃v σ' H',Inv X pins σ' H' s'/\RelV v u/\D.rt v H'
def PE (X:Cx) (e:Expr) (t:TE):Prop :=
 ∀(pins:List (Addr×Obj)) (s:ο) (σ:St) (H:Hp) (Q:VK),Inv X pins σ H s->t σ H Q->rj (rl X.prog X.w) X.A (eval e X.env) (EP X pins σ Q) X.xe s
def PT (X:Cx) (e:Expr) (t:TT):Prop :=
 ∀(pins:List (Addr×Obj)) (s:ο) (σ:St) (H:Hp) (Q:Bool->Hp->Prop),Inv X pins σ H s->t σ H Q->rj (rl X.prog X.w) X.A (isTrue e X.env (eval e X.env)) (TP X pins σ Q) X.xe s
def PW (X:Cx) (e:Expr) (t:TT):Prop :=
 ∀(whole:Sem Value) (pins:List (Addr×Obj)) (s:ο) (σ:St) (H:Hp) (Q:Bool->Hp->Prop),Inv X pins σ H s->t σ H Q->rj (rl X.prog X.w) X.A (isTrue e X.env whole) (TP X pins σ Q) X.xe s
theorem PW.pt(h:PW X e t):PT X e t:=h _
def PA (X:Cx) (es:List Expr) (t:TA):Prop :=
 ∀(pos:Pos) (pins:List (Addr×Obj)) (s:ο) (σ:St) (H:Hp) (Q:List V->Hp->Prop),Inv X pins σ H s->t σ H Q->rj (rl X.prog X.w) X.A (spliced (yn pos (sf es X.env))) (AP X pins σ Q) X.xe s
def PS (X:Cx) (st:Stmt) (t:TS):Prop :=
 ∀(pins:List (Addr×Obj)) (s:ο) (σ:St) (H:Hp) (D:Ends),Inv X pins σ H s->t D σ H->rj (rl X.prog X.w) X.A (exec st X.env) (SP X pins D) X.xe s
def PSs (X:Cx) (st:List Stmt) (t:TS):Prop :=
 ∀(pins:List (Addr×Obj)) (s:ο) (σ:St) (H:Hp) (D:Ends),Inv X pins σ H s->t D σ H->rj (rl X.prog X.w) X.A (execs st X.env) (SP X pins D) X.xe s
theorem thn{α : Type}{t:Sem α}{Q Q' : α->ο->Prop}{M:Model}{A:vm}{E:Value->ο->Prop}{s:ο}(h:rj M A t Q E s)(hQ:∀a s,Q a s->Q' a s):rj M A t Q' E s:=ua h hQ fun _ _ x=>x
section
variable {X:Cx}
def tVar (i:Nat):TE:=fun σ H Q=>∃v,σ[i]?=some (some v)/\Q v H
def tC (v:V):TE:=fun _ H Q=>Q v H
theorem aIw{i:Nat}(hN:X.N[i]?=some x)(hv:Vis X.env.scope x)(hd:(x == ("__debug__" : Str))=false:=by decide)(hcd:(x == ("__classdict__" : Str))=false:=by decide):PE X (.Name x pos) (tVar i):=by
 intro pins s σ H Q I h;obtain⟨v,e,h⟩:=h;obtain⟨m,hn,hl⟩:=I.loc;obtain⟨u,r,l⟩:=hl i x v hN e hv;have fin:EP X pins σ Q u s:=⟨v,H,I,r,h⟩;rcases l with⟨hk,hm⟩|⟨hk,c,hc,hcell⟩
 ·exact wpAny_Name (wpAny_loadName_local I.ok.kind hk hn hm fin) hd
 ·rcases hk with hk|hk
  ·exact wpAny_Name (wpAny_loadName_cell I.ok.kind hk hc hcell fin) hd
  ·exact wpAny_Name (wpAny_loadName_free I.ok.kind hk hc hcell fin hcd) hd
theorem jD{i j pos}: PE X (.Constant (.int i) j pos) (tC (.int i)):=fun _ _ _ H _ I h=>wpAny_Constant_int ⟨.int i,H,I.tok _,⟨_,rfl⟩,h⟩
theorem fG{b j pos}: PE X (.Constant (.bool b) j pos) (tC (.bl b)):=fun _ _ _ H _ I h=>Constant_bool ⟨.bl b,H,I,rfl,h⟩
theorem bH{j pos}: PE X (.Constant .none j pos) (tC .non):=fun _ _ _ H _ I h=>Constant_none ⟨.non,H,I,rfl,h⟩
theorem jF{x j pos}: PE X (.Constant (.str x) j pos) (tC (.str x)):=fun _ _ _ H _ I h=>Calls.Constant_str ⟨.str x,H,I.tok _,⟨_,rfl⟩,h⟩
def Gl (X:Cx) (x:Str):Prop:=X.env.kindOf x=some .globalImplicit
theorem cZ{Q:Value->ο->Prop}(I:Inv X pins σ H s)(hg:Gl X x)(hm:X.mg x=some u)(h:Q u s)
  (hd:(x == ("__debug__" : Str))=false:=by decide):rj (rl X.prog X.w) X.A (eval (.Name x pos) X.env) Q E s :=
 Calls.Name_function_global I.ok.kind hg (Calls.loadGlobal_global (by rw[I.ok.glob];exact I.mod.glob.keeps I.bk) hm h) hd
theorem lB{Q:Value->ο->Prop}(I:Inv X pins σ H s)(hg:Gl X x)(hm:X.mg x=none)(hv:yi x=some u)(h:Q u s)
  (hn:x ≠ "__name__":=by decide)(hd:(x == ("__debug__" : Str))=false:=by decide):rj (rl X.prog X.w) X.A (eval (.Name x pos) X.env) Q E s:=by
 obtain⟨mb,h1,h2⟩:=I.mod.blt;exact Calls.Name_function_global I.ok.kind hg (Calls.loadGlobal_builtin (by rw[I.ok.glob];exact I.mod.glob.keeps I.bk) hm (by rw[I.ok.blt];exact h1.keeps I.bk) ((h2 x hn).trans hv) h) hd
theorem qC(hg:Gl X x)(hm:X.mg x=some u)(r:RelV v u)(hd:(x == ("__debug__" : Str))=false:=by decide):PE X (.Name x pos) (tC v) :=
 fun _ _ _ H _ I h=>cZ I hg hm ⟨v,H,I,r,h⟩ hd
theorem iU(hg:Gl X x)(hm:X.mg x=none)(hv:yi x=some u)(r:RelV v u)(hn:x ≠ "__name__":=by decide)(hd:(x == ("__debug__" : Str))=false:=by decide):PE X (.Name x pos) (tC v) :=
 fun _ _ _ H _ I h=>lB I hg hm hv ⟨v,H,I,r,h⟩ hn hd
variable {a b:Expr}{ta tb:TE}{pos:Pos}
def PC (X:Cx) (op:CmpOp) (a b:Expr) (t:TE):Prop :=
 ∀(pins:List (Addr×Obj)) (s:ο) (σ:St) (H:Hp) (Q:VK),Inv X pins σ H s->t σ H Q →
  rj (rl X.prog X.w) X.A (eval a X.env) (fun v s₁=>rj (rl X.prog X.w) X.A (eval b X.env) (fun u s₂=>rj (rl X.prog X.w) X.A (vo op v u) (EP X pins σ Q) X.xe s₂) X.xe s₁) X.xe s
theorem aEh(b:Expr){op:CmpOp}(h:op≠.In)(h2:op≠.NotIn):yy op b=false:=by
 have e1:(op == CmpOp.In)=false:=by cases op <;> first|rfl|exact absurd rfl h
 have e2:(op == CmpOp.NotIn)=false:=by cases op <;> first|rfl|exact absurd rfl h2
 cases b <;> simp[yy,e1,e2]
def tB (t:TE):TT:=fun σ H Q=>t σ H fun x H1=>∃c,x=.bl c/\Q c H1
theorem aJj(h:PC X op a b t)(h1:yy op b=false:=by first|exact aEh _ (by decide) (by decide)|rfl):PT X (.Compare a [op] [b] pos) (tB t):=by
 intro pins s σ H Q I hw;refine wpAny_isTrue_Compare1 (thn (h pins s σ H _ I hw) fun v s1 h1=>thn h1 fun u s2 h2=>thn h2 fun c s3 zq=>?_) h1;obtain⟨x,H1,I1,r1,q1⟩:=zq;obtain⟨d,rfl,q⟩:=q1;cases r1;exact vi ⟨H1,I1,q⟩
theorem xM(h:PE X e t)(he:∀whole,isTrue e X.env whole=(do let v ←whole;standAt e.pos;holding [v] (truthy v)):=by intro _;rfl):PT X e (tB t):=by
 intro pins s σ H Q I hw;refine isTrue_plain (thn (h pins s σ H _ I hw) fun v s1 zq=>?_) (he _);obtain⟨x,H1,I1,r1,q1⟩:=zq;obtain⟨d,rfl,q⟩:=q1;cases r1;exact vi ⟨H1,I1,q⟩
variable {tA tB':TT}{rest:List Expr}
def tAnd (t u:TT):TT:=fun σ H Q=>t σ H fun c H1=>if c=true then u σ H1 Q else Q false H1
def tOr (t u:TT):TT:=fun σ H Q=>t σ H fun c H1=>if c=true then Q true H1 else u σ H1 Q
def tNot (t:TT):TT:=fun σ H Q=>t σ H fun c H1=>Q (!c) H1
theorem pR(ha:PT X a tA):PW X (.BoolOp .And [a] pos) tA:=by
 intro wh pins s σ H Q I h;refine isTrue_and (thn (ha pins s σ H Q I h) fun c s1 e=>?_);cases c with
 |true=>exact isTrue_and_nil e
 |false=>exact e
theorem fU(ha:PT X a tA):PW X (.BoolOp .Or [a] pos) tA:=by
 intro wh pins s σ H Q I h;refine isTrue_or (thn (ha pins s σ H Q I h) fun c s1 e=>?_);cases c with
 |false=>exact isTrue_or_nil e
 |true=>exact e
theorem wM(ha:PT X a tA)(hb:PW X (.BoolOp .And (b::rest) pos) tB'):PW X (.BoolOp .And (a::b::rest) pos) (tAnd tA tB'):=by
 intro wh pins s σ H Q I h;refine isTrue_and (thn (ha pins s σ H _ I h) fun c s1 zq=>?_);obtain⟨H1,I1,q1⟩:=zq;cases c with
 |true=>exact hb wh pins s1 σ H1 Q I1 q1
 |false=>exact⟨H1,I1,q1⟩
theorem oF(ha:PT X a tA)(hb:PW X (.BoolOp .Or (b::rest) pos) tB'):PW X (.BoolOp .Or (a::b::rest) pos) (tOr tA tB'):=by
 intro wh pins s σ H Q I h;refine isTrue_or (thn (ha pins s σ H _ I h) fun c s1 zq=>?_);obtain⟨H1,I1,q1⟩:=zq;cases c with
 |true=>exact⟨H1,I1,q1⟩
 |false=>exact hb wh pins s1 σ H1 Q I1 q1
theorem yM(ha:PT X a tA):PT X (.UnaryOp .Not a pos) (tNot tA):=by
 intro pins s σ H Q I h;exact isTrue_not (ha pins s σ H (fun c H1=>Q (!c) H1) I h)
def tAndV (ta tb:TE):TE:=fun σ H Q=>ta σ H fun x H1=>∃c,x=.bl c/\if c=true then tb σ H1 Q else Q (.bl false) H1
def tOrV (ta tb:TE):TE:=fun σ H Q=>ta σ H fun x H1=>∃c,x=.bl c/\if c=true then Q (.bl true) H1 else tb σ H1 Q
def tNotV (ta:TE):TE:=fun σ H Q=>ta σ H fun x H1=>∃c,x=.bl c/\Q (.bl (!c)) H1
theorem zO{op}(h:PE X a t):PE X (.BoolOp op [a] pos) t:=fun pins s σ H Q I hw=>BoolOp_one (h pins s σ H Q I hw)
theorem yJ(ha:PE X a ta)(hb:PE X (.BoolOp .And (b::rest) pos) tb):PE X (.BoolOp .And (a::b::rest) pos) (tAndV ta tb):=by
 intro pins s σ H Q I h;refine BoolOp_and (thn (ha pins s σ H _ I h) fun v s1 zq=>?_);obtain⟨x,H1,I1,r1,q1⟩:=zq;obtain⟨c,rfl,q1⟩:=q1;cases r1;refine vi ?_;cases c with
 |true=>exact hb pins s1 σ H1 Q I1 q1
 |false=>exact⟨.bl false,H1,I1,rfl,q1⟩
theorem pe_or(ha:PE X a ta)(hb:PE X (.BoolOp .Or (b::rest) pos) tb):PE X (.BoolOp .Or (a::b::rest) pos) (tOrV ta tb):=by
 intro pins s σ H Q I h;refine BoolOp_or (thn (ha pins s σ H _ I h) fun v s1 zq=>?_);obtain⟨x,H1,I1,r1,q1⟩:=zq;obtain⟨c,rfl,q1⟩:=q1;cases r1;refine vi ?_;cases c with
 |false=>exact hb pins s1 σ H1 Q I1 q1
 |true=>exact⟨.bl true,H1,I1,rfl,q1⟩
theorem aJc(ha:PE X a ta):PE X (.UnaryOp .Not a pos) (tNotV ta):=by
 intro pins s σ H Q I h;refine UnaryOp_ (thn (ha pins s σ H _ I h) fun v s1 zq=>?_);obtain⟨x,H1,I1,r1,q1⟩:=zq;obtain⟨c,rfl,q1⟩:=q1;cases r1;exact not_of (vi ⟨.bl (!c),H1,I1,rfl,q1⟩)
def tIf (t:TT) (ta tb:TE):TE:=fun σ H Q=>t σ H fun c H1=>if c=true then ta σ H1 Q else tb σ H1 Q
theorem tQ(hc:PT X c tA)(ha:PE X a ta)(hb:PE X b tb):PE X (.IfExp c a b pos) (tIf tA ta tb):=by
 intro pins s σ H Q I h;refine wpAny_IfExp (thn (hc pins s σ H _ I h) fun d s1 zq=>?_);obtain⟨H1,I1,q1⟩:=zq;cases d with
 |true=>exact ha pins s1 σ H1 Q I1 q1
 |false=>exact hb pins s1 σ H1 Q I1 q1
end
def SqL (K:Ξ) (H:Hp) (a:Addr) (xs:List V):Prop :=
 Rd H a (.lst xs) ∨
  ∃(o:Obj) (its:Array Value) (n:Nat),K.lookup a=some o/\o.cls=.type "list"/\o.dict=none/\o.data=.seq its n/\its.size<=ρ/\kK xs its.toList
def SqT (K:Ξ) (H:Hp) (a:Addr) (xs:List V):Prop :=
 Rd H a (.tup xs) ∨
  ∃(o:Obj) (its:Array Value) (n:Nat),K.lookup a=some o/\o.cls=.type "tuple"/\o.data=.seq its n/\its.size<=ρ/\kK xs its.toList
def absV:Value->Option V
 |.none=>some .non
 |.bool b=>some (.bl b)
 |.int i _=>some (.int i)
 |.str x _=>some (.str x)
 |.bytes b _=>some (.byt b)
 |.float b _=>some (.flt b)
 |.ref a=>some (.ref a)
 |.type n=>some (.ty n)
 |_=>none
theorem RelV.abs(r:RelV x u):absV u=some x:=by
 cases x with
 |non=>cases r;rfl
 |bl _=>cases r;rfl
 |int _=>obtain⟨t,rfl⟩:=r;rfl
 |str _=>obtain⟨t,rfl⟩:=r;rfl
 |byt _=>obtain⟨t,rfl⟩:=r;rfl
 |flt _=>obtain⟨t,rfl⟩:=r;rfl
 |ref _=>cases r;rfl
 |ty _=>cases r;rfl
theorem RelV.inj(r:RelV x u)(q:RelV y u):x=y:=ux (r.abs.symm.trans q.abs)
theorem kK.inj:∀{xs ys:List V}{us:List Value},kK xs us->kK ys us->xs=ys
 |_,_,_,.nil,.nil=>rfl
 |_,_,_,.cons r t,.cons r' t'=>by rw[r.inj r',kK.inj t t']
section
variable {X:Cx}{pins:List (Addr×Obj)}{σ:St}{H:Hp}{s:ο}{a:Addr}{xs ys:List V}
theorem SqL.of{K:Ξ}(h:H a=some (.lst xs)):SqL K H a xs:=.inl (.inl h)
theorem SqT.of{K:Ξ}(h:H a=some (.tup xs)):SqT K H a xs:=.inl (.inl h)
theorem Inv.list(I:Inv X pins σ H s)(h:SqL X.K H a xs):∃its:List Value,kK xs its/\PlainL s.heap a its.toArray/\xs.length<=ρ:=by
 rcases h with h|⟨o,its,n,hk,hc,hd,hs,hz,r⟩
 ·obtain⟨z,its,n,r,e⟩:=h.ok I.hok;exact⟨its,r,⟨_,n,e,rfl,rfl,rfl⟩,z⟩
 ·refine⟨its.toList,r,⟨o,n,I.kIn a o hk,hc,hd,by simpa using hs⟩,?_⟩;have e:=r.length;simp only[wn]at e;omega
theorem Inv.tuple(I:Inv X pins σ H s)(h:SqT X.K H a xs):∃its:List Value,kK xs its/\IsTup s.heap a its.toArray/\xs.length<=ρ:=by
 rcases h with h|⟨o,its,n,hk,hc,hs,hz,r⟩
 ·obtain⟨z,its,r,p⟩:=h.ok I.hok;exact⟨its,r,p,z⟩
 ·refine⟨its.toList,r,⟨o,I.kIn a o hk,hc,n,by simpa using hs⟩,?_⟩;have e:=r.length;simp only[wn]at e;omega
theorem Inv.list_inj(I:Inv X pins σ H s)(h:SqL X.K H a xs)(h':SqL X.K H a ys):xs=ys:=by
 obtain⟨its,r,⟨o,n,e,_,_,d⟩,_⟩:=I.list h;obtain⟨its',r',⟨o',n',e',_,_,d'⟩,_⟩:=I.list h';rw[e]at e';cases e';rw[d]at d';injection d' with d1 _;have:its=its':=by simpa using congrArg Array.toList d1
 subst this;exact r.inj r'
theorem Inv.tuple_inj(I:Inv X pins σ H s)(h:SqT X.K H a xs)(h':SqT X.K H a ys):xs=ys:=by
 obtain⟨its,r,⟨o,e,_,n,d⟩,_⟩:=I.tuple h;obtain⟨its',r',⟨o',e',_,n',d'⟩,_⟩:=I.tuple h';rw[e]at e';cases e';rw[d]at d';injection d' with d1 _;have:its=its':=by simpa using congrArg Array.toList d1
 subst this;exact r.inj r'
end
abbrev Cx.wish (X:Cx) (E:Value->ο->Prop):Cx:={ X with xe:=E }
abbrev Cx.nox (X:Cx):Cx:=X.wish fun _ _=>False
theorem Cx.Ok.wish{X:Cx}(ok:X.Ok)(E:Value->ο->Prop):(X.wish E).Ok :=
 ⟨ok.mod,ok.kind,ok.glob,ok.blt,ok.above,ok.inj,ok.has,ok.cab,ok.hd,ok.frames,ok.stk,ok.exf,ok.bs,ok.bsz,ok.noex,ok.exfs,ok.funs,ok.frf⟩
theorem Cx.Ok.unwish{X:Cx}(ok:(X.wish E).Ok):X.Ok :=
 ⟨ok.mod,ok.kind,ok.glob,ok.blt,ok.above,ok.inj,ok.has,ok.cab,ok.hd,ok.frames,ok.stk,ok.exf,ok.bs,ok.bsz,ok.noex,ok.exfs,ok.funs,ok.frf⟩
section
variable {X:Cx}{pins:List (Addr×Obj)}{σ:St}{H:Hp}{s:ο}{E:Value->ο->Prop}
theorem Inv.wish(I:Inv X pins σ H s)(E:Value->ο->Prop):Inv (X.wish E) pins σ H s:=⟨I.ok.wish E,I.os,I.bare,I.base,I.loc,I.cell,I.free,I.freeC,I.pin,I.hok,I.len⟩
theorem Inv.unwish(I:Inv (X.wish E) pins σ H s):Inv X pins σ H s:=⟨I.ok.unwish,I.os,I.bare,I.base,I.loc,I.cell,I.free,I.freeC,I.pin,I.hok,I.len⟩
theorem SP.unwish(h:SP (X.wish E) pins D f s'):SP X pins D f s':=by
 cases f with
 |next=>obtain⟨σ',H',I,q⟩:=h;exact⟨σ',H',I.unwish,q⟩
 |brk=>obtain⟨σ',H',I,q⟩:=h;exact⟨σ',H',I.unwish,q⟩
 |cont=>obtain⟨σ',H',I,q⟩:=h;exact⟨σ',H',I.unwish,q⟩
 |ret u=>obtain⟨v,σ',H',I,r,q⟩:=h;exact⟨v,σ',H',I.unwish,r,q⟩
theorem PE.nox(h:PE X.nox e t):PE X e t:=fun pins s σ H Q I hw =>
 ua (h pins s σ H Q (I.wish _) hw) (fun _ _ ⟨v,H',I',r,q⟩=>⟨v,H',I'.unwish,r,q⟩) fun _ _ z=>su z
theorem PT.nox(h:PT X.nox e t):PT X e t:=fun pins s σ H Q I hw =>
 ua (h pins s σ H Q (I.wish _) hw) (fun _ _ ⟨H',I',q⟩=>⟨H',I'.unwish,q⟩) fun _ _ z=>su z
theorem PSs.nox{st:List Stmt}{t:TS}(h:PSs X.nox st t):PSs X st t:=fun pins s σ H D I hw =>
 ua (h pins s σ H D (I.wish _) hw) (fun _ _ q=>q.unwish) fun _ _ z=>su z
end
section
variable {X:Cx}{st:Stmt}{rest:List Stmt}{t u:TS}{e:Expr}{te:TE}{pos:Pos}
def tNext:TS:=fun D σ H=>D.nx σ H
def tSeq (t u:TS):TS:=fun D σ H=>t { D with nx:=u D } σ H
theorem jY:PSs X [] tNext:=fun _ _ σ H _ I h=>wpAny_execs_nil ⟨σ,H,I,h⟩
theorem jC(h1:PS X st t)(h2:PSs X rest u):PSs X (st::rest) (tSeq t u):=by
 intro pins s σ H D I h;refine wpAny_execs_cons (thn (h1 pins s σ H { D with nx:=u D } I h) fun f s1 q=>?_);cases f with
 |next =>
  obtain⟨σ',H',I',q⟩:=q;exact h2 pins s1 σ' H' D I' q
 |ret v=>exact q
 |brk=>exact q
 |cont=>exact q
theorem jE(h1:PS X st t):PSs X [st] t:=by
 intro pins s σ H D I h;refine wpAny_execs_cons (thn (h1 pins s σ H D I h) fun f s1 q=>?_);cases f with
 |next=>exact wpAny_execs_nil q
 |ret v=>exact q
 |brk=>exact q
 |cont=>exact q
theorem Inv.quiet(I:Inv X pins σ H s):interactive X.env=false:=by simp[interactive,I.ok.kind]
def tDrop (te:TE):TS:=fun D σ H=>te σ H fun _ H1=>D.nx σ H1
theorem kU(he:PE X e te)(hs:swapsWith e none pos.line X.env=pure false:=by rfl):PS X (.Expr e pos) (tDrop te):=by
 intro pins s σ H D I h;exact wpAny_Expr_any (thn (he pins s σ H _ I h) fun v s1 ⟨x,H1,I1,r1,q1⟩=>⟨σ,H1,I1,q1⟩) I.quiet hs
def tRet (te:TE):TS:=fun D σ H=>te σ H D.rt
theorem jP(he:PE X e te):PS X (.Return (some e) pos) (tRet te):=by
 intro pins s σ H D I h;exact wpAny_Return_some (thn (he pins s σ H _ I h) fun v s1 ⟨x,H1,I1,r1,q1⟩=>⟨x,σ,H1,I1,r1,q1⟩)
def aDl (c:TT) (t u:TS):TS:=fun D σ H=>c σ H fun b H1=>if b=true then t D σ H1 else u D σ H1
theorem kS(hc:PT X c tc)(ha:PSs X a t)(hb:PSs X b u):PS X (.If c a b pos) (aDl tc t u):=by
 intro pins s σ H D I h;refine wpAny_If (thn (hc pins s σ H _ I h) fun d s1 zq=>?_);obtain⟨H1,I1,q1⟩:=zq;cases d with
 |true=>exact ha pins s1 σ H1 D I1 q1
 |false=>exact hb pins s1 σ H1 D I1 q1
end
abbrev TG:=V->St->Hp->(St->Hp->Prop)->Prop
abbrev TGs:=List V->St->Hp->(St->Hp->Prop)->Prop
def PG (X:Cx) (target:Expr) (t:TG):Prop :=
 ∀(pins:List (Addr×Obj)) (s:ο) (σ:St) (H:Hp) (v:V) (u:Value) (Q:St->Hp->Prop),Inv X pins σ H s->RelV v u->t v σ H Q →
  rj (rl X.prog X.w) X.A (assign target X.env u) (fun _ s'=>∃σ' H',Inv X pins σ' H' s'/\Q σ' H') X.xe s
def PGs (X:Cx) (ts:List Expr) (t:TGs):Prop :=
 ∀(pins:List (Addr×Obj)) (s:ο) (σ:St) (H:Hp) (vs:List V) (us:List Value) (Q:St->Hp->Prop),Inv X pins σ H s->kK vs us->t vs σ H Q →
  rj (rl X.prog X.w) X.A (assignInOrder ((Ai ts X.env).map (·.2)) us) (fun _ s'=>∃σ' H',Inv X pins σ' H' s'/\Q σ' H') X.xe s
abbrev TSet:=V->V->V->Hp->(Hp->Prop)->Prop
def PSet (X:Cx) (t:TSet):Prop :=
 ∀(pins:List (Addr×Obj)) (s:ο) (σ:St) (H:Hp) (o i v:V) (ov iv u:Value) (Q:Hp->Prop),Inv X pins σ H s->RelV o ov->RelV i iv->RelV v u->t o i v H Q →
  rj (rl X.prog X.w) X.A (setItem ov iv u) (fun _ s'=>∃H',Inv X pins σ H' s'/\Q H') X.xe s
section
variable {X:Cx}{pos:Pos}
def dL (i:Nat):TG:=fun v σ H Q=>Q (σ.set i (some v)) H
theorem jV{i:Nat}(hN:X.N.Nodup)(hi:X.N[i]?=some x)(hx:Loc X.env.scope x)(hf:X.fn x=true\/X.env.scope.names.lookup x=some .local:=by first|exact .inl rfl|exact .inr rfl|assumption):PG X (.Name x pos) (dL i):=by
 intro pins s σ H v u Q I r h;exact wpAny_assign_Name (rQ I hN hi hx r (fun s' I'=>⟨_,H,I',h⟩) hf)
def gNil:TGs:=fun vs σ H Q=>vs=[]/\Q σ H
def gCons (t:TG) (u:TGs):TGs:=fun vs σ H Q=>∃v r,vs=v::r/\t v σ H fun σ' H'=>u r σ' H' Q
theorem vL:PGs X [] gNil:=by
 intro pins s σ H vs us Q I r h;obtain⟨e,h⟩:=h;subst e;cases r;exact assignInOrder_nil ⟨σ,H,I,h⟩
theorem kL(h1:PG X e t)(h2:PGs X es u)
  (hs:(Ai (e::es) X.env).map (·.2)=assign e X.env::(Ai es X.env).map (·.2):=by rfl):PGs X (e::es) (gCons t u):=by
 intro pins s σ H vs us Q I r h;obtain⟨v,vr,e1,h⟩:=h;subst e1;cases r with
 |cons r rr =>
  rw[hs];refine assignInOrder_cons (thn (h1 pins s σ H _ _ _ I r h) fun _ s1 zq=>?_);obtain⟨σ1,H1,I1,q1⟩:=zq;exact h2 pins s1 σ1 H1 _ _ Q I1 rr q1
def gTup (K:Ξ) (n:Nat) (t:TGs):TG:=fun v σ H Q=>∃a xs,v=.ref a/\SqT K H a xs/\xs.length=n/\t xs σ H Q
theorem zL{n:Nat}(hc:X.calm=true)(h:PGs X es t)
  (hn:(Ai es X.env).length=n:=by rfl)(hst:(Ai es X.env).findIdx? (·.1)=none:=by rfl):PG X (.Tuple es k pos) (gTup X.K n t):=by
 intro pins s σ H v u Q I r hw;obtain⟨a,xs,e1,hq,hl,hw⟩:=hw;subst e1;cases r;obtain⟨its,rv,ht,hz⟩:=I.tuple hq;refine assign_Tuple_tuple (I.ok.hd hc) ht (by simp[hn,←hl,rv.length]) hst fun h' hx=>?_;have I1:Inv X pins σ H { s with heap:=h' }:=I.kept (t':=s.toks) fun b o e=>hx b o (sk (ra e)) e;exact h pins _ σ H xs _ Q I1 (by simpa using rv) hw
def gSub (to ti:TE) (t:TSet):TG:=fun v σ H Q=>to σ H fun o H1=>ti σ H1 fun i H2=>t o i v H2 fun H3=>Q σ H3
theorem uP(ho:PE X o to)(hi:PE X i ti)(hs:PSet X t)
  (ha:∀v,assign (.Subscript o i pos) X.env v=(do
   let ov ←holding [v] (eval o X.env)
   let iv ←holding [v,ov] (eval i X.env)
   standAt pos
   holding [v,ov,iv] (setItem ov iv v)
   release [v,ov,iv] []):=by intro _;rfl):PG X (.Subscript o i pos) (gSub to ti t):=by
 intro pins s σ H v u Q I r h;rw[ha];refine ι (wf (thn (ho pins s σ H _ I h) fun ov s1 zq=>?_));obtain⟨x,H1,I1,r1,q1⟩:=zq;refine ι (wf (thn (hi pins s1 σ H1 _ I1 q1) fun iv s2 zq=>?_));obtain⟨y,H2,I2,r2,q2⟩:=zq;refine ι (ym (ι (wf (thn (hs pins s2 σ H2 x y v ov iv u _ I2 r1 r2 r q2) fun _ s3 zq=>?_))));obtain⟨H3,I3,q3⟩:=zq;exact wpAny_release ⟨σ,H3,I3,q3⟩
def tAsg (te:TE) (g:TG):TS:=fun D σ H=>te σ H fun x H1=>g x σ H1 D.nx
theorem uS(he:PE X e te)(hg:PG X tg g)(hs:swapsWithSole [tg] e pos.line X.env=pure false:=by rfl)(hw:swappedStores [tg] e X.env=pure none:=by rfl)
  (h1:(Ai [tg] X.env).map (·.2)=[assign tg X.env]:=by rfl):PS X (.Assign [tg] e pos) (tAsg te g):=by
 intro pins s σ H D I h;refine wpAny_Assign_stores (thn (he pins s σ H _ I h) fun v s1 zq=>?_) hs hw;obtain⟨x,H1,I1,r1,q1⟩:=zq;rw[h1];exact thn (hg pins s1 σ H1 x v _ I1 r1 q1) fun _ s2 q=>q
theorem kI{i:Nat}(hN:X.N.Nodup)(hi:X.N[i]?=some x)(hx:Loc X.env.scope x)(he:PE X e te)(hs:swapsWith e (some (.Name x pos')) pos.line X.env=pure false:=by rfl)(hf:X.fn x=true\/X.env.scope.names.lookup x=some .local:=by first|exact .inl rfl|exact .inr rfl|assumption):
  PS X (.Assign [.Name x pos'] e pos) (tAsg te (dL i)):=by
 intro pins s σ H D I h;refine wpAny_Assign_Name (thn (he pins s σ H _ I h) fun v s1 zq=>?_) hs;obtain⟨y,H1,I1,r1,q1⟩:=zq;exact rQ I1 hN hi hx r1 (fun s2 I2=>⟨_,H1,I2,q1⟩) hf
end
structure It where
 go:Nat->Hp->Prop
 yld:Nat->Hp->V->Hp->Prop
 stop:Nat->Hp->Prop
def dH (X:Cx) (pins:List (Addr×Obj)) (H:Hp) (b:Addr):Prop :=
 H b=none/\b≠X.env.locals/\b∉X.fs/\(b∈X.ex\/X.s₀.heap.objs.size<=b)/\(∀x c,X.env.cells.lookup x=some c->c≠b)/\∀p∈X.pn++pins,p.1≠b
theorem Inv.fpOk{H':Hp}{b:Addr}(I:Inv X pins σ H s)(hb:s.heap.objs.size<=b)(hn:H' b=none):dH X pins H' b:=by
 refine⟨hn,Nat.ne_of_gt (ω I.lt hb),I.nofs hb,.inr (sg I.sz hb),fun x c e z=>?_,fun p hp z=>?_⟩
 ·obtain⟨v,q⟩:=I.cell x c e;exact absurd (ω q.lt (by rw[z];exact hb)) (vq _)
 ·exact absurd (ω (ra (I.pin p hp).1) (by rw[z];exact hb)) (vq _)
structure Turn (P:vh) (w:vy) (K:Ξ) (tg:Expr) (J:It) (fp:List Addr) (it:Addr) (tn:Nat->vn->Prop):Prop where
 mem:it∈fp
 obj:∀i h,tn i h->∀b∈fp,∃o,h.get? b=some o/\∀v,o.data≠.cell v
 keep:∀i h h',tn i h->(∀b∈fp,∀o,h.get? b=some o->h'.get? b=some o)->tn i h'
 item:∀(X:Cx),X.prog=P->X.w=w->X.K=K->X.calm=true->∀(i:Nat) (pins:List (Addr×Obj)) (s:ο) (σ:St) (H:Hp) (E:Value->ο->Prop),Inv X pins σ H s->(∀b∈fp,dH X pins H b)->tn i s.heap->J.go i H →
  rj (rl P w) X.A (pyNext (.ref it)) (fun r s1=>∃u,r=some u ∧
   rj (rl P w) X.A (Ad tg (.ref it) u) (fun _ s2=>∃x H',Inv X pins σ H' s2/\RelV x u/\J.yld i H x H'/\tn (i+1) s2.heap/\∀b∈fp,H' b=none) E s1) E s
 done:∀(X:Cx),X.prog=P->X.w=w->X.K=K->X.calm=true->∀(i:Nat) (pins:List (Addr×Obj)) (s:ο) (σ:St) (H:Hp) (E:Value->ο->Prop),Inv X pins σ H s->(∀b∈fp,dH X pins H b)->tn i s.heap->J.stop i H →
  rj (rl P w) X.A (pyNext (.ref it)) (fun r s1=>r=none/\Inv X pins σ H s1) E s
 self:∀(A:vm) (i:Nat) (s:ο) (Q:Value->ο->Prop) (E:Value->ο->Prop),tn i s.heap->Q (.ref it) s->rj (rl P w) A (pyIter (.ref it)) Q E s
abbrev TI:=St->Hp->(It->Hp->Prop)->Prop
def PIE (X:Cx) (pins:List (Addr×Obj)) (σ:St) (tg:Expr) (R:It->Hp->Prop) (itv:Value) (s2:ο):Prop :=
 ∃(it:Addr) (fp:List Addr) (tn:Nat->vn->Prop) (J:It) (H':Hp),itv=.ref it/\Inv X pins σ H' s2/\Turn X.prog X.w X.K tg J fp it tn/\tn 0 s2.heap/\(∀b∈fp,dH X pins H' b)/\R J H'
def PI (X:Cx) (tg iter:Expr) (wi:TI):Prop :=
 ∀(pins:List (Addr×Obj)) (s:ο) (σ:St) (H:Hp) (R:It->Hp->Prop),Inv X pins σ H s->wi σ H R →
  rj (rl X.prog X.w) X.A (eval iter X.env) (fun v s1=>rj (rl X.prog X.w) X.A (pyIter v) (PIE X pins σ tg R) X.xe s1) X.xe s
theorem wR{s:ο}{it:Addr}{Q:Unit->ο->Prop}(ho:s.heap.get? it=some o)(hc:o.cls=.type n)(hd:o.data=.fields vs)
  (hn : ["enumerate","zip","dict_itemiterator","dict_reverseitemiterator","odict_iterator","itertools.zip_longest","itertools.pairwise"].contains n=false)(hQ:Q () s):rj M A (Ad tg (.ref it) u) Q E s:=by
 unfold Ad;cases tg <;> first
  |exact Φ hQ
  | (cases u <;> first
      |exact Φ hQ
      | (refine ι (wpAny_load ho ?_)
         rw[hc,hd];show rj M A (if (["enumerate","zip","dict_itemiterator","dict_reverseitemiterator","odict_iterator","itertools.zip_longest","itertools.pairwise"].contains n&&vs[0]? == some (rawInt _))=true then _ else _) Q E s;rw[if_neg (by intro h;rw[hn,vp]at h;cases h)];exact Φ hQ))
def Itl (K:Ξ) (a:Addr):It :=
 ⟨fun i H=>∃xs x,SqL K H a xs/\xs[i]?=some x,fun i H x H'=>H'=H/\∀xs,SqL K H a xs->xs[i]?=some x,fun i H=>∃xs,SqL K H a xs/\xs.length<=i⟩
def Itt (K:Ξ) (a:Addr):It :=
 ⟨fun i H=>∃xs x,SqT K H a xs/\xs[i]?=some x,fun i H x H'=>H'=H/\∀xs,SqT K H a xs->xs[i]?=some x,fun i H=>∃xs,SqT K H a xs/\xs.length<=i⟩
def Itr (lo:Int) (n:Nat):It:=⟨fun i _=>i<n,fun i H x H'=>H'=H/\x=.int (lo+i),fun i _=>n<=i⟩
theorem nV{K:Ξ}(a it:Addr):Turn P w K tg (Itl K a) [it] it (fun i h=>h.IsListIter it a i) where
 mem:=by simp
 obj:=fun i h st b hb=>by
  have e:b=it:=by simpa using hb
  subst e;obtain⟨o,e,c,d⟩:=st;exact⟨o,e,fun v z=>by rw[d]at z;cases z⟩
 keep:=fun i h h' st k=>st.at fun o e=>k it (by simp) o e
 item:=by
  intro X hP hw hK hc i pins s σ H E I hf st hg;subst hP hw hK;obtain⟨xs,x,hq,hx⟩:=hg;obtain⟨its,rv,p,hz⟩:=I.list hq;obtain⟨u,hu,ru⟩:=rv.get hx;obtain⟨f0,f1,f2,f3,f4,f5⟩:=hf it (by simp);refine wpAny_pyNext_list_item st p.isList (x:=u) (by simpa using hu) fun h' st' sb=>?_;have I1:Inv X pins σ H { s with heap:=h' }:=I.turned (t':=s.toks) (fun b o hb e=>(sb.2 b hb).trans e) f0 f1 f3 f4 f5;obtain⟨o,e,c,d⟩:=id st';exact⟨u,rfl,wR (s:={ s with heap:=h' }) e c d (by decide) ⟨x,H,I1,ru,⟨rfl,fun ys hy=>by rw[I.list_inj hy hq];exact hx⟩,st',fun b hb=>(hf b hb).1⟩⟩
 done:=by
  intro X hP hw hK hc i pins s σ H E I hf st hg;subst hP hw hK;obtain⟨xs,hq,hx⟩:=hg;obtain⟨its,rv,p,hz⟩:=I.list hq;obtain⟨f0,f1,f2,f3,f4,f5⟩:=hf it (by simp);have hl:=rv.length;exact wpAny_pyNext_list_end (I.ok.hd hc) st p.isList (by simp;omega) fun h' eb=>⟨rfl,I.turned (t':=s.toks) (fun b o hb e=>eb b o hb e) f0 f1 f3 f4 f5⟩
 self:=fun _ _ _ _ _ st h=>wpAny_pyIter_listiter st h
theorem lH{K:Ξ}(a it:Addr):Turn P w K tg (Itt K a) [it] it (fun i h=>h.IsTupleIter it a i) where
 mem:=by simp
 obj:=fun i h st b hb=>by
  have e:b=it:=by simpa using hb
  subst e;obtain⟨o,e,c,d⟩:=st;exact⟨o,e,fun v z=>by rw[d]at z;cases z⟩
 keep:=fun i h h' st k=>st.at fun o e=>k it (by simp) o e
 item:=by
  intro X hP hw hK hc i pins s σ H E I hf st hg;subst hP hw hK;obtain⟨xs,x,hq,hx⟩:=hg;obtain⟨its,rv,p,hz⟩:=I.tuple hq;obtain⟨u,hu,ru⟩:=rv.get hx;obtain⟨f0,f1,f2,f3,f4,f5⟩:=hf it (by simp);refine wpAny_pyNext_tuple_item st (show s.heap.IsTuple a its.toArray from p) (x:=u) (by simpa using hu) fun h' st' sb=>?_;have I1:Inv X pins σ H { s with heap:=h' }:=I.turned (t':=s.toks) (fun b o hb e=>(sb.2 b hb).trans e) f0 f1 f3 f4 f5;obtain⟨o,e,c,d⟩:=id st';exact⟨u,rfl,wR (s:={ s with heap:=h' }) e c d (by decide) ⟨x,H,I1,ru,⟨rfl,fun ys hy=>by rw[I.tuple_inj hy hq];exact hx⟩,st',fun b hb=>(hf b hb).1⟩⟩
 done:=by
  intro X hP hw hK hc i pins s σ H E I hf st hg;subst hP hw hK;obtain⟨xs,hq,hx⟩:=hg;obtain⟨its,rv,p,hz⟩:=I.tuple hq;obtain⟨f0,f1,f2,f3,f4,f5⟩:=hf it (by simp);have hl:=rv.length;exact wpAny_pyNext_tuple_end (I.ok.hd hc) st (show s.heap.IsTuple a its.toArray from p) (by simp;omega) fun h' eb=>⟨rfl,I.turned (t':=s.toks) (fun b o hb e=>eb b o hb e) f0 f1 f3 f4 f5⟩
 self:=fun _ _ _ _ _ st h=>wpAny_pyIter_tupleiter st h
theorem wF{K:Ξ}(it:Addr)(lo:Int)(n:Nat):Turn P w K tg (Itr lo n) [it] it (fun i h=>IsRangeIter h it (lo+(i:Nat)*1) ((n:Int)-(i:Nat)) 1) where
 mem:=by simp
 obj:=fun i h st b hb=>by
  have e:b=it:=by simpa using hb
  subst e;exact⟨_,st,fun v z=>by
   have z':Data.fields _=Data.cell v:=z;cases z'⟩
 keep:=fun i h h' st k=>k it (by simp) _ st
 item:=by
  intro X hP hw hK hc i pins s σ H E I hf st hg;subst hP hw hK;obtain⟨f0,f1,f2,f3,f4,f5⟩:=hf it (by simp);have W:=Walks.range (prog:=X.prog) (w:=X.w) (I.ok.hd hc) it lo 1 n;refine W.item i s _ _ hg st fun v h' tk hv st' kk=>?_;obtain⟨t,rfl⟩:=hv;have I1:Inv X pins σ H { s with heap:=h',toks:=tk }:=I.turned (fun b o hb e=>kk b o (by simpa using hb) e) f0 f1 f3 f4 f5;refine⟨_,rfl,wR (s:={ s with heap:=h',toks:=tk }) (n:="range_iterator") st' rfl rfl (by decide) ⟨.int (lo+i),H,I1,⟨t,?_⟩,⟨rfl,rfl⟩,st',fun b hb=>(hf b hb).1⟩⟩;rw[Int.mul_one]
 done:=by
  intro X hP hw hK hc i pins s σ H E I hf st hg;subst hP hw hK;obtain⟨f0,f1,f2,f3,f4,f5⟩:=hf it (by simp);exact wpAny_pyNext_range_end (I.ok.hd hc) st (by have:n<=i:=hg;omega) fun h' eb=>⟨rfl,I.turned (t':=s.toks) (fun b o hb e=>eb b o hb e) f0 f1 f3 f4 f5⟩
 self:=fun _ _ _ _ _ st h=>wpAny_pyIter_rangeiter st h
section
variable {X:Cx}{tg:Expr}
def iList (K:Ξ) (tl:TE):TI:=fun σ H R=>tl σ H fun x H1=>∃a,x=.ref a/\(∃xs,SqL K H1 a xs)/\R (Itl K a) H1
def iTup (K:Ξ) (tl:TE):TI:=fun σ H R=>tl σ H fun x H1=>∃a,x=.ref a/\(∃xs,SqT K H1 a xs)/\R (Itt K a) H1
theorem qL(hl:PE X l tl):PI X tg l (iList X.K tl):=by
 intro pins s σ H R I h;refine thn (hl pins s σ H _ I h) fun v s1 zq=>?_;obtain⟨x,H1,I1,r1,q1⟩:=zq;obtain⟨a,e,⟨xs,hq⟩,q⟩:=q1;subst e;cases r1;obtain⟨its,rv,p,hz⟩:=I1.list hq;refine wpAny_pyIter_list p.isList ?_;refine⟨s1.heap.objs.size,[s1.heap.objs.size],_,_,H1,rfl,I1.kept (t':=s1.toks) fun b o e=>ς _ e,nV a _,⟨_,sj _ rfl,rfl,rfl⟩,fun b hb=>?_,q⟩;have e:b=s1.heap.objs.size:=by simpa using hb
 subst e;exact I1.fpOk (μ _) (I1.hok.fresh (μ _))
theorem mJ(hl:PE X l tl):PI X tg l (iTup X.K tl):=by
 intro pins s σ H R I h;refine thn (hl pins s σ H _ I h) fun v s1 zq=>?_;obtain⟨x,H1,I1,r1,q1⟩:=zq;obtain⟨a,e,⟨xs,hq⟩,q⟩:=q1;subst e;cases r1;obtain⟨its,rv,p,hz⟩:=I1.tuple hq;refine wpAny_pyIter_tuple (show s1.heap.IsTuple a its.toArray from p) ?_;refine⟨s1.heap.objs.size,[s1.heap.objs.size],_,_,H1,rfl,I1.kept (t':=s1.toks) fun b o e=>ς _ e,lH a _,⟨_,sj _ rfl,rfl,rfl⟩,fun b hb=>?_,q⟩;have e:b=s1.heap.objs.size:=by simpa using hb
 subst e;exact I1.fpOk (μ _) (I1.hok.fresh (μ _))
theorem aDq{s:ο}{R:It->Hp->Prop}{lo hi:Int}{tk:Nat}(I:Inv X pins σ H s)(h1 : -(2 ^ 62)<=lo)(h2:lo<2 ^ 62)(h3 : -(2 ^ 62)<=hi)(h4:hi<2 ^ 62)
  (q:R (Itr lo (hi-lo).toNat) H):rj (rl X.prog X.w) X.A (pyIter (.ref s.heap.objs.size)) (PIE X pins σ tg R) E { s with heap:=s.heap.push { cls:=.type "range",data:=.fields #[.int lo t,.int hi u,.int 1 v] },toks:=tk }:=by
 refine wpAny_pyIter_range (IsRange.new ..) (small_one h1 h2 h3 h4) ?_;have I1:Inv X pins σ H { s with heap:=s.heap.push { cls:=.type "range",data:=.fields #[.int lo t,.int hi u,.int 1 v] },toks:=tk }:=I.kept fun b o e=>ς _ e;refine⟨(s.heap.push { cls:=.type "range",data:=.fields #[.int lo t,.int hi u,.int 1 v] }).objs.size,[(s.heap.push { cls:=.type "range",data:=.fields #[.int lo t,.int hi u,.int 1 v] }).objs.size],_,_,H,rfl,
  I1.kept (t':=tk) fun b o e=>ς _ e,wF _ lo (hi-lo).toNat,?_,fun b hb=>?_,q⟩
 ·have e1:lo+((0:Nat):Int)*1=lo:=by simp
  have e2:(((hi-lo).toNat:Nat):Int)-((0:Nat):Int)=Ae.Range.rangeSize lo hi 1:=by rw[rangeSize_one];split <;> omega
  show IsRangeIter _ _ (lo+((0:Nat):Int)*1) ((((hi-lo).toNat:Nat):Int)-((0:Nat):Int)) 1;rw[e1,e2];exact sj _ rfl
 ·have e:b=(s.heap.push { cls:=.type "range",data:=.fields #[.int lo t,.int hi u,.int 1 v] }).objs.size:=by simpa using hb
  subst e;exact I1.fpOk (μ _) (I1.hok.fresh (μ _))
def iRng1 (ta:TA):TI:=fun σ H R=>ta σ H fun vs H1=>∃j:Int,vs=[.int j]/\-(2 ^ 62)<=j/\j<2 ^ 62/\R (Itr 0 j.toNat) H1
theorem vF{a:Expr}(hg:Gl X "range")(hm:X.mg "range" = none)(ha:PA X [a] ta)(hs:sf [a] X.env=[(false,eval a X.env)]:=by rfl):PI X tg (.Call (.Name "range" p) [a] [] pos) (iRng1 ta):=by
 intro pins s σ H R I h;refine Call_ (lB I hg hm boot_range (zc (thn (ha pos pins s σ H _ I h) fun us s1 zq=>?_) hs rfl));obtain⟨vs,H1,I1,r1,q1⟩:=zq;obtain⟨j,e,q1,q2,q⟩:=q1;subst e;cases r1 with
 |cons r rr =>
  cases rr;obtain⟨t,rfl⟩:=r;exact call_range_1 (aDq I1 (by omega) (by omega) q1 q2 (by simpa using q))
def tFor (wi:TI) (g:TG) (tb:TS):TS:=fun D σ H=>wi σ H fun J H1=>∃W:Nat->Nat->St->Hp->Prop,(∃m,W 0 m σ H1)/\∀i m σ H,W i m σ H →
 (J.stop i H/\D.nx σ H)\/(J.go i H/\∃N:St->Hp->Prop,(∀σ' H',N σ' H'->∃m',m'<m/\W (i+1) m' σ' H')/\∀x H',J.yld i H x H'->g x σ H' fun σ2 H2=>tb { D with nx:=N,ct:=N,bk:=D.nx } σ2 H2)
def bW (fp:List Addr) (h:vn):List (Addr×Obj):=fp.filterMap fun b=>(h.get? b).map fun o=>(b,o)
theorem xU{fp:List Addr}{h:vn}{b:Addr}(hb:b∈fp)(e:h.get? b=some o):(b,o)∈bW fp h:=List.mem_filterMap.mpr ⟨b,hb,by rw[e];rfl⟩
theorem aBx{p:Addr×Obj}(hp:p∈bW fp h):p.1∈fp/\h.get? p.1=some p.2:=by
 obtain⟨b,hb,e⟩:=List.mem_filterMap.mp hp;cases q:h.get? b with
 |none=>rw[q]at e;cases e
 |some o =>
  rw[q]at e;have e':(b,o)=p:=ux e;subst e';exact⟨hb,q⟩
theorem Inv.pinned{fp:List Addr}(I:Inv X pins σ H s)(hf:∀b∈fp,dH X pins H b)(ho:∀b∈fp,∃o,s.heap.get? b=some o/\∀v,o.data≠.cell v):Inv X (pins++bW fp s.heap) σ H s :=
 I.pins_of fun p hp=>(rn.mp hp).elim (fun z=>I.pin p (rq _ z)) fun z=>by
  obtain⟨hb,e⟩:=aBx z;obtain⟨f0,f1,f2,_⟩:=hf p.1 hb;obtain⟨o,e',d⟩:=ho p.1 hb;rw[e]at e';cases e';exact⟨e,f0,f1,f2,d⟩
theorem Inv.unpinned{pins pl:List (Addr×Obj)}(I:Inv X (pins++pl) σ H s):Inv X pins σ H s:=I.pins_of fun p hp=>I.pin p (rq _ (sm _ hp))
theorem xB(hp:PassesOwn (rl X.prog X.w) X.A X.env X.xe)(hc:X.calm=true)(hi:PI X tg iter wi)(hg:PG X tg g)(hb:PSs X body tb)
  (hs:∀x,zd iter X.env x=pure x:=by intro _;rfl):PS X (.For tg iter body [] pos) (tFor wi g tb):=by
 intro pins s σ H D I h;refine wpAny_For (thn (hi pins s σ H _ I h) fun v s1 h1=>thn h1 fun itv s2 h2=>?_) hs;obtain⟨it,fp,tn,J,H2,e,I2,T,st2,f2,W,⟨m0,w0⟩,turn⟩:=h2;subst e;have stat:∀{H':Hp},(∀b∈fp,H' b=none)->∀b∈fp,dH X pins H' b:=fun hn b hb=>⟨hn b hb,(f2 b hb).2⟩;refine codeAny_forLoop_any (fun n s'=>∃i σ' H',Inv X pins σ' H' s'/\tn i s'.heap/\(∀b∈fp,H' b=none)/\W i n σ' H') ?_ m0 ⟨0,σ,H2,I2,st2,fun b hb=>(f2 b hb).1,w0⟩;rintro n s3 ⟨i,σ3,H3,I3,st3,fr3,w3⟩;rcases turn i n σ3 H3 w3 with⟨stop,qn⟩|⟨go,N,hN,step⟩
 ·refine Af hp (thn (T.done X rfl rfl rfl hc i pins s3 σ3 H3 X.xe I3 (stat fr3) st3 stop) fun r s4 zq=>?_);obtain⟨hr,I4⟩:=zq;subst hr;exact wpAny_execs_nil ⟨σ3,H3,I4,qn⟩
 ·refine Af hp (thn (T.item X rfl rfl rfl hc i pins s3 σ3 H3 X.xe I3 (stat fr3) st3 go) fun r s4 zq=>?_);obtain⟨u,hr,h4⟩:=zq;subst hr;refine Af hp (thn h4 fun _ s5 zq=>?_);obtain⟨x,H5,I5,r5,y5,st5,fr5⟩:=zq;have I5':=I5.pinned (stat fr5) (T.obj _ _ st5);refine Af hp (thn (hg _ s5 σ3 H5 x u _ I5' r5 (step x H5 y5)) fun _ s6 zq=>?_);obtain⟨σ6,H6,I6,q6⟩:=zq;refine Af hp (thn (hb _ s6 σ6 H6 _ I6 q6) fun f s7 q7=>?_);have again:∀{σ7:St}{H7:Hp},Inv X (pins++bW fp s5.heap) σ7 H7 s7->N σ7 H7->∃m,m<n/\∃i σ' H',Inv X pins σ' H' s7/\tn i s7.heap/\(∀b∈fp,H' b=none)/\W i m σ' H':=fun {σ7 H7} I7 n7=>by
   obtain⟨m',hm,w7⟩:=hN σ7 H7 n7;refine⟨m',hm,i+1,σ7,H7,I7.unpinned,T.keep _ _ _ st5 fun b hb o e=>(I7.pin (b,o) (rq _ (rq _ (xU hb e)))).1,fun b hb=>?_,w7⟩;obtain⟨o,e,d⟩:=T.obj _ _ st5 b hb;exact(I7.pin (b,o) (rq _ (rq _ (xU hb e)))).2.1
  cases f with
  |next=>obtain⟨σ7,H7,I7,n7⟩:=q7;exact again I7 n7
  |cont=>obtain⟨σ7,H7,I7,n7⟩:=q7;exact again I7 n7
  |brk=>obtain⟨σ7,H7,I7,q7⟩:=q7;exact⟨σ7,H7,I7.unpinned,q7⟩
  |ret v=>obtain⟨x7,σ7,H7,I7,r7,q7⟩:=q7;exact⟨x7,σ7,H7,I7.unpinned,r7,q7⟩
end
theorem xF{K:Ξ}{xs:List V}{g:TG}{tb:TS}{D:Ends}{σ:St}(Pv:Nat->St->Hp->Prop)(h0:Pv 0 σ H)(hl:∀i σ H,i<=xs.length->Pv i σ H->SqL K H a xs)
  (hs:∀i x σ H,xs[i]?=some x->Pv i σ H->g x σ H fun σ2 H2=>tb { D with nx:=Pv (i+1),ct:=Pv (i+1),bk:=D.nx } σ2 H2)(hd:∀σ H,Pv xs.length σ H->D.nx σ H):
  ∃W:Nat->Nat->St->Hp->Prop,(∃m,W 0 m σ H)/\∀i m σ H,W i m σ H →
   ((Itl K a).stop i H/\D.nx σ H)\/((Itl K a).go i H/\∃N:St->Hp->Prop,(∀σ' H',N σ' H'->∃m',m'<m/\W (i+1) m' σ' H')/\∀x H',(Itl K a).yld i H x H'->g x σ H' fun σ2 H2=>tb { D with nx:=N,ct:=N,bk:=D.nx } σ2 H2):=by
 refine⟨fun i m σ H=>m=xs.length-i/\i<=xs.length/\Pv i σ H,⟨xs.length,by simp,sd _,h0⟩,?_⟩;rintro i m σ H ⟨rfl,hi,p⟩;have q:=hl i σ H hi p
 by_cases hlt:i<xs.length
 ·refine .inr ⟨⟨xs,xs[i],q,by simp[hlt]⟩,Pv (i+1),fun σ' H' p'=>⟨xs.length-(i+1),by omega,rfl,hlt,p'⟩,fun x H' y=>?_⟩;obtain⟨e,y⟩:=y;subst e;exact hs i x σ _ (y xs q) p
 ·have e:i=xs.length:=by omega
  subst e;exact .inl ⟨⟨xs,q,μ _⟩,hd σ H p⟩
theorem cU{lo:Int}{n:Nat}{g:TG}{tb:TS}{D:Ends}{σ:St}(Pv:Nat->St->Hp->Prop)(h0:Pv 0 σ H)
  (hs:∀i σ H,i<n->Pv i σ H->g (.int (lo+i)) σ H fun σ2 H2=>tb { D with nx:=Pv (i+1),ct:=Pv (i+1),bk:=D.nx } σ2 H2)(hd:∀σ H,Pv n σ H->D.nx σ H):
  ∃W:Nat->Nat->St->Hp->Prop,(∃m,W 0 m σ H)/\∀i m σ H,W i m σ H →
   ((Itr lo n).stop i H/\D.nx σ H)\/((Itr lo n).go i H/\∃N:St->Hp->Prop,(∀σ' H',N σ' H'->∃m',m'<m/\W (i+1) m' σ' H')/\∀x H',(Itr lo n).yld i H x H'->g x σ H' fun σ2 H2=>tb { D with nx:=N,ct:=N,bk:=D.nx } σ2 H2):=by
 refine⟨fun i m σ H=>m=n-i/\i<=n/\Pv i σ H,⟨n,by simp,sd _,h0⟩,?_⟩;rintro i m σ H ⟨rfl,hi,p⟩
 by_cases hlt:i<n
 ·refine .inr ⟨hlt,Pv (i+1),fun σ' H' p'=>⟨n-(i+1),by omega,rfl,hlt,p'⟩,fun x H' y=>?_⟩;obtain⟨e,y⟩:=y;subst e y;exact hs i σ _ hlt p
 ·have e:i=n:=by omega
  subst e;exact .inl ⟨μ _,hd σ H p⟩
abbrev R2:=V->V->Hp->VK->Prop
def OpR (X:Cx) (f:Value->Value->Sem Value) (r:R2):Prop :=
 ∀(pins:List (Addr×Obj)) (s:ο) (σ:St) (H:Hp) (x y:V) (v u:Value) (Q:VK),Inv X pins σ H s->RelV x v->RelV y u->r x y H Q →
  rj (rl X.prog X.w) X.A (f v u) (EP X pins σ Q) X.xe s
def UnR (X:Cx) (f:Value->Sem Value) (r:V->Hp->VK->Prop):Prop :=
 ∀(pins:List (Addr×Obj)) (s:ο) (σ:St) (H:Hp) (x:V) (v:Value) (Q:VK),Inv X pins σ H s->RelV x v->r x H Q →
  rj (rl X.prog X.w) X.A (f v) (EP X pins σ Q) X.xe s
def vT (X:Cx) (f:Value) (r:List V->Hp->VK->Prop):Prop :=
 ∀(pins:List (Addr×Obj)) (s:ο) (σ:St) (H:Hp) (xs:List V) (us:List Value) (Q:VK),Inv X pins σ H s->kK xs us->r xs H Q →
  rj (rl X.prog X.w) X.A (call f us) (EP X pins σ Q) X.xe s
def TruR (X:Cx) (r:V->Hp->(Bool->Hp->Prop)->Prop):Prop :=
 ∀(pins:List (Addr×Obj)) (s:ο) (σ:St) (H:Hp) (x:V) (v:Value) (Q:Bool->Hp->Prop),Inv X pins σ H s->RelV x v->r x H Q →
  rj (rl X.prog X.w) X.A (truthy v) (TP X pins σ Q) X.xe s
def tOp (r:R2) (ta tb:TE):TE:=fun σ H Q=>ta σ H fun x H1=>tb σ H1 fun y H2=>r x y H2 Q
def tUn (r:V->Hp->VK->Prop) (ta:TE):TE:=fun σ H Q=>ta σ H fun x H1=>r x H1 Q
def rI (C:Int->Int->Prop) (g:Int->Int->V):R2:=fun x y H Q=>∃i j,x=.int i/\y=.int j/\C i j/\Q (g i j) H
def rI0 (g:Int->Int->V):R2:=fun x y H Q=>∃i j,x=.int i/\y=.int j/\Q (g i j) H
def rU (g:Int->V):V->Hp->VK->Prop:=fun x H Q=>∃i,x=.int i/\Q (g i) H
section
variable {X:Cx}{a b c:Expr}{ta tb tc:TE}{pos:Pos}
theorem binT(ha:PE X a ta)(hb:PE X b tb){R:V->V->Hp->Prop}(I:Inv X pins σ H s)
  (h:ta σ H fun x H1=>tb σ H1 fun y H2=>R x y H2){f:Value->Value->Sem Value}
  (hf:∀v u s2 x y H2,Inv X pins σ H2 s2->RelV x v->RelV y u->R x y H2->rj (rl X.prog X.w) X.A (f v u) Q X.xe s2):
  rj (rl X.prog X.w) X.A (eval a X.env) (fun v s₁=>rj (rl X.prog X.w) X.A (eval b X.env) (fun u s₂=>rj (rl X.prog X.w) X.A (f v u) Q X.xe s₂) X.xe s₁) X.xe s:=by
 refine thn (ha pins s σ H _ I h) fun v s1 zq=>?_;obtain⟨x,H1,I1,r1,q1⟩:=zq;refine thn (hb pins s1 σ H1 _ I1 q1) fun u s2 zq=>?_;obtain⟨y,H2,I2,r2,q2⟩:=zq;exact hf v u s2 x y H2 I2 r1 r2 q2
theorem jN(ho:OpR X (yk op) r)(ha:PE X a ta)(hb:PE X b tb):PE X (.BinOp a op b pos) (tOp r ta tb):=by
 intro pins s σ H Q I h;exact wpAny_BinOp (binT ha hb I h fun v u s2 x y H2 I2 rx ry q=>ho pins s2 σ H2 x y v u Q I2 rx ry q)
theorem bY(ho:UnR X (unaryOp op) r)(ha:PE X a ta):PE X (.UnaryOp op a pos) (tUn r ta):=by
 intro pins s σ H Q I h;exact UnaryOp_ (thn (ha pins s σ H _ I h) fun v s1 ⟨x,H1,I1,r1,q1⟩=>ho pins s1 σ H1 x v Q I1 r1 q1)
theorem opI{f:Value->Value->Sem Value}{C:Int->Int->Prop}{g:Int->Int->Int}
  (rule:∀(i j:Int) (t u:Tok) (s:ο) (Q:Value->ο->Prop) (E:Value->ο->Prop),C i j->Q (.int (g i j) s.toks) { s with toks:=s.toks+1 }->rj (rl X.prog X.w) X.A (f (.int i t) (.int j u)) Q E s):
  OpR X f (rI C fun i j=>.int (g i j)):=by
 intro pins s σ H x y v u Q I rx ry h;obtain⟨i,j,rfl,rfl,hc,q⟩:=h;obtain⟨t,rfl⟩:=rx;obtain⟨t',rfl⟩:=ry;exact rule i j t t' s _ _ hc ⟨.int (g i j),H,I.tok _,⟨_,rfl⟩,q⟩
theorem opI0{f:Value->Value->Sem Value}{g:Int->Int->Int}
  (rule:∀(i j:Int) (t u:Tok) (s:ο) (Q:Value->ο->Prop) (E:Value->ο->Prop),Q (.int (g i j) s.toks) { s with toks:=s.toks+1 }->rj (rl X.prog X.w) X.A (f (.int i t) (.int j u)) Q E s):
  OpR X f (rI0 fun i j=>.int (g i j)):=by
 intro pins s σ H x y v u Q I rx ry h;obtain⟨i,j,rfl,rfl,q⟩:=h;obtain⟨t,rfl⟩:=rx;obtain⟨t',rfl⟩:=ry;exact rule i j t t' s _ _ ⟨.int (g i j),H,I.tok _,⟨_,rfl⟩,q⟩
theorem opB0{f:Value->Value->Sem Value}{g:Int->Int->Bool}
  (rule:∀(i j:Int) (t u:Tok) (s:ο) (Q:Value->ο->Prop) (E:Value->ο->Prop),Q (.bool (g i j)) s->rj (rl X.prog X.w) X.A (f (.int i t) (.int j u)) Q E s):
  OpR X f (rI0 fun i j=>.bl (g i j)):=by
 intro pins s σ H x y v u Q I rx ry h;obtain⟨i,j,rfl,rfl,q⟩:=h;obtain⟨t,rfl⟩:=rx;obtain⟨t',rfl⟩:=ry;exact rule i j t t' s _ _ ⟨.bl (g i j),H,I,rfl,q⟩
def CDiv (i j:Int):Prop:=0<j/\j<1073741824
def CPow (i j:Int):Prop:=0<=j/\j<=1000000/\i.natAbs<2 ^ 64
def CMul (i j:Int):Prop:=(-(2 ^ 64)<i/\i<2 ^ 64)\/(-(2 ^ 64)<j/\j<2 ^ 64)
theorem CMul.ok(h:CMul i j):IntMulOk i j:=by
 rcases h with⟨h1,h2⟩|⟨h1,h2⟩
 ·exact .of_left (intBits_le_64 h1 h2)
 ·exact .of_right (intBits_le_64 h1 h2)
theorem qE:OpR X (yk .Add) (rI0 fun i j=>.int (i+j)):=opI0 fun _ _ _ _ _ _ _ q=>add_int q
theorem oS:OpR X (yk .Sub) (rI0 fun i j=>.int (i-j)):=opI0 fun _ _ _ _ _ _ _ q=>sub_int q
theorem aT:OpR X (yk .Mult) (rI CMul fun i j=>.int (i*j)):=opI fun _ _ _ _ _ _ _ hc q=>mul_int q hc.ok
theorem aAe:OpR X (yk .FloorDiv) (rI CDiv fun i j=>.int (i / j)):=opI fun i j _ _ _ _ _ hc q=>by
 have h1:(0:Int)<j:=hc.1;have h2:j<1073741824:=hc.2;exact floordiv_int (by omega) (by rw[Int.fdiv_eq_ediv_of_nonneg i (by omega)];exact q) (.inl (PyProof.noPylong_small (by omega)))
theorem zF:OpR X (yk .Mod) (rI (fun _ j=>0<j) fun i j=>.int (i % j)):=opI fun i j _ _ _ _ _ hc q=>by
 have h1:(0:Int)<j:=hc;exact mod_int' (by omega) (by rw[Int.fmod_eq_emod_of_nonneg i (by omega)];exact q)
theorem aIz:OpR X (yk .Pow) (rI CPow fun i j=>.int (i ^ j.toNat)):=opI fun _ _ _ _ _ _ _ hc q=>pow_int_small hc.1 hc.2.1 hc.2.2 q
theorem unI{f:Value->Sem Value}{g:Int->Int}
  (rule:∀(i:Int) (t:Tok) (s:ο) (Q:Value->ο->Prop) (E:Value->ο->Prop),Q (.int (g i) s.toks) { s with toks:=s.toks+1 }->rj (rl X.prog X.w) X.A (f (.int i t)) Q E s):
  UnR X f (rU fun i=>.int (g i)):=by
 intro pins s σ H x v Q I rx h;obtain⟨i,rfl,q⟩:=h;obtain⟨t,rfl⟩:=rx;exact rule i t s _ _ ⟨.int (g i),H,I.tok _,⟨_,rfl⟩,q⟩
theorem zE:UnR X (unaryOp .USub) (rU fun i=>.int (-i)):=unI fun _ _ _ _ _ q=>neg_int q
end
def scal:V->V->Bool
 |.non,.non=>true | .non,.int _=>true | .int _,.non=>true | .non,.bl _=>true | .bl _,.non=>true | .non,.str _=>true | .str _,.non=>true
 |.int _,.int _=>true | .bl _,.bl _=>true | .str _,.str _=>true | .byt _,.byt _=>true
 |.int _,.str _=>true | .str _,.int _=>true | .bl _,.str _=>true | .str _,.bl _=>true
 |_,_=>false
def rEq:R2:=fun x y H Q=>scal x y=true/\Q (.bl (decide (x=y))) H
def rNe:R2:=fun x y H Q=>scal x y=true/\Q (.bl (!decide (x=y))) H
theorem wW : decide (V.int i=V.int j)=(i == j):=by
 rw[xi];simp
theorem aCb : decide (V.bl i=V.bl j)=(i == j):=by
 rw[xi];simp
theorem wQ : decide (V.str i=V.str j)=(i == j):=by
 rw[xi];simp
theorem wU : decide (V.byt i=V.byt j)=(i.toList == j.toList):=by
 rw[xi];cases i;cases j;simp
section
variable {X:Cx}{a b c:Expr}{ta tb tc:TE}{pos:Pos}
theorem qB{Q:VK}{k':Bool}(I:Inv X pins σ H s)(q:Q (.bl k) H)(e:k=k'):EP X pins σ Q (.bool k') s:=by
 subst e;exact⟨.bl k,H,I,rfl,q⟩
theorem qV:OpR X (vo .Eq) rEq:=by
 intro pins s σ H x y v u Q I rx ry h;obtain⟨hs,q⟩:=h;cases x with
 |non =>
  cases rx;cases y with
  |non=>cases ry;exact PySem.EqNone.eq_none_none (qB I q (by simp))
  |bl j=>cases ry;exact PySem.EqNone.eq_none_bool (qB I q (by simp))
  |int j=>obtain⟨t',rfl⟩:=ry;exact PySem.EqNone.eq_none_int (qB I q (by simp))
  |str j=>obtain⟨t',rfl⟩:=ry;exact PySem.EqNone.eq_none_str (qB I q (by simp))
  |_=>exact absurd (show false=true from hs) Ω
 |bl i =>
  cases rx;cases y with
  |non=>cases ry;exact PySem.EqNone.eq_bool_none (qB I q (by simp))
  |bl j=>cases ry;exact eq_bool (qB I q aCb)
  |str j=>obtain⟨t',rfl⟩:=ry;exact PySem.EqMixed.eq_bool_str (qB I q (by simp))
  |_=>exact absurd (show false=true from hs) Ω
 |int i =>
  obtain⟨t,rfl⟩:=rx;cases y with
  |non=>cases ry;exact PySem.EqNone.eq_int_none (qB I q (by simp))
  |int j=>obtain⟨t',rfl⟩:=ry;exact eq_int (qB I q wW)
  |str j=>obtain⟨t',rfl⟩:=ry;exact PySem.EqMixed.eq_int_str (qB I q (by simp))
  |_=>exact absurd (show false=true from hs) Ω
 |str i =>
  obtain⟨t,rfl⟩:=rx;cases y with
  |non=>cases ry;exact PySem.EqNone.eq_str_none (qB I q (by simp))
  |bl j=>cases ry;exact PySem.EqMixed.eq_str_bool (qB I q (by simp))
  |int j=>obtain⟨t',rfl⟩:=ry;exact PySem.EqMixed.eq_str_int (qB I q (by simp))
  |str j=>obtain⟨t',rfl⟩:=ry;exact eq_str (qB I q wQ)
  |_=>exact absurd (show false=true from hs) Ω
 |byt i =>
  obtain⟨t,rfl⟩:=rx;cases y with
  |byt j=>obtain⟨t',rfl⟩:=ry;exact PySem.W.eq_bytes (qB I q wU)
  |_=>exact absurd (show false=true from hs) Ω
 |_=>cases y <;> exact absurd (show false=true from hs) Ω
theorem aGn:OpR X (vo .NotEq) rNe:=by
 intro pins s σ H x y v u Q I rx ry h;obtain⟨hs,q⟩:=h;cases x with
 |non =>
  cases rx;cases y with
  |non=>cases ry;exact PySem.EqNone.ne_none_none (qB I q (by simp))
  |bl j=>cases ry;exact PySem.EqNone.ne_none_bool (qB I q (by simp))
  |int j=>obtain⟨t',rfl⟩:=ry;exact PySem.EqNone.ne_none_int (qB I q (by simp))
  |str j=>obtain⟨t',rfl⟩:=ry;exact PySem.EqNone.ne_none_str (qB I q (by simp))
  |_=>exact absurd (show false=true from hs) Ω
 |bl i =>
  cases rx;cases y with
  |non=>cases ry;exact PySem.EqNone.ne_bool_none (qB I q (by simp))
  |bl j=>cases ry;exact ne_bool (qB I q (congrArg not aCb))
  |str j=>obtain⟨t',rfl⟩:=ry;exact PySem.EqMixed.ne_bool_str (qB I q (by simp))
  |_=>exact absurd (show false=true from hs) Ω
 |int i =>
  obtain⟨t,rfl⟩:=rx;cases y with
  |non=>cases ry;exact PySem.EqNone.ne_int_none (qB I q (by simp))
  |int j=>obtain⟨t',rfl⟩:=ry;exact ne_int (qB I q (congrArg not wW))
  |str j=>obtain⟨t',rfl⟩:=ry;exact PySem.EqMixed.ne_int_str (qB I q (by simp))
  |_=>exact absurd (show false=true from hs) Ω
 |str i =>
  obtain⟨t,rfl⟩:=rx;cases y with
  |non=>cases ry;exact PySem.EqNone.ne_str_none (qB I q (by simp))
  |bl j=>cases ry;exact PySem.EqMixed.ne_str_bool (qB I q (by simp))
  |int j=>obtain⟨t',rfl⟩:=ry;exact PySem.EqMixed.ne_str_int (qB I q (by simp))
  |str j=>obtain⟨t',rfl⟩:=ry;exact ne_str (qB I q (congrArg not wQ))
  |_=>exact absurd (show false=true from hs) Ω
 |byt i =>
  obtain⟨t,rfl⟩:=rx;cases y with
  |byt j=>obtain⟨t',rfl⟩:=ry;exact PySem.W.ne_bytes (qB I q (congrArg not wU))
  |_=>exact absurd (show false=true from hs) Ω
 |_=>cases y <;> exact absurd (show false=true from hs) Ω
theorem aDn:OpR X (vo .Lt) (rI0 fun i j=>.bl (decide (i<j))):=opB0 fun _ _ _ _ _ _ _ q=>lt_int q
theorem mC:OpR X (vo .LtE) (rI0 fun i j=>.bl (decide (i<=j))):=opB0 fun _ _ _ _ _ _ _ q=>le_int q
theorem dI:OpR X (vo .Gt) (rI0 fun i j=>.bl (decide (j<i))):=opB0 fun _ _ _ _ _ _ _ q=>gt_int q
theorem aBu:OpR X (vo .In) (fun x y H Q=>∃i j,x=.str i/\y=.str j/\Q (.bl (!(we j i 0 j.length 1).isEmpty)) H):=by
 intro pins s σ H x y v u Q I rx ry h;obtain⟨i,j,rfl,rfl,q⟩:=h;obtain⟨t,rfl⟩:=rx;obtain⟨t',rfl⟩:=ry;exact in_str (qB I q rfl)
theorem aJh:OpR X (vo .Is) (fun x y H Q=>y=.non/\Q (.bl (decide (x=.non))) H):=by
 intro pins s σ H x y v u Q I rx ry h;obtain⟨rfl,q⟩:=h;cases ry;refine is_none_gen (qB I q ?_);cases x <;> first
  | (cases rx;rfl)
  | (obtain⟨t,rfl⟩:=rx;rfl)
theorem pE:OpR X (vo .IsNot) (fun x y H Q=>y=.non/\Q (.bl (!decide (x=.non))) H):=by
 intro pins s σ H x y v u Q I rx ry h;obtain⟨rfl,q⟩:=h;cases ry;refine isnot_none_gen (qB I q ?_);cases x <;> first
  | (cases rx;rfl)
  | (obtain⟨t,rfl⟩:=rx;rfl)
theorem OpR.or{r r':R2}(h:OpR X f r)(h':OpR X f r'):OpR X f (fun x y H Q=>r x y H Q\/r' x y H Q):=by
 intro pins s σ H x y v u Q I rx ry q;rcases q with q|q
 ·exact h pins s σ H x y v u Q I rx ry q
 ·exact h' pins s σ H x y v u Q I rx ry q
theorem kH(b:Expr){op:CmpOp}(h:op≠.In:=by decide)(h2:op≠.NotIn:=by decide):yy op b=false:=by
 have e1:(op == CmpOp.In)=false:=by cases op <;> first|rfl|exact absurd rfl h
 have e2:(op == CmpOp.NotIn)=false:=by cases op <;> first|rfl|exact absurd rfl h2
 cases b <;> simp[yy,e1,e2]
theorem qW(ho:OpR X (vo op) r)(ha:PE X a ta)(hb:PE X b tb)(hm:yy op b=false):PE X (.Compare a [op] [b] pos) (tOp r ta tb):=by
 intro pins s σ H Q I h;exact wpAny_Compare1 (binT ha hb I h fun v u s2 x y H2 I2 rx ry q=>ho pins s2 σ H2 x y v u Q I2 rx ry q) hm
def aHf (t:TE):TT:=fun σ H Q=>t σ H fun x H'=>∃k,x=.bl k/\Q k H'
theorem kJ(ho:OpR X (vo op) r)(ha:PE X a ta)(hb:PE X b tb)(hm:yy op b=false):PT X (.Compare a [op] [b] pos) (aHf (tOp r ta tb)):=by
 intro pins s σ H Q I h;refine wpAny_isTrue_Compare1 (thn (ha pins s σ H _ I h) fun v s1 ⟨x,H1,I1,r1,q1⟩=>thn (hb pins s1 σ H1 _ I1 q1) fun u s2 ⟨y,H2,I2,r2,q2⟩ =>
  thn (ho pins s2 σ H2 x y v u _ I2 r1 r2 q2) fun c s3 ⟨z,H3,I3,r3,k,e,q3⟩=>?_) hm
 subst e;cases r3;exact vi ⟨H3,I3,q3⟩
def aCq (r r':R2) (ta tb tc:TE):TE:=fun σ H Q=>ta σ H fun x H1=>tb σ H1 fun y H2=>r x y H2 fun z H3=>∃k,z=.bl k ∧
 (if k=true then tc σ H3 fun w' H4=>r' y w' H4 Q else Q (.bl false) H3)
theorem aCo(ho:OpR X (vo op) r)(ho':OpR X (vo op') r')(ha:PE X a ta)(hb:PE X b tb)(hc:PE X c tc)
  (hm:lastMarks [op,op'] [b,c]=false:=by with_unfolding_all rfl):PE X (.Compare a [op,op'] [b,c] pos) (aCq r r' ta tb tc):=by
 intro pins s σ H Q I h;refine Compare_chain (thn (ha pins s σ H _ I h) fun v s1 ⟨x,H1,I1,r1,q1⟩=>chain_link (thn (hb pins s1 σ H1 _ I1 q1) fun u s2 ⟨y,H2,I2,r2,q2⟩ =>
  thn (ho pins s2 σ H2 x y v u _ I2 r1 r2 q2) fun d s3 ⟨z,H3,I3,r3,k,e,q3⟩=>?_)) hm
 subst e;cases r3;refine vi ?_;cases k with
 |false=>exact ite_ff ⟨.bl false,H3,I3,rfl,q3⟩
 |true=>exact ite_tt (chain_last (thn (hc pins s3 σ H3 _ I3 q3) fun w' s4 ⟨z',H4,I4,r4,q4⟩=>ho' pins s4 σ H4 y z' u w' Q I4 r2 r4 q4))
theorem tT(ho:OpR X (vo op) r)(ho':OpR X (vo op') r')(ha:PE X a ta)(hb:PE X b tb)(hc:PE X c tc)
  (hm:lastMarks [op,op'] [b,c]=false:=by with_unfolding_all rfl):PT X (.Compare a [op,op'] [b,c] pos) (aHf (aCq r r' ta tb tc)):=by
 intro pins s σ H Q I h;refine isTrue_chain (thn (ha pins s σ H _ I h) fun v s1 ⟨x,H1,I1,r1,q1⟩=>test_link (thn (hb pins s1 σ H1 _ I1 q1) fun u s2 ⟨y,H2,I2,r2,q2⟩ =>
  thn (ho pins s2 σ H2 x y v u _ I2 r1 r2 q2) fun d s3 ⟨z,H3,I3,r3,k,e,q3⟩=>?_)) hm
 subst e;cases r3;refine vi ?_;cases k with
 |false =>
  obtain⟨k',e',q'⟩:=q3;cases e';exact ite_ff ⟨H3,I3,q'⟩
 |true =>
  refine ite_tt (test_last (thn (hc pins s3 σ H3 _ I3 q3) fun w' s4 ⟨z',H4,I4,r4,q4⟩=>thn (ho' pins s4 σ H4 y z' u w' _ I4 r2 r4 q4) fun d' s5 zq=>?_));obtain⟨z2,H5,I5,r5,k2,e2,q5⟩:=zq;subst e2;cases r5;exact vi ⟨H5,I5,q5⟩
def TruV (K:Ξ) (x:V) (H:Hp) (k:Bool):Prop :=
 match x with
 |.non=>k=false
 |.bl b=>k=b
 |.int i=>k=(i != 0)
 |.str y=>y.length<=ρ/\k=((y.length:Int) != 0)
 |.byt y=>y.size<=ρ/\k=((y.size:Int) != 0)
 |.ref p=>(∃xs,SqL K H p xs/\k = !xs.isEmpty)\/(∃xs,SqT K H p xs/\k = !xs.isEmpty)\/∃kvs,H p=some (.dK kvs)/\k = !kvs.isEmpty
 |_=>False
theorem uQ{κ : Type}{kvs:List (κ×V)}{vs:List (κ×Value)}(r:KV kvs vs):(!vs.isEmpty) = !kvs.isEmpty:=by
 cases r <;> rfl
theorem lV(r:kK xs its):(!its.toArray.isEmpty) = !xs.isEmpty:=by
 cases r <;> simp
theorem dX:(ρ:Nat)<2 ^ 63:=by rw[qx];decide
theorem aIp:TruR X (fun x H Q=>∃k,TruV X.K x H k/\Q k H):=by
 intro pins s σ H x v Q I rx h;obtain⟨k,e,q⟩:=h;have hl:=dX;have hs:ρ=16777216:=qx;cases x with
 |non =>
  cases rx;have e':k=false:=e;subst e';exact truthy_none ⟨H,I,q⟩
 |bl b =>
  cases rx;have e':k=b:=e;subst e';exact vi ⟨H,I,q⟩
 |int i =>
  obtain⟨t,rfl⟩:=rx;have e':k=(i != 0):=e;subst e';exact PySem.P.truthy_int ⟨H,I,q⟩
 |str y =>
  obtain⟨t,rfl⟩:=rx;obtain⟨hy,e'⟩ : y.length<=ρ/\k=((y.length:Int) != 0):=e;subst e';exact PySem.P.truthy_str (by omega) ⟨H,I.tok _,q⟩
 |byt y =>
  obtain⟨t,rfl⟩:=rx;obtain⟨hy,e'⟩ : y.size<=ρ/\k=((y.size:Int) != 0):=e;subst e';exact PySem.W.truthy_bytes (by omega) ⟨H,I.tok _,q⟩
 |ref p =>
  cases rx;have e':(∃xs,SqL X.K H p xs/\k = !xs.isEmpty)\/(∃xs,SqT X.K H p xs/\k = !xs.isEmpty)\/∃kvs,H p=some (.dK kvs)/\k = !kvs.isEmpty:=e;rcases e' with⟨xs,hx,e'⟩|⟨xs,hx,e'⟩|⟨kvs,hx,e'⟩
  ·subst e';obtain⟨its,r,pl,hz⟩:=I.list hx;have hlen:=r.length;exact wpAny_truthy_list pl.isList (by simp only[χ];omega) ⟨H,I.tok _,by rw[lV r];exact q⟩
  ·subst e';obtain⟨its,r,pl,hz⟩:=I.tuple hx;have hlen:=r.length;exact truthy_tuple pl (by simp only[χ];omega) ⟨H,I.tok _,by rw[lV r];exact q⟩
  ·subst e';obtain⟨hz,hS,vs,r,m⟩ : kvs.length<=ρ/\(p == zf)=false/\∃vs,KV kvs vs/\s.heap.DictOf (vX X.prog X.w) p vs:=I.hok p _ hx;have hlen:kvs.length=vs.length:=Paired.length r;exact wpAny_truthy_dict hS m (by omega) ⟨H,I.tok _,by rw[uQ r];exact q⟩
 |_=>exact(show False from e).elim
theorem cD(ha:PE X a ta)(he:∀whole,isTrue a X.env whole=(do let v ←whole;standAt a.pos;holding [v] (truthy v))):
  PT X a (fun σ H Q=>ta σ H fun x H'=>∃k,TruV X.K x H' k/\Q k H'):=by
 intro pins s σ H Q I h;exact isTrue_plain (thn (ha pins s σ H _ I h) fun v s1 ⟨x,H1,I1,r1,q1⟩=>aIp pins s1 σ H1 x v Q I1 r1 q1) (he _)
theorem jS:OpR X (yk .Add) (fun x y H Q=>∃i j,x=.str i/\y=.str j/\i.length+j.length<=ρ/\Q (.str (i++j)) H):=by
 intro pins s σ H x y v u Q I rx ry h;obtain⟨i,j,rfl,rfl,hz,q⟩:=h;obtain⟨t,rfl⟩:=rx;obtain⟨t',rfl⟩:=ry;exact add_str (fun t' tk=>⟨.str (i++j),H,I.tok _,⟨_,rfl⟩,q⟩) hz
theorem vals1{x:V}(r:kK [x] us):∃u,us=[u]/\RelV x u:=by
 cases r with
 |cons r1 r2=>cases r2;exact⟨_,rfl,r1⟩
theorem vals2{x y:V}(r:kK [x,y] us):∃u w',us=[u,w']/\RelV x u/\RelV y w':=by
 cases r with
 |cons r1 r2 =>
  cases r2 with
  |cons r3 r4=>cases r4;exact⟨_,_,rfl,r1,r3⟩
theorem nX(hc:X.calm=true):vT X (.builtin "max") (fun xs H Q=>∃i j,xs=[.int i,.int j]/\Q (.int (if j > i then j else i)) H):=by
 intro pins s σ H xs us Q I r h;obtain⟨i,j,rfl,q⟩:=h;obtain⟨u,w',rfl,⟨t,rfl⟩,⟨t',rfl⟩⟩:=vals2 r;refine max_two_ints (I.ok.hd hc) fun h' tk k=>⟨_,H,I.kept k,?_,q⟩
 by_cases hj:j > i
 ·rw[if_pos hj,if_pos hj];exact⟨_,rfl⟩
 ·rw[if_neg hj,if_neg hj];exact⟨_,rfl⟩
theorem nY(hc:X.calm=true):vT X (.builtin "min") (fun xs H Q=>∃i j,xs=[.int i,.int j]/\Q (.int (if j<i then j else i)) H):=by
 intro pins s σ H xs us Q I r h;obtain⟨i,j,rfl,q⟩:=h;obtain⟨u,w',rfl,⟨t,rfl⟩,⟨t',rfl⟩⟩:=vals2 r;refine min_two_ints (I.ok.hd hc) fun h' tk k=>⟨_,H,I.kept k,?_,q⟩
 by_cases hj:j<i
 ·rw[if_pos hj,if_pos hj];exact⟨_,rfl⟩
 ·rw[if_neg hj,if_neg hj];exact⟨_,rfl⟩
theorem bD:vT X (.type "str") (fun xs H Q=>∃i,xs=[.int i]/\i.natAbs.log2<1920/\Q (.str (toString i)) H):=by
 intro pins s σ H xs us Q I r h;obtain⟨i,rfl,hz,q⟩:=h;obtain⟨u,rfl,t,rfl⟩:=vals1 r;exact PySem.P.str_of_int hz ⟨.str _,H,I.tok _,⟨_,rfl⟩,q⟩
def LenV (K:Ξ) (x:V) (H:Hp) (n:Nat):Prop :=
 match x with
 |.str y=>y.length<=ρ/\n=y.length
 |.byt y=>y.size<=ρ/\n=y.size
 |.ref p=>(∃xs,SqL K H p xs/\n=xs.length)\/∃xs,SqT K H p xs/\n=xs.length
 |_=>False
theorem tD:vT X (.builtin "len") (fun xs H Q=>∃x n,xs=[x]/\LenV X.K x H n/\Q (.int n) H):=by
 intro pins s σ H xs us Q I r h;obtain⟨x,n,rfl,e,q⟩:=h;obtain⟨u,rfl,rx⟩:=vals1 r;have hl:=dX;have hs:ρ=16777216:=qx;cases x with
 |str y =>
  obtain⟨t,rfl⟩:=rx;obtain⟨hy,e'⟩ : y.length<=ρ/\n=y.length:=e;subst e';exact len_str (by omega) ⟨.int _,H,I.tok _,⟨_,rfl⟩,q⟩
 |byt y =>
  obtain⟨t,rfl⟩:=rx;obtain⟨hy,e'⟩ : y.size<=ρ/\n=y.size:=e;subst e';exact PySem.W.len_bytes (by omega) ⟨.int _,H,I.tok _,⟨_,rfl⟩,q⟩
 |ref p =>
  cases rx;have e':(∃xs,SqL X.K H p xs/\n=xs.length)\/∃xs,SqT X.K H p xs/\n=xs.length:=e;rcases e' with⟨xs,hx,e'⟩|⟨xs,hx,e'⟩
  ·subst e';obtain⟨its,r',pl,hz⟩:=I.list hx;have hlen:=r'.length;exact Calls.call_len_list pl.isList (by simp only[χ];omega) ⟨.int xs.length,H,I.tok _,⟨_,by simp only[χ];rw[hlen]⟩,q⟩
  ·subst e';obtain⟨its,r',pl,hz⟩:=I.tuple hx;have hlen:=r'.length;exact len_tuple pl (by simp only[χ];omega) ⟨.int xs.length,H,I.tok _,⟨_,by simp only[χ];rw[hlen]⟩,q⟩
 |_=>exact(show False from e).elim
end
structure wL (h:vn) (x dx C:Addr) (mA:Str->Option Value):Prop where
 obj:h.get? x=some (xh C dx)
 ns:h.Ns1 dx mA
 ne:dx≠x
theorem fK{h:vn}{mA:Str->Option Value}(n:h.Ns1 dx mA):∃od,h.get? dx=some od/\∀name,PySem.W.lookIn name od=some (mA name):=by
 obtain⟨o,es,ep,ho,hd,hk,_,hm⟩:=n;refine⟨o,ho,fun name=>?_⟩;have e:=hm name;unfold nsFind findBy at e;rw[←Array.find?_toList]at e;unfold PySem.W.lookIn;rw[hd];dsimp only
 split
 ·rename_i y q;rw[q]at e;exact congrArg some e
 ·rename_i q;rw[q]at e;have a:es.toList.any (·.refKey)=false:=by
   rw[List.any_eq_false];intro y hy;obtain⟨z,t,hkey⟩:=hk y (Array.mem_toList_iff.mp hy);simp[DictEntry.refKey,hkey]
  have a':¬ es.toList.any (·.refKey)=true:=by rw[a];exact Ω
  rw[if_neg a'];exact congrArg some e
theorem wL.look{mA:Str->Option Value}(I:wL h x dx C mA):∃od,zg h x (xh C dx) C (some od)/\∀name,PySem.W.lookIn name od=some (mA name) :=
 let ⟨od,ho,hl⟩:=fK I.ns
 ⟨od,⟨I.obj,rfl,rfl,ho⟩,hl⟩
section
variable {prog:vh}{w:vy}{A:vm}{E:Value->ο->Prop}{s:ο}{K:Ξ}{x dx C f:Addr}{mA:Str->Option Value}{name:Str}{v:Value}
theorem aFq{Q:Value->ο->Prop}(X:K.In s.heap)(I:wL s.heap x dx C mA)(hg:AK K C name=true)(hh:ze K C=true)
  (ha:uv K (.ref C) name=some none)(hv:mA name=some v)(hv':PySem.W.handedIn v=true)(h:Q v { s with toks:=s.toks+1 }):
  rj (rl prog w) A (getAttr (.ref x) name expr) Q E s:=by
 obtain⟨od,J,hl⟩:=I.look;exact PySem.W.get_value X J (PySem.W.plainGet_of hg).1 (PySem.W.findObj_own hh ha rfl (by rw[hl,hv])) hv' h
theorem aDg{Q:Value×List Value->ο->Prop}(X:K.In s.heap)(I:wL s.heap x dx C mA)(hg:AK K C name=true)
  (hf:uv K (.ref C) name=some (some (.ref f)))(ht:isFn K (.ref f)=true)(hv:mA name=none)(h:Q (.ref f,[.ref x]) s):
  rj (rl prog w) A (Ak (.ref x) name pl) Q E s:=by
 obtain⟨od,J,hl⟩:=I.look;exact PySem.W.method_fn X J (PySem.W.plainGet_of hg).1 (PySem.W.plainGet_of hg).2 hf (beq_iff_eq.mp ht) (by show(PySem.W.lookIn name od).map (·.isSome)=some false;rw[hl,hv];rfl) h
theorem aFe{Q:Unit->ο->Prop}(X:K.In s.heap)(I:wL s.heap x dx C mA)
  (hs:uv K (.ref C) "__setattr__" = some (some (.builtin "object.__setattr__")))(hp:PySem.W.plainOver K C=true)(ht:PySem.W.takerIn K C name=some none)(hh:ze K C=true)
  (hw:ww mA ns)(hsz:ns.length<=ρ)
  (h:∀h',wL h' x dx C (fun y=>if y=name then some v else mA y)->xk dx s.heap h'->Q () { s with heap:=h',toks:=s.toks+2 }):
  rj (rl prog w) A (setAttr (.ref x) name v) Q E s:=by
 obtain⟨od,J,hl⟩:=I.look;refine PySem.W.set_plain X J hs (PySem.W.osa_open (s:={ s with toks:=s.toks+1 }) (r:=none) X J hp ht fun b=>?_);obtain⟨cd,hc,hd'⟩:=PySem.W.any_some hh;have hx:s.heap.get? x=some ⟨.ref C,some dx,.plain,#[]⟩:=I.obj;refine ι (Φ (ι (ι (wpAny_loadPart hx (ι (wt (s:={ s with toks:=s.toks+1 }) (zu X hc) ?_))))));rw[hd'];refine Φ (a:=some dx) (ι (Φ (ι ?_)));refine wpAny_nsSet1 (s:={ s with toks:=s.toks+1 }) I.ns fun h' hn2 hs2=>?_;obtain⟨oD,esD,epD,hoD,hdD,hcD⟩:=hn2.count (ww.cons name v hw);refine ι (wpAny_lookBehind hoD (by rw[hdD];exact pastItsLine_dict (sg hcD (by rw[υ];omega))) ?_);exact Φ (h _ ⟨(hs2.2 _ (va I.ne)).trans I.obj,hn2,I.ne⟩ hs2)
theorem aDr{vs:List Value}{kw:List (Str×Value)}(X:K.In s.heap)(hm:PySem.W.makesIn K C=true)
  (hi:uv K (.ref C) "__init__" = some (some (.ref f)))(hf:PySem.W.typeIn K (.ref f)=some (.type "function"))
  (h:Ag (rl prog w) (A.under (.builtin "type.__call__" ⟨.ref C::vs,kw⟩)) (.call (.ref f) ⟨.ref (s.heap.objs.size+1)::vs,kw⟩) (PySem.W.InitBack (s.heap.objs.size+1) R)
   { s with heap:=(s.heap.push PySem.W.emptyDict).push (xh C s.heap.objs.size) }):
  Ag (rl prog w) A (.call (.ref C) ⟨vs,kw⟩) R s:=by
 obtain⟨hh,g,d,t,os⟩:=s;exact PySem.W.make_core (PySem.W.makes_of X hm) (xa X hi) (fun self=>PySem.W.bind_fn X self hf) (.inl rfl) h
end
def yZ (f:Str) (v:V):List (Str×V)->List (Str×V)
 |[]=>[(f,v)]
 | (g,x)::r=>if g=f then (g,v)::r else (g,x)::yZ f v r
theorem bS(f g:Str)(v:V):∀fs:List (Str×V),(yZ f v fs).lookup g=if g=f then some v else fs.lookup g
 |[]=>by
  show yl g [(f,v)]=_
  by_cases h:g=f
  ·have hb:(g == f)=true:=beq_iff_eq.mpr h;simp only[yl,hb,if_pos h]
  ·have hb:(g == f)=false:=beq_eq_false_iff_ne.mpr h;simp only[yl,hb,if_neg h]
 | (k,x)::r=>by
  have ih:=bS f g v r;rw[show yZ f v ((k,x)::r)=(if k=f then (k,v)::r else (k,x)::yZ f v r) from rfl]
  by_cases hk:k=f
  ·rw[if_pos hk]
   by_cases h:g=k
   ·have hb:(g == k)=true:=beq_iff_eq.mpr h;simp only[yl,hb,if_pos (h.trans hk)]
   ·have hb:(g == k)=false:=beq_eq_false_iff_ne.mpr h;simp only[yl,hb,if_neg (fun e:g=f=>h (e.trans hk.symm))]
  ·rw[if_neg hk]
   by_cases h:g=k
   ·have hb:(g == k)=true:=beq_iff_eq.mpr h;simp only[yl,hb,if_neg (fun e:g=f=>hk (h.symm.trans e))]
   ·have hb:(g == k)=false:=beq_eq_false_iff_ne.mpr h;simp only[yl,hb];exact ih
theorem aD(f:Str)(v:V):∀fs:List (Str×V),f∈(yZ f v fs).map (·.1)/\∀g,g∈fs.map (·.1)->g∈(yZ f v fs).map (·.1)
 |[]=>⟨by simp[yZ],fun g h=>by simp at h⟩
 | (k,x)::r=>by
  obtain⟨i1,i2⟩:=aD f v r;rw[show yZ f v ((k,x)::r)=(if k=f then (k,v)::r else (k,x)::yZ f v r) from rfl]
  by_cases hk:k=f
  ·rw[if_pos hk];subst hk;exact⟨by simp,fun g h=>by simpa using h⟩
  ·rw[if_neg hk];refine⟨?_,fun g h=>?_⟩
   ·rw[uj];exact rg _ i1
   ·rw[uj]at h ⊢;rcases ξ.mp h with e|e
    ·exact ξ.mpr (.inl e)
    ·exact rg _ (i2 g e)
theorem iC(f:Str)(v:V):∀fs:List (Str×V),(yZ f v fs).length<=fs.length+1
 |[]=>by simp[yZ]
 | (k,x)::r=>by
  have ih:=iC f v r;rw[show yZ f v ((k,x)::r)=(if k=f then (k,v)::r else (k,x)::yZ f v r) from rfl]
  by_cases hk:k=f
  ·rw[if_pos hk,υ,υ];omega
  ·rw[if_neg hk,υ,υ];omega
theorem yQ.some_of(r:yQ (some v) o):∃u,o=some u/\RelV v u:=by
 cases o with
 |none=>exact(show False from r).elim
 |some u=>exact⟨u,rfl,r⟩
theorem yQ.none_of(r:yQ none o):o=none:=by
 cases o with
 |none=>rfl
 |some u=>exact(show False from r).elim
theorem nU(r:RelV v u):PySem.W.handedIn u=true:=by
 cases v with
 |non=>cases (show u=xw from r);rfl
 |bl b=>cases (show u=yq b from r);rfl
 |int i=>obtain⟨t,e⟩:=(show ∃t,u=Value.int i t from r);cases e;rfl
 |str x=>obtain⟨t,e⟩:=(show ∃t,u=Value.str x t from r);cases e;rfl
 |byt b=>obtain⟨t,e⟩:=(show ∃t,u=Value.bytes b t from r);cases e;rfl
 |flt b=>obtain⟨t,e⟩:=(show ∃t,u=Value.float b t from r);cases e;rfl
 |ref a=>cases (show u=se a from r);rfl
 |ty n=>cases (show u=Value.type n from r);rfl
section
variable {P:vh}{w:vy}{H H':Hp}{h h':vn}{a C dx:Addr}{fs fs':List (Str×V)}
theorem pC(hok:HOk P w H h)(e:H a=some (.ins C dx fs)):∃mA,wL h a dx C mA/\(∀f,yQ (fs.lookup f) (mA f))/\ww mA (fs.map (·.1))/\fs.length<=1000/\H dx=some (.own a):=by
 obtain⟨d,z,ne,ob,mA,n,r,q⟩:=(show vC P w H h a (.ins C dx fs) from hok a _ e);exact⟨mA,⟨ob,n,ne⟩,r,q,z,d⟩
end
structure Cls (K:Ξ) (C:Addr):Prop where
 pg:AK K C Str.empty=true
 hd:ze K C=true
 po:PySem.W.plainOver K C=true
 sa:uv K (.ref C) "__setattr__" = some (some (.builtin "object.__setattr__"))
theorem Cls.get{K:Ξ}(c:Cls K C)(f:Str):AK K C f=true:=c.pg
def zC (K:Ξ) (C:Addr) (f:Str):Prop:=uv K (.ref C) f=some none
theorem zC.taker{K:Ξ}(n:zC K C f):PySem.W.takerIn K C f=some none:=by
 unfold PySem.W.takerIn;rw[show uv K (.ref C) f=some none from n];rfl
structure Meth (K:Ξ) (C:Addr) (m:Str) (f:Addr):Prop where
 at_:uv K (.ref C) m=some (some (.ref f))
 fn:isFn K (.ref f)=true
 kp:keepIn K (.ref f)=true
section
variable {X:Cx}{pins:List (Addr×Obj)}{σ:St}{H:Hp}{s:ο}{a C dx:Addr}{fs:List (Str×V)}{f:Str}{v:V}{A:vm}{E:Value->ο->Prop}
theorem uY{Q:Value->ο->Prop}(I:Inv X pins σ H s)(e:H a=some (.ins C dx fs))(c:Cls X.K C)(n:zC X.K C f)(l:fs.lookup f=some v)
  (h:∀u s',Inv X pins σ H s'->RelV v u->Q u s'):rj (rl X.prog X.w) A (getAttr (.ref a) f b) Q E s:=by
 obtain⟨mA,O,r,_,_,_⟩:=pC I.hok e;obtain⟨u,hu,ru⟩:=yQ.some_of (v:=v) (o:=mA f) (by rw[←l];exact r f);exact aFq I.kIn O (c.get f) c.hd n hu (nU ru) (h u _ (I.tok _) ru)
theorem dU{Q:Value×List Value->ο->Prop}(I:Inv X pins σ H s)(e:H a=some (.ins C dx fs))(c:Cls X.K C)(k:Meth X.K C m g)(l:fs.lookup m=none)
  (h:Q (.ref g,[.ref a]) s):rj (rl X.prog X.w) A (Ak (.ref a) m pl) Q E s:=by
 obtain⟨mA,O,r,_,_,_⟩:=pC I.hok e;have hn:mA m=none:=yQ.none_of (by rw[←l];exact r m);exact aDg I.kIn O (c.get m) k.at_ k.fn hn h
theorem uU{Q:Unit->ο->Prop}(I:Inv X pins σ H s)(e:H a=some (.ins C dx fs))(c:Cls X.K C)(n:zC X.K C f)(hl:fs.length<1000)(ry:RelV y u)
  (h:∀s',Inv X pins σ (upd H a (.ins C dx (yZ f y fs))) s'->Q () s'):rj (rl X.prog X.w) A (setAttr (.ref a) f u) Q E s:=by
 obtain⟨mA,O,r,wi,_,ho⟩:=pC I.hok e;have hz:(fs.map (·.1)).length<=ρ:=by rw[ε,qx];omega
 refine aFe I.kIn O c.sa c.po n.taker c.hd wi hz fun h' O' sb=>h _ ?_;have hd:∃o,h'.get? dx=some o:=let ⟨o,_,_,e',_⟩:=O'.ns; ⟨o,e'⟩;refine I.write (x:=a) (e:=dx) (by rw[e];exact ud) (.inr ho) (fun b q hb z=>(sb.2 b hb).trans z) hd ?_;refine⟨by rw[jW O.ne];exact ho,?_,O.ne,O'.obj,_,O'.ns,fun g=>?_,fun g hg=>?_⟩
 ·have:=iC f y fs;omega
 ·show yQ ((yZ f y fs).lookup g) (if g=f then some u else mA g);rw[bS]
  by_cases q:g=f
  ·rw[if_pos q,if_pos q];exact ry
  ·rw[if_neg q,if_neg q];exact r g
 ·by_cases q:g=f
  ·rw[q];exact(aD f y fs).1
  ·refine(aD f y fs).2 g (wi g fun z=>hg ?_);show(if g=f then some u else mA g)=none;rw[if_neg q];exact z
theorem Inv.made(I:Inv X pins σ H s):Inv X pins σ (upd (upd H s.heap.objs.size (.own (s.heap.objs.size+1))) (s.heap.objs.size+1) (.ins C s.heap.objs.size []))
  { s with heap:=(s.heap.push PySem.W.emptyDict).push (xh C s.heap.objs.size) }:=by
 have e1:(s.heap.push PySem.W.emptyDict).get? s.heap.objs.size=some PySem.W.emptyDict:=sj s.heap rfl;have e2:((s.heap.push PySem.W.emptyDict).push (xh C s.heap.objs.size)).get? (s.heap.objs.size+1)=some (xh C s.heap.objs.size):=by
  have:=sj (s.heap.push PySem.W.emptyDict) (o:=xh C s.heap.objs.size) rfl
  rwa [zh]at this
 have e3:(s.heap.push PySem.W.emptyDict).Ns s.heap.objs.size (fun _=>none):=⟨PySem.W.emptyDict,#[],_,e1,rfl,(fun e he=>absurd he (by simp)),fun _=>rfl⟩;have I1:=I.laid (a:=s.heap.objs.size) (o:=.own (s.heap.objs.size+1)) (h':=s.heap.push PySem.W.emptyDict) (t':=s.toks) (fun b u q=>ς _ q) (μ _) ⟨_,e1⟩;refine I1.laid (a:=s.heap.objs.size+1) (o:=.ins C s.heap.objs.size []) (t':=s.toks) (fun b u q=>ς _ q) (Nat.le_of_eq (zh _ _)) ?_;have ne:s.heap.objs.size≠s.heap.objs.size+1:=sk (zm _);refine⟨by rw[jW ne,jL],sd _,ne,e2,fun _=>none,(vn.Ns1.of_empty e3).at fun o q=>ς _ q,fun _=>ud,fun y hy=>absurd rfl hy⟩
theorem aAj(hb:za e f env (eval e env)=eval e env)
  (h:rj (rl prog w) A (eval e env) (fun o s₁=>rj (rl prog w) A (getAttr o f true) Q E s₁) E s):rj (rl prog w) A (eval (.Attribute e f pos) env) Q E s :=
 Attribute_any_ h (by rw[arm_eval_Attribute,hb])
end
def tFld (K:Ξ) (ta:TE) (f:Str):TE:=fun σ H Q=>ta σ H fun x H1=>∃a C dx fs v,x=.ref a/\H1 a=some (.ins C dx fs)/\Cls K C/\zC K C f/\fs.lookup f=some v/\Q v H1
def sFld (K:Ξ) (ta tv:TE) (f:Str):TS:=fun D σ H=>tv σ H fun y H1=>ta σ H1 fun x H2=>∃a C dx fs,x=.ref a/\H2 a=some (.ins C dx fs)/\Cls K C/\zC K C f/\fs.length<1000 ∧
 D.nx σ (upd H2 a (.ins C dx (yZ f y fs)))
section
variable {X:Cx}{o e value:Expr}{f:Str}{pos pos' tpos:Pos}{ta tv:TE}
theorem vB(he:PE X e ta)(hb:za e f X.env (eval e X.env)=eval e X.env):PE X (.Attribute e f pos) (tFld X.K ta f):=by
 intro pins s σ H Q I h;refine aAj hb (thn (he pins s σ H _ I h) fun u s1 zq=>?_);obtain⟨x,H1,I1,rx,a,C,dx,fs,v,ex,ea,c,n,l,q⟩:=zq;subst ex;obtain rfl:u=se a:=rx;exact uY I1 ea c n l fun u' s2 I2 ru=>⟨v,H1,I2,ru,q⟩
theorem cA(ha:PE X o ta)(hv:PE X value tv)(hs:swapsWith value (some (.Attribute o f pos')) pos.line X.env=pure false):PS X (.Assign [.Attribute o f pos'] value pos) (sFld X.K ta tv f):=by
 intro pins s σ H D I h;refine plainObj_wpAny_Assign_Attribute (thn (hv pins s σ H _ I h) fun u s1 ⟨y,H1,I1,ry,q⟩=>thn (ha pins s1 σ H1 _ I1 q) fun ov s2 zq=>?_) hs;obtain⟨x,H2,I2,rx,a,C,dx,fs,ex,ea,c,n,l,q2⟩:=zq;subst ex;obtain rfl:ov=se a:=rx;exact uU I2 ea c n l ry fun s3 I3=>⟨σ,_,I3,q2⟩
end
structure vG (k:Nat) (A:vm):Prop where
 hd:A.handled=none
 dp:A.depth+3*k+5<recursionLimit
 un:A.units+16*k+200<cLine
 gd:A.guards=some []
theorem vG.mono{j:Nat}(r:vG k A)(h:j<=k):vG j A:=⟨r.hd,by have:=r.dp;omega,by have:=r.un;omega,r.gd⟩
theorem vG.deeper{k:Nat}(r:vG (k+1) A)(env:Env):vG k (A.deeper env) :=
 ⟨r.hd,by have:=r.dp;show A.depth+1+3*k+5<_;omega,by have:=r.un;show A.units+3+16*k+200<_;omega,r.gd⟩
theorem vG.in1{k:Nat}(r:vG (k+1) A):vG k A.in1 :=
 ⟨r.hd,by have:=r.dp;show A.depth+3*k+5<_;omega,by have:=r.un;show A.units+1+16*k+200<_;omega,r.gd⟩
theorem tX{A:vm}{us:List Value}{kw:List (Str×Value)}: (A.under (.builtin "type.__call__" ⟨.ref C::us,kw⟩)).depth=A.depth+1:=by
 first|rfl|simp[vm.under,Code.weight,Code.isCreation,Code.isGuard,Code.isCaller,Code.frames,Code.isFrame,guardIds]
theorem wH{A:vm}{us:List Value}{kw:List (Str×Value)}: (A.under (.builtin "type.__call__" ⟨.ref C::us,kw⟩)).units=A.units+1:=by
 first|rfl|simp[vm.under,Code.cUnits,Code.frames,Code.isFrame]
theorem rF{A:vm}{us:List Value}{kw:List (Str×Value)}: (A.under (.builtin "type.__call__" ⟨.ref C::us,kw⟩)).guards=A.guards:=by
 have hg:guardIds.contains "type.__call__" = false:=by decide +kernel
 have e:Code.guards (.builtin "type.__call__" ⟨.ref C::us,kw⟩)=[]:=by
  unfold Code.guards;rw[if_neg (fun z=>by rw[show Code.isGuard (.builtin "type.__call__" ⟨.ref C::us,kw⟩)=guardIds.contains "type.__call__" from rfl,hg]at z;cases z)]
 unfold vm.under;rw[e];rfl
theorem vG.make{k:Nat}(r:vG (k+1) A)(C:Addr)(us:List Value)(kw:List (Str×Value)):vG k (A.under (.builtin "type.__call__" ⟨.ref C::us,kw⟩)) :=
 ⟨r.hd,by have:=r.dp;rw[tX];omega,by have:=r.un;rw[wH];omega,rF.trans r.gd⟩
theorem vG.depth(r:vG k A):A.depth<recursionLimit:=by have:=r.dp;omega
theorem vG.units(r:vG k A):A.units+64<cLine:=by have:=r.un;omega
def tNil:TA:=fun _ H Q=>Q [] H
def aGz (ta:TE) (tr:TA):TA:=fun σ H Q=>ta σ H fun x H1=>tr σ H1 fun xs H2=>Q (x::xs) H2
section
variable {X:Cx}{e:Expr}{es:List Expr}{te:TE}{t:TA}{pos:Pos}
theorem jB:PA X [] tNil:=fun _ _ _ _ H Q I h=>Calls.spliced_nil ⟨[],H,I,.nil,h⟩
theorem jA(ha:PE X e te)(hr:PA X es t)(hs:sf (e::es) X.env=(false,eval e X.env)::sf es X.env:=by rfl):PA X (e::es) (aGz te t):=by
 intro pos pins s σ H Q I h;rw[hs];show rj _ _ (spliced ((false,eval e X.env)::yn pos (sf es X.env))) _ _ s;refine Calls.spliced_cons (thn (ha pins s σ H _ I h) fun u s1 zq=>?_);obtain⟨x,H1,I1,r1,q1⟩:=zq;exact thn (hr pos pins s1 σ H1 _ I1 q1) fun us s2 ⟨xs,H2,I2,r2,q2⟩=>⟨x::xs,H2,I2,.cons r1 r2,q2⟩
def tTup (t:TA):TE:=fun σ H Q=>t σ H fun xs H1=>xs.length<=ρ/\∀p,H1 p=none->Q (.ref p) (upd H1 p (.tup xs))
def tLst (t:TA):TE:=fun σ H Q=>t σ H fun xs H1=>xs.length<=ρ/\∀p,H1 p=none->Q (.ref p) (upd H1 p (.lst xs))
theorem jT{x1}(h:PA X es t):PE X (.Tuple es x1 pos) (tTup t):=by
 intro pins s σ H Q I hq;refine wpAny_Tuple_spliced (thn (h pos pins s σ H _ I hq) fun us s1 ⟨xs,H1,I1,r,z,q⟩=>⟨by rw[←r.length];exact z,?_⟩);have hf:H1 s1.heap.objs.size=none:=I1.hok.fresh (μ _);refine⟨.ref s1.heap.objs.size,upd H1 s1.heap.objs.size (.tup xs),I1.laid (t':=s1.toks) (fun b u e=>ς _ e) (μ _) ?_,rfl,q _ hf⟩;exact⟨z,us,r,⟨_,sj _ rfl,rfl,_,rfl⟩⟩
theorem kN(h:PA X es t):PE X (.List es pos) (tLst t):=by
 intro pins s σ H Q I hq;refine wpAny_List_spliced (thn (h pos pins s σ H _ I hq) fun us s1 ⟨xs,H1,I1,r,z,q⟩=>⟨by rw[←r.length];exact z,?_⟩);have hf:H1 s1.heap.objs.size=none:=I1.hok.fresh (μ _);refine⟨.ref s1.heap.objs.size,upd H1 s1.heap.objs.size (.lst xs),I1.laid (t':=s1.toks) (fun b u e=>ς _ e) (μ _) ?_,rfl,q _ hf⟩;exact⟨z,us,0,r,sj _ rfl⟩
end
abbrev Sp:=List V->Hp->VK->XK->Prop
abbrev CXT:=List Env->Hp->ο->XK->Value->ο->Prop
structure mZ (P:vh) (w:vy) (K:Ξ) (mg:Str->Option Value) (base:vn) (A:vm) (outer:List Env) (s:ο) (H:Hp):Prop where
 frames:A.frames=some outer
 mod:Mod K mg base
 bs:∀b o,base.get? b=some o->s.heap.get? b=some o/\H b=none
 bsz:base.objs.size<=s.heap.objs.size
 funs:s.heap.FunFrames base outer
 frf:∀b∈frs outer,H b=none
 hok:HOk P w H s.heap
 bare:AllBare s.gens
def CE (outer:List Env) (P:vh) (w:vy) (H:Hp) (s:ο) (Q:VK) (u:Value) (s':ο):Prop :=
 ∃v H',s'.os=s.os/\AllBare s'.gens/\Un (frs outer) [] H H' s.heap s'.heap/\HOk P w H' s'.heap/\RelV v u/\Q v H'
def CR (CX:CXT) (outer:List Env) (P:vh) (w:vy) (H:Hp) (s:ο) (Q:VK) (E:XK) (r:Result) (s':ο):Prop :=
 match r with
 |.ok (.ret u)=>CE outer P w H s Q u s'
 |.ok _=>False
 |.error e=>CX outer H s E e s'
structure jI (P:vh) (w:vy) (K:Ξ) (mg:Str->Option Value) (base:vn) (CX:CXT) (k:Nat) (f:Addr) (fd:sq) (ps:List Str) (sp:Sp):Prop where
 len:∀vs H Q E,sp vs H Q E->vs.length=ps.length
 run:∀(A:vm) (outer:List Env) (s:ο) (H:Hp) (args:Args) (us:List Value) (vs:List V) (Q:VK) (E:XK),vG k A->mZ P w K mg base A outer s H->BindsTo s fd args (ps.zip us)->kK vs us->sp vs H Q E →
  Ag (rl P w) A (.call (.ref f) args) (CR CX outer P w H s Q E) s
theorem jI.mono{K:Ξ}{k:Nat}(F:jI P w K mg base CX j f fd ps sp)(h:j<=k):
  jI P w K mg base CX k f fd ps sp:=⟨F.len,fun A outer s H args us vs Q E hr=>F.run A outer s H args us vs Q E (hr.mono h)⟩
theorem jI.imp{K:Ξ}{sp sp':Sp}(F:jI P w K mg base CX k f fd ps sp)
  (h:∀vs H Q E,sp' vs H Q E->sp vs H Q E):jI P w K mg base CX k f fd ps sp' :=
 ⟨fun vs H Q E q=>F.len vs H Q E (h _ _ _ _ q),fun A outer s H args us vs Q E hr he hb hv hs=>F.run A outer s H args us vs Q E hr he hb hv (h _ _ _ _ hs)⟩
theorem mZ.make{K:Ξ}(e:mZ P w K mg base A outer s H)(C:Addr)(us:List Value)(kw:List (Str×Value)):
  mZ P w K mg base (A.under (.builtin "type.__call__" ⟨.ref C::us,kw⟩)) outer s H:=⟨by first|exact e.frames|(simpa [vm.under,Code.envs,Code.isFrame,pushEnvs] using e.frames),e.mod,e.bs,e.bsz,e.funs,e.frf,e.hok,e.bare⟩
theorem mZ.in1{K:Ξ}(e:mZ P w K mg base A outer s H):
  mZ P w K mg base A.in1 outer s H:=⟨e.frames,e.mod,e.bs,e.bsz,e.funs,e.frf,e.hok,e.bare⟩
section
variable {X:Cx}{pins:List (Addr×Obj)}{σ:St}{H:Hp}{s s':ο}
theorem Inv.env0(I:Inv X pins σ H s):mZ X.prog X.w X.K X.mg X.base X.A X.stack s H :=
 ⟨I.ok.frames,I.ok.mod,I.bs,sg I.ok.bsz I.sz,I.stack,I.stkFree,I.hok,I.bare⟩
theorem Inv.after(I:Inv X pins σ H s)(h:CE X.stack X.prog X.w H s Q u s'):EP X pins σ Q u s':=by
 obtain⟨v,H',os,bare,un,hok,r,q⟩:=h;obtain⟨hh,g,d,t,os'⟩:=s';obtain rfl:os'=s.os:=os;exact⟨v,H',I.call (h':=hh) (g':=g) (d':=d) (t':=t) (ch:=[]) un hok bare (fun b z=>absurd z (by simp)),r,q⟩
end
def aDz (sp:Sp) (dvs:List V) (E:XK) (t:TA):TE:=fun σ H Q=>t σ H fun vs H1=>sp (vs++dvs) H1 Q E
def tMeth (C:Addr) (m:Str) (sp:Sp) (dvs:List V) (E:XK) (ta:TE) (t:TA):TE:=fun σ H Q=>ta σ H fun x H1=>∃a dx fs,x=.ref a/\H1 a=some (.ins C dx fs)/\fs.lookup m=none ∧
 t σ H1 fun vs H2=>sp (x::(vs++dvs)) H2 Q E
def tMake (C:Addr) (sp:Sp) (dvs:List V) (E:XK) (t:TA):TE:=fun σ H Q=>t σ H fun vs H1=>∀x dx,H1 x=none->H1 dx=none->dx≠x →
 sp (.ref x::(vs++dvs)) (upd (upd H1 dx (.own x)) x (.ins C dx [])) (fun v H2=>v=.non/\Q (.ref x) H2) E
def Binds (K:Ξ) (fd:sq) (ps:List Str) (ds:List Value):Prop :=
 ∀(s:ο) (us:List Value),K.In s.heap->(us++ds).length=ps.length->BindsTo s fd ⟨us,[]⟩ (ps.zip (us++ds))
theorem Binds.all{K:Ξ}{ps:List Str}(h:∀us:List Value,us.length=ps.length->bindArgs fd ⟨us,[]⟩=pure (ps.zip us)):Binds K fd ps []:=fun s us _ hl=>by
 rw[uy]at hl ⊢;exact .of_eq (h us hl)
def yK (CX:CXT) (X:Cx) (E:XK):Prop:=∀(pins:List (Addr×Obj)) (σ:St) (H:Hp) (s:ο) (e:Value) (s':ο),Inv X pins σ H s->CX X.stack H s E e s'->X.xe e s'
section
variable {X:Cx}{CX:CXT}{k:Nat}{f C:Addr}{fd:sq}{ps:List Str}{sp:Sp}{dvs:List V}{ds:List Value}{E:XK}{x m:Str}{p pos apos:Pos}{e o:Expr}{es:List Expr}{ta:TE}{t:TA}
theorem mP{Q:VK}(F:jI X.prog X.w X.K X.mg X.base CX k f fd ps sp)(hr:vG k X.A)(hb:Binds X.K fd ps ds)(hd:kK dvs ds)(hx:yK CX X E)
  (I:Inv X pins σ H s)(r:kK vs us)(h:sp (vs++dvs) H Q E):rj (rl X.prog X.w) X.A (call (.ref f) us) (EP X pins σ Q) X.xe s:=by
 have r2:kK (vs++dvs) (us++ds):=r.append hd;have hl:(us++ds).length=ps.length:=by rw[←r2.length];exact F.len _ _ _ _ h
 refine zi (As (F.run X.A X.stack s H ⟨us,[]⟩ (us++ds) (vs++dvs) Q E hr I.env0 (hb s us I.kIn hl) r2 h) fun r s' hq=>?_);cases r with
 |error e=>exact hx pins σ H s e s' I hq
 |ok fl =>
  cases fl with
  |ret u=>exact I.after hq
  |next=>exact su hq
  |brk=>exact su hq
  |cont=>exact su hq
theorem jJ(F:jI X.prog X.w X.K X.mg X.base CX k f fd ps sp)(hr:vG k X.A)(hg:Gl X x)(hm:X.mg x=some (.ref f))(hk:keepIn X.K (.ref f)=true)(hb:Binds X.K fd ps ds)(hd:kK dvs ds)(hx:yK CX X E)
  (ha:PA X (e::es) t)(hdb:(x == ("__debug__" : Str))=false:=by decide)(he:sf (e::es) X.env=(false,eval e X.env)::sf es X.env:=by rfl)(hpl:(yn pos (sf es X.env)).any (·.1)=false:=by rfl):
  PE X (.Call (.Name x p) (e::es) [] pos) (aDz sp dvs E t):=by
 intro pins s σ H Q I h;refine xx (cZ I hg hm ?_ hdb);refine xy (h₀:=X.base) I.ok.mod.kin hk (thn (ha pos pins s σ H _ I h) fun us s1 ⟨vs,H1,I1,r,q⟩=>⟨I1.kIn,?_⟩) he hpl;exact mP F hr hb hd hx I1 r q
theorem xS(he:PE X o ta)(c:Cls X.K C)(hm:Meth X.K C m f)(F:jI X.prog X.w X.K X.mg X.base CX k f fd ps sp)(hr:vG k X.A)(hb:Binds X.K fd ps ds)(hd:kK dvs ds)(hx:yK CX X E)
  (ht:eval (.Call (.Attribute o m apos) [] [] pos) X.env=(do
   let ov ←eval o X.env
   standAt apos.atName
   let (f,first) ←holding [ov] (Ak ov m pl)
   callWith pos f first (yn pos (sf [] X.env)) (backToKw pos (Am [] X.env))):=by rfl):
  PE X (.Call (.Attribute o m apos) [] [] pos) (tMeth C m sp dvs E ta tNil):=by
 intro pins s σ H Q I h;refine yb (pl:=pl) (thn (he pins s σ H _ I h) fun u s1 zq=>?_) ht;obtain⟨x,H1,I1,rx,a,dx,fs,ex,ea,l,q⟩:=zq;subst ex;obtain rfl:u=se a:=rx;refine dU I1 ea c hm l ?_;exact PySem.W.callWith_K0 (first:=[.ref a]) I1.kIn hm.kp (mP (us:=[.ref a]) (vs:=[.ref a]) F hr hb hd hx I1 (.cons rfl .nil) q)
structure Mk (K:Ξ) (C f:Addr):Prop where
 makes:PySem.W.makesIn K C=true
 init:uv K (.ref C) "__init__" = some (some (.ref f))
 fn:isFn K (.ref f)=true
 kp:keepIn K (.ref C)=true
theorem aEs{H:Hp}{Q:VK}(M:Mk X.K C f)(F:jI X.prog X.w X.K X.mg X.base CX k f fd ps sp)(hr:vG (k+1) X.A)(hb:Binds X.K fd ps ds)(hd:kK dvs ds)
  (hx:yK CX X E)(I:Inv X pins σ H s)(r:kK vs us)
  (h:∀x dx,H x=none->H dx=none->dx≠x->sp (.ref x::(vs++dvs)) (upd (upd H dx (.own x)) x (.ins C dx [])) (fun v H2=>v=.non/\Q (.ref x) H2) E):
  rj (rl X.prog X.w) X.A (call (.ref C) us) (EP X pins σ Q) X.xe s:=by
 have hq:=h (s.heap.objs.size+1) s.heap.objs.size (I.hok.fresh (An _)) (I.hok.fresh (μ _)) (sk (zm _));have I2:=Inv.made (C:=C) I;have r2:kK (V.ref (s.heap.objs.size+1)::(vs++dvs)) (se (s.heap.objs.size+1)::(us++ds)):=.cons rfl (r.append hd);have hl:(se (s.heap.objs.size+1)::us++ds).length=ps.length:=by
  have e:=r2.length;rw[F.len _ _ _ _ hq]at e;exact e.symm
 refine zi (aDr (f:=f) I.kIn M.makes M.init (beq_iff_eq.mp M.fn) (As (F.run _ X.stack _ _ ⟨se (s.heap.objs.size+1)::us,[]⟩ (se (s.heap.objs.size+1)::(us++ds)) _ _ E (hr.make C us [])
  (I2.env0.make C us []) (hb _ (se (s.heap.objs.size+1)::us) I2.kIn hl) r2 hq) fun r s' hq'=>?_))
 cases r with
 |error e=>exact hx pins σ _ _ e s' I2 hq'
 |ok fl =>
  cases fl with
  |ret u =>
   obtain⟨v,H',I3,rv,ev,q3⟩:=I2.after hq';subst ev;exact⟨rv,⟨V.ref (s.heap.objs.size+1),H',I3,rfl,q3⟩⟩
  |next=>exact su hq'
  |brk=>exact su hq'
  |cont=>exact su hq'
theorem zG(M:Mk X.K C f)(F:jI X.prog X.w X.K X.mg X.base CX k f fd ps sp)(hr:vG (k+1) X.A)(hg:Gl X x)(hm:X.mg x=some (.ref C))(hb:Binds X.K fd ps ds)(hd:kK dvs ds)(hx:yK CX X E)
  (ha:PA X (e::es) t)(hdb:(x == ("__debug__" : Str))=false:=by decide)(he:sf (e::es) X.env=(false,eval e X.env)::sf es X.env:=by rfl)(hpl:(yn pos (sf es X.env)).any (·.1)=false:=by rfl):
  PE X (.Call (.Name x p) (e::es) [] pos) (tMake C sp dvs E t):=by
 intro pins s σ H Q I h;refine xx (cZ I hg hm ?_ hdb);refine xy (h₀:=X.base) I.ok.mod.kin M.kp (thn (ha pos pins s σ H _ I h) fun us s1 ⟨vs,H1,I1,r,q⟩=>⟨I1.kIn,?_⟩) he hpl;exact aEs M F hr hb hd hx I1 r q
end
structure jO (N P:List Str) (sc:Scope):Prop where
 kind:sc.kind=.function
 co:sc.isCoroutine=false
 gen:sc.isGenerator=false
 nd:N.Nodup
 pre:N.take P.length=P
 par:∀x∈P,sc.names.lookup x=some .local\/sc.names.lookup x=some .cell
 nofree:∀y∈sc.names,y.2≠.free
theorem oG{kindOf:Str->Option NameKind}{x:Str}: ∀{binds:List (Str×Value)}{m:Str->Option Value},(∀v,(x,v)∉binds)->bindL kindOf binds m x=m x
 |[],_,_=>rfl
 | (n,v)::r,m,h=>by
  unfold bindL;rw[oG fun w hw=>h w (rg _ hw)]
  split
  ·have:x≠n:=by rintro rfl;exact h v qy
   simp[this]
  ·rfl
theorem oA{kindOf:Str->Option NameKind}{x:Str}: ∀{binds:List (Str×Value)}{m:Str->Option Value},(∀v,(x,v)∉binds)->bindC kindOf binds m x=m x
 |[],_,_=>rfl
 | (n,v)::r,m,h=>by
  unfold bindC;rw[oA fun w hw=>h w (rg _ hw)]
  split
  ·rfl
  ·have:x≠n:=by rintro rfl;exact h v qy
   simp[this]
theorem oE{kindOf:Str->Option NameKind}: ∀{P:List Str}{vs:List Value}{i:Nat}{m:Str->Option Value},P.Nodup->P[i]?=some x->vs[i]?=some v->kindOf x=some .local →
  bindL kindOf (P.zip vs) m x=some v
 |[],_,_,_,_,h,_,_=>by simp at h
 |_::_,[],_,_,_,_,h,_=>by simp at h
 |p::P,w::vs,0,m,nd,h1,h2,hk=>by
  simp at h1 h2;subst h1;subst h2;show bindL kindOf ((p,w)::P.zip vs) m p=_;unfold bindL;rw[oG fun v hv=>(xj.mp nd).1 (List.of_mem_zip hv).1,if_pos hk];simp
 |p::P,w::vs,i+1,m,nd,h1,h2,hk=>by
  show bindL kindOf ((p,w)::P.zip vs) m x=_;unfold bindL;exact oE (i:=i) (xj.mp nd).2 (by simpa using h1) (by simpa using h2) hk
theorem nW{kindOf:Str->Option NameKind}: ∀{P:List Str}{vs:List Value}{i:Nat}{m:Str->Option Value},P.Nodup->P[i]?=some x->vs[i]?=some v->kindOf x≠some .local →
  bindC kindOf (P.zip vs) m x=some v
 |[],_,_,_,_,h,_,_=>by simp at h
 |_::_,[],_,_,_,_,h,_=>by simp at h
 |p::P,w::vs,0,m,nd,h1,h2,hk=>by
  simp at h1 h2;subst h1;subst h2;show bindC kindOf ((p,w)::P.zip vs) m p=_;unfold bindC;rw[oA fun v hv=>(xj.mp nd).1 (List.of_mem_zip hv).1,if_neg hk];simp
 |p::P,w::vs,i+1,m,nd,h1,h2,hk=>by
  show bindC kindOf ((p,w)::P.zip vs) m x=_;unfold bindC;exact nW (i:=i) (xj.mp nd).2 (by simpa using h1) (by simpa using h2) hk
def start (N:List Str) (vs:List V):St:=vs.map some++Au (N.length-vs.length) none
def fH (CX:CXT) (P:vh) (w:vy) (K:Ξ) (mg:Str->Option Value) (base:vn) (N:List Str) (qual:Str) (scope:Scope) (f:Addr) (cd:Value) (A:vm) (outer:List Env) (s:ο) (H:Hp) (E:XK):Cx where
 prog:=P
 w:=w
 K:=K
 mg:=mg
 base:=base
 A:=A.deeper (envOfC qual scope s.heap.objs.size f cd)
 N:=N
 s₀:=s
 H₀:=H
 env:=envOfC qual scope s.heap.objs.size f cd
 outer:=outer
 stack:=envOfC qual scope s.heap.objs.size f cd::outer
 ex:=[]
 calm:=true
 fn:=fun _=>true
 pn:=[]
 xe:=fun e s'=>rj (rl P w) (A.deeper (envOfC qual scope s.heap.objs.size f cd)) (leaving (envOfC qual scope s.heap.objs.size f cd) e) (fun _ s''=>CX outer H s E e s'') (fun e' s''=>CX outer H s E e' s'') s'
theorem tL{sc:Scope}(h:sc.names.lookup x=some .cell):∃c,(cellsFrom n sc.names []).lookup x=some c:=by
 have q:=PySem.W.cellsFrom_some sc.names n [] (.inl h);exact wx.mp q
theorem aAs{K:Ξ}{A:vm}{vs:List V}
  (S:jO N ps scope)(hd:A.handled=none)(e0:mZ P w K mg base A outer s H)(hl:vs.length=ps.length)(r:kK vs us)
  (x:InCallC s s.heap.objs.size (bindL (envOfC qual scope s.heap.objs.size f cd).kindOf (ps.zip us) fun _=>none) (cellsFrom (s.heap.objs.size+1) scope.names []) (bindC (envOfC qual scope s.heap.objs.size f cd).kindOf (ps.zip us) fun _=>none) s1):
  Inv (fH CX P w K mg base N qual scope f cd A outer s H E) [] (start N vs) H s1:=by
 have hpl:ps.length<=N.length:=by have:=congrArg List.length S.pre;rw[rh]at this;omega
 obtain⟨h1,tk,rfl,hk⟩:=x.done;have noA:∀b:Addr,b∉(fH CX P w K mg base N qual scope f cd A outer s H E).ex:=fun b z=>absurd (show b∈([]:List Addr) from z) (by simp);refine⟨⟨e0.mod,S.kind,rfl,rfl,μ _,fun y z c h1 h2=>?_,fun y hy=>?_,fun y c _ h=>?_,fun _=>hd,vm.frames_deeper e0.frames,.inr ⟨rfl,rfl⟩,fun b z=>absurd z (noA b),e0.bs,e0.bsz,fun b _ _=>noA b,fun b z=>absurd z (noA b),e0.funs,e0.frf⟩,
  rfl,e0.bare,Un.kept hk,⟨_,x.toInCall.ns,fun i y v h1 h2 h3=>?_⟩,fun y c h=>⟨_,x.cell y c h⟩,e0.hok.fresh (μ _),fun y c h=>?_,fun p hp=>absurd (show p∈([]:List (Addr×Obj)) from hp) (by simp),e0.hok.kept hk,?_⟩
 ·exact name_of_addr x.apart (ve h1) (ve h2)
 ·have hy:scope.names.lookup y=some .cell\/scope.names.lookup y=some .free:=hy;rcases hy with hy|hy
  ·exact tL hy
  ·exact absurd rfl (S.nofree _ (ve hy))
 ·exact wk (x.above y c (ve h))
 ·have hi:i<vs.length:=by
   unfold start at h2
   by_cases hi:i<vs.length
   ·exact hi
   ·rw[Γ (by simpa using hi)]at h2;rw[List.getElem?_replicate]at h2
    split at h2 <;> cases h2
  have ha:vs[i]?=some v:=by
   unfold start at h2;rw[rf (by simpa using hi),sv]at h2;cases e:vs[i]? with
   |none=>rw[e]at h2;cases h2
   |some a=>rw[e]at h2;cases h2;rfl
  obtain⟨u,hu,rv⟩:=r.get ha;have hp:ps[i]?=some y:=by
   rw[←S.pre,vd (by omega)];exact h1
  have ndP:ps.Nodup:=by rw[←S.pre];exact S.nd.sublist (List.take_sublist _ _)
  refine⟨u,rv,?_⟩;rcases S.par y (ψ hp) with k|k
  ·exact .inl ⟨k,oE ndP hp hu k⟩
  ·obtain⟨c,e⟩:=tL (n:=s.heap.objs.size+1) k;refine .inr ⟨.inl k,c,e,?_⟩;have q:=x.cell y c e;rw[nW ndP hp hu (by show scope.names.lookup y≠_;rw[k];decide)]at q;exact q
 ·exact e0.hok.fresh (wk (x.above y c (ve h)))
 ·unfold start;show _=N.length;rw[ζ,ε,yc];omega
theorem aGv{CX:CXT}{P:vh}{w:vy}{K:Ξ}{mg:Str->Option Value}{base:vn}{k:Nat}{f:Addr}{name qual:Str}{params:Arguments}{body:List Stmt}{scope:Scope}{dV kV doc pm cdv ct oc:Value}{an od:Option Addr}
  {osl:Array (Option Value)}{N ps:List Str}{sp:Sp}(lk:K.lookup f=some ⟨oc,od,.func (fnOf name qual params body scope dV kV doc pm an cdv ct),osl⟩)(hcd:codeIn K cdv qual=true)(S:jO N ps scope)
  (len:∀vs H Q E,sp vs H Q E->vs.length=ps.length)
  (hbody:∀(A:vm) (outer:List Env) (s:ο) (H:Hp) (vs:List V) (Q:VK) (E:XK),vG k (A.deeper (envOfC qual scope s.heap.objs.size f cdv))->sp vs H Q E →
   ∃t,PSs (fH CX P w K mg base N qual scope f cdv A outer s H E) body t/\t { nx:=fun _ H'=>Q .non H',rt:=Q } (start N vs) H):
  jI P w K mg base CX (k+1) f (fnOf name qual params body scope dV kV doc pm an cdv ct) ps sp:=by
 refine⟨len,fun A outer s H args us vs Q E hr e0 hb r hsp=>?_⟩;have hl:=len _ _ _ _ hsp;have KX:K.In s.heap:=e0.mod.kin.keeps fun b o e=>(e0.bs b o e).1;have lim:s.heap.NoLimit:=e0.mod.nolimit.keeps fun b o e=>(e0.bs b o e).1;have hkind:∀y∈ps.zip us,scope.names.lookup y.1=some .local\/(scope.names.lookup y.1=some .cell/\((cellsFrom (s.heap.objs.size+1) scope.names []).lookup y.1).isSome=true):=fun ⟨n,v⟩ hy=>by
  rcases S.par n (List.of_mem_zip hy).1 with q|q
  ·exact .inl q
  ·exact .inr ⟨q,PySem.W.cellsFrom_some _ _ _ (.inl q)⟩
 refine codeAny_call_function hr.depth (KX _ _ lk) rfl S.co S.gen rfl (PySem.W.codeRec_of KX hcd) (hb _ _ _ _ ?_);refine wpAny_newFunctionEnv_cells S.kind hkind fun env he s1 x=>?_;subst he;refine⟨lim.keeps x.toInCall.keep,codeAny_func ?_⟩;obtain⟨t,ht,hq⟩:=hbody A outer s H vs Q E (hr.deeper _) hsp;have I:Inv (fH CX P w K mg base N qual scope f cdv A outer s H E) [] (start N vs) H s1:=aAs S hr.hd e0 hl r x;refine ua (ht [] s1 (start N vs) H _ I hq) (fun fl s' hs=>?_) fun e s' hs=>hs;have fin:∀{σ':St}{H':Hp}{v:V}{u:Value},Inv (fH CX P w K mg base N qual scope f cdv A outer s H E) [] σ' H' s'->RelV v u->Q v H'->CE outer P w H s Q u s' :=
  fun {σ' H' v u} J rv q=>⟨v,H',J.os,J.bare,J.base,J.hok,rv,q⟩
 cases fl with
 |ret u =>
  obtain⟨v,σ',H',J,rv,q⟩:=hs;exact fin J rv q
 |next =>
  obtain⟨σ',H',J,q⟩:=hs;exact fin (v:=V.non) (u:=xw) J rfl q
 |brk =>
  obtain⟨_,_,_,q⟩:=hs;exact su q
 |cont =>
  obtain⟨_,_,_,q⟩:=hs;exact su q
section
variable {X:Cx}{x:Str}{p pos:Pos}{e:Expr}{es:List Expr}{t:TA}{id T:String}{r:List V->Hp->VK->Prop}
def tCB (r:List V->Hp->VK->Prop) (t:TA):TE:=fun σ H Q=>t σ H fun vs H1=>r vs H1 Q
theorem jR(hc:vT X (.builtin id) r)(hg:Gl X x)(hm:X.mg x=none)(hv:yi x=some (.builtin id))(ha:PA X (e::es) t)(hn:x ≠ "__name__":=by decide)(hdb:(x == ("__debug__" : Str))=false:=by decide)
  (he:sf (e::es) X.env=(false,eval e X.env)::sf es X.env:=by rfl)(hpl:(yn pos (sf es X.env)).any (·.1)=false:=by rfl):PE X (.Call (.Name x p) (e::es) [] pos) (tCB r t):=by
 intro pins s σ H Q I h;refine xx (lB I hg hm hv ?_ hn hdb);exact AL (thn (ha pos pins s σ H _ I h) fun us s1 ⟨vs,H1,I1,r1,q1⟩=>hc pins s1 σ H1 vs us Q I1 r1 q1) he hpl
theorem qX(hc:vT X (.type T) r)(hg:Gl X x)(hm:X.mg x=none)(hv:yi x=some (.type T))(ha:PA X (e::es) t)(hn:x ≠ "__name__":=by decide)(hdb:(x == ("__debug__" : Str))=false:=by decide)
  (he:sf (e::es) X.env=(false,eval e X.env)::sf es X.env:=by rfl)(hpl:(yn pos (sf es X.env)).any (·.1)=false:=by rfl):PE X (.Call (.Name x p) (e::es) [] pos) (tCB r t):=by
 intro pins s σ H Q I h;refine xx (lB I hg hm hv ?_ hn hdb);exact zc (thn (ha pos pins s σ H _ I h) fun us s1 ⟨vs,H1,I1,r1,q1⟩=>hc pins s1 σ H1 vs us Q I1 r1 q1) he hpl
end
end L2
namespace HT
open PySem PyProof.Rows
section
open PySem.SeqAt
open PySem.AutoSeq1 (wpAny_loadPart')
open PySem.MeetsSeq PySem.MeetsSeq2 PySem.MeetsSeq3
end
section
variable {prog:vh}{w:vy}{A:vm}{E:Value->ο->Prop}{s:ο}
theorem cat_tup{vs ws:List Value}{Q:Value->ο->Prop}(ht:IsTup s.heap t vs.toArray)(hb:IsTup s.heap b ws.toArray)(hv:vs≠[])
  (h1:ws=[]->Q (.ref t) s)(h2:ws≠[]->Q (.ref s.heap.objs.size) { s with heap:=s.heap.push { cls:=.type "tuple",data:=.seq (vs++ws).toArray } })
  (hsz:vs.length+ws.length<=ρ):rj (rl prog w) A (yk .Add (.ref t) (.ref b)) Q E s:=by
 obtain⟨⟨cls,dd,data,sl⟩,ho,hc,n,hd⟩:=id ht;obtain⟨⟨cls2,dd2,data2,sl2⟩,ho2,hc2,n2,hd2⟩:=id hb;simp only at hc hd hc2 hd2;subst hc hd hc2 hd2;have e:vs.toArray++ws.toArray=(vs++ws).toArray:=by simp
 by_cases hw:ws=[]
 ·exact concat_meets ⟨_,ho,rfl⟩ ⟨_,ho2,rfl⟩ noFill_tuple_add seq_tuple_add Av Ao (zw _ _)
   (tuple_addW1 t b vs.toArray ws.toArray n n2 dd dd2 sl sl2 (by simpa using hv) (by simp[hw])) ⟨ho,ho2,h1 hw⟩
 ·refine concat_meets ⟨_,ho,rfl⟩ ⟨_,ho2,rfl⟩ noFill_tuple_add seq_tuple_add Av Ao (zw _ _)
   (tuple_addW2 t b vs.toArray ws.toArray n n2 dd dd2 sl sl2 (by simpa using hv) (by simpa using hw) (by rw[χ,χ];exact hsz)) ⟨ho,ho2,?_⟩
  rw[e];exact h2 hw
def sIx (n d:Nat):Option Int->Nat
 |none=>d
 |some v=>if v<0 then (v+(n:Int)).toNat else min v.toNat n
theorem sIx_none(n d:Nat):sIx n d none=d:=rfl
theorem sIx_nat(n d k:Nat):sIx n d (some (k:Int))=min k n:=by
 show(if (k:Int)<0 then ((k:Int)+(n:Int)).toNat else min (k:Int).toNat n)=min k n;rw[if_neg (by omega),Aw]
end
end HT
namespace L2
open PySem PySem.Spec PyProof.Rows
abbrev TO:=St->Hp->(Option Int->Hp->Prop)->Prop
def PO (X:Cx) (e:Option Expr) (t:TO):Prop :=
 ∀(pins:List (Addr×Obj)) (s:ο) (σ:St) (H:Hp) (Q:Option Int->Hp->Prop),Inv X pins σ H s->t σ H Q →
  rj (rl X.prog X.w) X.A (evalPart e X.env) (fun u s'=>∃o H',Inv X pins σ H' s'/\IsPart u o/\Q o H') X.xe s
def aFy:TO:=fun _ H Q=>Q none H
def tPart (t:TE):TO:=fun σ H Q=>t σ H fun x H1=>∃i,x=.int i/\Q (some i) H1
theorem intsAre_of{ns:List Int}: ∀{us:List Value},kK (ns.map V.int) us->IntsAre us ns:=by
 induction ns with
 |nil=>intro us r;rw[List.map_nil]at r;cases r;exact .nil
 |cons n ns ih =>
  intro us r;rw[uj]at r;cases r with
  |cons r1 r2 =>
   obtain⟨t,e⟩:=r1;subst e;exact .cons n t (ih r2)
section
variable {X:Cx}{e:Expr}{te:TE}{lo hi:Option Expr}{tl th:TO}{pos p2:Pos}
theorem vQ:PO X none aFy:=by
 intro pins s σ H Q I h;rw[evalPart_none];exact Φ ⟨none,H,I,.none,h⟩
theorem vR(h:PE X e te):PO X (some e) (tPart te):=by
 intro pins s σ H Q I hw;rw[evalPart_some];refine thn (h pins s σ H _ I hw) fun u s1 zq=>?_;obtain⟨x,H1,I1,r1,q1⟩:=zq;obtain⟨i,rfl,q⟩:=q1;obtain⟨t,rfl⟩:=r1;exact⟨some i,H1,I1,.int i t,q⟩
def SlR (X:Cx) (r:V->Option Int->Option Int->Hp->VK->Prop):Prop :=
 ∀(pins:List (Addr×Obj)) (s:ο) (σ:St) (H:Hp) (x:V) (v vl vu:Value) (lo hi:Option Int) (sl:Addr) (Q:VK),Inv X pins σ H s->RelV x v->s.heap.IsSliceOf sl vl vu .none->IsPart vl lo->IsPart vu hi->r x lo hi H Q →
  ∃T id,typeLookup (.type T) "__getitem__" = pure (some (.builtin id))/\s.TypeIs v T/\rj (rl X.prog X.w) X.A (getItem v (.ref sl)) (EP X pins σ Q) X.xe s
theorem SlR.or{r r':V->Option Int->Option Int->Hp->VK->Prop}(h:SlR X r)(h':SlR X r'):SlR X (fun x lo hi H Q=>r x lo hi H Q\/r' x lo hi H Q):=by
 intro pins s σ H x v vl vu lo hi sl Q I rx hs pl pu q;rcases q with q|q
 ·exact h pins s σ H x v vl vu lo hi sl Q I rx hs pl pu q
 ·exact h' pins s σ H x v vl vu lo hi sl Q I rx hs pl pu q
def tSl (r:V->Option Int->Option Int->Hp->VK->Prop) (te:TE) (tl th:TO):TE:=fun σ H Q=>te σ H fun x H1=>tl σ H1 fun l H2=>th σ H2 fun u H3=>r x l u H3 Q
theorem vA(hr:SlR X r)(he:PE X e te)(hl:PO X lo tl)(hu:PO X hi th):PE X (.Subscript e (.Slice lo hi none p2) pos) (tSl r te tl th):=by
 intro pins s σ H Q I h;refine Subscript_ (thn (he pins s σ H _ I h) fun v s1 zq=>?_);obtain⟨x,H1,I1,r1,q1⟩:=zq;refine wpAny_Slice (thn (hl pins s1 σ H1 _ I1 q1) fun vl s2 ⟨l,H2,I2,pl,q2⟩=>thn (hu pins s2 σ H2 _ I2 q2) fun vu s3 zq=>?_);obtain⟨u,H3,I3,pu,q3⟩:=zq;rw[evalPart_none];refine Φ ?_;have I4:Inv X pins σ H3 { s3 with heap:=s3.heap.push { cls:=.type "slice",data:=.fields #[vl,vu,.none] } }:=I3.kept (t':=s3.toks) fun b ob q=>ς _ q;obtain⟨T,id,hT,ht,hg⟩:=hr pins { s3 with heap:=s3.heap.push { cls:=.type "slice",data:=.fields #[vl,vu,.none] } } σ H3 x v vl vu l u s3.heap.objs.size Q I4 r1 (vn.IsSliceOf.new ..) pl pu q3;show rj (rl X.prog X.w) X.A (subscriptTail e (.Slice lo hi none p2) v (.ref s3.heap.objs.size)) (EP X pins σ Q) X.xe { s3 with heap:=s3.heap.push { cls:=.type "slice",data:=.fields #[vl,vu,.none] } };exact tail_any (ops:=[.ref s3.heap.objs.size,v]) ht hT hg (by with_unfolding_all rfl)
def fL (xs:List V) (lo hi:Option Int):List V:=(xs.drop (HT.sIx xs.length 0 lo)).take (HT.sIx xs.length xs.length hi-HT.sIx xs.length 0 lo)
theorem rX(xs:List V)(lo hi:Option Int):(fL xs lo hi).length<=xs.length:=by
 unfold fL;rw[rh,xu];omega
def rCatT (K:Ξ):R2:=fun x y H Q=>∃a b xs ys,x=.ref a/\y=.ref b/\SqT K H a xs/\SqT K H b ys/\xs≠[]/\xs.length+ys.length<=ρ ∧
 (ys=[]->Q (.ref a) H)/\(ys≠[]->∀p,H p=none->Q (.ref p) (upd H p (.tup (xs++ys))))
theorem kK.nil_iff(r:kK xs us):us=[] ↔ xs=[]:=by
 cases r with
 |nil=>simp
 |cons _ _=>simp
theorem aGf:OpR X (yk .Add) (rCatT X.K):=by
 intro pins s σ H x y v u Q I rx ry h;obtain⟨a,b,xs,ys,rfl,rfl,ha,hb,hx,hz,q1,q2⟩:=h;cases rx;cases ry;obtain⟨its,r1,p1,_⟩:=I.tuple ha;obtain⟨its2,r2,p2,_⟩:=I.tuple hb;refine HT.cat_tup p1 p2 (fun z=>hx (r1.nil_iff.mp z)) (fun z=>⟨.ref a,H,I,rfl,q1 (r2.nil_iff.mp z)⟩) (fun z=>?_) (by rw[←r1.length,←r2.length];exact hz);refine⟨.ref s.heap.objs.size,_,I.laid (t':=s.toks) (o:=.tup (xs++ys)) (fun b ob q=>ς _ q) (μ _) ?_,rfl,q2 (fun w=>z (r2.nil_iff.mpr w)) _ (I.hok.fresh (μ _))⟩;exact⟨by rw[ζ];exact hz,_,r1.append r2,IsTup.new _ _⟩
end
def ixN (n:Nat) (i:Int):Option Nat:=if 0<=i then (if i<n then some i.toNat else none) else if -(n:Int)<=i then some (i+n).toNat else none
def atI {α : Type}(xs:List α) (i:Int):Option α:=(ixN xs.length i).bind fun j=>xs[j]?
theorem aAi{i:Int}(h:ixN n i=some j):seqIndex? i n=some j/\j<n/\-(n:Int)<=i/\i<n:=by
 unfold ixN at h
 by_cases h0 : 0<=i
 ·rw[if_pos h0]at h
  by_cases h1:i<n
  ·rw[if_pos h1]at h;have e:i.toNat=j:=ux h;exact⟨by rw[seqIndex_of h0 h1,e],by omega,by omega,h1⟩
  ·rw[if_neg h1]at h;cases h
 ·rw[if_neg h0]at h
  by_cases h1 : -(n:Int)<=i
  ·rw[if_pos h1]at h;have e:(i+n).toNat=j:=ux h;exact⟨by rw[seqIndex_neg (by omega) h1,e],by omega,h1,by omega⟩
  ·rw[if_neg h1]at h;cases h
theorem pS{α : Type}{xs:List α}{i:Int}{v : α}(h:atI xs i=some v):∃j,seqIndex? i xs.length=some j/\xs[j]?=some v/\j<xs.length/\-(xs.length:Int)<=i/\i<xs.length:=by
 unfold atI at h;cases e:ixN xs.length i with
 |none=>rw[e]at h;cases h
 |some j =>
  rw[e]at h;obtain⟨h1,h2,h3,h4⟩:=aAi e;exact⟨j,h1,h,h2,h3,h4⟩
theorem yP{α : Type}{xs:List α}{j:Nat}{v : α}(h:xs[j]?=some v):atI xs (j:Int)=some v:=by
 have hj:j<xs.length:=(η.mp h).1;have e:ixN xs.length (j:Int)=some j:=by
  unfold ixN;rw[if_pos (by omega),if_pos (by omega)];simp
 unfold atI;rw[e];exact h
def aFw (b:Expr):Prop:=∀o i,subscripted b false o i=operate [o,i] (getItem o i)
def IxR (X:Cx) (r:R2):Prop :=
 ∀(value slice:Expr) (pins:List (Addr×Obj)) (s:ο) (σ:St) (H:Hp) (x y:V) (v u:Value) (Q:VK),Inv X pins σ H s->RelV x v->RelV y u->r x y H Q →
  subscripted slice false v u=operate [v,u] (getItem v u)->rj (rl X.prog X.w) X.A (subscriptTail value slice v u) (EP X pins σ Q) X.xe s
def MtR (X:Cx) (id:String) (r:V->List V->Hp->VK->Prop):Prop :=
 ∀(pins:List (Addr×Obj)) (s:ο) (σ:St) (H:Hp) (x:V) (xs:List V) (v:Value) (us:List Value) (Q:VK),Inv X pins σ H s->RelV x v->kK xs us->r x xs H Q →
  rj (rl X.prog X.w) X.A (call (.builtin id) (v::us)) (EP X pins σ Q) X.xe s
section
variable {X:Cx}{a b:Expr}{ta tb:TE}{pos:Pos}
theorem IxR.or{r r':R2}(h:IxR X r)(h':IxR X r'):IxR X (fun x y H Q=>r x y H Q\/r' x y H Q):=by
 intro value slice pins s σ H x y v u Q I rx ry q hs;rcases q with q|q
 ·exact h value slice pins s σ H x y v u Q I rx ry q hs
 ·exact h' value slice pins s σ H x y v u Q I rx ry q hs
theorem MtR.or{id:String}{r r':V->List V->Hp->VK->Prop}(h:MtR X id r)(h':MtR X id r'):MtR X id (fun x xs H Q=>r x xs H Q\/r' x xs H Q):=by
 intro pins s σ H x xs v us Q I rx rs q;rcases q with q|q
 ·exact h pins s σ H x xs v us Q I rx rs q
 ·exact h' pins s σ H x xs v us Q I rx rs q
theorem jU(hr:IxR X r)(ha:PE X a ta)(hb:PE X b tb)(hs:aFw b):PE X (.Subscript a b pos) (tOp r ta tb):=by
 intro pins s σ H Q I h;exact Subscript_ (binT ha hb I h fun v u s2 x y H2 I2 rx ry q=>hr a b pins s2 σ H2 x y v u Q I2 rx ry q (hs _ _))
def rIxL (K:Ξ):R2:=fun x y H Q=>∃p xs i v,x=.ref p/\y=.int i/\SqL K H p xs/\atI xs i=some v/\Q v H
def rIxT (K:Ξ):R2:=fun x y H Q=>∃p xs i v,x=.ref p/\y=.int i/\SqT K H p xs/\atI xs i=some v/\Q v H
def rIxS:R2:=fun x y H Q=>∃z i c,x=.str z/\y=.int i/\z.length<=ρ/\atI z.cps.toList i=some c/\Q (.str ⟨#[c]⟩) H
theorem jZ:IxR X (rIxL X.K):=by
 intro value slice pins s σ H x y v u Q I rx ry h hs;obtain⟨p,xs,i,z,rfl,rfl,hq,he,q⟩:=h;cases rx;obtain⟨t,rfl⟩:=ry;obtain⟨its,r,pl,hz⟩:=I.list hq;obtain⟨j,h1,h2,h3,h4,h5⟩:=pS he;obtain⟨w,ew,rw'⟩:=r.get h2;have hl:=r.length;have hn:=dX;have fin:EP X pins σ Q w s:=⟨z,H,I,rw',q⟩
 by_cases h0 : 0<=i
 ·have hj:i.toNat=j:=by
   rw[seqIndex_of h0 h5]at h1;exact ux h1
  exact item_listR pl.isList h0 (by omega) (by rw[hj];simpa using ew) fin hs
 ·have hj:(i+(its.toArray.size:Int)).toNat=j:=by
   rw[seqIndex_neg (by omega) h4]at h1;rw[χ,←hl];exact ux h1
  exact subscriptTail_builtinR (x:=w) pl.isList.typeIs slot_list_getitem.lookup
   (wpAny_getItem_list_neg (Q:=fun r s'=>r=w/\EP X pins σ Q r s') pl.isList (by omega) (by rw[χ] <;> omega) (by omega) (by rw[hj];simpa using ew) ⟨rfl,fin⟩) hs
theorem kO:IxR X (rIxT X.K):=by
 intro value slice pins s σ H x y v u Q I rx ry h hs;obtain⟨p,xs,i,z,rfl,rfl,hq,he,q⟩:=h;cases rx;obtain⟨t,rfl⟩:=ry;obtain⟨its,r,pl,hz⟩:=I.tuple hq;obtain⟨j,h1,h2,h3,h4,h5⟩:=pS he;obtain⟨w,ew,rw'⟩:=r.get h2;have hl:=r.length;have hn:=dX;have fin:EP X pins σ Q w s:=⟨z,H,I,rw',q⟩;exact subscriptTail_builtinR (x:=w) pl.typeIs slot_tuple_getitem.lookup
  (getItem_tuple (j:=j) (Q:=fun r s'=>r=w/\EP X pins σ Q r s') pl (by omega) (by omega) (by rw[χ,←hl];exact h1) (by simpa using ew) ⟨rfl,fin⟩) hs
theorem wB:IxR X rIxS:=by
 intro value slice pins s σ H x y v u Q I rx ry h hs;obtain⟨z,i,c,rfl,rfl,hz,he,q⟩:=h;obtain⟨t,rfl⟩:=rx;obtain⟨t',rfl⟩:=ry;obtain⟨j,h1,h2,h3,h4,h5⟩:=pS he;have hl:z.cps.toList.length=z.length:=by simp[Str.length]
 rw[hl]at h1 h4 h5;have hn:=dX;exact tail_any (typeIs_str s z t) slot_str_getitem.lookup (getItem_str (c:=c) (by
  have e1:decide (i < -(2 ^ 63:Int))=false:=decide_eq_false (by omega);have e2:decide (i≥2 ^ 63)=false:=decide_eq_false (by omega);rw[e1,e2,Bool.or_false]) (by rw[h1];simpa using h2) ⟨.str ⟨#[c]⟩,H,I.tok _,⟨_,rfl⟩,q⟩) hs
theorem uH(its:List Value)(n j:Nat)(u:Value):Obj.mapSeq (·.setIfInBounds j u) { cls:=.type "list",data:=.seq its.toArray n }={ cls:=.type "list",data:=.seq (its.set j u).toArray n }:=by
 simp[Obj.mapSeq]
theorem Inv.lst{pins:List (Addr×Obj)}{σ:St}{H:Hp}{s:ο}{p:Addr}{xs:List V}(I:Inv X pins σ H s)(h:H p=some (.lst xs)):
  ∃(its:List Value) (n:Nat),kK xs its/\s.heap.get? p=some { cls:=.type "list",data:=.seq its.toArray n }/\xs.length<=ρ:=by
 obtain⟨z,its,n,r,e⟩:=I.hok p _ h;exact⟨its,n,r,e,z⟩
theorem Inv.lstUpd{H:Hp}{s:ο}{its its':List Value}{f:Obj->Obj}(I:Inv X pins σ H s)(h:H p=some (.lst xs))
  (ho:s.heap.get? p=some { cls:=.type "list",data:=.seq its.toArray n })(hf:f { cls:=.type "list",data:=.seq its.toArray n }={ cls:=.type "list",data:=.seq its'.toArray n' })(r:kK ys its')(hz:ys.length<=ρ)(t:Nat):
  Inv X pins σ (upd H p (.lst ys)) { s with heap:=s.heap.update p f,toks:=t }:=by
 have e:(s.heap.update p f).get? p=some { cls:=.type "list",data:=.seq its'.toArray n' }:=by
  rw[yd f ho (by rw[hf] <;> rfl),hf]
 refine I.write (x:=p) (e:=p) (by rw[h];trivial) (.inl rfl) (fun b u hb q=>(uq _ _ (va hb)).trans q) ⟨_,e⟩ ?_;exact⟨hz,its',n',r,e⟩
def rSetL:V->V->V->Hp->(Hp->Prop)->Prop:=fun o i v H Q=>∃p xs k j,o=.ref p/\i=.int k/\H p=some (.lst xs)/\ixN xs.length k=some j/\Q (upd H p (.lst (xs.set j v)))
theorem set_list:PSet X rSetL:=by
 intro pins s σ H o i v ov iv u Q I ro ri rv h;obtain⟨p,xs,k,j,rfl,rfl,hp,hj,q⟩:=h;cases ro;obtain⟨t,rfl⟩:=ri;obtain⟨its,n,r,ho,hz⟩:=I.lst hp;obtain⟨h1,h2,h3,h4⟩:=aAi hj;have hl:=r.length;have hn:=dX;have I':Inv X pins σ (upd H p (.lst (xs.set j v))) { s with heap:=s.heap.update p (Obj.mapSeq (·.setIfInBounds j u)) } :=
  I.lstUpd hp ho (uH its n j u) (r.set rv j) (by rw[List.length_set];exact hz) s.toks
 by_cases h0 : 0<=k
 ·have hk:k.toNat=j:=by
   rw[seqIndex_of h0 h4]at h1;exact ux h1
  exact PySem.W.ki_setAt ho h0 (by omega) (by rw[χ,←hl];exact h4) (by rw[hk];exact⟨_,I',q⟩)
 ·have hk:(k+(its.toArray.size:Int)).toNat=j:=by
   rw[seqIndex_neg (by omega) h3]at h1;rw[χ,←hl];exact ux h1
  exact PySem.W.ki_setBack ho (by omega) (by rw[χ,←hl];exact h3) (by omega) (by rw[hk];exact⟨_,I',q⟩)
theorem pZ(lo hi:Option Int)(n:Nat):(Ap lo hi none n).1=((HT.sIx n 0 lo:Nat):Int)/\(Ap lo hi none n).2.1=((HT.sIx n n hi:Nat):Int)/\(Ap lo hi none n).2.2=1:=by
 refine⟨?_,?_,rfl⟩
 ·cases lo with
  |none=>simp[Ap,HT.sIx]
  |some i =>
   simp only[Ap,HT.sIx,Option.getD_none,show(1:Int) > 0 by decide,if_true]
   by_cases h:i<0
   ·simp only[h,if_true] <;> omega
   ·simp only[h,if_false] <;> omega
 ·cases hi with
  |none=>simp[Ap,HT.sIx]
  |some i =>
   simp only[Ap,HT.sIx,Option.getD_none,show(1:Int) > 0 by decide,if_true]
   by_cases h:i<0
   ·simp only[h,if_true] <;> omega
   ·simp only[h,if_false] <;> omega
theorem nB(its:List Value)(lo hi:Option Int):slicePick its.toArray lo hi none=((its.drop (HT.sIx its.length 0 lo)).take (HT.sIx its.length its.length hi-HT.sIx its.length 0 lo)).toArray:=by
 obtain⟨h1,h2,h3⟩:=pZ lo hi its.toArray.size;unfold slicePick;rw[h1,h2,h3];simp only[sliceRange_one,pick_run,χ] <;> rfl
def rSlL (K:Ξ):V->Option Int->Option Int->Hp->VK->Prop:=fun x lo hi H Q=>∃a xs,x=.ref a/\SqL K H a xs/\∀p,H p=none->Q (.ref p) (upd H p (.lst (fL xs lo hi)))
theorem xH:SlR X (rSlL X.K):=by
 intro pins s σ H x v vl vu lo hi sl Q I rx hs pl pu h;obtain⟨a,xs,rfl,hx,q⟩:=h;cases rx;obtain⟨its,r,ht,hz⟩:=I.list hx;have hlen:=r.length;refine⟨"list",_,slot_list_getitem.lookup,ht.isList.typeIs,?_⟩;refine wpAny_getItem_list_slice ht.isList hs pl pu .none (by simp) ?_ (by rw[χ] <;> omega);rw[nB,←hlen];refine⟨.ref s.heap.objs.size,_,I.laid (t':=s.toks) (o:=.lst (fL xs lo hi)) (fun b ob q=>ς _ q) (μ _) ?_,rfl,q _ (I.hok.fresh (μ _))⟩;exact⟨sg (rX xs lo hi) hz,_,0,(r.drop (HT.sIx xs.length 0 lo)).take (HT.sIx xs.length xs.length hi-HT.sIx xs.length 0 lo),sj _ rfl⟩
def zZ:V->Bool
 |.non=>true
 |.bl _=>true
 |.int _=>true
 |.str _=>true
 |_=>false
def eqV:V->V->Bool
 |.non,.non=>true
 |.bl a,.bl b=>a == b
 |.bl a,.int b=>(if a then 1 else 0) == b
 |.int a,.bl b=>a == (if b then 1 else 0)
 |.int a,.int b=>a == b
 |.str a,.str b=>a == b
 |_,_=>false
theorem aEw(ry:RelV y u)(rx:RelV x v)(fy:zZ y=true)(fx:zZ x=true):uc A s u v (eqV y x):=by
 cases y with
 |non =>
  cases ry;cases x with
  |non=>cases rx;exact uc.same _
  |bl b=>cases rx;exact uc.none_bool b
  |int b=>obtain⟨t,rfl⟩:=rx;exact uc.none_int b t
  |str b=>obtain⟨t,rfl⟩:=rx;exact uc.none_str b t
  |_=>exact absurd (show false=true from fx) Ω
 |bl a =>
  cases ry;cases x with
  |non=>cases rx;exact uc.bool_none a
  |bl b=>cases rx;exact uc.bool_bool a b
  |int b=>obtain⟨t,rfl⟩:=rx;exact uc.bool_int a b t
  |str b=>obtain⟨t,rfl⟩:=rx;exact uc.bool_str a b t
  |_=>exact absurd (show false=true from fx) Ω
 |int a =>
  obtain⟨t',rfl⟩:=ry;cases x with
  |non=>cases rx;exact uc.int_none a t'
  |bl b=>cases rx;exact uc.int_bool a t' b
  |int b=>obtain⟨t,rfl⟩:=rx;exact uc.int_int a t' b t
  |str b=>obtain⟨t,rfl⟩:=rx;exact uc.int_str a t' b t
  |_=>exact absurd (show false=true from fx) Ω
 |str a =>
  obtain⟨t',rfl⟩:=ry;cases x with
  |non=>cases rx;exact uc.str_none a t'
  |bl b=>cases rx;exact uc.str_bool a t' b
  |int b=>obtain⟨t,rfl⟩:=rx;exact uc.str_int a t' b t
  |str b=>obtain⟨t,rfl⟩:=rx;exact uc.str_str a t' b t
  |_=>exact absurd (show false=true from fx) Ω
 |_=>exact absurd (show false=true from fy) Ω
def eqU (x:V) (u:Value):Bool:=match u with
 |.none=>eqV .non x
 |.bool b=>eqV (.bl b) x
 |.int i _=>eqV (.int i) x
 |.str z _=>eqV (.str z) x
 |_=>false
theorem aCy(r:RelV y u)(f:zZ y=true):eqU x u=eqV y x:=by
 cases y with
 |non=>cases r;rfl
 |bl b=>cases r;rfl
 |int i=>obtain⟨t,rfl⟩:=r;rfl
 |str z=>obtain⟨t,rfl⟩:=r;rfl
 |_=>exact absurd (show false=true from f) Ω
theorem eQ : ∀{xs:List V}{us:List Value},kK xs us->xs.all zZ=true->us.any (eqU x)=xs.any fun y=>eqV y x
 |_,_,.nil,_=>rfl
 |y::xs,u::us,.cons r t,f=>by
  rw[List.all_cons,ub]at f;rw[AO,AO,aCy r f.1,eQ t f.2]
theorem cK(rx:RelV x v)(fx:zZ x=true):∀{xs:List V}{us:List Value},kK xs us->xs.all zZ=true->∀u∈us,uc A s u v (eqU x u)
 |_,_,.nil,_=>fun u hu=>by cases hu
 |y::xs,u::us,.cons r t,f=>fun u' hu=>by
  rw[List.all_cons,ub]at f;rcases ξ.mp hu with rfl|hu
  ·rw[aCy r f.1];exact aEw r rx f.1 fx
  ·exact cK rx fx t f.2 u' hu
def inV (x:V) (xs:List V):Bool:=xs.any fun y=>eqV y x
def rIn (K:Ξ) (neg:Bool):R2:=fun x y H Q=>∃p xs,y=.ref p/\(SqL K H p xs\/SqT K H p xs)/\zZ x=true/\xs.all zZ=true/\Q (.bl (if neg then !inV x xs else inV x xs)) H
theorem fR:OpR X (vo .In) (rIn X.K false):=by
 intro pins s σ H x y v u Q I rx ry h;obtain⟨p,xs,rfl,hq,fx,fs,q⟩:=h;cases ry;rcases hq with hq|hq
 ·obtain⟨its,r,pl,hz⟩:=I.list hq;refine SeqAt.in_listAt (eqU x) pl.isList (fun w hw=>cK rx fx r fs w (by simpa using hw)) ⟨.bl _,H,I,rfl,?_⟩;rw[show its.toArray.any (eqU x)=its.any (eqU x) by simp,eQ r fs];exact q
 ·obtain⟨its,r,pl,hz⟩:=I.tuple hq;refine SeqAt.in_tupleAt (eqU x) pl (fun w hw=>cK rx fx r fs w (by simpa using hw)) ⟨.bl _,H,I,rfl,?_⟩;rw[show its.toArray.any (eqU x)=its.any (eqU x) by simp,eQ r fs];exact q
theorem pM:OpR X (vo .NotIn) (rIn X.K true):=by
 intro pins s σ H x y v u Q I rx ry h;obtain⟨p,xs,rfl,hq,fx,fs,q⟩:=h;cases ry;rcases hq with hq|hq
 ·obtain⟨its,r,pl,hz⟩:=I.list hq;refine SeqAt.notIn_listAt (eqU x) pl.isList (fun w hw=>cK rx fx r fs w (by simpa using hw)) ⟨.bl _,H,I,rfl,?_⟩;rw[show its.toArray.any (eqU x)=its.any (eqU x) by simp,eQ r fs];exact q
 ·obtain⟨its,r,pl,hz⟩:=I.tuple hq;refine SeqAt.notIn_tupleAt (eqU x) pl (fun w hw=>cK rx fx r fs w (by simpa using hw)) ⟨.bl _,H,I,rfl,?_⟩;rw[show its.toArray.any (eqU x)=its.any (eqU x) by simp,eQ r fs];exact q
theorem jX:vT X (.builtin "len") (fun xs H Q=>∃p ys,xs=[.ref p]/\(SqL X.K H p ys\/SqT X.K H p ys)/\Q (.int ys.length) H):=by
 intro pins s σ H xs us Q I r h;obtain⟨p,ys,rfl,hq,q⟩:=h;obtain⟨u,rfl,rx⟩:=vals1 r;cases rx;have hn:=dX;rcases hq with hq|hq
 ·obtain⟨its,r',pl,hz⟩:=I.list hq;have hlen:=r'.length;exact Calls.call_len_list pl.isList (by simp only[χ] <;> omega) ⟨.int ys.length,H,I.tok _,⟨s.toks+1,by rw[χ,hlen]⟩,q⟩
 ·obtain⟨its,r',pl,hz⟩:=I.tuple hq;have hlen:=r'.length;exact len_tuple pl (by simp only[χ] <;> omega) ⟨.int ys.length,H,I.tok _,⟨s.toks+1,by rw[χ,hlen]⟩,q⟩
theorem vT.or{r r':List V->Hp->VK->Prop}(h:vT X f r)(h':vT X f r'):vT X f (fun xs H Q=>r xs H Q\/r' xs H Q):=by
 intro pins s σ H xs us Q I rs q;rcases q with q|q
 ·exact h pins s σ H xs us Q I rs q
 ·exact h' pins s σ H xs us Q I rs q
theorem pJ:vT X (.type "list") (fun xs H Q=>∃p ys,xs=[.ref p]/\(SqL X.K H p ys\/SqT X.K H p ys)/\∀l,H l=none->Q (.ref l) (upd H l (.lst ys))):=by
 intro pins s σ H xs us Q I r h;obtain⟨p,ys,rfl,hq,q⟩:=h;obtain⟨u,rfl,rx⟩:=vals1 r;cases rx;have fin:∀(its:List Value),kK ys its->ys.length<=ρ->∀(h':vn) (c':Nat),(∀b o',s.heap.get? b=some o'->h'.get? b=some o') →
   h'.get? s.heap.objs.size=some { cls:=.type "list",dict:=none,data:=.seq its.toArray c',slots:=#[] }->EP X pins σ Q (.ref s.heap.objs.size) { s with heap:=h' }:=fun its r' hz h' c' kp e =>
  ⟨.ref s.heap.objs.size,_,I.laid (t':=s.toks) kp (μ _) (show vC X.prog X.w _ h' _ (.lst ys) from⟨hz,its,c',r',e⟩),rfl,q _ (I.hok.fresh (μ _))⟩
 rcases hq with hq|hq
 ·obtain⟨its,r',pl,hz⟩:=I.list hq;have hlen:=r'.length;obtain⟨o,ho,hc,n,hd⟩:=pl.isList;exact call_list_seq p (.inl rfl) ho hc hd (fun h' c' kp e=>fin its r' hz h' c' kp e) (by simp only[χ] <;> omega)
 ·obtain⟨its,r',pl,hz⟩:=I.tuple hq;have hlen:=r'.length;obtain⟨o,ho,hc,n,hd⟩:=pl;exact call_list_seq p (.inr rfl) ho hc hd (fun h' c' kp e=>fin its r' hz h' c' kp e) (by simp only[χ] <;> omega)
theorem zX:vT X (.type "tuple") (fun xs H Q=>∃p ys,xs=[.ref p]/\((SqL X.K H p ys/\∀l,H l=none->Q (.ref l) (upd H l (.tup ys)))\/(SqT X.K H p ys/\Q (.ref p) H))):=by
 intro pins s σ H xs us Q I r h;obtain⟨p,ys,rfl,h⟩:=h;obtain⟨u,rfl,rx⟩:=vals1 r;cases rx;rcases h with⟨hq,q⟩|⟨hq,q⟩
 ·obtain⟨its,r',pl,hz⟩:=I.list hq;have hlen:=r'.length;refine call_tuple_list pl.isList (fun h' kp=>?_) (by simp only[χ] <;> omega);have I1:Inv X pins σ H { s with heap:=h' }:=I.kept (t':=s.toks) kp;have I2:Inv X pins σ (upd H h'.objs.size (.tup ys)) { s with heap:=h'.push { cls:=.type "tuple",data:=.seq its.toArray } } :=
   I1.laid (t':=s.toks) (fun b o e=>ς _ e) (μ _) (show vC X.prog X.w _ _ _ (.tup ys) from⟨hz,its,r',IsTup.new _ _⟩)
  exact⟨.ref h'.objs.size,_,I2,rfl,q _ (I1.hok.fresh (μ _))⟩
 ·obtain⟨its,r',pl,hz⟩:=I.tuple hq;exact call_tuple_same pl ⟨.ref p,H,I,rfl,q⟩
def tyV (K:Ξ) (T:String) (x:V) (H:Hp):Prop:=match x with
 |.str _=>T = "str"
 |.int _=>T = "int"
 |.ref p=>(T = "list"/\∃xs,SqL K H p xs)\/(T = "tuple"/\∃o,K.lookup p=some o/\o.cls=.type "tuple"/\o.dict=none) ∨
   (T = "dict"/\((∃kvs,H p=some (.dK kvs))\/∃kvs,H p=some (.dT kvs)))\/(T = "set"/\∃S n,H p=some (.set S n))
 |_=>False
theorem aIm(I:Inv X pins σ H s)(r:RelV x v)(ty:tyV X.K T x H):
  s.TypeIs v T/\∀a,v=.ref a->∃ob,s.heap.get? a=some ob/\ob.dict=none:=by
 cases x with
 |str z =>
  obtain⟨t,rfl⟩:=r;cases (show T = "str" from ty);exact⟨typeIs_str s z t,fun _ e=>nomatch e⟩
 |int i =>
  obtain⟨t,rfl⟩:=r;cases (show T = "int" from ty);exact⟨typeIs_int s i t,fun _ e=>nomatch e⟩
 |ref p =>
  cases r;rcases ty with⟨rfl,xs,hq⟩|⟨rfl,o,hk,hc,hd⟩|⟨rfl,hk⟩|⟨rfl,S,n,hk⟩
  ·obtain⟨its,_,pl,_⟩:=I.list hq;refine⟨pl.isList.typeIs,fun a e=>?_⟩;cases e;obtain⟨o,n,e,c,hd,_⟩:=pl;exact⟨o,e,hd⟩
  ·refine⟨⟨o,I.kIn p o hk,hc⟩,fun a e=>?_⟩;cases e;exact⟨o,I.kIn _ o hk,hd⟩
  ·have z:∃o,s.heap.get? p=some o/\o.ExactDict:=by
    rcases hk with⟨kvs,hk⟩|⟨kvs,hk⟩
    ·obtain⟨_,_,_,_,o,_,_,e,ex,_⟩:=I.hok p _ hk;exact⟨o,e,ex⟩
    ·obtain⟨_,_,_,_,o,_,_,e,ex,_⟩:=I.hok p _ hk;exact⟨o,e,ex⟩
   obtain⟨o,e,ex⟩:=z;refine⟨⟨o,e,ex.1⟩,fun a e2=>?_⟩;cases e2;exact⟨o,e,ex.2.1⟩
  ·obtain⟨o,_,_,_,e,ex,_⟩:=I.hok p _ hk;refine⟨⟨o,e,ex.1⟩,fun a e2=>?_⟩;cases e2;exact⟨o,e,ex.2.1⟩
 |_=>exact su ty
def tBM (K:Ξ) (T:String) (r:V->List V->Hp->VK->Prop) (to:TE) (t:TA):TE:=fun σ H Q=>to σ H fun x H1=>tyV K T x H1/\t σ H1 fun xs H2=>r x xs H2 Q
variable {o e:Expr}{es:List Expr}{to:TE}{t:TA}{name:Str}{apos cpos:Pos}{T id:String}{r:V->List V->Hp->VK->Prop}
theorem qK(pa:PlainAttrs T)(slot:Slot T name id)(hty:typeOf (.builtin id)=pure (.type "method_descriptor"))(hm:MtR X id r)(ho:PE X o to)(ha:PA X (e::es) t)
  (hbase:za o name X.env (eval o X.env)=eval o X.env:=by rfl)
  (hfew:((yn cpos (sf (e::es) X.env)).all (fun x=>!x.1)&&(backToKw cpos (Am [] X.env)).all (fun x=>x.1.isSome)
   && decide ((e::es).length+([]:List Keyword).length+(if ([]:List Keyword).isEmpty then 0 else 1)<30))=true:=by rfl)
  (hline:(apos.endLine == cpos.line)=true:=by rfl)(hs:sf (e::es) X.env=(false,eval e X.env)::sf es X.env:=by rfl)(hplain:(yn cpos (sf es X.env)).any (·.1)=false:=by rfl):
  PE X (.Call (.Attribute o name apos) (e::es) [] cpos) (tBM X.K T r to t):=by
 intro pins s σ H Q I h;refine wpAny_Call_method_late hbase hfew hline rfl (thn (ho pins s σ H _ I h) fun v s1 zq=>?_);obtain⟨x,H1,I1,r1,ty,q1⟩:=zq;obtain⟨h1,h2⟩:=aIm I1 r1 ty;refine⟨T,id,pa,slot,hty,h1,h2,?_⟩;have hA:=ha cpos pins s1 σ H1 _ I1 q1;rw[hs]at hA ⊢;refine Calls.callWith_builtin (by show(false||(yn cpos (sf es X.env)).any (·.1))=false;rw[hplain] <;> rfl) (Calls.evalArgs_plain ?_);exact thn hA fun us s2 ⟨vs,H2,I2,r2,q2⟩=>hm pins s2 σ H2 x vs v us Q I2 r1 r2 q2
end
def MtM (X:Cx) (id:String) (r:V->List V->Hp->VK->Prop):Prop :=
 ∀(pins:List (Addr×Obj)) (s:ο) (σ:St) (H:Hp) (x:V) (xs:List V) (v:Value) (us:List Value) (Q:VK),Inv X pins σ H s->RelV x v->kK xs us->r x xs H Q →
  rj (rl X.prog X.w) X.A (call (.builtin id) (v::us)) (EP X pins σ Q) X.xe s
theorem kK.one:∀{x:V}{us:List Value},kK [x] us->∃u,us=[u]/\RelV x u
 |_,_,.cons r .nil=>⟨_,rfl,r⟩
theorem kK.two:∀{x y:V}{us:List Value},kK [x,y] us->∃u v,us=[u,v]/\RelV x u/\RelV y v
 |_,_,_,.cons r (.cons q .nil)=>⟨_,_,rfl,r,q⟩
theorem kK.zero:∀{us:List Value},kK [] us->us=[]
 |_,.nil=>rfl
theorem kK.dropLast(h:kK xs us):kK xs.dropLast us.dropLast:=by
 induction h with
 |nil=>exact .nil
 |cons r t ih =>
  cases t with
  |nil=>exact .nil
  |cons q t'=>exact .cons r ih
section
variable {X:Cx}{pins:List (Addr×Obj)}{σ:St}{H:Hp}{s:ο}{l b:Addr}{xs ys zs:List V}
theorem Inv.lset{its its':List Value}{f:Array Value->Array Value}{t':Nat}(I:Inv X pins σ H s)(hH:H l=some (.lst xs))
  (e:s.heap.get? l=some { cls:=.type "list",data:=.seq its.toArray n })(hf:f its.toArray=its'.toArray)(hv:kK ys its')(hz:ys.length<=ρ):
  Inv X pins σ (upd H l (.lst ys)) { s with heap:=s.heap.update l (Obj.mapSeq f),toks:=t' }:=by
 have q:=PySem.IsL.update e f;rw[hf]at q;refine I.write (x:=l) (e:=l) (by rw[hH];exact trivial) (.inl rfl) (fun b' u hb hu=>(uq s.heap (Obj.mapSeq f) (va hb)).trans hu) ⟨_,q⟩ ?_;exact⟨hz,its',_,hv,q⟩
theorem Inv.lnew{t':Nat}(I:Inv X pins σ H s)(hv:kK ys its)(hz:ys.length<=ρ):
  Inv X pins σ (upd H s.heap.objs.size (.lst ys)) { s with heap:=s.heap.push { cls:=.type "list",data:=.seq its.toArray },toks:=t' } :=
 I.laid (fun _ _ q=>ς _ q) (μ _) ⟨hz,its,0,hv,sj _ rfl⟩
theorem Inv.fresh(I:Inv X pins σ H s):H s.heap.objs.size=none:=I.hok.fresh (μ _)
theorem Inv.lstM(I:Inv X pins σ H s)(hH:H l=some (.lst xs)):xs.length<=ρ/\∃(its:List Value) (n:Nat),kK xs its/\xs.length=its.length/\s.heap.get? l=some { cls:=.type "list",data:=.seq its.toArray n }:=by
 obtain⟨z,its,n,r,e⟩:=I.hok l _ hH;exact⟨z,its,n,r,r.length,e⟩
theorem aDa{n:Nat}(h:n<=ρ):zx n=false:=by
 unfold zx;exact decide_eq_false (by omega)
end
section
variable {X:Cx}
def aFj:V->List V->Hp->VK->Prop:=fun x vs H Q=>∃l xs y,x=.ref l/\vs=[y]/\H l=some (.lst xs)/\xs.length<ρ/\Q .non (upd H l (.lst (xs++[y])))
theorem kY:MtM X "list.append" aFj:=by
 intro pins s σ H x vs v us Q I rx rv h;obtain⟨l,xs,y,rfl,rfl,hH,hz,q⟩:=h;cases rx;obtain⟨u,rfl,ru⟩:=rv.one;obtain⟨z,its,n,r,hl,e⟩:=I.lstM hH;refine call_meets F.slot_list_append ⟨_,e,rfl⟩ F.entry_list_append (F.args_list_append_2 _ _) (PySem.list_append l its.toArray n u (by rw[χ];omega)) ⟨e,?_⟩;refine⟨.non,_,I.lset (its':=its++[u]) hH e (by simp) (r.append (.cons ru .nil)) ?_,rfl,q⟩;rw[ζ,uk];omega
def aFi:V->List V->Hp->VK->Prop:=fun x vs H Q=>∃l b xs zs,x=.ref l/\vs=[.ref b]/\H l=some (.lst xs)/\H b=some (.lst zs)/\xs.length+zs.length<=ρ/\Q .non (upd H l (.lst (xs++zs)))
theorem aBt:MtM X "list.extend" aFi:=by
 intro pins s σ H x vs v us Q I rx rv h;obtain⟨l,b,xs,zs,rfl,rfl,hH,hB,hz,q⟩:=h;cases rx;obtain⟨u,rfl,ru⟩:=rv.one;cases ru;obtain⟨z,its,n,r,hl,e⟩:=I.lstM hH;obtain⟨z2,its2,n2,r2,hl2,e2⟩:=I.lstM hB;have hsz:its.toArray.size+its2.toArray.size<=ρ:=by rw[χ,χ];omega
 have hlong:¬ (!its.toArray.isEmpty&&zx (its.toArray.size+its2.toArray.size))=true:=by
  rw[aDa hsz,Bool.and_false];exact Ω
 refine call_meets F.slot_list_extend ⟨_,e,rfl⟩ F.entry_list_extend (F.args_list_extend_2 _ _)
  (AutoSeq1.list_extend_list_list_0 l its.toArray n b its2.toArray n2 hlong (by rw[χ];omega) (by omega)) ⟨e,e2,?_⟩
 refine⟨.non,_,I.lset (its':=its++its2) hH e (by simp) (r.append r2) ?_,rfl,q⟩;rw[ζ];omega
def rCat:R2:=fun x y H Q=>∃l b xs zs,x=.ref l/\y=.ref b/\H l=some (.lst xs)/\H b=some (.lst zs)/\xs.length+zs.length<=ρ/\∀p,H p=none->Q (.ref p) (upd H p (.lst (xs++zs)))
theorem gR:OpR X (yk .Add) rCat:=by
 intro pins s σ H x y v u Q I rx ry h;obtain⟨l,b,xs,zs,rfl,rfl,hH,hB,hz,q⟩:=h;cases rx;cases ry;obtain⟨z,its,n,r,hl,e⟩:=I.lstM hH;obtain⟨z2,its2,n2,r2,hl2,e2⟩:=I.lstM hB;refine PySem.P.add_list e e2 ?_ (by rw[χ,χ];omega);have ea:its.toArray++its2.toArray=(its++its2).toArray:=by simp
 rw[ea];exact⟨.ref _,_,I.lnew (t':=s.toks) (r.append r2) (by rw[ζ];omega),rfl,q _ I.fresh⟩
end
end L2
namespace Att
open PySem PySem.W PySem.Calls PyProof.Rows
theorem iO : ∀(ns:List Int) (vs:List Value),WellAll P h vs (ns.map WData.int)->IntsAre vs ns:=by
 intro ns
 induction ns with
 |nil =>
  intro vs w;rw[List.map_nil]at w;cases w;exact .nil
 |cons n ns ih =>
  intro vs w;rw[uj]at w;cases w with
  |cons a b =>
   cases a;exact .cons _ _ (ih _ b)
theorem aBr{l:OpenLaw}(hn:l.most=some n)
  (hpre:l.row.toRowW.claim.pre args=true)(hwl:WellAll P h vals args):
  ∃a vs ns,vals=[se a]/\args=[WData.list (ns.map WData.int)]/\h.get? a=some { cls:=.type "list",data:=.seq vs.toArray }/\IntsAre vs ns/\ns.length<=n:=by
 have hsh:WShape.hasAll [] args [.list .int]=true:=(pre_splitW hpre).1;have hc:l.pre.holds [] { args:=args }=true:=(pre_splitW hpre).2;obtain⟨d,r,rfl,h1,h2⟩:=hasAllW_cons hsh;obtain rfl:=hasAllW_nil h2;obtain⟨xs,rfl,h3⟩:=hasW_list h1;obtain⟨ns,rfl⟩:=items_int h3;have hlen:ns.length<=n:=by
  unfold OpenLaw.pre at hc;have h4:(WTm.not (.lt (.lit (.int (n:Int))) (.len (.arg 0)))).holds [] { args:=[.list (ns.map .int)] }=true:=by
   have h4:=(holds_andW hc).1;rw[hn]at h4;exact h4
  have h5:=condW_of h4 (w_not (w_lt w_lit (w_len_list (w_arg rfl))));rw[ε]at h5;refine Nat.le_of_not_lt fun q=>?_;have q':(n:Int)<((ns.length:Nat):Int):=by omega
  first
   | (rw[decide_eq_true q']at h5;exact absurd h5 (by decide))
   | (simp at h5;omega)
 cases hwl with
 |cons w1 w2 =>
  cases w2;cases w1 with
  |list ho hall=>exact⟨_,_,ns,rfl,rfl,ho,iO ns _ hall,hlen⟩
theorem aBq(l:OpenLaw)(args:List WData):l.row.toRowW.claim.post args (.bool true) args=true :=
 postW_of (r:=l.row.toRowW) (X:=(true == true))
  (show WShape.has [] (.bool true) .bool=true by first|rfl|decide|simp[WShape.has,WShape.arms,WShape.armsAll])
  (show(WTm.eq .res (.lit (.bool true))).value [] { args:=args,res:=some (.bool true),after:=args }=some (.bool (true == true)) from w_eq_bool (w_res rfl) w_lit) rfl
theorem attach_call{l:OpenLaw}{YP:vy->vn->Prop}{d:DefRec}
  (hn:l.most=some n)(hdf:d.params.defaults=[])
  (call:∀(w:vy) (s₀ s₁ : ο) (mg mb:Str->Option Value) (fa:Addr) (o:Obj) (pm cd doc:Value) (a:Addr) (vs:List Value) (ns:List Int),
   Ground q loose [] XP w s₀ mg mb s₁.heap->YP w s₁.heap →
   s₁.heap.get? fa=some o->o.data=.func (docDef d.name d.params d.body d.scope pm cd doc)->s₁.heap.CodeRec cd d.name->mg d.name=some (.ref fa) →
   s₁.heap.get? a=some { cls:=.type "list",data:=.seq vs.toArray }->IntsAre vs ns->ns.length<=n->s₁.gens = #[] →
   Ag (rl l.prog w) callerA (.call (.ref fa) ⟨[.ref a],[]⟩) (fun r s'=>r=.ok (.ret (.bool true))/\OldK s₁.heap s'.heap/\s'.os=s₁.os/\AllBare s'.gens) s₁):
  WalkO q loose XP YP l.row.toRowW d [] (fun f vs=>PySem.call f vs):=by
 intro w s₀ s₁ mg mb G Y fa o pm cd doc dV kV ho hd hcd hD hmg hg args vals as hpre hlay hrd hwl hlo;obtain rfl:dV=.none:=Dflts.none hD hdf;obtain rfl:kV=.none:=Dflts.noKw hD;obtain⟨a,vs,ns,rfl,rfl,hobj,hints,hlen⟩:=aBr hn hpre hwl;refine enter_call (As (call w s₀ s₁ mg mb fa o pm cd doc a vs ns G Y ho (fd_plain hd) hcd hmg hobj hints hlen hg) fun r s' hq=>?_);obtain⟨rfl,h2,h3,h4⟩:=hq;exact⟨.inl ⟨.bool true,.bool true,[],rfl,fun _=>rfl,.bool true,aBq l _,fun _=>⟨Ax,fun _ hm=>(nomatch hm)⟩⟩,h2,h3,h4⟩
section
variable {prog:vh}{w:vy}{A:vm}{E:Value->ο->Prop}{s:ο}{K:Ξ}
end
end Att
namespace L2
open PySem PySem.Spec PyProof.Rows
theorem oK:∀{vs:List Value}{ns:List Int},IntsAre vs ns->kK (ns.map V.int) vs
 |_,_,.nil=>.nil
 |_,_,.cons n t h=>.cons ⟨t,rfl⟩ (oK h)
def Only (H:Hp):Prop:=∀b,H b=none\/∃o xs,H b=some (.frz o (.lst xs))
theorem aEa{K:Ξ}{mb:Str->Option Value}{CX:CXT}{a:Addr}{x:Str}{sp:Sp}{s₁: ο}{vs:List Value}
  (KX:K.In s₁.heap)(hns:s₁.heap.Ns Ψ mg)(hb:s₁.heap.Ns builtinsNs mb)(hbb:∀x:Str,x ≠ "__name__"->mb x=yi x)(hlim:s₁.heap.NoLimit)(hg:s₁.gens = #[])
  (ha:s₁.heap.get? a=some { cls:=.type "list",data:=.seq vs.toArray })(hi:IntsAre vs ns)(hl:ns.length<=ρ)(hr:vG k callerA)
  (F:∀base:vn,K.In base->base.Ns Ψ mg->jI P w K mg base CX k fa fd [x] sp)(hbind:∀(s:ο) (u:Value),BindsTo s fd ⟨[u],[]⟩ [(x,u)])
  (hsp:∀H:Hp,Only H->SqL K H a (ns.map V.int)->sp [.ref a] H (fun v _=>v=.bl true) fun _ _ _=>False)
  (hCX:∀H e s',CX [] H s₁ (fun _ _ _=>False) e s'->False):
  Ag (rl P w) callerA (.call (.ref fa) ⟨[.ref a],[]⟩) (fun r s'=>r=.ok (.ret (.bool true))/\OldK s₁.heap s'.heap/\s'.os=s₁.os/\AllBare s'.gens) s₁:=by
 have rv:=oK hi;have lenV:=hi.length;have core:∀H:Hp,Only H->SqL K H a (ns.map V.int)->HOk P w H s₁.heap->(∀b,H b≠none->b=a)->(H a≠none->K.lookup a=none) →
   Ag (rl P w) callerA (.call (.ref fa) ⟨[.ref a],[]⟩) (fun r s'=>r=.ok (.ret (.bool true))/\OldK s₁.heap s'.heap/\s'.os=s₁.os/\AllBare s'.gens) s₁:=by
  intro H hO hS hok hA hK;have base_of:∀{b:Addr}{o:Obj},s₁.heap.get? b=some o->H b=none->(oY s₁.heap H).get? b=some o:=fun e n=>aCa e n;have noA:∀{b:Addr}{o:Obj}{es:Array DictEntry}{ep:Nat},s₁.heap.get? b=some o->o.data=.dict es ep->H b=none:=fun {b o es ep} e d=>by
   cases q:H b with
   |none=>rfl
   |some u =>
    have e':b=a:=hA b (by rw[q];simp);subst e';rw[ha]at e;cases e;have d':Data.seq vs.toArray _=Data.dict es ep:=d;cases d'
  have nsK:∀{b:Addr}{m:Str->Option Value},s₁.heap.Ns b m->(oY s₁.heap H).Ns b m:=fun {b m} ⟨o,es,ep,e,d,r⟩=>⟨o,es,ep,base_of e (noA e d),d,r⟩;have hKb:K.In (oY s₁.heap H):=fun b o e=>base_of (KX b o e) (by
   cases q:H b with
   |none=>rfl
   |some u =>
    have e':b=a:=hA b (by rw[q];simp);subst e';rw[hK (by rw[q];simp)]at e;cases e)
  have hM:Mod K mg (oY s₁.heap H):=⟨hKb,nsK hns,⟨mb,nsK hb,hbb⟩,let ⟨mc,h1,h2⟩:=hlim; ⟨mc,nsK h1,h2⟩⟩;have e0:mZ P w K mg (oY s₁.heap H) callerA [] s₁ H:=⟨rfl,hM,fun b o e=>aFb e,Nat.le_of_eq (aBk _ _),trivial,fun b hb=>absurd (show b∈([]:List Addr) from hb) (by simp),hok,.of_eq hg⟩;refine As ((F _ hKb (nsK hns)).run callerA [] s₁ H ⟨[.ref a],[]⟩ [.ref a] [.ref a] _ _ hr e0 (hbind s₁ (.ref a)) (.cons rfl .nil) (hsp H hO hS)) fun r s' h=>?_;cases r with
  |error e=>exact(hCX H e s' h).elim
  |ok fl =>
   cases fl with
   |next=>exact su h
   |brk=>exact su h
   |cont=>exact su h
   |ret u =>
    obtain⟨v,H',os,bare,un,hok',r',q⟩:=h;have q':v=.bl true:=q;subst q';obtain rfl:u=yq true:=r';refine⟨rfl,OldK.of_keep fun b o e=>?_,os,bare⟩;cases q:H b with
    |none=>exact un.keep b o e q (by intro z;exact absurd (show b∈([]:List Addr) from z) (by simp)) (by simp)
    |some u =>
     rcases hO b with z|⟨ob,xs,z⟩
     ·rw[q]at z;cases z
     ·have z2:=un.frzs b ob _ z;obtain⟨e1,_⟩:=hok b _ z;obtain⟨e2,_⟩:=hok' b _ z2;rw[e]at e1;cases e1;exact e2
 cases hk:K.lookup a with
 |some o =>
  have e:=KX a o hk;rw[ha]at e;cases e;refine core (fun _=>none) (fun _=>.inl rfl) (.inr ⟨_,vs.toArray,_,hk,rfl,rfl,rfl,by rw[χ,lenV];exact hl,by simpa using rv⟩) (fun b u z=>by have z':(none:Option HO)=some u:=z;cases z') (fun b z=>absurd rfl z) fun z=>absurd rfl z
 |none =>
  refine core (fun b=>if b=a then some (.frz { cls:=.type "list",data:=.seq vs.toArray } (.lst (ns.map V.int))) else none) (fun b=>?_) (.inl (.inr ⟨{ cls:=.type "list",data:=.seq vs.toArray },if_pos rfl⟩)) (fun b u z=>?_) (fun b z=>?_) fun _=>hk
  ·by_cases hb:b=a
   ·exact .inr ⟨_,_,if_pos hb⟩
   ·exact .inl (if_neg hb)
  ·by_cases hb:b=a
   ·have z':=(if_pos hb).symm.trans z;cases z';subst hb;exact⟨ha,by rw[ε];exact hl,vs,_,rv,ha⟩
   ·have z':=(if_neg hb).symm.trans z;cases z'
  ·by_cases hb:b=a
   ·exact hb
   ·exact absurd (if_neg hb) z
theorem aGd{l:PySem.W.OpenLaw}{YP:vy->vn->Prop}{d:DefRec}{K:Params->Ξ}{CX:vy->CXT}{sp:vy->Sp}{x:Str}
  (hn:l.most=some n)(hn2:n<=ρ)(hdf:d.params.defaults=[])(hr:vG k callerA)
  (hY:∀(w:vy) (h:vn),YP w h->(K w.params).In h)
  (F:∀(w:vy) (mg:Str->Option Value) (fa:Addr) (h:vn),(K w.params).In h->h.Ns Ψ mg->mg d.name=some (.ref fa) →
   ∃fd:sq,(∀(s:ο) (u:Value),BindsTo s fd ⟨[u],[]⟩ [(x,u)]) ∧
    ∀base:vn,(K w.params).In base->base.Ns Ψ mg->jI l.prog w (K w.params) mg base (CX w) k fa fd [x] (sp w))
  (hsp:∀(w:vy) (H:Hp) (a:Addr) (ns:List Int),ns.length<=n->Only H->SqL (K w.params) H a (ns.map V.int)->sp w [.ref a] H (fun v _=>v=.bl true) fun _ _ _=>False)
  (hCX:∀(w:vy) (H:Hp) (s:ο) (e:Value) (s':ο),CX w [] H s (fun _ _ _=>False) e s'->False):
  PySem.W.WalkO q loose XP YP l.row.toRowW d [] (fun f vs=>PySem.call f vs):=by
 refine Att.attach_call hn hdf fun w s₀ s₁ mg mb fa o pm cd doc a vs ns G Y ho hd hcd hmg hobj hints hlen hg=>?_;have KX:=hY w _ Y;obtain⟨fd,hb,hF⟩:=F w mg fa _ KX G.T.g hmg;exact aEa KX G.T.g G.T.b G.T.builtins G.T.nolimit hg hobj hints (sg hlen hn2) hr hF hb (fun H hO hS=>hsp w H a ns hlen hO hS) fun H e s'=>hCX w H s₁ e s'
def inClass (s:Stmt) (j:Nat):Stmt:=match s with
 |.ClassDef _ _ _ body _ _ _ _ _ _ _=>body.getD j (.Pass ⟨0,0,0,0⟩)
 |_=>.Pass ⟨0,0,0,0⟩
def aQ (s:Stmt):Arguments:=match s with
 |.FunctionDef _ a _ _ _ _ _ _ _ _=>a
 |_=>{ posonlyargs:=[],args:=[],vararg:=none,kwonlyargs:=[],kw_defaults:=[],kwarg:=none,defaults:=[] }
def xR (s:Stmt):List Stmt:=match s with
 |.FunctionDef _ _ b _ _ _ _ _ _ _=>b
 |_=>[]
def jH (s:Stmt):Scope:=match s with
 |.FunctionDef _ _ _ _ _ _ sc _ _ _=>sc
 |_=>{ kind:=.function,names:=[],isGenerator:=false,isCoroutine:=false }
abbrev CX0:CXT:=fun _ _ _ _ _ _=>False
abbrev E0:XK:=fun _ _ _=>False
theorem jQ : yK CX0 X E0:=fun _ _ _ _ _ _ _ h=>h.elim
structure Fun (K:Ξ) (x qual:Str) (st:Stmt) (f:Addr) (fd:sq):Prop where
 ex:∃(oc:Value) (od:Option Addr) (kV doc pm:Value) (an:Option Addr) (cdv ct:Value) (osl:Array (Option Value)),
  fd=fnOf x qual (aQ st) (xR st) (jH st) .none kV doc pm an cdv ct/\K.lookup f=some ⟨oc,od,.func fd,osl⟩/\codeIn K cdv qual=true
 kp:keepIn K (.ref f)=true
section
variable {P:vh}{w:vy}{K:Ξ}{mg:Str->Option Value}{base:vn}
theorem Fun.ok{x qual:Str}{st:Stmt}{f:Addr}{fd:sq}{N ps:List Str}{k:Nat}{sp:Sp}(F:Fun K x qual st f fd)(S:jO N ps (jH st))(len:∀vs H Q E,sp vs H Q E->vs.length=ps.length)
  (hbody:∀(cdv:Value) (A:vm) (outer:List Env) (s:ο) (H:Hp) (vs:List V) (Q:VK) (E:XK),vG k (A.deeper (envOfC qual (jH st) s.heap.objs.size f cdv))->sp vs H Q E →
   ∃t,PSs (fH CX0 P w K mg base N qual (jH st) f cdv A outer s H E).nox (xR st) t/\t { nx:=fun _ H'=>Q .non H',rt:=Q } (start N vs) H):jI P w K mg base CX0 (k+1) f fd ps sp:=by
 obtain⟨oc,od,kV,doc,pm,an,cdv,ct,osl,rfl,lk,hcd⟩:=F.ex;refine aGv lk hcd S len fun A outer s H vs Q E hr hsp=>?_;obtain⟨t,h,q⟩:=hbody cdv A outer s H vs Q E hr hsp;exact⟨t,h.nox,q⟩
theorem Fun.binds{x qual:Str}{st:Stmt}{f:Addr}{fd:sq}{ps:List Str}(F:Fun K x qual st f fd)
  (h:∀(kV doc pm:Value) (an:Option Addr) (cdv ct:Value) (us:List Value),us.length=ps.length->bindArgs (fnOf x qual (aQ st) (xR st) (jH st) .none kV doc pm an cdv ct) ⟨us,[]⟩=pure (ps.zip us)):Binds K fd ps []:=by
 obtain⟨oc,od,kV,doc,pm,an,cdv,ct,osl,rfl,lk,hcd⟩:=F.ex;exact .all (h kV doc pm an cdv ct)
theorem aEe{x qual:Str}{st:Stmt}{f:Addr}{oc:Value}{od an:Option Addr}{osl:Array (Option Value)}{kV doc pm cdv ct:Value}(l:K.lookup f=some ⟨oc,od,.func (fnOf x qual (aQ st) (xR st) (jH st) .none kV doc pm an cdv ct),osl⟩)
  (c:codeIn K cdv qual=true)(k:keepIn K (.ref f)=true):Fun K x qual st f (fnOf x qual (aQ st) (xR st) (jH st) .none kV doc pm an cdv ct):=⟨⟨oc,od,kV,doc,pm,an,cdv,ct,osl,rfl,l,c⟩,k⟩
end
theorem kP{n:Nat}(h:n<=1000):n<ρ:=wd h (by decide)
section
variable {X:Cx}
theorem pv(i:Nat)(hN:X.N[i]?=some x:=by rfl)(hv:Vis X.env.scope x:=by first|exact sy rfl|exact Or.inr (sy rfl)|exact Or.inr (Or.inr rfl))(hd:(x == ("__debug__" : Str))=false:=by decide)
  (hcd:(x == ("__classdict__" : Str))=false:=by decide):PE X (.Name x pos) (tVar i):=aIw hN hv hd hcd
end
theorem iteF{A B:Prop}(h:B):if false=true then A else B:=by
 rw[if_neg Ω];exact h
theorem iteT{A B:Prop}(h:A):if true=true then A else B:=by
 rw[if_pos rfl];exact h
theorem vS{c A B:Prop}[Decidable c](h1:c->A)(h2:¬ c->B):if c then A else B:=by
 by_cases h:c
 ·rw[if_pos h];exact h1 h
 ·rw[if_neg h];exact h2 h
def jG (H H':Hp):Prop:=∀b o,H b=some o->H' b=some o
theorem jG.refl(H:Hp):jG H H:=fun _ _ h=>h
theorem jG.trans(a:jG H H1)(b:jG H1 H2):jG H H2:=fun c o h=>b c o (a c o h)
theorem jG.free{H H':Hp}(e:jG H H')(h:H' l=Option.none):H l=Option.none:=by
 cases q:H l with
 |none=>rfl
 |some o =>
  rw[e l o q]at h;cases h
theorem jG.seq{K:Ξ}(e:jG H H')(h:SqL K H a xs):SqL K H' a xs:=by
 rcases h with (h|⟨o,h⟩)|h
 ·exact .inl (.inl (e _ _ h))
 ·exact .inl (.inr ⟨o,e _ _ h⟩)
 ·exact .inr h
end L2
set_option maxHeartbeats 4000000
namespace L2
open PySem PySem.Spec PyProof.Rows
theorem kK.getR:∀{xs:List V}{us:List Value}{i:Nat}{u:Value},kK xs us->us[i]?=some u->∃x,xs[i]?=some x/\RelV x u
 |_,_,_,_,.nil,e=>by simp at e
 |_,_,0,_,.cons r _,e=>by simp at e;subst e;exact⟨_,rfl,r⟩
 |_,_,i+1,u,.cons _ t,e=>by
  obtain⟨x,h1,h2⟩:=kK.getR (i:=i) (u:=u) t (by simpa using e);exact⟨x,by simpa using h1,h2⟩
def isa (t T:String):Bool:=t == T||(t == "bool" && T == "int")
def tyN (K:Ξ) (x:V) (H:Hp) (t:String):Prop :=
 match x with
 |.non=>t = "NoneType"
 |.bl _=>t = "bool"
 |.int _=>t = "int"
 |.str _=>t = "str"
 |.ref p=>(t = "list"/\∃xs,SqL K H p xs)\/(t = "tuple"/\∃xs,SqT K H p xs)
 |_=>False
def wS:List String:=["int","bool","str","list","tuple","dict"]
section
variable {X:Cx}
theorem lG:vT X (.builtin "isinstance") (fun xs H Q=>∃x T t,xs=[x,.ty T]/\T∈wS/\tyN X.K x H t/\Q (.bl (isa t T)) H):=by
 intro pins s σ H xs us Q I r h;obtain⟨x,T,t,rfl,hT,ht,q⟩:=h;obtain⟨u,w',rfl,rx,rT⟩:=vals2 r;cases rT;have hT':T = "int" ∨ T = "bool" ∨ T = "str" ∨ T = "list" ∨ T = "tuple" ∨ T = "dict":=by simpa [wS] using hT
 have fin:∀{k:Bool}{s':ο},isa t T=k->Inv X pins σ H s'->EP X pins σ Q (.bool k) s':=fun {k s'} e I'=>by subst e;exact⟨.bl _,H,I',rfl,q⟩
 cases x with
 |non =>
  cases rx;have ht':t = "NoneType":=ht;subst ht';rcases hT' with rfl|rfl|rfl|rfl|rfl|rfl
  ·exact IsiPair.NoneType_int (fin (by decide) (I.tok _))
  ·exact IsiPair.NoneType_bool (fin (by decide) (I.tok _))
  ·exact IsiPair.NoneType_str (fin (by decide) (I.tok _))
  ·exact IsiPair.NoneType_list (fin (by decide) (I.tok _))
  ·exact IsiPair.NoneType_tuple (fin (by decide) (I.tok _))
  ·exact IsiPair.NoneType_dict (fin (by decide) (I.tok _))
 |bl b =>
  cases rx;have ht':t = "bool":=ht;subst ht';rcases hT' with rfl|rfl|rfl|rfl|rfl|rfl
  ·exact IsiPair.bool_int (fin (by decide) I)
  ·exact IsiPair.bool_bool (fin (by decide) I)
  ·exact IsiPair.bool_str (fin (by decide) (I.tok _))
  ·exact IsiPair.bool_list (fin (by decide) (I.tok _))
  ·exact IsiPair.bool_tuple (fin (by decide) (I.tok _))
  ·exact IsiPair.bool_dict (fin (by decide) (I.tok _))
 |int i =>
  obtain⟨tk,rfl⟩:=rx;have ht':t = "int":=ht;subst ht';rcases hT' with rfl|rfl|rfl|rfl|rfl|rfl
  ·exact IsiPair.int_int (fin (by decide) I)
  ·exact IsiPair.int_bool (fin (by decide) (I.tok _))
  ·exact IsiPair.int_str (fin (by decide) (I.tok _))
  ·exact IsiPair.int_list (fin (by decide) (I.tok _))
  ·exact IsiPair.int_tuple (fin (by decide) (I.tok _))
  ·exact IsiPair.int_dict (fin (by decide) (I.tok _))
 |str y =>
  obtain⟨tk,rfl⟩:=rx;have ht':t = "str":=ht;subst ht';rcases hT' with rfl|rfl|rfl|rfl|rfl|rfl
  ·exact IsiPair.str_int (fin (by decide) (I.tok _))
  ·exact IsiPair.str_bool (fin (by decide) (I.tok _))
  ·exact IsiPair.str_str (fin (by decide) I)
  ·exact IsiPair.str_list (fin (by decide) (I.tok _))
  ·exact IsiPair.str_tuple (fin (by decide) (I.tok _))
  ·exact IsiPair.str_dict (fin (by decide) (I.tok _))
 |ref p =>
  cases rx;have ht':(t = "list"/\∃xs,SqL X.K H p xs)\/(t = "tuple"/\∃xs,SqT X.K H p xs):=ht;rcases ht' with⟨rfl,ys,hy⟩|⟨rfl,ys,hy⟩
  ·obtain⟨its,rv,⟨o,n,e,hc,_,_⟩,hz⟩:=I.list hy;rcases hT' with rfl|rfl|rfl|rfl|rfl|rfl
   ·exact IsiPair.list_int e hc (fin (by decide) (I.tok _))
   ·exact IsiPair.list_bool e hc (fin (by decide) (I.tok _))
   ·exact IsiPair.list_str e hc (fin (by decide) (I.tok _))
   ·exact IsiPair.list_list e hc (fin (by decide) I)
   ·exact IsiPair.list_tuple e hc (fin (by decide) (I.tok _))
   ·exact IsiPair.list_dict e hc (fin (by decide) (I.tok _))
  ·obtain⟨its,rv,⟨o,e,hc,n,_⟩,hz⟩:=I.tuple hy;rcases hT' with rfl|rfl|rfl|rfl|rfl|rfl
   ·exact IsiPair.tuple_int e hc (fin (by decide) (I.tok _))
   ·exact IsiPair.tuple_bool e hc (fin (by decide) (I.tok _))
   ·exact IsiPair.tuple_str e hc (fin (by decide) (I.tok _))
   ·exact IsiPair.tuple_list e hc (fin (by decide) (I.tok _))
   ·exact IsiPair.tuple_tuple e hc (fin (by decide) I)
   ·exact IsiPair.tuple_dict e hc (fin (by decide) (I.tok _))
 |_=>exact(show False from ht).elim
end
section
variable {X:Cx}{pos:Pos}
theorem iL(bs:List Bool):(tw bs.length).all (fun i=>bs.getD i false)=bs.all id:=by
 rw[xi];simp only[ue,Aq,id];constructor
 ·intro h x hx;obtain⟨i,hi,rfl⟩:=List.mem_iff_getElem.mp hx;have:=h i hi;simpa [Θ,θ hi] using this
 ·intro h i hi;have:=h bs[i] (zo hi);simpa [Θ,θ hi] using this
theorem tP(hc:X.calm=true):vT X (.builtin "all") (fun xs H Q=>∃(a:Addr) (bs:List Bool),xs=[.ref a]/\SqL X.K H a (bs.map V.bl)/\Q (.bl (bs.all id)) H):=by
 intro pins s σ H xs us Q I r h;obtain⟨a,bs,rfl,ha,q⟩:=h;obtain⟨u,rfl,rx⟩:=vals1 r;cases rx;obtain⟨its,rv,pl,hz⟩:=I.list ha;have hlen:bs.length=its.length:=by have:=rv.length;simpa using this
 have hlt:a≠s.heap.objs.size:=by obtain⟨o,n,ho,_⟩:=pl;exact sk (ra ho)
 refine call_all_walk (wpAny_pyIter_list pl.isList ?_);refine⟨s.heap.objs.size,_,_,_,_,_,fun i=>bs.getD i false,rfl,Walks.list (show X.A.in1.handled=none from I.ok.hd hc) _ a hlt its.toArray,⟨⟨_,sj _ rfl,rfl,rfl⟩,pl.isList.push _⟩,?_,fun h' tk hk=>?_⟩
 ·intro i v s' Q' E' hP hQ;have hv:its[i]?=some v:=by simpa using hP
  obtain⟨x,hx,rxv⟩:=rv.getR hv;rw[sv]at hx;cases hb:bs[i]? with
  |none=>rw[hb]at hx;cases hx
  |some b =>
   rw[hb]at hx;cases hx;cases rxv;have e:bs.getD i false=b:=by simp[Θ,hb]
   have hQ':Q' (bs.getD i false) s':=hQ;rw[e]at hQ';exact vi hQ'
 ·refine⟨.bl (bs.all id),H,I.kept fun b o e=>hk b o (by simp;exact sk (ra e)) (ς _ e),?_,q⟩;show yq _=yq _;rw[←iL bs,hlen];simp
end
abbrev Cx.comp (X:Cx) (scope:Scope) (cl:List (Str×Addr)) (N:List Str) (s:ο) (H:Hp) (fp:List Addr) (C:Addr):Cx where
 prog:=X.prog
 w:=X.w
 K:=X.K
 mg:=X.mg
 base:=X.base
 A:=X.A
 N:=N
 s₀:=s
 H₀:=H
 env:=compEnvC scope cl C X.env
 outer:=X.stack
 stack:=X.stack
 ex:=fp
 fn:=fun _=>false
 calm:=X.calm
 pn:=[]
 xe:=fun _ _=>False
def cN (env:Env):List (Str×Addr)->Prop
 |[]=>True
 |p::r=>env.cells.lookup p.1=some p.2/\cN env r
theorem cN.all : ∀{cl:List (Str×Addr)},cN env cl->∀p∈cl,env.cells.lookup p.1=some p.2
 |[],_,p,hp=>by simp at hp
 |_::_,h,p,hp=>(ξ.mp hp).elim (fun e=>e ▸ h.1) (cN.all h.2 p)
theorem cN.at(h:cN env cl)(e:cl.lookup x=some c):env.cells.lookup x=some c :=
 h.all (x,c) (ve e)
def iJ (X:Cx) (scope:Scope) (cl:List (Str×Addr)):List Str->List Nat->Prop
 |[],[]=>True
 |y::ys,j::js=>(X.N[j]?=some y/\X.env.kindOf y=some .cell/\(relabel scope X.env).names.lookup y=some .cell/\∃c,cl.lookup y=some c)/\iJ X scope cl ys js
 |_,_=>False
theorem iJ.get : ∀{ys:List Str}{js:List Nat}{k:Nat}{y:Str},iJ X scope cl ys js->ys[k]?=some y →
  ∃j,js[k]?=some j/\X.N[j]?=some y/\X.env.kindOf y=some .cell/\(relabel scope X.env).names.lookup y=some .cell/\∃c,cl.lookup y=some c
 |[],[],k,y,_,e=>by simp at e
 |y'::ys,j::js,0,y,h,e=>by
  simp at e;subst e;exact⟨j,rfl,h.1⟩
 |y'::ys,j::js,k+1,y,h,e=>by
  obtain⟨j',e1,r⟩:=iJ.get (k:=k) h.2 (by simpa using e);exact⟨j',by simpa using e1,r⟩
 |[],_::_,_,_,h,_=>h.elim
 |_::_,[],_,_,h,_=>h.elim
theorem iJ.len : ∀{ys:List Str}{js:List Nat},iJ X scope cl ys js->ys.length=js.length
 |[],[],_=>rfl
 |_::_,_::_,h=>by rw[υ,υ,iJ.len h.2]
 |[],_::_,h=>h.elim
 |_::_,[],h=>h.elim
def eO (k:Nat) (js:List Nat) (σ:St):St:=Au k none++js.map fun j=>σ.getD j none
def PIf (X:Cx) (ifs:List Expr) (t:TT):Prop :=
 ∀(pins:List (Addr×Obj)) (s:ο) (σ:St) (H:Hp) (Q:Bool->Hp->Prop),Inv X pins σ H s->t σ H Q →
  rj (rl X.prog X.w) X.A (forIn ifs true fun c r=>if r=true then do let ok ←isTrue c X.env (eval c X.env);pure (yu ok) else pure (yu r)) (TP X pins σ Q) X.xe s
def tYes:TT:=fun _ H Q=>Q true H
theorem qG : PIf X [] tYes:=fun _ _ _ H _ I h=>wpAny_tests_nil ⟨H,I,h⟩
theorem wV(h:PT X c t):PIf X [c] t:=fun pins s σ H Q I hq=>wpAny_tests_one (h pins s σ H Q I hq)
def mL (J:It) (k:Nat) (js:List Nat) (g:TG) (tc:TT) (te:TE) (σ:St) (Q:VK) (H1:Hp):Prop :=
 ∃W:Nat->Nat->St->List V->Hp->Prop,(∃m,W 0 m (eO k js σ) [] H1)/\∀i m σ' xs H',W i m σ' xs H' →
  (J.stop i H'/\∀p,H' p=none->Q (.ref p) (upd H' p (.lst xs))) ∨
  (J.go i H'/\xs.length<ρ/\∃N:St->List V->Hp->Prop,(∀σ' ys H',N σ' ys H'->∃m',m'<m/\W (i+1) m' σ' ys H') ∧
   ∀x H2,J.yld i H' x H2->g x σ' H2 fun σ3 H3=>tc σ3 H3 fun b H4=>if b=true then te σ3 H4 fun v H5=>N σ3 (xs++[v]) H5 else N σ3 xs H4)
def aCu (wi:TI) (k:Nat) (js:List Nat) (g:TG) (tc:TT) (te:TE):TE:=fun σ H Q=>wi σ H fun J H1=>mL J k js g tc te σ Q H1
section
variable {prog:vh}{w:vy}{A:vm}{R:Result->ο->Prop}{s:ο}
theorem pQ{iter:Expr}{acc:Value}(I:Nat->ο->Prop)
  (turn:∀n s,I n s->rj (rl prog w) A (pyNext it) (fun r s₁=>match r with
   |none=>R (.ok .next) s₁
   |some v=>rj (rl prog w) A (Ad target it v) (fun _ s₀=>rj (rl prog w) A (assign target env v) (fun _ s₂ =>
     rj (rl prog w) A (forIn ifs true fun c r=>if r=true then do let ok ←isTrue c env (eval c env);pure (yu ok) else pure (yu r)) (fun ok s₃ =>
      if ok=true then rj (rl prog w) A (eval elt env) (fun x s₄ =>
       rj (rl prog w) A (call (.builtin "list.append") [acc,x]) (fun _ s₅=>∃m,m<n/\I m s₅) (fun _ _=>False) s₄) (fun _ _=>False) s₃
      else ∃m,m<n/\I m s₃) (fun _ _=>False) s₂) (fun _ _=>False) s₀) (fun _ _=>False) s₁) (fun _ _=>False) s)
  (n:Nat)(h:I n s):Ag (rl prog w) A (.compLoop (.ListComp elt [⟨target,iter,ifs,0⟩] scope pos) 0 it acc env) R s:=by
 refine codeAny_loop rfl I (fun n s hI=>?_) n h;show rj _ A ((compTurn (.ListComp elt [⟨target,iter,ifs,0⟩] scope pos) 0 it acc env).onRaise (fun x=>do noteFrame x env;theTreesLotGoes x)) _ _ s;refine wpAny_noted ?_;rw[compTurn_list];refine ι (ym (ι (ua (turn n s hI) (fun r s₁ h₁=>?_) fun _ _ z=>su z)));cases r with
 |none=>exact Φ h₁
 |some v =>
  refine ι (ua h₁ (fun _ s₀ h₀=>?_) fun _ _ z=>su z);refine ι (ua h₀ (fun _ s₂ h₂=>ι (ua h₂ (fun ok s₃ h₃=>?_) fun _ _ z=>su z)) fun _ _ z=>su z);cases ok with
  |false=>exact Φ ⟨rfl,h₃⟩
  |true =>
   exact ι (ι (ua h₃ (fun x s₄ h₄=>ι (ua h₄ (fun _ s₅ h₅=>Φ (Φ ⟨rfl,h₅⟩)) fun _ _ z=>su z)) fun _ _ z=>su z))
end
theorem HOk.but{H:Hp}{h':vn}(x:HOk P w H h)(hn:H C=none)(k:∀b o,b≠C->h.get? b=some o->h'.get? b=some o):HOk P w H h':=fun b u e =>
 (x b u e).stay (fun c v hc q=>k c v (by
  rcases hc with z|z
  ·intro y;rw[←z,y,hn]at e;cases e
  ·intro y;rw[y,hn]at z;cases z) q) (fun _ q=>q) fun _ _ q=>q
theorem HOk.track{H:Hp}(x:HOk P w H h)(hn:H a=none)(new:vC P w (upd H a o) h a o):HOk P w (upd H a o) h:=fun b u e=>by
 by_cases hb:b=a
 ·subst hb;rw[jL]at e;cases e;exact new
 ·rw[jW hb]at e;exact(x b u e).stay (fun _ _ _ q=>q) (fun c q=>by rw[jW (jK q hn)];exact q) fun c xs q=>by rw[jW (jK q hn)];exact q
section
variable {X:Cx}{elt tg iter:Expr}{ifs:List Expr}{scope:Scope}{cl:List (Str×Addr)}{ts ys:List Str}{js:List Nat}{pos:Pos}{wi:TI}{g:TG}{tc:TT}{te:TE}
theorem aAx{i:Nat}(h:(eO k js σ)[i]?=some (some v)):∃n j,i=k+n/\js[n]?=some j/\σ[j]?=some (some v):=by
 unfold eO at h
 by_cases hi:i<k
 ·rw[rf (by simpa using hi),List.getElem?_replicate]at h
  split at h <;> cases h
 ·rw[Γ (by simpa using hi),sv,yc]at h;cases e:js[i-k]? with
  |none=>rw[e]at h;cases h
  |some j =>
   rw[e]at h;have h' : σ.getD j none=some v:=ux h;refine⟨i-k,j,by omega,e,?_⟩;rw[Θ]at h';cases q : σ[j]? with
   |none=>rw[q]at h';cases h'
   |some o=>rw[q]at h';exact congrArg some h'
theorem tS{s:ο}{fp:List Addr}{C:Addr}{h1:vn}{t':Nat}(I:Inv X pins σ H s)(hsub:cN X.env cl)(hcap:iJ X scope cl ys js)
  (hkind:scope.kind=.function)(hhas:∀x,((relabel scope X.env).names.lookup x=some .cell\/(relabel scope X.env).names.lookup x=some .free)->∃c,cl.lookup x=some c)
  (f2:∀b∈fp,dH X pins H b)(fl:∀b∈fp,b<s.heap.objs.size)(hC:s.heap.objs.size<=C)(hn:h1.Ns C m)(old:∀b o,s.heap.get? b=some o->h1.get? b=some o):
  Inv (X.comp scope cl (ts++ys) s H fp C) [] (eO ts.length js σ) H { s with heap:=h1,toks:=t' }:=by
 obtain⟨mo,hno,hlo⟩:=id I.loc;refine⟨⟨I.ok.mod,hkind,I.ok.glob,I.ok.blt,hC,fun x y c e1 e2=>I.ok.inj x y c (hsub.at e1) (hsub.at e2),fun x hx=>hhas x hx,fun x c z _=>(by cases z),I.ok.hd,I.ok.frames,.inl rfl,
   fun b hb=>⟨sk (ω (fl b hb) hC),fun x c e=>(f2 b hb).2.2.2.2.1 x c (hsub.at e)⟩,I.bs,sg I.ok.bsz I.sz,fun b o e hb=>?_,fun b hb z=>?_,I.stack,I.stkFree⟩,
  rfl,I.bare,Un.kept old,⟨m,hn,fun i x v e1 e2 e3=>?_⟩,fun x c e=>?_,I.hok.fresh hC,fun x c e=>I.freeC x c (hsub.at e),fun p hp=>absurd (show p∈([]:List (Addr×Obj)) from hp) (by simp),I.hok.kept old,?_⟩
 ·-- an object of the base is none of the iterator's
  obtain⟨_,_,_,h3,_⟩:=f2 b hb;rcases h3 with z|z
  ·exact I.ok.noex b o e z
  ·exact absurd (ω (ra e) (sg I.ok.bsz z)) (vq _)
 ·obtain⟨_,h1',h2',_⟩:=f2 b hb;rcases ξ.mp (I.stkSub b z) with e|e
  ·exact h1' e
  ·exact h2' e
 ·obtain⟨n,j,rfl,ej,es⟩:=aAx e2;have ey:ys[n]?=some x:=by
   have e1':(ts++ys)[ts.length+n]?=some x:=e1;rw[Γ (by omega)]at e1';simpa using e1'
  obtain⟨j',ej',hN,hk,hr,c,hc⟩:=hcap.get ey;rw[ej]at ej';cases ej';obtain⟨u,ru,l⟩:=hlo j x v hN es (.inr (.inl hk));refine⟨u,ru,.inr ⟨.inl hr,c,hc,?_⟩⟩;rcases l with⟨k1,_⟩|⟨_,c',hc',⟨o,ho,hd⟩⟩
  ·rw[hk]at k1;cases k1
  ·have:=hsub.at hc;rw[hc']at this;cases this;exact⟨o,old _ o ho,hd⟩
 ·obtain⟨v,o,ho,hd⟩:=I.cell x c (hsub.at e);exact⟨v,o,old _ o ho,hd⟩
 ·show(eO ts.length js σ).length=(ts++ys).length;unfold eO;rw[ζ,ζ,yc,ε,hcap.len]
theorem sX{H3:Hp}{s4:ο}{fp:List Addr}{D:Addr}(I2:Inv X pins σ H2 s2)(f2:∀b∈fp,dH X pins H2 b)
  (I4:Inv (X.comp scope cl N s2 H2 fp C) pins' σ' H3 s4)(hC:s2.heap.objs.size<=C)(hD:s2.heap.objs.size<=D)(hDC:D≠C)(hs':xk C s4.heap h')(rv:kK xs its)(hz:xs.length<=ρ)(e4:s4.heap.get? D=some { cls:=.type "list",data:=.seq its.toArray n })(hn:H3 D=none):
  Inv X pins σ (upd H3 D (.lst xs)) { s4 with heap:=h' }:=by
 have ext:=hs'.extBut;have neC:∀b o,s2.heap.get? b=some o->b≠C:=fun b o e=>sk (ω (ra e) hC);have neD:∀b o,s2.heap.get? b=some o->b≠D:=fun b o e=>sk (ω (ra e) hD);have hok:HOk X.prog X.w (upd H3 D (.lst xs)) h':=by
  have h1:HOk X.prog X.w H3 h':=HOk.but (C:=C) I4.hok I4.free fun b o hb e=>ext b o hb e;exact HOk.track h1 hn ⟨hz,its,n,rv,ext D _ hDC e4⟩
 have B:Un (frs X.stack) fp H2 H3 s2.heap s4.heap:=I4.base;have u:Un (frs X.stack) fp H2 (upd H3 D (.lst xs)) s2.heap h':=by
  refine⟨fun b o e q hb hx=>ext b o (neC b o e) (B.keep b o e q hb hx),fun b o e q hb hx=>?_,fun b o e q hx=>?_,fun b o e hx=>?_,fun b ys q=>?_,fun b o ys q=>?_,fun b ps q=>?_⟩
  ·obtain⟨sl,e1⟩:=B.slot b o e q hb hx;exact⟨sl,ext b _ (neC b o e) e1⟩
  ·rw[jW (neD b o e)];exact B.free b o e q hx
  ·obtain⟨o',e1⟩:=B.there b o e hx;exact⟨o',ext b _ (neC b o e) e1⟩
  ·have:=B.tups b ys q;rw[jW (jK this hn)];exact this
  ·have:=B.frzs b o ys q;rw[jW (jK this hn)];exact this
  ·obtain⟨m1,e1⟩:=B.tbls b ps q;exact⟨m1,by rw[jW (jK e1 hn)];exact e1⟩
 have os:s4.os=s2.os:=I4.os;have gb:=I4.bare;obtain⟨hh,gg,dd,tt,os'⟩:=s4;obtain rfl:os'=s2.os:=os;have fin:=I2.call (h':=h') (g':=gg) (d':=dd) (t':=tt) (ch:=fp) u hok gb fun b hb=>⟨(f2 b hb).2.2.2.1,(f2 b hb).2.1,(f2 b hb).2.2.2.2.1,(f2 b hb).2.2.2.2.2⟩;exact fin
end
abbrev xC (js:List Nat) (σ:St):St:=js.map fun j=>σ.getD j none
def bL (P:Nat->List V->Hp->Prop) (i:Nat) (js:List Nat) (σ:St):St->List V->Hp->Prop:=fun σ' ys H=>P (i+1) ys H/\∃o,σ'=o::xC js σ
theorem xN{K:Ξ}{xs:List V}{k:Nat}{tc:TT}{te:TE}{Q:VK}(P:Nat->List V->Hp->Prop)(h0:P 0 [] H1)(hl:∀i ys H,i<=xs.length->P i ys H->SqL K H a xs/\ys.length<=i)(hz:xs.length<ρ)
  (hs:∀i x ys H,xs[i]?=some x->P i ys H->tc (some x::xC js σ) H fun b H2=>if b=true then te (some x::xC js σ) H2 fun v H3=>bL P i js σ (some x::xC js σ) (ys++[v]) H3 else bL P i js σ (some x::xC js σ) ys H2)
  (hd:∀ys H,P xs.length ys H->∀p,H p=none->Q (.ref p) (upd H p (.lst ys)))(hk:k=1:=by rfl):
  mL (Itl K a) k js (dL 0) tc te σ Q H1:=by
 subst hk;refine⟨fun i m σ' ys H=>m=xs.length-i/\i<=xs.length/\P i ys H/\∃o,σ'=o::xC js σ,⟨xs.length,by simp,sd _,h0,none,rfl⟩,?_⟩;rintro i m σ' ys H ⟨rfl,hi,p,o,rfl⟩;obtain⟨q,hy⟩:=hl i ys H hi p
 by_cases hlt:i<xs.length
 ·refine .inr ⟨⟨xs,xs[i],q,by simp[hlt]⟩,by omega,bL P i js σ,fun σ3 zs H3 z=>⟨xs.length-(i+1),by omega,rfl,hlt,z.1,z.2⟩,fun x H' y=>?_⟩;obtain⟨e,y⟩:=y;subst e;exact hs i x ys _ (y xs q) p
 ·have e:i=xs.length:=by omega
  subst e;exact .inl ⟨⟨xs,q,μ _⟩,hd ys H p⟩
theorem rM{K:Ξ}{xs:List V}{k:Nat}{tc:TT}{te:TE}{Q:VK}(P:Nat->List V->Hp->Prop)(h0:P 0 [] H1)(hl:∀i ys H,i<=xs.length->P i ys H->SqT K H a xs/\ys.length<=i)(hz:xs.length<ρ)
  (hs:∀i x ys H,xs[i]?=some x->P i ys H->tc (some x::xC js σ) H fun b H2=>if b=true then te (some x::xC js σ) H2 fun v H3=>bL P i js σ (some x::xC js σ) (ys++[v]) H3 else bL P i js σ (some x::xC js σ) ys H2)
  (hd:∀ys H,P xs.length ys H->∀p,H p=none->Q (.ref p) (upd H p (.lst ys)))(hk:k=1:=by rfl):
  mL (Itt K a) k js (dL 0) tc te σ Q H1:=by
 subst hk;refine⟨fun i m σ' ys H=>m=xs.length-i/\i<=xs.length/\P i ys H/\∃o,σ'=o::xC js σ,⟨xs.length,by simp,sd _,h0,none,rfl⟩,?_⟩;rintro i m σ' ys H ⟨rfl,hi,p,o,rfl⟩;obtain⟨q,hy⟩:=hl i ys H hi p
 by_cases hlt:i<xs.length
 ·refine .inr ⟨⟨xs,xs[i],q,by simp[hlt]⟩,by omega,bL P i js σ,fun σ3 zs H3 z=>⟨xs.length-(i+1),by omega,rfl,hlt,z.1,z.2⟩,fun x H' y=>?_⟩;obtain⟨e,y⟩:=y;subst e;exact hs i x ys _ (y xs q) p
 ·have e:i=xs.length:=by omega
  subst e;exact .inl ⟨⟨xs,q,μ _⟩,hd ys H p⟩
theorem xL{lo:Int}{n:Nat}{k:Nat}{tc:TT}{te:TE}{Q:VK}(P:Nat->List V->Hp->Prop)(h0:P 0 [] H1)(hl:∀i ys H,i<=n->P i ys H->ys.length<=i)(hz:n<ρ)
  (hs:∀i ys H,i<n->P i ys H->tc (some (.int (lo+i))::xC js σ) H fun b H2=>if b=true then te (some (.int (lo+i))::xC js σ) H2 fun v H3=>bL P i js σ (some (.int (lo+i))::xC js σ) (ys++[v]) H3 else bL P i js σ (some (.int (lo+i))::xC js σ) ys H2)
  (hd:∀ys H,P n ys H->∀p,H p=none->Q (.ref p) (upd H p (.lst ys)))(hk:k=1:=by rfl):
  mL (Itr lo n) k js (dL 0) tc te σ Q H1:=by
 subst hk;refine⟨fun i m σ' ys H=>m=n-i/\i<=n/\P i ys H/\∃o,σ'=o::xC js σ,⟨n,by simp,sd _,h0,none,rfl⟩,?_⟩;rintro i m σ' ys H ⟨rfl,hi,p,o,rfl⟩;have hy:=hl i ys H hi p
 by_cases hlt:i<n
 ·refine .inr ⟨hlt,by omega,bL P i js σ,fun σ3 zs H3 z=>⟨n-(i+1),by omega,rfl,hlt,z.1,z.2⟩,fun x H' y=>?_⟩;obtain⟨e,y⟩:=y;subst e;subst y;exact hs i ys _ hlt p
 ·have e:i=n:=by omega
  subst e;exact .inl ⟨μ _,hd ys H p⟩
section
variable {X:Cx}
theorem aAg(K:Ξ)(h:X.K=K):IxR X (rIxT K):=h ▸ kO
theorem lO(K:Ξ)(h:X.K=K):IxR X (rIxL K):=h ▸ jZ
end
section
variable {κ : Type} [DecidableEq κ]
def bQ (kvs:List (κ×V)) (k : κ):Option V:=(kvs.find? fun kv=>decide (kv.1=k)).map (·.2)
def putK (kvs:List (κ×V)) (k : κ) (v:V):List (κ×V) :=
 if (kvs.any fun kv=>decide (kv.1=k))=true then kvs.map (fun kv=>if kv.1=k then (kv.1,v) else kv) else kvs++[(k,v)]
def aGu (kvs:List (κ×V)) (k : κ):List (κ×V):=kvs.filter fun kv=>decide (kv.1≠k)
theorem lJ{p: κ×V}{r:List (κ×V)}{k: κ}(e:p.1=k):bQ (p::r) k=some p.2:=by simp[bQ,yv,e]
theorem mU{p: κ×V}{r:List (κ×V)}{k: κ}(e:¬ p.1=k):bQ (p::r) k=bQ r k:=by simp[bQ,yv,e]
theorem tI(k : κ):∀kvs:List (κ×V),(kvs.any fun kv=>decide (kv.1=k))=(bQ kvs k).isSome
 |[]=>rfl
 |p::r=>by
  rw[AO]
  by_cases e:p.1=k
  ·simp only[lJ e,decide_eq_true e,Bool.true_or,Option.isSome_some]
  ·rw[mU e,decide_eq_false e,Bool.false_or];exact tI k r
theorem sB(kvs:List (κ×V))(k : κ)(v:V):(putK kvs k v).length<=kvs.length+1:=by
 unfold putK
 split
 ·rw[ε];omega
 ·rw[ζ,υ,List.length_nil];omega
theorem yQ.isSome_eq(r:yQ o u):o.isSome=u.isSome:=by
 cases o with
 |none=>cases u with
  |none=>rfl
  |some _=>exact(show False from r).elim
 |some _=>cases u with
  |none=>exact(show False from r).elim
  |some _=>rfl
theorem yQ.getD(r:yQ o u)(rd:RelV d d'):RelV (o.getD d) (u.getD d'):=by
 cases o with
 |none=>cases u with
  |none=>exact rd
  |some _=>exact(show False from r).elim
 |some _=>cases u with
  |none=>exact(show False from r).elim
  |some _=>exact r
theorem KV.val(r:KV kvs vs)(k : κ):yQ (bQ kvs k) (valueAt vs k):=by
 unfold KV at r
 induction r with
 |nil=>exact ud
 | @cons p q ps qs h t ih =>
  obtain⟨h1,h2⟩:=h
  by_cases e:p.1=k
  ·have e':q.1=k:=h1.symm.trans e;have b:valueAt (q::qs) k=some q.2:=by simp[valueAt,yv,e']
   rw[lJ e,b];exact h2
  ·have e':¬ q.1=k:=fun z=>e (h1.trans z);have b:valueAt (q::qs) k=valueAt qs k:=by simp[valueAt,yv,e']
   rw[mU e,b];exact ih
theorem KV.any(r:KV kvs vs)(k : κ):(kvs.any fun kv=>decide (kv.1=k))=vs.any fun kv=>decide (kv.1=k):=by
 unfold KV at r
 induction r with
 |nil=>rfl
 |cons h t ih=>rw[AO,AO,ih,h.1]
theorem KV.repl(r:KV kvs vs)(k : κ)(ry:RelV y u):
  KV (kvs.map fun kv=>if kv.1=k then (kv.1,y) else kv) (vs.map fun kv=>if kv.1=k then (kv.1,u) else kv):=by
 unfold KV at r ⊢
 induction r with
 |nil=>exact .nil
 | @cons p q ps qs h t ih =>
  rw[uj,uj];refine .cons ?_ ih;obtain⟨h1,h2⟩:=h
  by_cases e:p.1=k
  ·rw[if_pos e,if_pos (h1.symm.trans e)];exact⟨h1,ry⟩
  ·rw[if_neg e,if_neg (fun z=>e (h1.trans z))];exact⟨h1,h2⟩
theorem KV.put(r:KV kvs vs)(k : κ)(ry:RelV y u):KV (putK kvs k y) (stored vs k u):=by
 unfold putK stored;rw[r.any k]
 by_cases e:(vs.any fun kv=>decide (kv.1=k))=true
 ·rw[if_pos e,if_pos e];exact r.repl k ry
 ·rw[if_neg e,if_neg e];exact Paired.snoc r ⟨rfl,ry⟩
theorem KV.drop(r:KV kvs vs)(k : κ):KV (aGu kvs k) (without vs k):=by
 unfold KV at r ⊢;unfold aGu without
 induction r with
 |nil=>exact .nil
 | @cons p q ps qs h t ih =>
  obtain⟨h1,h2⟩:=h;rw[List.filter_cons,List.filter_cons]
  by_cases e:p.1=k
  ·have a:¬ decide (p.1≠k)=true:=by simp[e]
   have b:¬ decide (q.1≠k)=true:=by simp[h1.symm.trans e]
   rw[if_neg a,if_neg b];exact ih
  ·have e':¬ q.1=k:=fun z=>e (h1.trans z);have a:decide (p.1≠k)=true:=by simp[e]
   have b:decide (q.1≠k)=true:=by simp[e']
   rw[if_pos a,if_pos b];exact .cons ⟨h1,h2⟩ ih
theorem KV.keys{kvs:List (κ×V)}{vs:List (κ×Value)}(r:KV kvs vs):kvs.map (·.1)=vs.map (·.1):=by
 unfold KV at r
 induction r with
 |nil=>rfl
 |cons h t ih=>rw[uj,uj,ih,h.1]
theorem KV.length(r:KV kvs vs):kvs.length=vs.length:=Paired.length r
end
theorem wT(r:RelV (kV k) u):(vX P w).is k u=true:=by
 cases k with
 |inl i=>obtain⟨t,e⟩:=(show ∃t,u=Value.int i t from r);subst e;exact sR P w i t
 |inr x=>obtain⟨t,e⟩:=(show ∃t,u=Value.str x t from r);subst e;exact tK P w x t
theorem nZ : ∀{ks:List Key}{us:List Value},kK (ks.map kV) us->ItemsAre (vX P w) ks us
 |[],_,r=>by rw[List.map_nil]at r;cases r;exact .nil
 |k::ks,_,r=>by
  rw[uj]at r;cases r with
  |cons h t=>exact .cons (wT h) (nZ t)
abbrev KT (H:Hp):List (List Key×V)->List (List Key×Addr×Value)->Prop:=Paired fun p q=>p.1=q.1/\H q.2.1=some (.tup (p.1.map kV))/\RelV p.2 q.2.2
theorem KT.val(r:KT H kvs xs)(k:List Key):yQ (bQ kvs k) ((atKey xs k).map (·.2)):=by
 induction r with
 |nil=>exact ud
 | @cons p q ps qs h t ih =>
  obtain⟨h1,_,h2⟩:=h
  by_cases e:p.1=k
  ·have e':q.1=k:=h1.symm.trans e;have b:atKey (q::qs) k=some q.2:=by simp[atKey,yv,e']
   rw[lJ e,b];exact h2
  ·have e':¬ q.1=k:=fun z=>e (h1.trans z);have b:atKey (q::qs) k=atKey qs k:=by simp[atKey,yv,e']
   rw[mU e,b];exact ih
theorem KT.repl(r:KT H kvs xs)(k:List Key)(ry:RelV y u):
  KT H (kvs.map fun kv=>if kv.1=k then (kv.1,y) else kv) (xs.map (putAt k u)):=by
 induction r with
 |nil=>exact .nil
 | @cons p q ps qs h t ih =>
  rw[uj,uj];refine .cons ?_ ih;obtain⟨h1,h2,h3⟩:=h;unfold putAt
  by_cases e:p.1=k
  ·rw[if_pos e,if_pos (h1.symm.trans e)];exact⟨h1,h2,ry⟩
  ·rw[if_neg e,if_neg (fun z=>e (h1.trans z))];exact⟨h1,h2,h3⟩
theorem KT.put{H:Hp}(r:KT H kvs xs)(k:List Key)(hb:H b=some (.tup (k.map kV)))(ry:RelV y u):
  KT H (putK kvs k y) (storedH xs k b u):=by
 have e:(kvs.any fun kv=>decide (kv.1=k))=(atKey xs k).isSome:=by
  rw[tI,(r.val k).isSome_eq,Option.isSome_map]
 unfold putK storedH;rw[e]
 by_cases q:(atKey xs k).isSome=true
 ·rw[if_pos q,if_pos q];exact r.repl k ry
 ·rw[if_neg q,if_neg q];exact Paired.snoc r ⟨rfl,hb,ry⟩
theorem KT.keeps{H H':Hp}(r:KT H kvs xs)(ht:∀b ys,H b=some (.tup ys)->H' b=some (.tup ys)):KT H' kvs xs :=
 Paired.mapP r fun _ _ z=>⟨z.1,ht _ _ z.2.1,z.2.2⟩
section
variable {P:vh}{w:vy}{H:Hp}{h:vn}{a:Addr}
theorem aGq(ok:HOk P w H h)(e:Rd H a u):vC P w H h a u:=e.ok ok
theorem aAq(ok:HOk P w H h)(e:Rd H a (.dK kvs)):kvs.length<=ρ/\(a == zf)=false/\∃vs,KV kvs vs/\h.DictOf (vX P w) a vs :=
 show vC P w H h a (.dK kvs) from aGq ok e
theorem dk_of(ok:HOk P w H h)(e:H a=some (.dK kvs)):kvs.length<=ρ/\(a == zf)=false/\∃vs,KV kvs vs/\h.DictOf (vX P w) a vs:=aAq ok (.inl e)
theorem uV{ks:List Key}(ok:HOk P w H h)(e:H a=some (.tup (ks.map kV))):(tupleKind (vX P w)).is h ks a:=by
 obtain⟨_,its,r,o,h1,h2,n,h3⟩:=(show vC P w H h a (.tup (ks.map kV)) from ok a _ e);exact⟨o,its.toArray,n,h1,h2,h3,by simpa using nZ r⟩
theorem aDf(ok:HOk P w H h)(e:Rd H a (.dT kvs)):kvs.length<=ρ/\(a == zf)=false ∧
  ∃xs,KT H kvs xs/\h.DictOfH (tupleKind (vX P w)) a xs:=by
 obtain⟨z,y,xs,r,o,es,ep,h1,h2,h3,h4,h5⟩:=(show vC P w H h a (.dT kvs) from aGq ok e);refine⟨z,y,xs,r,o,es,ep,h1,h2,h3,h4,fun x hx=>?_,h5⟩;have all:∀{l:List (List Key×V)}{m:List (List Key×Addr×Value)},KT H l m->∀x∈m,(tupleKind (vX P w)).is h x.1 x.2.1:=by
  intro l m q
  induction q with
  |nil=>intro x hx;exact nomatch hx
  | @cons p q ps qs hq t ih =>
   intro x hx;rcases ξ.mp hx with e|hx
   ·subst e;exact uV ok (by rw[←hq.1];exact hq.2.1)
   ·exact ih x hx
 exact all r x hx
end
def gL (H:Hp) (a:Addr) (y:V) (r:Option V):Prop :=
 (∃kvs k,Rd H a (.dK kvs)/\y=kV k/\r=bQ kvs k)\/∃kvs k b,Rd H a (.dT kvs)/\y=.ref b/\H b=some (.tup (k.map kV))/\r=bQ kvs k
theorem gL.k{H:Hp}{a:Addr}{kvs:List (Key×V)}{k:Key}(e:H a=some (.dK kvs)):gL H a (kV k) (bQ kvs k):=.inl ⟨kvs,k,.inl e,rfl,rfl⟩
theorem gL.t{H:Hp}{k:List Key}(e:H a=some (.dT kvs))(eb:H b=some (.tup (k.map kV))):gL H a (.ref b) (bQ kvs k):=.inr ⟨kvs,k,b,.inl e,rfl,eb,rfl⟩
section
variable {X:Cx}{pins:List (Addr×Obj)}{σ:St}{H:Hp}{s:ο}{a:Addr}{y v:V}{u r:Value}{o:Option V}{A:vm}{E:Value->ο->Prop}
theorem Inv.big(I:Inv X pins σ H s):zf<s.heap.objs.size:=by
 have h:Ψ<s.heap.objs.size:=(I.mod.glob.keeps I.bk).lt;exact Nat.lt_trans (by decide) h
theorem aBe{Q:Value->ο->Prop}(hu:A.units+1<cLine)(I:Inv X pins σ H s)(g:gL H a y (some v))(ry:RelV y u)(h:∀w' s',Inv X pins σ H s'->RelV v w'->Q w' s'):
  rj (rl X.prog X.w) A (getItem (.ref a) u) Q E s:=by
 rcases g with⟨kvs,k,e,ey,l⟩|⟨kvs,k,b,e,ey,eb,l⟩
 ·subst ey;obtain⟨z,hd,vs,rel,dd⟩:=aAq I.hok e;obtain⟨w',hw,rw'⟩:=yQ.some_of (v:=v) (o:=valueAt vs k) (by rw[l];exact rel.val k);exact wpAny_getItem_of (wT ry) dd.mapOf hw (h w' _ (I.tok _) rw')
 ·subst ey;cases (show u=se b from ry);obtain⟨z,hd,xs,rel,dd⟩:=aDf I.hok e;obtain⟨w',hw,rw'⟩:=yQ.some_of (v:=v) (o:=(atKey xs k).map (·.2)) (by rw[l];exact rel.val k);obtain⟨p,hp,hp2⟩:=yr.mp hw;refine wpAny_getItem_heap (tupleKind_room_in1 hu) (uV I.hok eb) dd hp ?_;rw[hp2];exact h w' _ (I.tok _) rw'
theorem aFo{Q:Value->ο->Prop}(hu:A.units+1<cLine)(I:Inv X pins σ H s)(g:gL H a y o)(ry:RelV y u)(h:∀s',Inv X pins σ H s'->Q (.bool (!o.isSome)) s'):
  rj (rl X.prog X.w) A (vo .NotIn u (.ref a)) Q E s:=by
 rcases g with⟨kvs,k,e,ey,l⟩|⟨kvs,k,b,e,ey,eb,l⟩
 ·subst ey;obtain⟨z,hd,vs,rel,dd⟩:=aAq I.hok e;refine wpAny_notIn_of (wT ry) hd dd.mapOf ?_;rw[←(rel.val k).isSome_eq,←l];exact h _ (I.tok _)
 ·subst ey;cases (show u=se b from ry);obtain⟨z,hd,xs,rel,dd⟩:=aDf I.hok e;refine wpAny_notIn_heap (tupleKind_room_in1 hu) (uV I.hok eb) hd dd ?_;have q:=(rel.val k).isSome_eq;rw[Option.isSome_map]at q;rw[←q,←l];exact h _ (I.tok _)
theorem aGj{t':Nat}(I:Inv X pins σ H s)(mu:Mut (H a))(hs:xk a s.heap h')(he:∃q,h'.get? a=some q)(new:vC X.prog X.w (upd H a ob) h' a ob):
  Inv X pins σ (upd H a ob) { s with heap:=h',toks:=t' } :=
 I.write (x:=a) (e:=a) mu (.inl rfl) (fun b q hb z=>(hs.2 b hb).trans z) he new
theorem aIn{h':vn}{kvs:List (Key×V)}(z:kvs.length<=ρ)(hd:(a == zf)=false)(rel:KV kvs vs)(dd:h'.DictOf (vX P w) a vs):
  vC P w H' h' a (.dK kvs):=⟨z,hd,vs,rel,dd⟩
end
def NoSl (i:Expr):Prop:=∀ov iv,subscripted i false ov iv=operate [ov,iv] (getItem ov iv)
theorem aGb{prog:vh}{w:vy}{A:vm}{E:Value->ο->Prop}{s:ο}{env:Env}{value slice:Expr}{pos:Pos}{T id:String}{Q:Value->ο->Prop}
  (hl:typeLookup (.type T) "__getitem__" = pure (some (.builtin id)))(hs:NoSl slice)
  (h:rj (rl prog w) A (eval value env) (fun o s₁=>rj (rl prog w) A (eval slice env) (fun i s₂=>s₂.TypeIs o T/\rj (rl prog w) A (getItem o i) Q E s₂) E s₁) E s):
  rj (rl prog w) A (eval (.Subscript value slice pos) env) Q E s:=by
 refine Subscript_ (ua h (fun o s₁ h₁=>ua h₁ (fun i s₂ h₂=>?_) fun _ _ x=>x) fun _ _ x=>x);obtain⟨hT,h₂⟩:=h₂;unfold subscriptTail;refine ι ?_;rw[getitemInPython_of_ne hT.not_modules];refine ι (wpAny_specialOf hT hl ?_);have fin:rj (rl prog w) A (subscripted slice false o i) (fun r s₃=>rj (rl prog w) A (letTemporaryGo value o r >>= fun _=>pure r) Q E s₃) E s₂:=by
  rw[hs o i];exact wpAny_operating (ua h₂ (fun r s₃ h₃=>ι (wpAny_letTemporaryGo (Φ h₃))) fun _ _ x=>x)
 first
  |exact Φ (ι fin)
  |exact ι (Φ (ι fin))
  |exact ι fin
theorem tU(I:Inv X pins σ H s)(g:gL H a y o):s.TypeIs (.ref a) "dict":=by
 rcases g with⟨kvs,k,e,_,_⟩|⟨kvs,k,b,e,_,_,_⟩
 ·obtain⟨_,_,vs,_,dd⟩:=aAq I.hok e;exact dd.typeIs
 ·obtain⟨_,_,xs,_,dd⟩:=aDf I.hok e;exact dd.typeIs
def tDGet (td ty:TE):TE:=fun σ H Q=>td σ H fun x H1=>ty σ H1 fun y H2=>∃a v,x=.ref a/\gL H2 a y (some v)/\Q v H2
def aGh (ty td:TE):TE:=fun σ H Q=>ty σ H fun y H1=>td σ H1 fun x H2=>∃a o,x=.ref a/\gL H2 a y o/\Q (.bl (!o.isSome)) H2
section
variable {X:Cx}{o i e value:Expr}{pos pos' tpos:Pos}{td ty tv:TE}
theorem aAh(hu:X.A.units+1<cLine)(ho:PE X o td)(hi:PE X i ty)(hs:NoSl i):PE X (.Subscript o i pos) (tDGet td ty):=by
 intro pins s σ H Q I h;refine aGb PySem.F.slot_dict_getitem.lookup hs (thn (ho pins s σ H _ I h) fun u s1 ⟨x,H1,I1,rx,q1⟩=>thn (hi pins s1 σ H1 _ I1 q1) fun iv s2 zq=>?_);obtain⟨y,H2,I2,ry,a,v,ex,g,q2⟩:=zq;subst ex;obtain rfl:u=se a:=rx;exact⟨tU I2 g,aBe hu I2 g ry fun w' s3 I3 rw'=>⟨v,H2,I3,rw',q2⟩⟩
theorem aBs(hu:X.A.units+1<cLine)(hi:PE X i ty)(ho:PE X o td):PC X .NotIn i o (aGh ty td):=by
 intro pins s σ H Q I h;refine thn (hi pins s σ H _ I h) fun iv s1 ⟨y,H1,I1,ry,q1⟩=>thn (ho pins s1 σ H1 _ I1 q1) fun u s2 zq=>?_;obtain⟨x,H2,I2,rx,a,ov,ex,g,q2⟩:=zq;subst ex;obtain rfl:u=se a:=rx;exact aFo hu I2 g ry fun s3 I3=>⟨.bl (!ov.isSome),H2,I3,rfl,q2⟩
end
theorem tN(h:vn)(hb:zf<h.objs.size):vC P w H (h.push { cls:=.type "dict",data:=.dict #[] }) h.objs.size (.dK []) :=
 ⟨sd _,beq_eq_false_iff_ne.mpr (va (sk hb)),[],.nil,vn.DictOf.new h⟩
def aHy:TE:=fun _ H Q=>∀p,H p=none->Q (.ref p) (upd H p (.dK []))
section
variable {X:Cx}{pos:Pos}
theorem aDb:PE X (.Dict [] [] pos) aHy:=fun pins s σ H Q I h =>
 wpAny_Dict_empty ⟨.ref s.heap.objs.size,_,I.laid (a:=s.heap.objs.size) (o:=.dK []) (t':=s.toks) (fun _ _ q=>ς _ q) (μ _) (tN s.heap I.big),rfl,h _ (I.hok.fresh (μ _))⟩
end
section
variable {X:Cx}
theorem oC:vT X (.builtin "isinstance") (fun xs H Q=>∃p T kvs,xs=[.ref p,.ty T]/\T∈wS/\H p=some (.dK kvs)/\Q (.bl (isa "dict" T)) H):=by
 intro pins s σ H xs us Q I r h;obtain⟨p,T,kvs,rfl,hT,ht,q⟩:=h;obtain⟨u,w',rfl,rx,rT⟩:=vals2 r;cases rT;cases rx;have hT':T = "int" ∨ T = "bool" ∨ T = "str" ∨ T = "list" ∨ T = "tuple" ∨ T = "dict":=by simpa [wS] using hT
 have fin:∀{k:Bool}{s':ο},isa "dict" T=k->Inv X pins σ H s'->EP X pins σ Q (.bool k) s':=fun {k s'} e I'=>by subst e;exact⟨.bl _,H,I',rfl,q⟩
 obtain⟨_,_,vs,_,o,es,ep,e,hx,_⟩:=I.hok p _ ht;have hc:o.cls=.type "dict":=hx.1;rcases hT' with rfl|rfl|rfl|rfl|rfl|rfl
 ·exact IsiPair.dict_int e hc (fin (by decide) (I.tok _))
 ·exact IsiPair.dict_bool e hc (fin (by decide) (I.tok _))
 ·exact IsiPair.dict_str e hc (fin (by decide) (I.tok _))
 ·exact IsiPair.dict_list e hc (fin (by decide) (I.tok _))
 ·exact IsiPair.dict_tuple e hc (fin (by decide) (I.tok _))
 ·exact IsiPair.dict_dict e hc (fin (by decide) I)
def Itx (x:Str):It:=⟨fun i _=>i<x.cps.size,fun i H v H'=>H'=H/\∃c,x.cps[i]?=some c/\v=.str ⟨#[c]⟩,fun i _=>x.cps.size<=i⟩
theorem aDe{K:Ξ}(it:Addr)(x:Str)(t:Tok)(ty:String)
  (hty : ["enumerate","zip","dict_itemiterator","dict_reverseitemiterator","odict_iterator","itertools.zip_longest","itertools.pairwise"].contains ty=false)
  (W:∀A:vm,A.handled=none->Walks P w A it [it] [it] x.cps.size (SignAt x) (fun i h=>h.IsStrIter it ty x t i))
  (hself:∀(A:vm) (i:Nat) (s:ο) (Q:Value->ο->Prop) (E:Value->ο->Prop),s.heap.IsStrIter it ty x t i->Q (.ref it) s->rj (rl P w) A (pyIter (.ref it)) Q E s):Turn P w K tg (Itx x) [it] it (fun i h=>h.IsStrIter it ty x t i/\i<=x.cps.size) where
 mem:=by simp
 obj:=fun i h st b hb=>by
  have e:b=it:=by simpa using hb
  subst e;obtain⟨⟨o,e,c,d⟩,_⟩:=st;exact⟨o,e,fun v z=>by rw[d]at z;cases z⟩
 keep:=fun i h h' st k=>⟨let ⟨o,ho,r⟩:=st.1; ⟨o,k it (by simp) o ho,r⟩,st.2⟩
 item:=by
  intro X hP hw hK hc i pins s σ H E I hf st hg;subst hP hw hK;obtain⟨f0,f1,f2,f3,f4,f5⟩:=hf it (by simp);refine(W X.A (I.ok.hd hc)).item i s _ _ hg st.1 fun v h' tk hv st' kk=>?_;obtain⟨c,u,hcc,rfl⟩:=hv;have I1:Inv X pins σ H { s with heap:=h',toks:=tk }:=I.turned (fun b o hb e=>kk b o (by simpa using hb) e) f0 f1 f3 f4 f5;obtain⟨o,e,cc,d⟩:=id st';exact⟨_,rfl,wR (s:={ s with heap:=h',toks:=tk }) e cc d hty ⟨.str ⟨#[c]⟩,H,I1,⟨u,rfl⟩,⟨rfl,c,hcc,rfl⟩,⟨st',hg⟩,fun b hb=>(hf b hb).1⟩⟩
 done:=by
  intro X hP hw hK hc i pins s σ H E I hf st hg;subst hP hw hK;obtain⟨f0,f1,f2,f3,f4,f5⟩:=hf it (by simp);have hi:i=x.cps.size:=Nat.le_antisymm st.2 hg;subst hi;exact(W X.A (I.ok.hd hc)).done s _ _ st.1 fun h' tk eb=>⟨rfl,I.turned (fun b o hb e=>eb b o (by simpa using hb) e) f0 f1 f3 f4 f5⟩
 self:=fun A i s Q E st h=>hself A i s Q E st.1 h
def iStr (tl:TE):TI:=fun σ H R=>tl σ H fun v H1=>∃x,v=.str x/\R (Itx x) H1
theorem aJb(hl:PE X l tl):PI X tg l (iStr tl):=by
 intro pins s σ H R I h;refine thn (hl pins s σ H _ I h) fun v s1 zq=>?_;obtain⟨y,H1,I1,r1,q1⟩:=zq;obtain⟨x,e,q⟩:=q1;subst e;obtain⟨t,rfl⟩:=r1;have fin:∀(ty:String) (o:Obj),["enumerate","zip","dict_itemiterator","dict_reverseitemiterator","odict_iterator","itertools.zip_longest","itertools.pairwise"].contains ty=false →
   (∀A:vm,A.handled=none->Walks X.prog X.w A s1.heap.objs.size [s1.heap.objs.size] [s1.heap.objs.size] x.cps.size (SignAt x) (fun i h=>h.IsStrIter s1.heap.objs.size ty x t i)) →
   (∀(A:vm) (i:Nat) (s:ο) (Q:Value->ο->Prop) (E:Value->ο->Prop),s.heap.IsStrIter s1.heap.objs.size ty x t i->Q (.ref s1.heap.objs.size) s->rj (rl X.prog X.w) A (pyIter (.ref s1.heap.objs.size)) Q E s) →
   (s1.heap.push o).IsStrIter s1.heap.objs.size ty x t 0->PIE X pins σ tg R (.ref s1.heap.objs.size) { s1 with heap:=s1.heap.push o }:=fun ty o hty W hs st=>by
  refine⟨s1.heap.objs.size,[s1.heap.objs.size],_,_,H1,rfl,I1.kept (t':=s1.toks) fun b o e=>ς _ e,aDe _ x t ty hty W hs,⟨st,sd _⟩,fun b hb=>?_,q⟩;have e:b=s1.heap.objs.size:=by simpa using hb
  subst e;exact I1.fpOk (μ _) (I1.hok.fresh (μ _))
 cases ha:x.cps.all (·<128)
 ·exact wpAny_pyIter_wide ha (fin "str_iterator" _ (by decide) (fun A hA=>Walks.strWide hA _ x t) (fun A i s Q E st h=>wpAny_pyIter_striter_wide st h) ⟨_,sj _ rfl,rfl,rfl⟩)
 ·exact wpAny_pyIter_ascii ha (fin "str_ascii_iterator" _ (by decide) (fun A hA=>Walks.strAscii hA _ x t) (fun A i s Q E st h=>wpAny_pyIter_striter_ascii st h) ⟨_,sj _ rfl,rfl,rfl⟩)
theorem aCv{x:Str}{k:Nat}{tc:TT}{te:TE}{Q:VK}(P:Nat->List V->Hp->Prop)(h0:P 0 [] H1)(hl:∀i ys H,i<=x.length->P i ys H->ys.length<=i)(hz:x.length<ρ)
  (hs:∀i c ys H,x.cps.toList[i]?=some c->P i ys H->tc (some (.str ⟨#[c]⟩)::xC js σ) H fun b H2=>if b=true then te (some (.str ⟨#[c]⟩)::xC js σ) H2 fun v H3=>bL P i js σ (some (.str ⟨#[c]⟩)::xC js σ) (ys++[v]) H3 else bL P i js σ (some (.str ⟨#[c]⟩)::xC js σ) ys H2)
  (hd:∀ys H,P x.length ys H->∀p,H p=none->Q (.ref p) (upd H p (.lst ys)))(hk:k=1:=by rfl):
  mL (Itx x) k js (dL 0) tc te σ Q H1:=by
 subst hk;refine⟨fun i m σ' ys H=>m=x.cps.size-i/\i<=x.cps.size/\P i ys H/\∃o,σ'=o::xC js σ,⟨x.cps.size,by simp,sd _,h0,none,rfl⟩,?_⟩;rintro i m σ' ys H ⟨rfl,hi,p,o,rfl⟩;have hy:=hl i ys H hi p;have hz':x.cps.size<ρ:=hz
 by_cases hlt:i<x.cps.size
 ·refine .inr ⟨hlt,by omega,bL P i js σ,fun σ3 zs H3 z=>⟨x.cps.size-(i+1),by omega,rfl,hlt,z.1,z.2⟩,fun v H' y=>?_⟩;obtain⟨e,c,hc,y⟩:=y;subst e;subst y;exact hs i c ys _ (by simpa using hc) p
 ·have e:i=x.cps.size:=by omega
  subst e;exact .inl ⟨μ _,hd ys H p⟩
theorem aIb(x:Str)(c:Nat):(!(we x ⟨#[c]⟩ 0 x.length 1).isEmpty)=decide (c∈x.cps.toList):=by
 rw[PyProof.Rows.empty_one,Bool.not_not]
theorem wI{ys:List Str}: ∀{us:List Value},kK (ys.map V.str) us->StrsAre us ys:=by
 induction ys with
 |nil=>intro us r;cases r;exact .nil
 |cons y ys ih =>
  intro us r;cases r with
  |cons a b=>obtain⟨t,rfl⟩:=a;exact .cons _ _ (ih b)
theorem nR:∀(tk:Nat) (ps:List Str),kK (ps.map V.str) (strsFrom tk ps)
 |_,[]=>.nil
 |tk,p::ps=>.cons ⟨_,rfl⟩ (nR (tk+1) ps)
theorem bC:vT X (.type "int") (fun xs H Q=>∃(x:Str) (n:Int),xs=[.str x]/\PySem.intText? x=some n/\x.length<=640/\Q (.int n) H):=by
 intro pins s σ H xs us Q I r h;obtain⟨x,n,rfl,h1,h2,q⟩:=h;obtain⟨u,rfl,t,rfl⟩:=vals1 r;exact PySem.W.KIN.call_text h1 h2 ⟨.int n,H,I.tok _,⟨_,rfl⟩,q⟩
end
end L2
namespace L2
open PySem
theorem kZ{c k p}{es:List Expr}: sf (.Constant c k p::es) env=(false,eval (.Constant c k p) env)::sf es env:=rfl
theorem aFc{xs p}{es:List Expr}: sf (.List xs p::es) env=(false,eval (.List xs p) env)::sf es env:=rfl
theorem aDd{xs k p}{es:List Expr}: sf (.Tuple xs k p::es) env=(false,eval (.Tuple xs k p) env)::sf es env:=rfl
theorem aGg{ks vs p}{es:List Expr}: sf (.Dict ks vs p::es) env=(false,eval (.Dict ks vs p) env)::sf es env:=rfl
end L2
namespace L2
open PySem PySem.Spec PyProof.Rows
structure PEx (X:Cx) (e:Expr) (t:TE):Prop where
 h:PE X e t
structure PAx (X:Cx) (es:List Expr) (t:TA):Prop where
 h:PA X es t
structure aAu (X:Cx) (st:Stmt) (t:TS):Prop where
 h:PS X st t
structure PSx (X:Cx) (sts:List Stmt) (t:TS):Prop where
 h:PSs X sts t
section
variable {X:Cx}{e:Expr}{es:List Expr}{te:TE}{t:TA}{st:Stmt}{rest:List Stmt}{ts us:TS}
theorem aGk:PAx X [] tNil:=⟨jB⟩
theorem vN(ha:PEx X e te)(hr:PAx X es t)(hs:sf (e::es) X.env=(false,eval e X.env)::sf es X.env):PAx X (e::es) (aGz te t):=⟨jA ha.h hr.h hs⟩
theorem xJ(h:PE X e te):PEx X e te:=⟨h⟩
theorem pF(h:PS X st ts):aAu X st ts:=⟨h⟩
theorem aO(h1:aAu X st ts)(h2:PSx X rest us):PSx X (st::rest) (tSeq ts us):=⟨jC h1.h h2.h⟩
theorem oO(h1:aAu X st ts):PSx X [st] ts:=⟨jE h1.h⟩
end
section
variable {X:Cx}
def rCatS (K:Ξ):R2:=fun x y H Q=>∃l b xs zs,x=.ref l/\y=.ref b/\SqL K H l xs/\SqL K H b zs/\xs.length+zs.length<=ρ/\∀p,H p=none->Q (.ref p) (upd H p (.lst (xs++zs)))
theorem pU(l:Addr)(items:Array Value)(n:Nat)(b:Addr)(items2:Array Value)(n2:Nat)(sl sl2:Array (Option Value))(hc0:items.size+items2.size<=ρ):
  Meets (Ae.«list.__add__» ⟨[.ref l,.ref b],[]⟩) (fun _ R s=>s.heap.get? l=some { cls:=.type "list",dict:=none,data:=.seq items n,slots:=sl }/\s.heap.get? b=some { cls:=.type "list",dict:=none,data:=.seq items2 n2,slots:=sl2 }/\R (.ok (.ret (se s.heap.objs.size))) { s with heap:=s.heap.push { cls:=Value.type "list",data:=Data.seq (items++items2) },toks:=s.toks }) :=
 .of_wp fun prog w A R s h=>by obtain⟨hp,g,d,tk,os⟩:=s;obtain⟨hl,hb,h⟩:=h;have f1:=AutoSeq1.idx_int;have f2:=AutoSeq1.sub_tuple_tuple;have f3:=AutoSeq1.sub_list_list;have f4:=AutoSeq1.sub_tuple_list;have f5:=AutoSeq1.sub_list_tuple;wp_walk using AutoSeq1.wpAny_loadPart' hl,AutoSeq1.wpAny_loadPart' hb;exact⟨_,rfl,h⟩
theorem vM:OpR X (yk .Add) (rCatS X.K):=by
 intro pins s σ H x y v u Q I rx ry h;obtain⟨l,b,xs,zs,rfl,rfl,hH,hB,hz,q⟩:=h;cases rx;cases ry;obtain⟨its,r,⟨o,n,e,hc,hdn,hd⟩,_⟩:=I.list hH;obtain⟨its2,r2,⟨o2,n2,e2,hc2,hdn2,hd2⟩,_⟩:=I.list hB;obtain⟨c,d,dt,sl⟩:=o;obtain⟨c2,d2,dt2,sl2⟩:=o2;cases hc;cases hdn;cases hd;cases hc2;cases hdn2;cases hd2;have l1:=r.length;have l2:=r2.length;refine concat_meets ⟨_,e,rfl⟩ ⟨_,e2,rfl⟩ PySem.noFill_list_add PySem.seq_list_add F.slot_list_add F.entry_list_add (F.args_list_add_2 _ _) (pU l its.toArray n b its2.toArray n2 sl sl2 (by rw[χ,χ];omega)) ⟨e,e2,?_⟩;have ea:its.toArray++its2.toArray=(its++its2).toArray:=by simp
 rw[ea];exact⟨.ref _,_,I.lnew (t':=s.toks) (r.append r2) (by rw[ζ];omega),rfl,q _ I.fresh⟩
mutual
inductive Dat (K:Ξ) (H:Hp):V->PyData->Prop
 |non:Dat K H .non .none
 |bl (b:Bool):Dat K H (.bl b) (.bool b)
 |int (i:Int):Dat K H (.int i) (.int i)
 |str (x:Str):Dat K H (.str x) (.str x)
 |lst {a:Addr}{xs:List V}{ds:List PyData} : SqL K H a xs->DatAll K H xs ds->Dat K H (.ref a) (.list ds)
 |tup {a:Addr}{xs:List V}{ds:List PyData} : SqT K H a xs->DatAll K H xs ds->Dat K H (.ref a) (.tuple ds)
inductive DatAll (K:Ξ) (H:Hp):List V->List PyData->Prop
 |nil:DatAll K H [] []
 |cons {x:V}{xs:List V}{d:PyData}{ds:List PyData} : Dat K H x d->DatAll K H xs ds->DatAll K H (x::xs) (d::ds)
end
end
mutual
theorem Dat.same{K:Ξ}(g:jG H H'):∀{x:V}{d:PyData},Dat K H x d->Dat K H' x d
 |_,_,.non=>.non
 |_,_,.bl b=>.bl b
 |_,_,.int i=>.int i
 |_,_,.str x=>.str x
 |_,_,.lst h t=>.lst (g.seq h) (DatAll.same g t)
 |_,_,.tup h t=>.tup (by
   rcases h with (h|⟨o,h⟩)|h
   ·exact .inl (.inl (g _ _ h))
   ·exact .inl (.inr ⟨o,g _ _ h⟩)
   ·exact .inr h) (DatAll.same g t)
theorem DatAll.same{K:Ξ}(g:jG H H'):∀{xs:List V}{ds:List PyData},DatAll K H xs ds->DatAll K H' xs ds
 |_,_,.nil=>.nil
 |_,_,.cons h t=>.cons (Dat.same g h) (DatAll.same g t)
end
section
variable {X:Cx}
theorem rP(hc:X.calm=true):vT X (.builtin "sum") (fun xs H Q=>∃(a:Addr) (ns:List Int),xs=[.ref a]/\SqL X.K H a (ns.map V.int)/\Q (.int ns.sum) H):=by
 intro pins s σ H xs us Q I r h;obtain⟨a,ns,rfl,ha,q⟩:=h;obtain⟨u,rfl,rx⟩:=vals1 r;cases rx;obtain⟨its,rv,pl,_⟩:=I.list ha;have hi:=intsAre_of rv;obtain⟨ys,hy⟩:=hi.allInts.items;refine sum_intListG (I.ok.hd hc) (hy ▸ pl.isList) fun h' tk t' hk=>?_;have e1:ns=ys.toList.map (·.1):=by
  rw[←nums_intItems,←hy];exact(show numsOf its.toArray.toList=ns from hi.numsOf).symm
 rw[preSum_eq,vt (by simp),←e1];exact⟨.int ns.sum,H,I.kept hk,⟨_,rfl⟩,q⟩
end
section
variable {X:Cx}{elt tg iter:Expr}{ifs:List Expr}{scope:Scope}{cl:List (Str×Addr)}{ts ys:List Str}{js:List Nat}{pos:Pos}{wi:TI}{g:TG}{tc:TT}{te:TE}
theorem rN(ts ys:List Str)(js:List Nat)(hc:X.calm=true)(hi:PI X tg iter wi)(hclos:closureFor scope X.env=pure cl)(hsub:cN X.env cl)(hcap:iJ X scope cl ys js)
  (hg:∀s H fp C,PG (X.comp scope cl (ts++ys) s H fp C) tg g)(ht:∀s H fp C,PIf (X.comp scope cl (ts++ys) s H fp C) ifs tc)(he:∀s H fp C,PE (X.comp scope cl (ts++ys) s H fp C) elt te)
  (hkind:scope.kind=.function)(hcell:(scope.names.all fun y=>y.2 != .cell)=true)
  (hnames:(scope.names.all fun y=>y.2 != .local||scope.names.lookup y.1 == some .local)=true)
  (hhas:((relabel scope X.env).names.all fun p=>(p.2 != .cell&&p.2 != .free)||(cl.lookup p.1).isSome)=true)
  (hs:∀x,zd iter X.env x=pure x){s:ο}{H:Hp}{Q:VK}(I:Inv X pins σ H s)(h:aCu wi ts.length js g tc te σ H Q)
  (hfin:∀{H2 H3:Hp}{s2 s4:ο}{fp:List Addr}{C:Addr}{pins':List (Addr×Obj)}{σ':St}{its:List Value}{xs:List V}{n:Nat},Inv X pins σ H2 s2->(∀b∈fp,dH X pins H2 b)->Inv (X.comp scope cl (ts++ys) s2 H2 fp C) pins' σ' H3 s4->s2.heap.objs.size<=C->s2.heap.objs.size≠C->kK xs its->xs.length<=ρ →
   s4.heap.get? s2.heap.objs.size=some { cls:=.type "list",data:=.seq its.toArray n }->H3 s2.heap.objs.size=none->(∀p,H3 p=none->Q (.ref p) (upd H3 p (.lst xs)))->compPost (rl X.prog X.w) X.A X.xe use QV (.ref s2.heap.objs.size) C (.ok .next) s4):
  rj (rl X.prog X.w) X.A (comprehension (.ListComp elt [⟨tg,iter,ifs,0⟩] scope pos) scope X.env p0 (newList []) false (eval iter X.env) use) QV X.xe s:=by
 have hcell':∀y∈scope.names,y.2≠.cell:=fun y hy z=>by
  have:=ue.mp hcell y hy;rw[z]at this;exact absurd this (by decide)
 have hnames':∀y∈scope.names,y.2=.local->scope.names.lookup y.1=some .local:=fun y hy z=>by
  have:=ue.mp hnames y hy;rw[z]at this;simpa using this
 have hhas':∀x,((relabel scope X.env).names.lookup x=some .cell\/(relabel scope X.env).names.lookup x=some .free)->∃c,cl.lookup x=some c:=fun x hx=>by
  rcases hx with hx|hx
  ·have:=ue.mp hhas _ (ve hx);exact wx.mp (by simpa using this)
  ·have:=ue.mp hhas _ (ve hx);exact wx.mp (by simpa using this)
 refine wpAny_comprehension_free (use:=use) rfl hs hclos hkind hnames' (thn (hi pins s σ H _ I h) fun v s1 h1=>thn h1 fun itv s2 h2=>?_);obtain⟨it,fp,tn,J,H2,e,I2,T,st2,f2,W,⟨m0,w0⟩,turn⟩:=h2;subst e;have fl:∀b∈fp,b<s2.heap.objs.size:=fun b hb=>by
  obtain⟨o,e,_⟩:=T.obj _ _ st2 b hb;exact ra e
 refine wpAny_newObj_type (wpAny_newFunctionEnv hcell' (by intro y hy;simp at hy) (fun h₁ hns₁ hsb₁=>?_) hkind);dsimp only at hns₁ hsb₁ ⊢;generalize hHH:s2.heap.push { cls:=.type "list",dict:=none,data:=.seq ([]:List Value).toArray }=HH at hns₁ hsb₁ ⊢;have hC:HH.objs.size=s2.heap.objs.size+1:=by rw[←hHH,zh]
 have hDC:s2.heap.objs.size≠HH.objs.size:=by rw[hC];exact sk (zm _)
 have hCle:s2.heap.objs.size<=HH.objs.size:=by rw[hC];exact An _
 have old:∀b o,s2.heap.get? b=some o->h₁.get? b=some o:=fun b o e =>
  hsb₁.extBut b o (sk (ω (ra e) hCle)) (ς _ (hHH ▸ ς _ e))
 have hacc:h₁.get? s2.heap.objs.size=some { cls:=.type "list",data:=.seq ([]:List Value).toArray }:=hsb₁.extBut _ _ hDC (ς _ (hHH ▸ sj _ rfl));have nofs:∀b,s2.heap.objs.size<=b->b∉frs X.stack:=fun b hb z=>by
  rcases ξ.mp (I2.stkSub b z) with e|e
  ·exact absurd (ω I2.lt (e ▸ hb)) (vq _)
  ·exact I2.nofs hb e
 have nocell:∀b,s2.heap.objs.size<=b->∀x c,cl.lookup x=some c->c≠b:=fun b hb x c e z=>by
  obtain⟨v,q⟩:=I2.cell x c (hsub.at e);exact absurd (ω q.lt (z ▸ hb)) (vq _)
 have I':Inv (X.comp scope cl (ts++ys) s2 H2 fp HH.objs.size) [] (eO ts.length js σ) H2 { s2 with heap:=h₁,toks:=s2.toks+([]:List (Str×Value)).length } :=
  tS I2 hsub hcap hkind hhas' f2 fl hCle hns₁ old
 have addPin:∀{σ':St}{H':Hp}{s':ο}{o:Obj},Inv (X.comp scope cl (ts++ys) s2 H2 fp HH.objs.size) [] σ' H' s'->s'.heap.get? s2.heap.objs.size=some o->H' s2.heap.objs.size=none->(∀v,o.data≠.cell v) →
   Inv (X.comp scope cl (ts++ys) s2 H2 fp HH.objs.size) [(s2.heap.objs.size,o)] σ' H' s':=fun {σ' H' s' o} J e n d=>J.pins_of fun p hp=>by
  have e':p=(s2.heap.objs.size,o):=by simpa using hp
  subst e';exact⟨e,n,hDC,nofs _ (μ _),d⟩
 have stat:∀{pins':List (Addr×Obj)}{H':Hp},(∀p∈pins',p.1=s2.heap.objs.size)->(∀b∈fp,H' b=none)->∀b∈fp,dH (X.comp scope cl (ts++ys) s2 H2 fp HH.objs.size) pins' H' b:=fun {pins' H'} hp hn b hb =>
  ⟨hn b hb,sk (ω (fl b hb) hCle),I'.ok.exfs b hb,.inl hb,(I'.ok.exf b hb).2,fun p hq z=>by
   have hq':p∈pins':=by simpa using hq
   exact absurd (fl b hb) (by rw[←z,hp p hq'];exact vq _)⟩
 have tn1:tn 0 h₁:=T.keep _ _ _ st2 fun b _ o e=>old b o e;have loop:∀s₃ : ο,s₃ = { s2 with heap:=h₁,toks:=s2.toks+([]:List (Str×Value)).length } →
   Ag (rl X.prog X.w) X.A (.compLoop (.ListComp elt [⟨tg,iter,ifs,0⟩] scope pos) 0 (.ref it) (.ref s2.heap.objs.size) (compEnvC scope cl HH.objs.size X.env))
    (compPost (rl X.prog X.w) X.A X.xe use QV (.ref s2.heap.objs.size) HH.objs.size) s₃:=by
  rintro s₃ rfl;refine pQ (fun n s'=>∃i σ' xs H' its nn,Inv (X.comp scope cl (ts++ys) s2 H2 fp HH.objs.size) [] σ' H' s'/\kK xs its/\xs.length<=ρ/\s'.heap.get? s2.heap.objs.size=some { cls:=.type "list",data:=.seq its.toArray nn }/\H' s2.heap.objs.size=none ∧
   tn i s'.heap/\(∀b∈fp,H' b=none)/\W i n σ' xs H') ?_ m0 ⟨0,_,[],H2,[],0,I',.nil,sd _,hacc,I2.hok.fresh (μ _),tn1,fun b hb=>(f2 b hb).1,w0⟩
  rintro n s3 ⟨i,σ3,xs,H3,its,nn,I3,rv,hz3,ac3,nD3,st3,fr3,w3⟩;have nd:∀v,({ cls:=.type "list",data:=.seq its.toArray nn } : Obj).data≠.cell v:=fun v z=>by
   have z':Data.seq its.toArray nn=Data.cell v:=z;cases z'
  have I3p:=addPin I3 ac3 nD3 nd;have pinD:∀p∈[(s2.heap.objs.size,({ cls:=.type "list",data:=.seq its.toArray nn } : Obj))],p.1=s2.heap.objs.size:=fun p hp=>by
   rw[τ]at hp;rw[hp]
  rcases turn i n σ3 xs H3 w3 with⟨stop,qn⟩|⟨go,hz,N,hN,step⟩
  ·refine thn (T.done (X.comp scope cl (ts++ys) s2 H2 fp HH.objs.size) rfl rfl rfl hc i _ s3 σ3 H3 (fun _ _=>False) I3p (stat pinD fr3) st3 stop) fun r s4 zq=>?_;obtain⟨hr,I4⟩:=zq;subst hr;have ac4:=(I4.pin _ (rq _ (τ.mpr rfl))).1;exact hfin I2 f2 I4 hCle hDC rv hz3 ac4 nD3 qn
  ·refine thn (T.item (X.comp scope cl (ts++ys) s2 H2 fp HH.objs.size) rfl rfl rfl hc i _ s3 σ3 H3 (fun _ _=>False) I3p (stat pinD fr3) st3 go) fun r s4 zq=>?_;obtain⟨u,hr,h4⟩:=zq;subst hr;refine thn h4 fun _ s5 zq=>?_;obtain⟨x,H5,I5,r5,y5,st5,fr5⟩:=zq;have I5':=I5.pinned (stat pinD fr5) (T.obj _ _ st5);refine thn (hg _ _ _ _ _ s5 σ3 H5 x u _ I5' r5 (step x H5 y5)) fun _ s6 zq=>?_;obtain⟨σ6,H6,I6,q6⟩:=zq;refine thn (ht _ _ _ _ _ s6 σ6 H6 _ I6 q6) fun b s7 zq=>?_;obtain⟨H7,I7,q7⟩:=zq;have facts:∀{σ':St}{H':Hp}{s':ο},Inv (X.comp scope cl (ts++ys) s2 H2 fp HH.objs.size) ([(s2.heap.objs.size,({ cls:=.type "list",data:=.seq its.toArray nn } : Obj))]++bW fp s5.heap) σ' H' s' →
     s'.heap.get? s2.heap.objs.size=some { cls:=.type "list",data:=.seq its.toArray nn }/\H' s2.heap.objs.size=none/\tn (i+1) s'.heap/\(∀b∈fp,H' b=none):=fun {σ' H' s'} J=>by
    have p1:=J.pin (s2.heap.objs.size,({ cls:=.type "list",data:=.seq its.toArray nn } : Obj)) (by simp);refine⟨p1.1,p1.2.1,T.keep _ _ _ st5 fun b hb o e=>(J.pin (b,o) (rq _ (rq _ (xU hb e)))).1,fun b hb=>?_⟩;obtain⟨o,e,d⟩:=T.obj _ _ st5 b hb;exact(J.pin (b,o) (rq _ (rq _ (xU hb e)))).2.1
   have bare:∀{σ':St}{H':Hp}{s':ο},Inv (X.comp scope cl (ts++ys) s2 H2 fp HH.objs.size) ([(s2.heap.objs.size,({ cls:=.type "list",data:=.seq its.toArray nn } : Obj))]++bW fp s5.heap) σ' H' s' →
     Inv (X.comp scope cl (ts++ys) s2 H2 fp HH.objs.size) [] σ' H' s':=fun J=>J.pins_of fun p hp=>absurd hp (by simp)
   cases b with
   |false =>
    have q7':N σ6 xs H7:=by simpa using q7
    obtain⟨m',hm,w7⟩:=hN _ _ _ q7';obtain⟨a1,a2,a3,a4⟩:=facts I7;show ∃m,m<n/\_;exact⟨m',hm,i+1,σ6,xs,H7,its,nn,bare I7,rv,hz3,a1,a2,a3,a4,w7⟩
   |true =>
    have q7':te σ6 H7 fun v H5=>N σ6 (xs++[v]) H5:=by
     rw[if_pos rfl]at q7;exact q7
    show rj _ _ (eval elt _) _ _ s7;refine thn (he _ _ _ _ _ s7 σ6 H7 _ I7 q7') fun xv s8 zq=>?_;obtain⟨v,H8,I8,r8,n8⟩:=zq;obtain⟨m',hm,w8⟩:=hN _ _ _ n8;obtain⟨a1,a2,a3,a4⟩:=facts I8;have hl:=rv.length;refine call_meets F.slot_list_append ⟨_,a1,rfl⟩ F.entry_list_append (F.args_list_append_2 _ _) (PySem.list_append s2.heap.objs.size its.toArray nn xv (by rw[χ];omega)) ⟨a1,?_⟩;obtain⟨n9,q9⟩ : ∃n9,(s8.heap.update s2.heap.objs.size (Obj.mapSeq fun a=>a.push xv)).get? s2.heap.objs.size=some { cls:=.type "list",data:=.seq (its++[xv]).toArray n9 } :=
     ⟨_,by rw[show(its++[xv]).toArray=its.toArray.push xv by simp];exact PySem.IsL.update a1 (fun a=>a.push xv)⟩
    have I9:Inv (X.comp scope cl (ts++ys) s2 H2 fp HH.objs.size) [] σ6 H8 { s8 with heap:=s8.heap.update s2.heap.objs.size (Obj.mapSeq fun a=>a.push xv),toks:=s8.toks } :=
     (bare I8).turned (it:=s2.heap.objs.size) (fun b o hb e=>(uq s8.heap _ (va hb)).trans e) a2 hDC (.inr (μ _)) (nocell _ (μ _)) fun p hp=>absurd (show p∈([]:List (Addr×Obj)) from hp) (by simp)
    refine⟨m',hm,i+1,σ6,xs++[v],H8,its++[xv],n9,I9,rv.append (.cons r8 .nil),?_,q9,a2,?_,a4,w8⟩
    ·rw[ζ,uk];omega
    ·exact T.keep _ _ _ a3 fun b hb o e=>(uq s8.heap _ (va (sk (fl b hb)))).trans e
 exact codeAny_compStart_list (loop _ rfl) (T.self _ 0 _ _ _ tn1 (loop _ rfl))
theorem qI(ts ys:List Str)(js:List Nat)(hc:X.calm=true)(hi:PI X tg iter wi)(hclos:closureFor scope X.env=pure cl)(hsub:cN X.env cl)(hcap:iJ X scope cl ys js)
    (hg:∀s H fp C,PG (X.comp scope cl (ts++ys) s H fp C) tg g)(ht:∀s H fp C,PIf (X.comp scope cl (ts++ys) s H fp C) ifs tc)(he:∀s H fp C,PE (X.comp scope cl (ts++ys) s H fp C) elt te)
    (hkind:scope.kind=.function:=by rfl)(hcell:(scope.names.all fun y=>y.2 != .cell)=true:=by rfl)
    (hnames:(scope.names.all fun y=>y.2 != .local||scope.names.lookup y.1 == some .local)=true:=by rfl)
    (hhas:((relabel scope X.env).names.all fun p=>(p.2 != .cell&&p.2 != .free)||(cl.lookup p.1).isSome)=true:=by rfl)
    (hs:∀x,zd iter X.env x=pure x:=by intro _;rfl):PE X (.ListComp elt [⟨tg,iter,ifs,0⟩] scope pos) (aCu wi ts.length js g tc te):=by
  intro pins s σ H Q I h;rw[eval_ListComp];refine rN (use:=none) (QV:=EP X pins σ Q) ts ys js hc hi hclos hsub hcap hg ht he hkind hcell hnames hhas hs I h ?_;intro H2 H3 s2 s4 fp C pins' σ' its xs n I2 f2 I4 hC hDC rv hz e4 nD q;obtain⟨m,hm,_⟩:=I4.loc;exact⟨m,hm,fun h' hs'=>⟨.ref _,_,sX I2 f2 I4 hC (μ _) hDC hs' rv hz e4 nD,rfl,q _ nD⟩⟩
theorem wN{i:Nat}{spos:Pos}(ts ys:List Str)(js:List Nat)(hN:X.N.Nodup)(hiN:X.N[i]?=some y)(hy:X.env.scope.names.lookup y=some .local)(hc:X.calm=true)(hi:PI X tg iter wi)(hclos:closureFor scope X.env=pure cl)(hsub:cN X.env cl)(hcap:iJ X scope cl ys js)
  (hg:∀s H fp C,PG (X.comp scope cl (ts++ys) s H fp C) tg g)(ht:∀s H fp C,PIf (X.comp scope cl (ts++ys) s H fp C) ifs tc)(he:∀s H fp C,PE (X.comp scope cl (ts++ys) s H fp C) elt te)
  (hkind:scope.kind=.function:=by rfl)(hcell:(scope.names.all fun y=>y.2 != .cell)=true:=by rfl)
  (hnames:(scope.names.all fun y=>y.2 != .local||scope.names.lookup y.1 == some .local)=true:=by rfl)
  (hhas:((relabel scope X.env).names.all fun p=>(p.2 != .cell&&p.2 != .free)||(cl.lookup p.1).isSome)=true:=by rfl)
  (hs:∀x,zd iter X.env x=pure x:=by intro _;rfl)
  (hsw:swapsWith (.ListComp elt [⟨tg,iter,ifs,0⟩] scope pos) (some (.Name y py)) spos.line X.env=pure true:=by rfl):
  PS X (.Assign [.Name y py] (.ListComp elt [⟨tg,iter,ifs,0⟩] scope pos) spos) (tAsg (aCu wi ts.length js g tc te) (dL i)):=by
 intro pins s σ H D I h;rw[exec_Assign_Name_used _ _ _ _ hsw];refine ι (ym (ι ?_));show rj _ _ (do let _ ←comprehension (.ListComp elt [⟨tg,iter,ifs,0⟩] scope pos) scope X.env _ (newList []) false (eval iter X.env) (some (assign (.Name y py) X.env))) _ _ s;refine ι (ua (rN (QV:=fun _ s'=>SP X pins D .next s') ts ys js hc hi hclos hsub hcap hg ht he hkind hcell hnames hhas hs I h ?_) (fun _ s' q=>Φ (Φ q)) fun _ _ z=>z);intro H2 H3 s2 s4 fp C pins' σ' its xs n I2 f2 I4 hC hDC rv hz e4 nD q;have J:Inv X pins σ (upd H3 s2.heap.objs.size (.lst xs)) { s4 with heap:=s4.heap }:=sX I2 f2 I4 hC (μ _) hDC (xk.refl _ _) rv hz e4 nD;obtain⟨m,hm,_⟩:=I4.loc;have hm':s4.heap.Ns C m:=hm;have hL:C≠X.env.locals:=fun z=>absurd (ω I2.lt (z ▸ hC)) (vq _);have hn:upd H3 s2.heap.objs.size (.lst xs) C=none:=by
  rw[jW (va hDC)];exact I4.free
 have hcl:∀x c,X.env.cells.lookup x=some c->c≠C:=fun x c e z=>by
  obtain⟨v,q⟩:=I2.cell x c e;exact absurd (ω q.lt (z ▸ hC)) (vq _)
 have hpin:∀p∈X.pn++pins,p.1≠C:=fun p hp z=>absurd (ω (ra (I2.pin p hp).1) (z ▸ hC)) (vq _);show rj _ _ (assign (.Name y py) X.env _) _ _ _;refine wpAny_assign_Name (cX J hN hiN (.inl hy) (v:=.ref s2.heap.objs.size) rfl (fun s5 J5 zq=>?_) (.inr hy));obtain⟨a,sb,ha⟩:=zq;have hCa:C≠a:=by
  rcases ha with z|z
  ·rw[z];exact hL
  ·exact va (hcl _ _ z)
 refine⟨m,hm'.sameBut sb hCa,fun h' hs'=>?_⟩;exact⟨_,_,J5.turned (h':=h') (t':=s5.toks) (fun b o hb e=>hs'.extBut b o hb e) hn hL (.inr (sg I2.sz hC)) hcl hpin,q _ nD⟩
end
section
variable {X:Cx}
theorem dF{K:Ξ}{n:Nat}(hK:X.K=K)(hc:X.calm=true)(h:PGs X es t)
  (hn:(Ai es X.env).length=n:=by rfl)(hst:(Ai es X.env).findIdx? (·.1)=none:=by rfl):PG X (.Tuple es k pos) (gTup K n t):=hK ▸ zL hc h hn hst
end
def oB (P:Nat->List V->Hp->Prop) (i k:Nat) (js:List Nat) (σ:St):St->List V->Hp->Prop:=fun σ' ys H=>P (i+1) ys H/\∃os:St,os.length=k/\σ'=os++xC js σ
theorem dO{K:Ξ}{xs:List V}{k:Nat}{g:TG}{tc:TT}{te:TE}{Q:VK}(P:Nat->List V->Hp->Prop)(h0:P 0 [] H1)(hl:∀i ys H,i<=xs.length->P i ys H->SqL K H a xs/\ys.length<=i)(hz:xs.length<ρ)
  (hs:∀i x ys H (os:St),os.length=k->xs[i]?=some x->P i ys H->g x (os++xC js σ) H fun σ3 H3=>tc σ3 H3 fun b H2=>if b=true then te σ3 H2 fun v H3=>oB P i k js σ σ3 (ys++[v]) H3 else oB P i k js σ σ3 ys H2)
  (hd:∀ys H,P xs.length ys H->∀p,H p=none->Q (.ref p) (upd H p (.lst ys))):
  mL (Itl K a) k js g tc te σ Q H1:=by
 refine⟨fun i m σ' ys H=>m=xs.length-i/\i<=xs.length/\P i ys H/\∃os:St,os.length=k/\σ'=os++xC js σ,⟨xs.length,by simp,sd _,h0,Au k none,yc,rfl⟩,?_⟩;rintro i m σ' ys H ⟨rfl,hi,p,os,ho,rfl⟩;obtain⟨q,hy⟩:=hl i ys H hi p
 by_cases hlt:i<xs.length
 ·refine .inr ⟨⟨xs,xs[i],q,by simp[hlt]⟩,by omega,oB P i k js σ,fun σ3 zs H3 z=>⟨xs.length-(i+1),by omega,rfl,hlt,z.1,z.2⟩,fun x H' y=>?_⟩;obtain⟨e,y⟩:=y;subst e;exact hs i x ys _ os ho (y xs q) p
 ·have e:i=xs.length:=by omega
  subst e;exact .inl ⟨⟨xs,q,μ _⟩,hd ys H p⟩
def But (l:Addr) (H H':Hp):Prop:=∀b o,b≠l->H b=some o->H' b=some o
theorem But.trans(a:But l H H1)(b:But l H1 H2):But l H H2:=fun x o n q=>b x o n (a x o n q)
theorem But.refl : But l H H:=fun _ _ _ q=>q
theorem But.of(g:jG H H'):But l H H':=fun x o _ q=>g x o q
theorem But.same{H:Hp}(a:But l H H')(h:H l=none):jG H H':=fun x o q=>a x o (jK q h) q
theorem But.upd : But l H (upd H l o):=fun x u n q=>by rw[jW n];exact q
theorem But.tup{K:Ξ}{l:Addr}{H H':Hp}{zs:List V}(e:But l H H')(hl:H l=some (.lst zs)){a:Addr}{xs:List V}(h:SqT K H a xs):SqT K H' a xs:=by
 rcases h with (h|⟨o,h⟩)|h
 ·exact .inl (.inl (e _ _ (gW h hl (by intro z;cases z)) h))
 ·exact .inl (.inr ⟨o,e _ _ (gW h hl (by intro z;cases z)) h⟩)
 ·exact .inr h
end L2
namespace L2
open PySem
def Xc (h:vn) (e C:Addr) (dx:Option Addr) (T:Addr) (fl:Option Value):Prop :=
 ∃oe vs,h.get? e=some oe/\oe.cls=.ref C/\oe.dict=dx/\oe.data=.fields vs/\1<vs.size ∧
  ((fl=none/\T=e/\vs[1]?=some .none)\/∃oT ts v,fl=some v/\T≠e/\vs[1]?=some (.ref T)/\h.get? T=some oT/\oT.data=.fields ts/\ts[3]?=some v)
def Mv (S:List Addr) (e T:Addr) (h h':vn):Prop :=
 ∀b o,h.get? b=some o->b≠e->b≠T->(b∉S->h'.get? b=some o)/\∃sl,h'.get? b=some { o with slots:=sl }
theorem Mv.refl(S:List Addr)(e T:Addr)(h:vn):Mv S e T h h:=fun b o q _ _=>⟨fun _=>q,o.slots,q⟩
theorem Mv.ff(m:Mv S e T h h')(ff:h.FunFrames base l)(he:∀o,h.get? e=some o->∃vs,o.data=.fields vs)(hT:∀o,h.get? T=some o->∃vs,o.data=.fields vs):h'.FunFrames base l :=
 ff.of_keeps fun b o q nf=>by
  obtain⟨_,sl,q'⟩:=m b o q (fun z=>by subst z;obtain⟨vs,z⟩:=he o q;exact nf vs z) (fun z=>by subst z;obtain⟨vs,z⟩:=hT o q;exact nf vs z);exact⟨_,q',rfl⟩
theorem Xc.fe(x:Xc h e C dx T fl):∀o,h.get? e=some o->∃vs,o.data=.fields vs:=fun o q=>by
 obtain⟨oe,vs,he,_,_,hd,_⟩:=x;rw[he]at q;cases q;exact⟨vs,hd⟩
theorem Xc.fT(x:Xc h e C dx T fl):∀o,h.get? T=some o->∃vs,o.data=.fields vs:=fun o q=>by
 have fe:=x.fe;obtain⟨oe,vs,he,_,_,hd,_,⟨_,rfl,_⟩|⟨oT,ts,v,_,_,_,hT,hd',_⟩⟩:=x
 ·exact fe o q
 ·rw[hT]at q;cases q;exact⟨ts,hd'⟩
theorem lP(o:Obj)(f:Array Value->Array Value):(o.mapFields f).dict=o.dict:=by
 obtain⟨c,d,dt,sl⟩:=o;cases dt <;> rfl
section
variable {M:Model}{A:vm}{E:Value->ο->Prop}{s:ο}{base:vn}{env:Env}{outer:List Env}{L e C:Addr}{dx:Option Addr}{T:Addr}{fl:Option Value}{Q:Unit->ο->Prop}
theorem sP{s1:ο}{head:Value}{had:Bool}(hA:A.frames=some (env::outer))(hL:env.frame=some L)(ff:s1.heap.FunFrames base (env::outer))
  (he:s1.heap.get? e=some oe)(hc:oe.cls=.ref C)(hx:oe.dict=dx)(hd:oe.data=.fields vs)(h1 : 1<vs.size)
  (hQ:∀h' T',s1.heap.get? T'=none->s1.heap.objs.size<=T'->Xc h' e C dx T' (some (rawInt L))->Mv ((env::outer).filterMap (·.frame)) e e s1.heap h'->Q () { s1 with heap:=h' }):
  rj M A (do let a ←frameOf env;let pl ←entryPlaceOf L had;let b ←EntryCells.newEntry head a .none (rawInt L) .none pl;setField (.ref e) 1 b) Q E s1:=by
 have nfr:e∉(env::outer).filterMap (·.frame):=fun z=>by
  obtain⟨_,o,q,nf⟩:=ff.mem z;rw[he]at q;cases q;exact nf vs hd
 refine ι (wpAny_frameOf_fun hA ff hL fun g so=>ι (wpAny_entryPlaceOf fun pl isp=>?_));unfold EntryCells.newEntry newFields;refine ι (wpAny_newObj_type ?_ (isp.sizeOk5 _ _ _ _ _));have e1:g.get? e=some oe:=(so.2.1 e nfr).trans he;generalize hob:({ cls:=.type "traceback",dict:=none,data:=.fields ([head,.ref L,.none,rawInt L,.none]++(if pl.isEmpty then Au 6 xw else pl)).toArray } : Obj)=ob;have e2:=ς ob e1;refine wpAny_setField e2 hd h1 ?_;have nT:g.objs.size≠e:=Nat.ne_of_gt (ra e1);have d3:=Obj.data_mapFields hd (·.setIfInBounds 1 (se g.objs.size));have e3:=yd (wy (·.setIfInBounds 1 (se g.objs.size))) e2 (Obj.isFreed_of_fields d3);have t3:((g.push ob).update e (wy (·.setIfInBounds 1 (se g.objs.size)))).get? g.objs.size=some ob :=
  (uq _ _ (va nT)).trans (sj g (by rw[←hob];rfl))
 refine hQ _ g.objs.size (yj (by rw[so.1];exact μ _)) (by rw[so.1];exact μ _) ⟨_,_,e3,(Obj.cls_mapFields _ _).trans hc,(lP _ _).trans hx,d3,by simpa using h1,.inr ⟨ob,_,rawInt L,rfl,nT,by simp[h1],t3,by rw[←hob],?_⟩⟩ fun b o q ne _=>?_
 ·first
   | (simp;done)
   | (rcases isp with rfl|⟨_,_,_,_,_,_,_,rfl⟩ <;> simp)
 ·have keep:∀u,g.get? b=some u->((g.push ob).update e (wy (·.setIfInBounds 1 (se g.objs.size)))).get? b=some u:=fun u z=>by
   rw[uq _ _ (va ne)];exact ς _ z
  exact⟨fun nb=>keep _ ((so.2.1 b nb).trans q),let ⟨sl,z⟩:=so.2.2 b o q; ⟨sl,keep _ z⟩⟩
theorem aAa(hA:A.frames=some (env::outer))(hL:env.frame=some L)(ff:s.heap.FunFrames base (env::outer))(x:Xc s.heap e C dx T fl)(hf:fl=none\/fl=some .none\/fl=some (rawInt L))
  (hQ:∀h' T',(T'=T\/s.heap.objs.size<=T')->Xc h' e C dx T' (some (rawInt L))->Mv ((env::outer).filterMap (·.frame)) e T s.heap h'->Q () { s with heap:=h' }):
  rj M A (noteFrame (.ref e) env) Q E s:=by
 have x0:=x;obtain⟨oe,vs,he,hc,hx,hd,h1,ht⟩:=x;unfold noteFrame;simp only[hL];rcases ht with⟨rfl,rfl,hv⟩|⟨oT,ts,v,rfl,nT,hv,hT,hdT,h3⟩
 ·refine ι (wpAny_field he hd hv ?_);rw[if_neg (by decide)];exact sP hA hL ff he hc hx hd h1 fun h' T' _ q2 q3 q4=>hQ h' T' (.inr q2) q3 q4
 ·refine ι (wpAny_field he hd hv ?_);rw[if_pos (show(se T != xw)=true from by simp)];refine ι (wpAny_field hT hdT h3 ?_)
  by_cases hvL:v=rawInt L
  ·subst hvL;rw[if_pos (show(rawInt L == rawInt L)=true from by simp)];exact Φ (hQ s.heap T (.inl rfl) x0 (Mv.refl _ _ _ _))
  ·have hv0:v=.none:=by
    rcases hf with z|z|z
    ·cases z
    ·exact ux z
    ·exact absurd (ux z) hvL
   subst hv0;rw[if_neg (show ¬ ((xw == rawInt L)=true) from by simp[rawInt])];refine ι (wpAny_setField hT hdT (Array.getElem?_eq_some_iff.mp h3).1 ?_);have oth:∀b,b≠T->(s.heap.update T (wy (·.setIfInBounds 3 xw))).get? b=s.heap.get? b:=fun b hb=>uq _ _ (va hb);have mv:Mv ((env::outer).filterMap (·.frame)) e T s.heap (s.heap.update T (wy (·.setIfInBounds 3 xw))):=fun b o q _ nb=>⟨fun _=>(oth b nb).trans q,o.slots,(oth b nb).trans q⟩;refine sP (s1:={ s with heap:=s.heap.update T (wy (·.setIfInBounds 3 xw)) }) hA hL (mv.ff ff x0.fe x0.fT) ((oth e (va nT)).trans he) hc hx hd h1 fun h' T' q1 q2 q3 q4=>hQ h' T' (.inr ?_) q3 fun b o q ne nb=>?_
   ·have:(s.heap.update T (wy (·.setIfInBounds 3 xw))).objs.size=s.heap.objs.size:=vn.size_after_update ..;rw[←this];exact q2
   ·exact q4 b o ((oth b nb).trans q) ne ne
theorem fW{fr:Option Addr}(x:Xc s.heap e C dx T (some v))
  (hQ:∀h',Xc h' e C dx T (some (fr.elim .none fun f=>rawInt f))->Mv [] e T s.heap h'->Q () { s with heap:=h' }):rj M A (setFlight (.ref e) fr) Q E s:=by
 obtain⟨oe,vs,he,hc,hx,hd,h1,⟨z,_⟩|⟨oT,ts,v',_,nT,hv,hT,hdT,h3⟩⟩:=x
 ·cases z
 have hsz:=(Array.getElem?_eq_some_iff.mp h3).1;unfold setFlight;refine ι (wpAny_field he hd hv ?_);rw[if_pos (show(se T != xw)=true from by simp)];refine wpAny_setField hT hdT hsz (hQ _ ?_ fun b o q _ nb=>?_)
 ·exact⟨oe,vs,(uq _ _ nT).trans he,hc,hx,hd,h1,.inr ⟨_,_,_,rfl,nT,hv,yd _ hT (Obj.isFreed_of_fields (Obj.data_mapFields hdT _)),Obj.data_mapFields hdT _,by simp[hsz]⟩⟩
 ·have:=(uq s.heap (wy (·.setIfInBounds 3 (fr.elim xw fun f=>rawInt f))) (va nb)).trans q;exact⟨fun _=>this,o.slots,this⟩
theorem Mv.trans(a:Mv S e T h h1)(b:Mv S' e T' h1 h2)(hT:T'=T\/h.get? T'=none)(hS:∀x∈S',x∈S):Mv S e T h h2:=fun c o q ne nT=>by
 obtain⟨k1,sl,k2⟩:=a c o q ne nT;have nT':c≠T':=fun z=>by
  rcases hT with y|y
  ·exact nT (z.trans y)
  ·rw[←z,q]at y;cases y
 refine⟨fun nS=>(b c o (k1 nS) ne nT').1 fun z=>nS (hS c z),?_⟩;obtain⟨_,sl',k3⟩:=b c _ k2 ne nT';exact⟨sl',k3⟩
theorem aEo(hA:A.frames=some (env::outer))(hL:env.frame=some L)(ff:s.heap.FunFrames base (env::outer))(x:Xc s.heap e C dx T fl)(hf:fl=none\/fl=some .none\/fl=some (rawInt L))
  (hQ:∀h' T',(T'=T\/s.heap.objs.size<=T')->Xc h' e C dx T' (some .none)->Mv ((env::outer).filterMap (·.frame)) e T s.heap h'->Q () { s with heap:=h' }):
  rj M A (leaving env (.ref e)) Q E s:=by
 unfold leaving;refine ι (aAa hA hL ff x hf fun h1 T1 q1 x1 m1=>fW x1 fun h2 x2 m2=>hQ h2 T1 q1 x2 (m1.trans m2 ?_ (by simp)));exact q1.imp id fun z=>yj z
end
structure yB (bm:List Value):Prop where
 v:bm.contains (.type "ValueError")=true
 b:bm.contains (.type "BaseException")=true
 a:bm.contains (.type "AttributeError")=false
 n:bm.contains (.type "NameError")=false
section
variable {prog:vh}{w:vy}{M:Model}{A:vm}{E:Value->ο->Prop}{h:vn}{g:Array GenState}{d:Drawn}{t:Nat}{os:OsState}
 {nm qn:Str}{C N:Addr}{bs bm:List Value}{hdct:Bool}{sn:List Str}{sub:List Value}{ab:Bool}{col:Option Bool}{dd:Option Addr}{k0 k1 k2 k3 k5:Option Value}
abbrev dY (nm qn:Str) (C N:Addr) (bs bm:List Value) (hdct:Bool) (sn:List Str) (sub:List Value) (ab:Bool) (col:Option Bool) (dd:Option Addr) (k0 k1 k2 k3 k5:Option Value):Obj :=
 excClassObj nm qn C N bs bm hdct sn sub ab col dd k0 k1 k2 k3 k5 "ValueError.__new__"
theorem yB.cv(x:yB bm):(se C::bm).contains (.type "ValueError")=true:=by rw[yt,x.v,Bool.or_true]
theorem yB.cb(x:yB bm):(se C::bm).contains (.type "BaseException")=true:=by rw[yt,x.b,Bool.or_true]
theorem yB.ca(x:yB bm):(se C::bm).contains (.type "AttributeError")=false:=by rw[yt,x.a];rfl
theorem yB.cn(x:yB bm):(se C::bm).contains (.type "NameError")=false:=by rw[yt,x.n];rfl
theorem wE(x:yB bm){rest:List Value}{Q:Unit->ο->Prop}(hC:h.get? C=some (dY nm qn C N bs bm hdct sn sub ab col dd k0 k1 k2 k3 k5))(hq:Q () ⟨h,g,d,t,os⟩):
  rj M A (AM "ValueError.__new__" ⟨.ref C::rest,[]⟩) Q E ⟨h,g,d,t,os⟩:=by
 have c1:=x.cv (C:=C);have B:=wl;have c2:=B.noStar;simp only[AM,B.newSplit,B.newKind,B.newRow]
 repeat (first
  |refine vj hC ?_
  | (refine wo hC ?_;rw[c1])
  |refine wpAny_madeBy_exc hC ?_
  |refine wpAny_staticBase_exc hC ?_
  |simp only[bne_self_eq_false,if_false,ya]
  |wp_step)
 exact hq
theorem aCh(x:yB bm){rest:List Value}{R:Result->ο->Prop}(hC:h.get? C=some (dY nm qn C N bs bm hdct sn sub ab col dd k0 k1 k2 k3 k5))(hz:rest.length<=ρ)
  (hq:R (.ok (.ret (.ref (h.objs.size+1)))) ⟨(h.push { cls:=.type "tuple",data:=.seq rest.toArray }).push { cls:=.ref C,data:=.fields #[.ref h.objs.size,.none,.none,.none,.bool false,.none] },g,d,t,os⟩):
  Ag (rl prog w) A (.builtin "ValueError.__new__" ⟨.ref C::rest,[]⟩) R ⟨h,g,d,t,os⟩:=by
 have B:=wl;have c0:=B.ends;have c1:=x.cv (C:=C);have c2:=x.ca (C:=C);have c3:=x.cn (C:=C);refine codeAny_builtinAt B.entry ?_;unfold Ae.«BaseException.__new__»;refine wpAt_bind ?_;show wpAt _ _ _ (stack >>= _) _ _ _;refine wpAt_bind (wpAt_stack fun p below=>wpAt_of_wpAny ?_)
 wp_walk
 refine wpAt_of_wpAny ?_;rw[B.owner]
 repeat (first
  |with_reducible refine vj hC ?_
  |with_reducible refine wpAny_madeHere_exc B.canon hC ?_
  | (with_reducible refine wo hC ?_;first|rw[c1]|rw[c2]|rw[c3])
  |wp_step)
 show R _ _;rw[zh];exact hq
theorem uD(x:yB bm){mN:Str->Option Value}{rest:List Value}{Q:Fin->ο->Prop}(hC:h.get? C=some (dY nm qn C N bs bm hdct sn sub ab col dd k0 k1 k2 k3 k5))
  (hn:h.Ns N mN)(hi:mN "__init__" = some (.ref fI))(hf:h.get? fI=some oI)(hfc:oI.cls=.type "function")(hz:rest.length<=ρ)
  (hq:∀h' e,vn.MadeExcOf h h' e (.ref C) rest->h.objs.size<=e->rj (rl prog w) A (call (.ref fI) (.ref e::rest)) (fun r s'=>r=.none/\Q (.done (.ret (.ref e))) s') E ⟨h',g,d,t,os⟩):
  rj (rl prog w) A (Ae.«type.__call__» ⟨.ref C::rest,[]⟩) Q E ⟨h,g,d,t,os⟩:=by
 repeat (first
  |with_reducible refine wpAny_madeBy_exc hC ?_
  |with_reducible refine vj hC ?_
  |wp_step)
 have B:=wl;refine codeAny_call_builtin_code (Code.quiet_builtin _ B.quiet) (wE x hC (aCh x hC hz ?_));show rj _ _ _ _ _ _;generalize htu:({ cls:=.type "tuple",data:=.seq rest.toArray } : Obj)=otu;generalize hex:({ cls:=.ref C,data:=.fields #[.ref h.objs.size,.none,.none,.none,.bool false,.none] } : Obj)=oex;have kp:∀b o,h.get? b=some o->((h.push otu).push oex).get? b=some o:=fun b o z=>ς _ (ς _ z);have ge:((h.push otu).push oex).get? (h.objs.size+1)=some oex:=by
  have:=sj (h.push otu) (o:=oex) (by rw[←hex];rfl)
  rwa [zh]at this
 have gt:((h.push otu).push oex).get? h.objs.size=some otu:=ς _ (sj h (by rw[←htu];rfl));have oc:oex.cls=.ref C:=by rw[←hex]
 have hC1:=kp _ _ hC;have hn1:((h.push otu).push oex).Ns N mN:=let ⟨o,es,ep,z,r⟩:=hn; ⟨o,es,ep,kp _ _ z,r⟩;have c0:(se C::bm).contains (.ref C)=true:=by simp
 unfold isInstance
 repeat (first
  | (with_reducible refine vj ge ?_;rw[oc])
  | (with_reducible refine wo hC1 ?_;rw[c0])
  |wp_step)
 show rj _ _ (typeLookup (.ref C) _) _ _ _;rw[typeLookup_eq];refine ι (wpAny_mroOf_exc hC1 ?_);rw[lookupAlong_cons];refine ι (wpAny_classOwn_exc hC1 hn1 ?_);rw[hi];refine Φ (wf (ι ?_));unfold bindSpecial;refine ι (wpAny_typeOf (T:="function") ⟨_,kp _ _ hf,hfc⟩ ?_);rw[if_pos (by decide)];refine Φ (ι (ua (hq _ (h.objs.size+1) ⟨kp,yj (An _),h.objs.size,by rw[ge,←hex],yj (μ _),by rw[gt,←htu]⟩ (An _)) (fun r s' z=>?_) fun _ _ y=>y));obtain⟨rfl,z⟩:=z
 wp_walk
 exact z
theorem xmake(x:yB bm){mN:Str->Option Value}{rest:List Value}{Q:Value->ο->Prop}(hC:h.get? C=some (dY nm qn C N bs bm hdct sn sub ab col dd k0 k1 k2 k3 k5))
  (hn:h.Ns N mN)(hi:mN "__init__" = some (.ref fI))(hf:h.get? fI=some oI)(hfc:oI.cls=.type "function")(hz:rest.length<=ρ)
  (hq:∀h' e,vn.MadeExcOf h h' e (.ref C) rest->h.objs.size<=e->rj (rl prog w) (A.under (.builtin "type.__call__" ⟨.ref C::rest,[]⟩)) (call (.ref fI) (.ref e::rest)) (fun r s'=>r=.none/\Q (.ref e) s') E ⟨h',g,d,t,os⟩):
  rj (rl prog w) A (call (.ref C) rest) Q E ⟨h,g,d,t,os⟩:=by
 have b1:=tc_lookup;have b2:=tc_bind (.ref C);have b3:(⟨h,g,d,t,os⟩ : ο).TypeIs (.ref C) "type":=⟨_,hC,rfl⟩;refine zi (codeAny_of_tree ?_);show rj _ _ (callAny (.ref C) _) _ _ _
 repeat (any_goals (first|assumption|with_reducible refine vj hC ?_|wp_step))
 refine⟨rfl,codeAny_call_builtin_at (Code.quiet_builtin _ (by decide +kernel)) entry_typeCall (wpAny_check_type_call_sub hC (uD x hC hn hi hf hfc hz hq))⟩
theorem aIg(hh:A.handled=none)
  (hx:rj M A x (fun v s1=>∃(e C N:Addr) (nm qn:Str) (bs bm:List Value) (hdct:Bool) (sn:List Str) (sub:List Value) (ab:Bool) (col:Option Bool) (dd:Option Addr) (k0 k1 k2 k3 k5:Option Value) (dx:Option Addr) (vs:Array Value) (sl:Array (Option Value)),
   v=.ref e/\yB bm/\s1.heap.get? C=some (dY nm qn C N bs bm hdct sn sub ab col dd k0 k1 k2 k3 k5)/\s1.heap.get? e=some ⟨.ref C,dx,.fields vs,sl⟩/\vs[1]?=some .none/\E (.ref e) s1) E s):
  rj M A (raiseStmt env (some x) none) Q E s:=by
 unfold raiseStmt;refine ι (ua hx (fun v s1 z=>?_) fun _ _ y=>y);obtain⟨e,C,N,nm,qn,bs,bm,hdct,sn,sub,ab,col,dd,k0,k1,k2,k3,k5,dx,vs,sl,rfl,xt,hC,he,hv,hE⟩:=z;have c1:=xt.cb (C:=C);obtain⟨hp,g,d,tk,os⟩:=s1
 repeat (first
  |with_reducible refine vj he ?_
  |with_reducible refine vj hC ?_
  |with_reducible refine wpAny_field he rfl hv ?_
  | (with_reducible refine wo hC ?_;rw[c1])
  |wp_step)
 exact wpAny_raiseNew_none hh hE
theorem aIr(hh:A.handled=none)
  (hx:rj M A (eval x env) (fun v s1=>∃(e C N:Addr) (nm qn:Str) (bs bm:List Value) (hdct:Bool) (sn:List Str) (sub:List Value) (ab:Bool) (col:Option Bool) (dd:Option Addr) (k0 k1 k2 k3 k5:Option Value) (dx:Option Addr) (vs:Array Value) (sl:Array (Option Value)),
   v=.ref e/\yB bm/\s1.heap.get? C=some (dY nm qn C N bs bm hdct sn sub ab col dd k0 k1 k2 k3 k5)/\s1.heap.get? e=some ⟨.ref C,dx,.fields vs,sl⟩/\vs[1]?=some .none/\E (.ref e) s1) E s):
  rj M A (exec (.Raise (some x) none pos) env) Q E s:=by
 rw[arm_exec_Raise];have key:=aIg (Q:=Q) (env:=env) (x:=do let v ←eval x env;standAt pos;pure v) hh (ι (ua hx (fun v s1 z=>ι (ym (Φ z))) fun _ _ y=>y))
 first
  |exact ι (ym key)
  | (simp only[evalOpt,Option.map];exact ι (ym key))
theorem sK(x:yB bm){e:Addr}{rest:List Value}{Q:Unit->ο->Prop}(hC:h.get? C=some (dY nm qn C N bs bm hdct sn sub ab col dd k0 k1 k2 k3 k5))(he:h.get? e=some oe)(oc:oe.cls=.ref C)
  (hq:Q () ⟨h,g,d,t,os⟩):rj M A (AM "ValueError.__init__" ⟨.ref e::rest,[]⟩) Q E ⟨h,g,d,t,os⟩:=by
 have c1:=x.cv (C:=C);have B:=wl;have c2:=B.noStar;simp only[AM,B.initSplit,B.initKind,B.initRow]
 repeat (first
  |with_reducible refine vj hC ?_
  | (with_reducible refine vj he ?_;rw[oc])
  | (with_reducible refine wo hC ?_;rw[c1])
  |wp_step)
 refine wpAny_onRaise ?_;rw[show ∀(a b:String) (n:Nat),Bind.check ⟨.positional,"*","ValueError",.self,[⟨"args",.varPos,false⟩]⟩ a b n (List.map (fun y=>y.fst) ({ pos:=se e::rest } : Args).kw)=pure () from fun a b n=>check_star_args _ _ _ _ _ _];exact Φ hq
theorem xinit(x:yB bm){e:Addr}{v:Value}{Q:Value->ο->Prop}(hC:h.get? C=some (dY nm qn C N bs bm hdct sn sub ab col dd k0 k1 k2 k3 k5))(he:h.get? e=some oe)(oc:oe.cls=.ref C)
  (hd:oe.data=.fields vs)(h1 : 1<vs.size)
  (hq:∀h' oe' vs',(∀b o,b≠e->h.get? b=some o->h'.get? b=some o)->h'.get? e=some oe'->oe'.cls=oe.cls->oe'.dict=oe.dict->oe'.data=.fields vs'->vs'.size=vs.size->vs'[1]?=vs[1]?->Q .none ⟨h',g,d,t,os⟩):
  rj (rl prog w) A (call (.builtin "ValueError.__init__") [.ref e,v]) Q E ⟨h,g,d,t,os⟩:=by
 have B:=wl;refine zi (zj B.init.plain B.initEntry (sK x hC he oc ?_));obtain⟨c,dx,dt,sl⟩:=oe;cases hd
 wp_walk
 have h0:vs[0]?=some vs[0]:=by simp
 rw[h0];refine Φ (ι (wpAny_setField (ς _ he) rfl (by omega) ?_));have e2:=ς { cls:=Value.type "tuple",data:=Data.seq #[v] } he;have fin:=hq _ _ _ (fun b o nb z=>(uq (h.push { cls:=Value.type "tuple",data:=Data.seq #[v] }) (wy (·.setIfInBounds 0 (se h.objs.size))) (va nb)).trans (ς _ z))
  (yd (wy (·.setIfInBounds 0 (se h.objs.size))) e2 rfl) rfl rfl rfl (by simp) (by simp)
 generalize vs[0]=a0;cases a0 <;> first
  |exact Φ (Φ fin)
  |exact wpAny_letGo (Φ fin)
theorem aJn{e Cn:Addr}{b:Bool}{Q:Bool->ο->Prop}(hC:h.get? C=some (excClassObj nm1 q1 C N1 bs1 bm1 hd1 sn1 sub1 ab1 co1 dd1 j0 j1 j2 j3 j5 ni1))(hD:h.get? Cn=some (excClassObj nm2 q2 Cn N2 bs2 bm2 hd2 sn2 sub2 ab2 co2 dd2 l0 l1 l2 l3 l5 ni2))
  (hb:bm2.contains (.type "BaseException")=true)(he:h.get? e=some oe)(oc:oe.cls=.ref C)(hs:(se C::bm1).contains (.ref Cn)=b)(hq:Q b ⟨h,g,d,t,os⟩):rj M A (excMatches (.ref e) (.ref Cn)) Q E ⟨h,g,d,t,os⟩:=by
 have c1:(se Cn::bm2).contains (.type "BaseException")=true:=by rw[yt,hb,Bool.or_true]
 have c2:=tc_notTuple;unfold excMatches
 repeat (first
  |with_reducible refine vj hD ?_
  | (with_reducible refine vj he ?_;rw[oc])
  | (with_reducible refine wo hD ?_;rw[c1])
  | (with_reducible refine wo hC ?_;rw[hs])
  |wp_step)
 cases b <;> (wp_walk;exact hq)
end
end L2
namespace L2
open PySem PyProof.Rows
abbrev VB:List Value:=[.type "ValueError",.type "Exception",.type "BaseException",.type "object"]
structure zW (K:Ξ) (C R fI:Addr):Prop where
 obj:∃(nm qn:Str) (N:Addr) (bs:List Value) (sn:List Str) (sub:List Value) (ab:Bool) (col:Option Bool) (dd:Option Addr) (k0 k1 k2 k3 k5:Option Value),
  K.lookup C=some (dY nm qn C N bs (.ref R::VB) true sn sub ab col dd k0 k1 k2 k3 k5)/\Ay K N=true/\nsIn K N "__init__" = some (some (.ref fI))
 fn:isFn K (.ref fI)=true
 kp:keepIn K (.ref C)=true
 sa:uv K (.ref C) "__setattr__" = some (some (.builtin "object.__setattr__"))
 ga:uv K (.ref C) "__getattribute__" = some (some (.builtin "BaseException.__getattribute__"))
 gh:uv K (.ref C) "__getattr__" = some none
theorem aEu(R:Addr):yB (.ref R::VB):=⟨rfl,rfl,rfl,rfl⟩
theorem uW{K:Ξ}{m:Str->Option Value}(X:K.In h)(G:h.Ns N m)(e:nsIn K N n=some (some v)):m n=some v:=by
 obtain⟨o,es,ep,ho,hd,_,hf⟩:=G;unfold nsIn at e;cases q:K.lookup N with
 |none=>rw[q]at e;cases e
 |some o' =>
  have z:=X _ _ q;rw[ho]at z;cases z;rw[q]at e;obtain⟨c,d,dt,sl⟩:=o;cases hd;rw[←hf];unfold nsFind findBy;rw[←Array.find?_toList];dsimp only at e;cases q2:es.toList.find? (fun x=>x.key.isStr n) with
  |some y =>
   rw[q2]at e;exact congrArg (fun z:Option (Option Value)=>z.getD none) e
  |none =>
   rw[q2]at e;dsimp only at e
   split at e <;> cases e
theorem zW.cls{K:Ξ}(c:zW K C R fI)(X:K.In h):
  ∃(nm qn:Str) (N:Addr) (bs:List Value) (sn:List Str) (sub:List Value) (ab:Bool) (col:Option Bool) (dd:Option Addr) (k0 k1 k2 k3 k5:Option Value) (mN:Str->Option Value) (oI:Obj),
   h.get? C=some (dY nm qn C N bs (.ref R::VB) true sn sub ab col dd k0 k1 k2 k3 k5)/\h.Ns N mN/\mN "__init__" = some (.ref fI)/\h.get? fI=some oI/\oI.cls=.type "function":=by
 obtain⟨nm,qn,N,bs,sn,sub,ab,col,dd,k0,k1,k2,k3,k5,lk,nsok,nsi⟩:=c.obj;have hN:=vn.Ns.of_isNs (PySem.W.isNs_of_in X nsok);have hf:=c.fn;unfold isFn PySem.W.typeIn at hf;have hf':=beq_iff_eq.mp hf;obtain⟨oI,q,r⟩:=yr.mp hf';exact⟨nm,qn,N,bs,sn,sub,ab,col,dd,k0,k1,k2,k3,k5,_,oI,X _ _ lk,hN,uW X hN nsi,X _ _ q,r⟩
section
variable {prog:vh}{w:vy}{A:vm}{E:Value->ο->Prop}{s:ο}{K:Ξ}{e C R fI:Addr}{oe:Obj}{vs:Array Value}{name:Str}{v:Value}
theorem iS{od:Option Obj}(he:s.heap.get? e=some oe)(oc:oe.cls=.ref C)(hd:oe.data=.fields vs)(hx:match oe.dict,od with|some dx,some o=>s.heap.get? dx=some o|none,none=>True|_,_=>False):zg s.heap e oe C od :=
 ⟨he,oc,by unfold PySem.W.notCls;rw[hd],hx⟩
theorem zW.clsIn(c:zW K C R fI):∃cd,PySem.W.clsIn K C=some cd/\cd.mro=.ref C :: .ref R::VB/\cd.hasDict=true:=by
 obtain⟨nm,qn,N,bs,sn,sub,ab,col,dd,k0,k1,k2,k3,k5,lk,_⟩:=c.obj;exact⟨_,by unfold PySem.W.clsIn;rw[lk],rfl,rfl⟩
theorem oM{Q:Unit->ο->Prop}(X:K.In s.heap)(c:zW K C R fI)(I:zg s.heap e oe C od)(hf:uv K (.ref C) name=some none)
  (h:rj (rl prog w) A.in1 (yg (.ref e) (.ref C) (.str name s.toks) name v false)
   (fun fin s'=>match fin with | .done (.ret _)=>Q () s'|_=>False) (fun _ _=>False) { s with toks:=s.toks+1 }):
  rj (rl prog w) A (setAttr (.ref e) name v) Q E s:=by
 have SF:=PySem.F.store_ValueError;obtain⟨cd,hcd,hm,hh⟩:=c.clsIn;refine PySem.W.set_plain X I c.sa ?_;have mro:zy (rl prog w) s.heap (mroOf (.ref C)) (.ref C :: .ref R::VB):=hm ▸ (zu X hcd).andThen .now;have isO:zy (rl prog w) s.heap (isInstance (.ref e) (.type "object")) true:=I.type.andThen (PySem.W.looks_mroIn X (by
  unfold wz;rw[hcd,Option.bind_some,hm,if_neg (by intro z;cases z)];rfl))
 refine zj SF.slot.plain SF.entry (@PySem.W.check_slot (rl prog w) _ _ { s with toks:=s.toks+1 } "object.__setattr__" "object" "__setattr__" (.ref e) [.str name s.toks,v] [] _ SF.kind SF.split isO (SF.args (.ref e) (.str name s.toks) v) ?_);rw[PySem.W.osa_eq,refuse_eq];refine ι (ι (wt (s:={ s with toks:=s.toks+1 }) I.type (ι (wt (s:={ s with toks:=s.toks+1 }) mro ?_))));rw[refuseLoop_ref,refuseLoop_ref,SF.passes];refine Φ (ι (wt (s:={ s with toks:=s.toks+1 }) I.type (ι (wt (s:={ s with toks:=s.toks+1 }) (xa X hf) (ι (Φ ?_))))));refine ua h (fun fin s' z=>?_) fun _ _ z=>z.elim;rcases fin with (_|_|_|_)|_ <;> first|exact z|exact z.elim
theorem wC{Q:Unit->ο->Prop}(X:K.In s.heap)(c:zW K C R fI)(he:s.heap.get? e=some oe)(oc:oe.cls=.ref C)(hd:oe.data=.fields vs)(hx:oe.dict=none)(hf:uv K (.ref C) name=some none)
  (h:∀h' dx tk,s.heap.objs.size<=dx->dx≠e->h'.get? e=some { oe with dict:=some dx }->h'.Ns1 dx (fun y=>if y=name then some v else none)->(∀b o,b≠e->s.heap.get? b=some o->h'.get? b=some o)->Q () { s with heap:=h',toks:=tk }):
  rj (rl prog w) A (setAttr (.ref e) name v) Q E s:=by
 obtain⟨cd,hcd,hm,hh⟩:=c.clsIn;refine oM X c (iS (od:=none) he oc hd (by rw[hx];trivial)) hf ?_;obtain⟨cc,dd,dt,sl⟩:=oe;cases oc;cases hd;cases hx;have ne:s.heap.objs.size≠e:=Nat.ne_of_gt (ra he);unfold yg zz instanceDict;refine ι (Φ ?_);refine ι (ι (wpAny_loadPart he (ι (wt (s:={ s with toks:=s.toks+1 }) (zu X hcd) ?_))));rw[hh];refine ι (wpAny_alloc ?_);have he1:=ς ({ cls:=.type "dict",data:=.dict #[] } : Obj) he;refine ι (wpAny_update he1 ?_);refine Φ (a:=some s.heap.objs.size) ?_;have hg:((s.heap.push ({ cls:=.type "dict",data:=.dict #[] } : Obj)).update e fun o=>{ o with dict:=some s.heap.objs.size }).get? s.heap.objs.size=some ({ cls:=.type "dict",data:=.dict #[] } : Obj):=(vn.get?_update_ne _ _ _ _ ne).trans (vn.get?_push_at rfl rfl);have hE:((s.heap.push ({ cls:=.type "dict",data:=.dict #[] } : Obj)).update e fun o=>{ o with dict:=some s.heap.objs.size }).Ns s.heap.objs.size (fun _=>none):=⟨_,#[],_,hg,rfl,fun y hy=>absurd hy (by simp),fun _=>rfl⟩;refine ι (Φ (ι (wpAny_nsSet1 (vn.Ns1.of_empty hE) fun h' hn hs=>?_)));obtain⟨oD,esD,epD,hoD,hdD,hcD⟩:=hn.count (ww.cons name v ww.nil);refine ι (wpAny_lookBehind hoD (by rw[hdD];exact pastItsLine_dict (sg hcD (by rw[υ,List.length_nil];omega))) ?_);refine Φ (h h' s.heap.objs.size _ (μ _) ne ((hs.2 _ (va ne)).trans (yd _ he1 rfl)) hn fun b o hb q=>?_);exact(hs.2 b (sk (ra q))).trans ((vn.get?_update_ne _ _ _ _ hb).trans (ς _ q))
theorem aBb{mA:Str->Option Value}{Q:Unit->ο->Prop}(X:K.In s.heap)(c:zW K C R fI)(he:s.heap.get? e=some oe)(oc:oe.cls=.ref C)(hd:oe.data=.fields vs)(hx:oe.dict=some dx)(hN:s.heap.Ns1 dx mA)(hw:ww mA ns)(hz:ns.length<=ρ)(hf:uv K (.ref C) name=some none)
  (h:∀h',h'.Ns1 dx (fun y=>if y=name then some v else mA y)->xk dx s.heap h'->Q () { s with heap:=h',toks:=s.toks+2 }):
  rj (rl prog w) A (setAttr (.ref e) name v) Q E s:=by
 obtain⟨cd,hcd,hm,hh⟩:=c.clsIn;obtain⟨o1,es1,ep1,ho1,_⟩:=id hN;refine oM X c (iS (od:=some o1) he oc hd (by rw[hx];exact ho1)) hf ?_;obtain⟨cc,dd,dt,sl⟩:=oe;cases oc;cases hd;cases hx;unfold yg zz instanceDict;refine ι (Φ ?_);refine ι (ι (wpAny_loadPart he (ι (wt (s:={ s with toks:=s.toks+1 }) (zu X hcd) ?_))));rw[hh];refine Φ (a:=some dx) (ι (Φ (ι (wpAny_nsSet1 (s:={ s with toks:=s.toks+1 }) hN fun h' hn hs=>?_))));obtain⟨oD,esD,epD,hoD,hdD,hcD⟩:=hn.count (ww.cons name v hw);refine ι (wpAny_lookBehind hoD (by rw[hdD];exact pastItsLine_dict (sg hcD (by rw[υ];omega))) ?_);exact Φ (h _ hn hs)
end
section
variable {prog:vh}{w:vy}{A:vm}{E:Value->ο->Prop}{s:ο}{K:Ξ}{e C R fI:Addr}{oe:Obj}{vs:Array Value}{name:Str}{v:Value}
theorem xget{Q:Value->ο->Prop}(X:K.In s.heap)(c:zW K C R fI)(I:zg s.heap e oe C od)(hf:PySem.W.findObj K C od name=some (.value v))(hh:PySem.W.handedIn v=true)(h:Q v { s with toks:=s.toks+1 }):
  rj (rl prog w) A (getAttr (.ref e) name expr) Q E s:=by
 obtain⟨cd,hcd,hm,_⟩:=c.clsIn;have isB:zy (rl prog w) s.heap (isInstance (.ref e) (.type "BaseException")) true:=I.type.andThen (PySem.W.looks_mroIn X (by
  unfold wz;rw[hcd,Option.bind_some,hm,if_neg (by intro z;cases z)];rfl))
 have L0:=I.type (M:=rl prog w);have L1:=xa (M:=rl prog w) X c.ga;have L2:=xa (M:=rl prog w) X c.gh;have L3:=PySem.W.looks_find (M:=rl prog w) X I hf;have hx0:(expr&&onTheHeap (Value.builtin "BaseException.__getattribute__"))=false:=by cases expr <;> rfl
 obtain⟨hp,g,d,t,os⟩:=s;unfold getAttr getAttrBy;refine ι (wpAny_mkText (wf (ι (L0.at (ι (L1.at ?_))))));show rj _ _ (getAttrByItsOwn _ _ _ _ _ _) _ _ _;unfold getAttrByItsOwn;refine ι (show rj _ _ (typeLookup (.ref C) "__getattr__") _ _ _ from L2.at ?_);have FB:=PySem.F.attr_ValueError.ga;have hk:builtinKind "BaseException.__getattribute__" = some .slot:=by decide +kernel
 have hs:splitId "BaseException.__getattribute__" = some ("BaseException","__getattribute__"):=by decide +kernel
 refine ι (wpAny_attempt (wf ?_));unfold callGetattribute;rw[hx0,if_neg Ω];unfold boundAndCalled;rw[FB.bind];refine ι (Φ (zi ?_));show Ag _ _ (.call (.builtin "BaseException.__getattribute__") ⟨[.ref e,.str name t],[]⟩) _ _;refine zj FB.plain PySem.F.entry_bexc_ga ?_;refine @PySem.W.check_slot (rl prog w) _ _ _ "BaseException.__getattribute__" "BaseException" "__getattribute__" (.ref e) [.str name t] [] _ hk hs isB (PySem.F.args_bexc_ga _ _) ?_;unfold Ae.«object.__getattribute__» slotArgs;refine ι (Φ ?_);refine ι (Φ ?_);refine ι (L0.at ?_);refine ι (L3.at ?_);refine Φ ?_;show rj _ _ (handedOut v) _ _ _;rw[AR hh];exact Φ h
end
end L2
namespace L2
open PySem PySem.Spec PyProof.Rows
def Ex0 (e C:Addr) (dx:Option Addr):HO:=.ext fun h=>∃oe vs,h.get? e=some oe/\oe.cls=.ref C/\oe.dict=dx/\oe.data=.fields vs/\1<vs.size/\vs[1]?=some .none
def ExF (e C:Addr) (dx:Option Addr):HO:=.ext fun h=>∃oe vs,h.get? e=some oe/\oe.cls=.ref C/\oe.dict=dx/\oe.data=.fields vs
theorem Ex0.ok{h:vn}{e:Addr}{dx:Option Addr}(he:h.get? e=some oe)(hc:oe.cls=.ref C)(hx:oe.dict=dx)(hd:oe.data=.fields vs)(h1 : 1<vs.size)(hv:vs[1]?=some .none):vC P w H h e (Ex0 e C dx) :=
 ⟨⟨oe,vs,he,hc,hx,hd,h1,hv⟩,⟨oe,he⟩,fun _ _ ⟨oe,vs,a,b⟩ k=>⟨oe,vs,k _ a,b⟩⟩
theorem ExF.ok{h:vn}{e:Addr}{dx:Option Addr}(he:h.get? e=some oe)(hc:oe.cls=.ref C)(hx:oe.dict=dx)(hd:oe.data=.fields vs):vC P w H h e (ExF e C dx) :=
 ⟨⟨oe,vs,he,hc,hx,hd⟩,⟨oe,he⟩,fun _ _ ⟨oe,vs,a,b⟩ k=>⟨oe,vs,k _ a,b⟩⟩
theorem Xc.ok(x:Xc h e C dx T fl):vC P w H h e (ExF e C dx):=by
 obtain⟨oe,vs,he,hc,hx,hd,_⟩:=x;exact ExF.ok he hc hx hd
structure Fly (X:Cx) (pins:List (Addr×Obj)) (σ:St) (H:Hp) (s:ο) (e C:Addr) (dx:Option Addr) (T:Addr) (fl:Option Value):Prop where
 inv:Inv X pins σ H s
 at_:H e=some (ExF e C dx)
 xc:Xc s.heap e C dx T fl
 ye:X.s₀.heap.objs.size<=e
 fp:T=e\/dH X pins H T
section
variable {X:Cx}{pins:List (Addr×Obj)}{σ:St}{H H':Hp}{s s':ο}{e C:Addr}{dx:Option Addr}{T:Addr}{fl:Option Value}
theorem Fly.moved(f:Fly X pins σ H s e C dx T fl){T':Addr}(m:Mv (frs X.stack) e T s.heap h')(hT:T'=T\/s.heap.objs.size<=T')(x':Xc h' e C dx T' fl'):
  Fly X pins σ H { s with heap:=h' } e C dx T' fl':=by
 have I:=f.inv;have nT:∀b u,H b=some u->b≠e->b≠T:=fun b u q ne z=>by
  rcases f.fp with y|y
  ·exact ne (z.trans y)
  ·rw[z,y.1]at q;cases q
 have hok:HOk X.prog X.w H h':=fun b u q=>by
  by_cases hb:b=e
  ·subst hb;rw[f.at_]at q;cases q;exact x'.ok
  ·refine(I.hok b u q).stay (fun c v hc z=>?_) (fun _ z=>z) fun _ _ z=>z;have hc':∃u',H c=some u'/\c≠e:=by
    rcases hc with rfl|hc
    ·exact⟨u,q,hb⟩
    ·exact⟨_,hc,fun y=>by rw[y,f.at_]at hc;cases hc⟩
   obtain⟨u',qc,nc⟩:=hc';exact(m c v z nc (nT c u' qc nc)).1 fun y=>by rw[I.stkFree c y]at qc;cases qc
 obtain⟨oe,vs,he,_⟩:=id x';have un:Un (frs X.stack) [T] H H s.heap h':=by
  have nn:∀b,H b=none->b≠e:=fun b n z=>by rw[z,f.at_]at n;cases n
  refine⟨fun b o q n hb hx=>(m b o q (nn b n) (fun z=>hx (by simp[z]))).1 hb,fun b o q n _ hx=>(m b o q (nn b n) (fun z=>hx (by simp[z]))).2,fun _ _ _ n _=>n,fun b o q hx=>?_,fun _ _ q=>q,fun _ _ _ q=>q,fun _ ps q=>⟨#[],by rw[q];simp⟩⟩
  by_cases hb:b=e
  ·exact⟨oe,hb ▸ he⟩
  ·obtain⟨_,sl,z⟩:=m b o q hb (fun z=>hx (by simp[z]));exact⟨_,z⟩
 have hch:∀b∈[T],(b∈X.ex\/X.s₀.heap.objs.size<=b)/\b≠X.env.locals/\(∀x c,X.env.cells.lookup x=some c->c≠b)/\∀p∈X.pn++pins,p.1≠b:=fun b hb=>by
  obtain rfl:b=T:=by simpa using hb
  rcases f.fp with y|y
  ·subst y;refine⟨.inr f.ye,fun z=>?_,fun x c q z=>?_,fun p hp z=>?_⟩
   ·have:=I.free;rw[←z,f.at_]at this;cases this
   ·have:=I.freeC x c q;rw[z,f.at_]at this;cases this
   ·have:=(I.pin p hp).2.1;rw[z,f.at_]at this;cases this
  ·exact⟨y.2.2.2.1,y.2.1,y.2.2.2.2.1,y.2.2.2.2.2⟩
 refine⟨I.call (g':=s.gens) (t':=s.toks) (d':=s.drawn) un hok I.bare hch,f.at_,x',f.ye,?_⟩;rcases hT with z|z
 ·rw[z];exact f.fp
 ·exact .inr (I.fpOk z (I.hok.fresh z))
theorem Xc.neT(x:Xc h e C dx T (some v)):T≠e:=by
 obtain⟨oe,vs,_,_,_,_,_,⟨z,_⟩|⟨_,_,_,_,n,_⟩⟩:=x
 ·cases z
 ·exact n
def CXE (P:vh) (w:vy):CXT:=fun outer H s E ev s'=>∃(e C:Addr) (dx:Option Addr) (T:Addr) (H':Hp),ev=.ref e/\s'.os=s.os/\AllBare s'.gens/\Un (frs outer) [] H H' s.heap s'.heap/\HOk P w H' s'.heap ∧
 H' e=some (ExF e C dx)/\Xc s'.heap e C dx T (some .none)/\s.heap.objs.size<=e/\s.heap.objs.size<=T/\H' T=none/\E ev none H'
theorem Fly.of_call{E:XK}(I:Inv X pins σ H s)(h:CXE X.prog X.w X.stack H s E ev s'):∃e C dx T H',ev=.ref e/\Fly X pins σ H' s' e C dx T (some .none)/\E ev none H':=by
 obtain⟨e,C,dx,T,H',rfl,os,ba,un,hok,at_,xc,ye,yT,hT,hE⟩:=h;have I':=I.call' (ch:=[]) os un hok ba (fun b hb=>absurd hb (by simp));exact⟨e,C,dx,T,H',rfl,⟨I',at_,xc,sg I.sz ye,.inr (I.fpOk yT hT)⟩,hE⟩
end
section
variable {P:vh}{w:vy}{K:Ξ}{mg:Str->Option Value}{base:vn}{N:List Str}{qual:Str}{scope:Scope}{f:Addr}{cd:Value}{A:vm}{outer:List Env}{s₀ : ο}{H₀ : Hp}{E E':XK}
theorem tV(y:Fly (fH (CXE P w) P w K mg base N qual scope f cd A outer s₀ H₀ E) pins σ H s e C dx T fl)
  (hf:fl=none\/fl=some .none\/fl=some (rawInt s₀.heap.objs.size))(hE:E (.ref e) none H):(fH (CXE P w) P w K mg base N qual scope f cd A outer s₀ H₀ E).xe (.ref e) s:=by
 have I:=y.inv;refine aEo (base:=base) (env:=envOfC qual scope s₀.heap.objs.size f cd) (outer:=outer) I.ok.frames rfl I.stack y.xc hf fun h' T' hT x' m=>?_;have y':=y.moved m hT x';have I':=y'.inv;rcases y'.fp with z|z
 ·exact absurd z x'.neT
 refine⟨e,C,dx,T',H,rfl,I'.os,I'.bare,I'.base,I'.hok,y.at_,x',y.ye,?_,z.1,hE⟩;rcases z.2.2.2.1 with q|q
 ·exact absurd (show T'∈([]:List Addr) from q) (by simp)
 ·exact q
theorem aCc(hE:∀v d H',E' v d H'->E v d H'):yK (CXE P w) (fH (CXE P w) P w K mg base N qual scope f cd A outer s₀ H₀ E) E':=by
 intro pins σ H s ev s' I h;obtain⟨e,C,dx,T,H',rfl,y,q⟩:=Fly.of_call (X:=fH (CXE P w) P w K mg base N qual scope f cd A outer s₀ H₀ E) I h;exact tV y (.inr (.inl rfl)) (hE _ _ _ q)
theorem passX : yK (CXE P w) X E0:=fun _ _ _ _ _ _ _ h=>by
 obtain⟨_,_,_,_,_,_,_,_,_,_,_,_,_,_,_,q⟩:=h;exact q.elim
def aDw (X:Cx) (S:St->Prop) (E:XK):Prop:=∀(pins:List (Addr×Obj)) (σ:St) (H:Hp) (s:ο) (e C:Addr) (dx:Option Addr),S σ->Inv X pins σ H s->H e=some (Ex0 e C dx)->X.s₀.heap.objs.size<=e->E (.ref e) none (upd H e (ExF e C dx))->X.xe (.ref e) s
theorem Fly.start{H:Hp}(I:Inv X pins σ H s)(he:H e=some (Ex0 e C dx))(ye:X.s₀.heap.objs.size<=e):
  Fly X pins σ (upd H e (ExF e C dx)) s e C dx e none:=by
 obtain⟨⟨oe,vs,q,hc,hx,hd,h1,hv⟩,_⟩:=I.hok e _ he;have I':Inv X pins σ (upd H e (ExF e C dx)) s:=by
  have:=I.write (x:=e) (e:=e) (o:=ExF e C dx) (t':=s.toks) (h':=s.heap) (by rw[he];exact ud) (.inl rfl) (fun _ _ _ z=>z) ⟨_,q⟩ (ExF.ok q hc hx hd);exact this
 exact⟨I',jL,⟨oe,vs,q,hc,hx,hd,h1,.inl ⟨rfl,rfl,hv⟩⟩,ye,.inl rfl⟩
theorem xY:aDw (fH (CXE P w) P w K mg base N qual scope f cd A outer s₀ H₀ E) (fun _=>True) E:=fun pins σ H s e C dx _ I he ye hE=>tV (Fly.start I he ye) (.inl rfl) hE
theorem ownE:PassesOwn (rl P w) (A.deeper (envOfC qual scope s₀.heap.objs.size f cd)) (envOfC qual scope s₀.heap.objs.size f cd) (fH (CXE P w) P w K mg base N qual scope f cd A outer s₀ H₀ E).xe:=PassesOwn.leaving
end
theorem Fun.okE{P:vh}{w:vy}{K:Ξ}{mg:Str->Option Value}{base:vn}{x qual:Str}{st:Stmt}{f:Addr}{fd:sq}{N ps:List Str}{k:Nat}{sp:Sp}(F:Fun K x qual st f fd)(S:jO N ps (jH st))(len:∀vs H Q E,sp vs H Q E->vs.length=ps.length)
  (hbody:∀(cdv:Value) (A:vm) (outer:List Env) (s:ο) (H:Hp) (vs:List V) (Q:VK) (E:XK),vG k (A.deeper (envOfC qual (jH st) s.heap.objs.size f cdv))->sp vs H Q E →
   ∃t,PSs (fH (CXE P w) P w K mg base N qual (jH st) f cdv A outer s H E) (xR st) t/\t { nx:=fun _ H'=>Q .non H',rt:=Q } (start N vs) H):jI P w K mg base (CXE P w) (k+1) f fd ps sp:=by
 obtain⟨oc,od,kV,doc,pm,an,cdv,ct,osl,rfl,lk,hcd⟩:=F.ex;exact aGv lk hcd S len fun A outer s H vs Q E hr hsp=>hbody cdv A outer s H vs Q E hr hsp
theorem Cx.Ok.re{X:Cx}(ok:X.Ok)(pn:List (Addr×Obj))(E:Value->ο->Prop):Cx.Ok { X with pn:=pn,xe:=E } :=
 ⟨ok.mod,ok.kind,ok.glob,ok.blt,ok.above,ok.inj,ok.has,ok.cab,ok.hd,ok.frames,ok.stk,ok.exf,ok.bs,ok.bsz,ok.noex,ok.exfs,ok.funs,ok.frf⟩
theorem Cx.Ok.back{X:Cx}{pn:List (Addr×Obj)}{E:Value->ο->Prop}(ok:Cx.Ok { X with pn:=pn,xe:=E }):X.Ok :=
 ⟨ok.mod,ok.kind,ok.glob,ok.blt,ok.above,ok.inj,ok.has,ok.cab,ok.hd,ok.frames,ok.stk,ok.exf,ok.bs,ok.bsz,ok.noex,ok.exfs,ok.funs,ok.frf⟩
section
variable {X:Cx}{pins:List (Addr×Obj)}{σ:St}{H:Hp}{s:ο}
theorem Inv.re(I:Inv X pins σ H s)(pn pins':List (Addr×Obj))(E:Value->ο->Prop)(h:∀p∈pn++pins',p∈X.pn++pins):Inv { X with pn:=pn,xe:=E } pins' σ H s :=
 ⟨I.ok.re pn E,I.os,I.bare,I.base,I.loc,I.cell,I.free,I.freeC,fun p hp=>I.pin p (h p hp),I.hok,I.len⟩
theorem Inv.back{pn:List (Addr×Obj)}{E:Value->ο->Prop}(I:Inv { X with pn:=pn,xe:=E } pins' σ H s)(h:∀p∈X.pn++pins,p∈pn++pins'):Inv X pins σ H s :=
 ⟨I.ok.back,I.os,I.bare,I.base,I.loc,I.cell,I.free,I.freeC,fun p hp=>I.pin p (h p hp),I.hok,I.len⟩
def XT (X:Cx) (pn:List (Addr×Obj)) (S:St->Prop) (W:XK):Value->ο->Prop:=fun ev s=>∃(e C:Addr) (dx:Option Addr) (T:Addr) (fl:Option Value) (σ:St) (H:Hp),
 ev=.ref e/\Fly { X with pn:=pn,xe:=fun _ _=>False } [] σ H s e C dx T fl/\(fl=none\/fl=some .none)/\S σ/\W ev none H
abbrev XB (X:Cx) (pn:List (Addr×Obj)) (S:St->Prop) (W:XK):Cx:={ X with pn:=pn,xe:=XT X pn S W }
theorem Fly.re{pn:List (Addr×Obj)}{E E':Value->ο->Prop}(f:Fly { X with pn:=pn,xe:=E } pins σ H s e C dx T fl):Fly { X with pn:=pn,xe:=E' } [] σ H s e C dx T fl:=by
 refine⟨?_,f.at_,f.xc,f.ye,?_⟩
 ·exact Inv.re (X:={ X with pn:=pn,xe:=E }) f.inv pn [] E' (fun p hp=>by
   rw[uy]at hp;exact sm _ hp)
 ·rcases f.fp with z|⟨a1,a2,a3,a4,a5,a6⟩
  ·exact .inl z
  ·exact .inr ⟨a1,a2,a3,a4,a5,fun p hp=>a6 p (by
    have hp':p∈pn++[]:=hp;rw[uy]at hp';exact sm _ hp')⟩
def pN (CX:CXT) (X:Cx) (S:St->Prop) (E:XK):Prop:=∀(pins:List (Addr×Obj)) (σ:St) (H:Hp) (s:ο) (e:Value) (s':ο),S σ->Inv X pins σ H s->CX X.stack H s E e s'->X.xe e s'
theorem passT : pN (CXE X.prog X.w) (XB X pn S W) S W:=by
 intro pins σ H s ev s' hS I h;obtain⟨e,C,dx,T,H',rfl,y,q⟩:=Fly.of_call (X:=XB X pn S W) I h;exact⟨e,C,dx,T,_,σ,H',rfl,y.re,.inr rfl,hS,q⟩
end
section
variable {X:Cx}{CX:CXT}{k:Nat}{f C:Addr}{fd:sq}{ps:List Str}{sp:Sp}{dvs:List V}{ds:List Value}{E:XK}{S:St->Prop}{x m:Str}{p pos apos:Pos}{e o:Expr}{es:List Expr}{ta:TE}{t:TA}
theorem aFt{Q:VK}(F:jI X.prog X.w X.K X.mg X.base CX k f fd ps sp)(hr:vG k X.A)(hb:Binds X.K fd ps ds)(hd:kK dvs ds)(hx:pN CX X S E)(hS:S σ)
  (I:Inv X pins σ H s)(r:kK vs us)(h:sp (vs++dvs) H Q E):rj (rl X.prog X.w) X.A (call (.ref f) us) (EP X pins σ Q) X.xe s:=by
 have r2:kK (vs++dvs) (us++ds):=r.append hd;have hl:(us++ds).length=ps.length:=by rw[←r2.length];exact F.len _ _ _ _ h
 refine zi (As (F.run X.A X.stack s H ⟨us,[]⟩ (us++ds) (vs++dvs) Q E hr I.env0 (hb s us I.kIn hl) r2 h) fun r s' hq=>?_);cases r with
 |error e=>exact hx pins σ H s e s' hS I hq
 |ok fl =>
  cases fl with
  |ret u=>exact I.after hq
  |next=>exact su hq
  |brk=>exact su hq
  |cont=>exact su hq
def aHn (S:St->Prop) (sp:Sp) (dvs:List V) (E:XK) (t:TA):TE:=fun σ H Q=>t σ H fun vs H1=>S σ/\sp (vs++dvs) H1 Q E
theorem aCe(F:jI X.prog X.w X.K X.mg X.base CX k f fd ps sp)(hr:vG k X.A)(hg:Gl X x)(hm:X.mg x=some (.ref f))(hk:keepIn X.K (.ref f)=true)(hb:Binds X.K fd ps ds)(hd:kK dvs ds)(hx:pN CX X S E)
  (ha:PA X (e::es) t)(hdb:(x == ("__debug__" : Str))=false:=by decide)(he:sf (e::es) X.env=(false,eval e X.env)::sf es X.env:=by rfl)(hpl:(yn pos (sf es X.env)).any (·.1)=false:=by rfl):
  PE X (.Call (.Name x p) (e::es) [] pos) (aHn S sp dvs E t):=by
 intro pins s σ H Q I h;refine xx (cZ I hg hm ?_ hdb);refine xy (h₀:=X.base) I.ok.mod.kin hk (thn (ha pos pins s σ H _ I h) fun us s1 ⟨vs,H1,I1,r,hS,q⟩=>⟨I1.kIn,?_⟩) he hpl;exact aFt F hr hb hd hx hS I1 r q
end
structure XCls (K:Ξ) (C:Addr) (bm:List Value):Prop where
 obj:∃(nm q:Str) (N:Addr) (bs:List Value) (hd:Bool) (sn:List Str) (sub:List Value) (ab:Bool) (col:Option Bool) (dd:Option Addr) (k0 k1 k2 k3 k5:Option Value) (ni:String),K.lookup C=some (excClassObj nm q C N bs bm hd sn sub ab col dd k0 k1 k2 k3 k5 ni)
 b:bm.contains (.type "BaseException")=true
abbrev XH (X:Cx) (e:Addr):Cx:={ X with A:=X.A.mark (some (.ref e)),calm:=false,xe:=fun _ _=>False }
section
variable {X:Cx}{pins:List (Addr×Obj)}{σ:St}{H:Hp}{s:ο}
theorem Inv.toH(I:Inv X pins σ H s)(e:Addr):Inv (XH X e) pins σ H s :=
 ⟨⟨I.ok.mod,I.ok.kind,I.ok.glob,I.ok.blt,I.ok.above,I.ok.inj,I.ok.has,I.ok.cab,(fun z=>by cases z),I.ok.frames,I.ok.stk,I.ok.exf,I.ok.bs,I.ok.bsz,I.ok.noex,I.ok.exfs,I.ok.funs,I.ok.frf⟩,I.os,I.bare,I.base,I.loc,I.cell,I.free,I.freeC,I.pin,I.hok,I.len⟩
theorem Inv.ofH(hd:X.calm=true->X.A.handled=none)(I:Inv (XH X e) pins σ H s):Inv X pins σ H s :=
 ⟨⟨I.ok.mod,I.ok.kind,I.ok.glob,I.ok.blt,I.ok.above,I.ok.inj,I.ok.has,I.ok.cab,hd,I.ok.frames,I.ok.stk,I.ok.exf,I.ok.bs,I.ok.bsz,I.ok.noex,I.ok.exfs,I.ok.funs,I.ok.frf⟩,I.os,I.bare,I.base,I.loc,I.cell,I.free,I.freeC,I.pin,I.hok,I.len⟩
theorem Inv.unbound{h':vn}{m:Str->Option Value}{u:Option Value}{i:Nat}{n:Str}(I:Inv X pins σ H s)(hN:X.N.Nodup)(hi:X.N[i]?=some n)(hn:s.heap.Ns X.env.locals m)
  (hm:∀(j:Nat) (x:Str) (v:V),X.N[j]?=some x->σ[j]?=some (some v)->Vis X.env.scope x->∃u,RelV v u/\Look X.env s.heap m x u)
  (hn':h'.Ns X.env.locals (fun x=>if x=n then u else m x))(sb:xk X.env.locals s.heap h'):Inv X pins (σ.set i none) H { s with heap:=h' }:=by
 have kp:∀b o,b≠X.env.locals->s.heap.get? b=some o->h'.get? b=some o:=fun b o nb q=>(sb.2 b nb).trans q;have neL:∀b o,X.s₀.heap.get? b=some o->b≠X.env.locals:=fun b o e=>sk (ω (ra e) I.ok.above);have B:=I.base;refine⟨I.ok,I.os,I.bare,⟨fun b o q n1 hb hx=>kp b o (neL b o q) (B.keep b o q n1 hb hx),fun b o q n1 hb hx=>?_,B.free,fun b o q hx=>?_,B.tups,B.frzs,B.tbls⟩,⟨_,hn',fun j x v e1 e2 e3=>?_⟩,fun x c e=>?_,I.free,I.freeC,fun p hp=>?_,?_,?_⟩
 ·obtain⟨sl,z⟩:=B.slot b o q n1 hb hx;exact⟨sl,kp b _ (neL b o q) z⟩
 ·obtain⟨o',z⟩:=B.there b o q hx;exact⟨o',kp b _ (neL b o q) z⟩
 ·have hj:j≠i:=fun z=>by
   subst z;rw[List.getElem?_set_self' ]at e2;cases hz : σ[j]? with
   |none=>rw[hz]at e2;cases e2
   |some _=>rw[hz]at e2;cases e2
  rw[AQ (va hj)]at e2;obtain⟨u',ru,l⟩:=hm j x v e1 e2 e3;have xn:x≠n:=fun z=>hj (lT hN e1 (z ▸ hi));refine⟨u',ru,?_⟩;rcases l with⟨k1,k2⟩|⟨k1,c,k2,o,ho,hd⟩
  ·exact .inl ⟨k1,by show(if x=n then u else m x)=some u';rw[if_neg xn];exact k2⟩
  ·exact .inr ⟨k1,c,k2,o,kp c o (I.cne x c k2) ho,hd⟩
 ·obtain⟨v,o,ho,hd⟩:=I.cell x c e;exact⟨v,o,kp c o (I.cne x c e) ho,hd⟩
 ·obtain⟨a1,a2,a3,a4,a5⟩:=I.pin p hp;exact⟨kp _ _ a3 a1,a2,a3,a4,a5⟩
 ·intro b o q;refine(I.hok b o q).stay (fun c v hc z=>kp c v ?_ z) (fun _ z=>z) fun _ _ z=>z;rintro rfl;rcases hc with z|z
  ·rw[←z,I.free]at q;cases q
  ·rw[I.free]at z;cases z
 ·rw[List.length_set];exact I.len
def tTry (tb:(St->Prop)->XK->TS) (K:Ξ) (Cn:Addr) (i:Nat) (ts:TS):TS:=fun D σ H=>∃(S:St->Prop) (W:XK),tb S W D σ H ∧
 ∀(σ':St) (e:Addr) (H':Hp),S σ'->W (.ref e) none H'->∃C dx bm,H' e=some (ExF e C dx)/\XCls K C bm/\(se C::bm).contains (.ref Cn)=true ∧
  ts { nx:=fun σ2 H2=>D.nx (σ2.set i none) H2,rt:=D.rt,bk:=fun σ2 H2=>D.bk (σ2.set i none) H2,ct:=fun σ2 H2=>D.ct (σ2.set i none) H2 } (σ'.set i (some (.ref e))) H'
theorem aJf{b0:Stmt}{suite:List Stmt}{rest:List ExceptHandler}{i:Nat}{tb:(St->Prop)->XK->TS}(hcalm:X.calm=true)(hst:X.stack=X.env::X.outer)(hfr:X.env.frame=some X.env.locals)
  (hg:Gl X cn)(hm:X.mg cn=some (.ref Cn))(hcl:XCls X.K Cn bmn)
  (hN:X.N.Nodup)(hi:X.N[i]?=some n)(hn:X.env.scope.names.lookup n=some .local)
  (hb:∀pn S W,PSs (XB X pn S W) body (tb S W))(hs:∀e,PSs (XH X e) (b0::suite) ts)(hdb:(cn == ("__debug__" : Str))=false:=by decide):
  PS X (.Try body (.ExceptHandler (some (.Name cn p)) (some n) (b0::suite) hp::rest) [] [] pos) (tTry tb X.K Cn i ts):=by
 intro pins s σ H D I h;obtain⟨S,W,hbody,hh⟩:=h;refine wpAny_Try_except (ua (hb (X.pn++pins) S W [] s σ H D (I.re (X.pn++pins) [] _ (fun q hq=>by rwa [uy]at hq)) hbody) (fun f s1 hf=>?_) fun ev s1 hx=>?_)
 ·have bk:∀{σ':St}{H':Hp},Inv (XB X (X.pn++pins) S W) [] σ' H' s1->Inv X pins σ' H' s1:=fun {σ' H'} J=>J.back (fun q hq=>by rw[uy];exact hq);cases f with
  |next =>
   obtain⟨σ',H',J,q⟩:=hf;exact wpAny_execs_nil ⟨σ',H',bk J,q⟩
  |brk=>obtain⟨σ',H',J,q⟩:=hf;exact⟨σ',H',bk J,q⟩
  |cont=>obtain⟨σ',H',J,q⟩:=hf;exact⟨σ',H',bk J,q⟩
  |ret u=>obtain⟨v,σ',H',J,r,q⟩:=hf;exact⟨v,σ',H',bk J,r,q⟩
 ·obtain⟨e,C,dx,T,fl,σ',H',rfl,y,hfl,hS,hW⟩:=hx;have hA:X.A.frames=some (X.env::X.outer):=hst ▸ I.ok.frames;have ff:s1.heap.FunFrames X.base (X.env::X.outer):=hst ▸ y.inv.stack;refine aAa hA hfr ff y.xc (hfl.imp id .inl) fun h1 T1 q1 x1 m1=>?_;have y1:=y.moved (by show Mv (frs X.stack) _ _ _ _;rw[hst];exact m1) q1 x1;refine fW x1 fun h2 x2 m2=>?_;have y2:=y1.moved (h':=h2) (fun b o q ne nT=>⟨fun _=>(m2 b o q ne nT).1 (by simp),(m2 b o q ne nT).2⟩) (.inl rfl) x2;obtain⟨C',dx',bm,hat,hxc,hmro,hsu⟩:=hh σ' e H' hS hW;have eqs:C'=C/\dx'=dx:=by
   have z:=y.at_.symm.trans hat;obtain⟨⟨oe,vs,a1,a2,a3,_⟩,_⟩:=y.inv.hok e _ y.at_;obtain⟨⟨oe',vs',b1,b2,b3,_⟩,_⟩:=y.inv.hok e _ hat;rw[a1]at b1;cases b1;exact⟨by rw[a2]at b2;exact(se.inj b2).symm,b3.symm.trans a3⟩
  obtain⟨rfl,rfl⟩:=eqs;have I2:Inv X pins σ' H' { s1 with heap:=h2 }:=y2.inv.back (fun q hq=>by rw[uy];exact hq);refine wpAny_handleBy_cons (codeAny_handlers_test ?_) (by intro z;cases z);refine cZ (X:=XH X e) (I2.toH e) hg hm ?_ hdb;obtain⟨oe,vs,he,oc,_⟩:=id x2;have match_:∀{Q:Bool->ο->Prop}{E:Value->ο->Prop},Q true { s1 with heap:=h2 }->rj (rl X.prog X.w) (X.A.mark (some (.ref e))) (excMatches (.ref e) (.ref Cn)) Q E { s1 with heap:=h2 }:=fun {Q E} q=>by
   obtain⟨nm1,q1,N1,bs1,hd1,sn1,su1,ab1,co1,dd1,j0,j1,j2,j3,j5,ni1,lk1⟩:=hxc.obj;obtain⟨nm2,q2,N2,bs2,hd2,sn2,su2,ab2,co2,dd2,l0,l1,l2,l3,l5,ni2,lk2⟩:=hcl.obj;exact aJn (I2.kIn _ _ lk1) (I2.kIn _ _ lk2) hcl.b he oc hmro q
  refine match_ ?_;refine codeAny_handlers_suite_as ?_;refine fW x2 fun h3 x3 m3=>?_;have y3:=y2.moved (h':=h3) (fun b o q ne nT=>⟨fun _=>(m3 b o q ne nT).1 (by simp),(m3 b o q ne nT).2⟩) (.inl rfl) x3;have I3:Inv X pins σ' H' { s1 with heap:=h3 }:=y3.inv.back (fun q hq=>by rw[uy];exact hq);refine cX (X:=XH X e) (I3.toH e) hN hi (.inl hn) (v:=.ref e) rfl (fun s4 I4 _=>?_) (.inr hn);refine ua (hs e pins s4 _ H' _ I4 hsu) (fun fl5 s5 hf=>?_) fun _ _ z=>z.elim;have fin:∀{σ5:St}{H5:Hp}{P5:ο->Prop},Inv (XH X e) pins σ5 H5 s5->(∀s6,Inv X pins (σ5.set i none) H5 s6->P5 s6) →
    rj (rl X.prog X.w) X.A (do bindName X.env n .none;unbindBehindTheSuite X.env n hp) (fun _ s6=>P5 s6) X.xe s5:=fun {σ5 H5 P5} J q=>by
   have J':Inv X pins σ5 H5 s5:=J.ofH I.ok.hd;refine ι (wpAny_bindName (cX (X:=X) J' hN hi (.inl hn) (v:=.non) rfl (fun s6 J6 _=>?_) (.inr hn)));obtain⟨m,hm6,hl6⟩:=id J6.loc;have hv:∃v,m n=some v:=by
    have hiσ:i<σ5.length:=by rw[J'.len];exact(η.mp hi).1
    obtain⟨u,_,l⟩:=hl6 i n .non hi (by rw[Ar hiσ]) (.inl hn);rcases l with⟨_,z⟩|⟨z,_⟩
    ·exact⟨u,z⟩
    ·have hn':X.env.kindOf n=some .local:=hn;rcases z with z|z <;> (rw[hn']at z;cases z)
   obtain⟨v,hv⟩:=hv;unfold unbindBehindTheSuite;refine wpAny_onRaise (wpAny_unbindName_local hn hm6 hv (by rw[J'.ok.kind];rfl) fun h7 u7 hn7 sb7=>?_);have:=J6.unbound hN hi hm6 hl6 hn7 sb7;rw[List.set_set]at this;exact q _ this
  cases fl5 with
  |next=>obtain⟨σ5,H5,J,q⟩:=hf;exact fin J fun s6 J6=>⟨_,H5,J6,q⟩
  |brk=>obtain⟨σ5,H5,J,q⟩:=hf;exact fin J fun s6 J6=>⟨_,H5,J6,q⟩
  |cont=>obtain⟨σ5,H5,J,q⟩:=hf;exact fin J fun s6 J6=>⟨_,H5,J6,q⟩
  |ret u=>obtain⟨v,σ5,H5,J,r,q⟩:=hf;exact fin J fun s6 J6=>⟨v,_,H5,J6,r,q⟩
end
def XD (dx:Addr) (fs:List (Str×V)):HO:=.ext fun h=>∃mA,h.Ns1 dx mA/\(∀f,yQ (fs.lookup f) (mA f))/\ww mA (fs.map (·.1))
theorem XD.ok{h:vn}{fs:List (Str×V)}(a:∃mA,h.Ns1 dx mA/\(∀f,yQ (fs.lookup f) (mA f))/\ww mA (fs.map (·.1))):vC P w H h dx (XD dx fs):=by
 obtain⟨mA,⟨o,es,ep,ho,z⟩,r⟩:=id a;exact⟨a,⟨o,ho⟩,fun h1 h2 ⟨mA,⟨o,es,ep,ho,z⟩,r⟩ k=>⟨mA,⟨o,es,ep,k _ ho,z⟩,r⟩⟩
theorem aHz{H:Hp}(e:H a=some o):upd H a o=H:=by
 funext b
 unfold upd
 split
 ·rename_i q;rw[q,e]
 ·rfl
section
variable {X:Cx}{pins:List (Addr×Obj)}{σ:St}{H:Hp}{s:ο}{e C R fI dx:Addr}
theorem Inv.xfirst{h':vn}{t':Nat}{fs:List (Str×V)}(I:Inv X pins σ H s)(he:H e=some (Ex0 e C none))(hx:s.heap.objs.size<=dx)(ne:dx≠e)(g:h'.get? e=some oe)(oc:oe.cls=.ref C)(od:oe.dict=some dx)(hd:oe.data=.fields vs)(h1 : 1<vs.size)(hv:vs[1]?=some .none)
  (hn:∃mA,h'.Ns1 dx mA/\(∀f,yQ (fs.lookup f) (mA f))/\ww mA (fs.map (·.1)))(k:∀b o,b≠e->s.heap.get? b=some o->h'.get? b=some o):
  Inv X pins σ (upd (upd H dx (XD dx fs)) e (Ex0 e C (some dx))) { s with heap:=h',toks:=t' }:=by
 have nx:H dx=none:=I.hok.fresh hx;have eqs:∀b u,H b=some u->b≠e->upd (upd H dx (XD dx fs)) e (Ex0 e C (some dx)) b=some u:=fun b u q nb=>by
  rw[jW nb,jW (jK q nx)];exact q
 refine I.un ⟨fun b o q n _ _=>k b o (jK he n).symm q,fun b o q n _ _=>⟨o.slots,k b o (jK he n).symm q⟩,fun b o q n _=>?_,fun b o q _=>?_,fun b xs q=>?_,fun b o u q=>?_,fun b ps q=>⟨#[],?_⟩⟩ fun b u q=>?_
 ·rw[jW (jK he n).symm,jW (sk (ω (ra q) hx))];exact n
 ·by_cases hb:b=e
  ·exact⟨oe,hb ▸ g⟩
  ·exact⟨o,k b o hb q⟩
 ·exact eqs b _ q fun z=>by rw[z,he]at q;cases q
 ·exact eqs b _ q fun z=>by rw[z,he]at q;cases q
 ·rw[eqs b _ q fun z=>by rw[z,he]at q;cases q];simp
 ·by_cases hb:b=e
  ·subst hb;rw[jL]at q;cases q;exact Ex0.ok g oc od hd h1 hv
  ·rw[jW hb]at q
   by_cases hb2:b=dx
   ·subst hb2;rw[jL]at q;cases q;exact XD.ok hn
   ·rw[jW hb2]at q;refine(I.hok b u q).stay (fun c v hc z=>k c v ?_ z) (fun c z=>eqs c _ z fun y=>by rw[y,he]at z;cases z) fun c xs z=>eqs c _ z fun y=>by rw[y,he]at z;cases z
    rcases hc with y|y
    ·rw[y];exact hb
    ·intro z;rw[z,he]at y;cases y
def sXfld (K:Ξ) (ta tv:TE) (f:Str):TS:=fun D σ H=>tv σ H fun y H1=>ta σ H1 fun x H2=>∃e C R fI,x=.ref e/\zW K C R fI/\uv K (.ref C) f=some none ∧
 ((H2 e=some (Ex0 e C none)/\∀dx,H2 dx=none->D.nx σ (upd (upd H2 dx (XD dx [(f,y)])) e (Ex0 e C (some dx)))) ∨
   ∃dx fs,H2 e=some (Ex0 e C (some dx))/\H2 dx=some (XD dx fs)/\fs.length<1000/\D.nx σ (upd H2 dx (XD dx (yZ f y fs))))
theorem aIl{Q:Unit->ο->Prop}(I:Inv X pins σ H s)(c:zW X.K C R fI)(hf:uv X.K (.ref C) f=some none)(ry:RelV y u){N:Hp->Prop}
  (h:(H e=some (Ex0 e C none)/\∀dx,H dx=none->N (upd (upd H dx (XD dx [(f,y)])) e (Ex0 e C (some dx))))\/∃dx fs,H e=some (Ex0 e C (some dx))/\H dx=some (XD dx fs)/\fs.length<1000/\N (upd H dx (XD dx (yZ f y fs))))
  (q:∀s' H',Inv X pins σ H' s'->N H'->Q () s'):rj (rl X.prog X.w) A (setAttr (.ref e) f u) Q E s:=by
 rcases h with⟨he,hN⟩|⟨dx,fs,he,hd,hl,hN⟩
 ·obtain⟨⟨oe,vs,g,oc,ox,od,h1,hv⟩,_⟩:=I.hok e _ he;refine wC I.kIn c g oc od ox hf fun h' dx tk hx ne g' hn k=>?_;refine q _ _ (I.xfirst he hx ne g' oc rfl od h1 hv ⟨_,hn,fun z=>?_,fun z hz=>?_⟩ k) (hN dx (I.hok.fresh hx))
  ·show yQ (yl z [(f,y)]) (if z=f then some u else none)
   by_cases hz:z=f
   ·rw[if_pos hz,hz];simp only[yl,beq_self_eq_true];exact ry
   ·have hb:(z == f)=false:=beq_eq_false_iff_ne.mpr hz;rw[if_neg hz];simp only[yl,hb];exact ud
  ·by_cases hz':z=f
   ·rw[hz'];exact τ.mpr rfl
   ·exact absurd (if_neg hz') hz
 ·obtain⟨⟨oe,vs,g,oc,ox,od,h1,hv⟩,_⟩:=I.hok e _ he;obtain⟨⟨mA,hn,r,wi⟩,_⟩:=I.hok dx _ hd;refine aBb I.kIn c g oc od ox hn wi (by rw[ε,qx];omega) hf fun h' hn' sb=>?_;have ho:∃o,h'.get? dx=some o:=let ⟨o,_,_,e',_⟩:=hn'; ⟨o,e'⟩;refine q _ _ (I.write (x:=dx) (e:=dx) (o:=XD dx (yZ f y fs)) (by rw[hd];exact ud) (.inl rfl) (fun b o hb z=>(sb.2 b hb).trans z) ho (XD.ok ⟨_,hn',fun z=>?_,fun z hz=>?_⟩)) hN
  ·show yQ ((yZ f y fs).lookup z) (if z=f then some u else mA z);rw[bS]
   by_cases q:z=f
   ·rw[if_pos q,if_pos q];exact ry
   ·rw[if_neg q,if_neg q];exact r z
  ·by_cases q:z=f
   ·rw[q];exact(aD f y fs).1
   ·refine(aD f y fs).2 z (wi z fun y'=>hz ?_);show(if z=f then some u else mA z)=none;rw[if_neg q];exact y'
theorem dC{pos:Pos}(ha:PE X o ta)(hv:PE X value tv)(hs:swapsWith value (some (.Attribute o f pos')) pos.line X.env=pure false:=by rfl):PS X (.Assign [.Attribute o f pos'] value pos) (sXfld X.K ta tv f):=by
 intro pins s σ H D I h;refine plainObj_wpAny_Assign_Attribute (thn (hv pins s σ H _ I h) fun u s1 ⟨y,H1,I1,ry,h1⟩=>thn (ha pins s1 σ H1 _ I1 h1) fun ov s2 zq=>?_) hs;obtain⟨x,H2,I2,rx,e,C,R,fI,ex,c,hf,h2⟩:=zq;subst ex;obtain rfl:ov=se e:=rx;exact aIl I2 c hf ry h2 fun s' H' I' q=>⟨σ,H',I',q⟩
def aHh (K:Ξ) (ta:TE) (f:Str):TE:=fun σ H Q=>ta σ H fun x H1=>∃e C R fI dx fs v,x=.ref e/\(H1 e=some (ExF e C (some dx))\/H1 e=some (Ex0 e C (some dx)))/\H1 dx=some (XD dx fs)/\zW K C R fI/\uv K (.ref C) f=some none/\fs.lookup f=some v/\Q v H1
theorem aFa(he:PE X o ta)(hb:za o f X.env (eval o X.env)=eval o X.env):PE X (.Attribute o f pos) (aHh X.K ta f):=by
 intro pins s σ H Q I h;refine aAj hb (thn (he pins s σ H _ I h) fun u s1 zq=>?_);obtain⟨x,H1,I1,rx,e,C,R,fI,dx,fs,v,ex,ea,ed,c,hf,l,q⟩:=zq;subst ex;obtain rfl:u=se e:=rx;obtain⟨⟨mA,hn,r,wi⟩,_⟩:=I1.hok dx _ ed;obtain⟨u',hu,ru⟩:=yQ.some_of (v:=v) (o:=mA f) (by rw[←l];exact r f);obtain⟨oe,vs,g,oc,ox,od⟩ : ∃oe vs,s1.heap.get? e=some oe/\oe.cls=.ref C/\oe.dict=some dx/\oe.data=.fields vs:=by
  rcases ea with ea|ea
  ·obtain⟨⟨oe,vs,g,oc,ox,od⟩,_⟩:=I1.hok e _ ea;exact⟨oe,vs,g,oc,ox,od⟩
  ·obtain⟨⟨oe,vs,g,oc,ox,od,_⟩,_⟩:=I1.hok e _ ea;exact⟨oe,vs,g,oc,ox,od⟩
 obtain⟨o1,ho,hl⟩:=fK hn;obtain⟨cd,hcd,hm,hh⟩:=c.clsIn;have hh':ze X.K C=true:=by unfold ze;rw[hcd];exact hh
 exact xget I1.kIn c (iS (od:=some o1) g oc od (by rw[ox];exact ho)) (PySem.W.findObj_own hh' hf rfl (by rw[hl,hu])) (nU ru) ⟨v,H1,I1.tok _,ru,q⟩
end
structure aGy (K:Ξ) (B f:Addr):Prop where
 r:PySem.W.readsIn K B (.type "type")=true
 fd:PySem.W.findCls K (.ref B) (.type "type") "__init__" = some (.val (.ref f))
 g:Az K (.ref B) "__getattribute__" = some (some (.builtin "type.__getattribute__"))
 k:keepIn K (.ref f)=true
structure aEv (K:Ξ):Prop where
 ga:uv K (.type "type") "__getattribute__" = some (some (.builtin "type.__getattribute__"))
 sub:PySem.W.subIn K (.type "type") (.type "type")=some true
 f:PySem.W.findCls K (.type "ValueError") (.type "type") "__init__" = some (.val (.builtin "ValueError.__init__"))
theorem aCl:typeOf (.type "ValueError")=pure (.type "type"):=by kernel_rfl
theorem aHm:opaqueClassAbove (.type "ValueError")=pure none:=by kernel_rfl
theorem aDj:hookBefore (.type "type")=pure none:=by kernel_rfl
theorem aEd:typeLookup (.type "type") "__getattribute__" = pure (some (.builtin "type.__getattribute__")):=by rw[typeLookup_type,builtinLookup_eq_fast];kernel_rfl
theorem aHx:specialOf (.type "ValueError") "__getattribute__" = pure (some (.builtin "type.__getattribute__")):=by
 unfold specialOf;rw[aCl];show typeLookup (.type "type") "__getattribute__" = _;exact aEd
section
variable {X:Cx}{CX:CXT}{k:Nat}{f B C R:Addr}{fd:sq}{ps:List Str}{sp:Sp}{dvs:List V}{ds:List Value}{E:XK}{x:Str}{p pos apos:Pos}{e o:Expr}{es:List Expr}{t:TA}
theorem eK(c:aGy X.K B f)(ho:PE X o (tC (.ref B)))(F:jI X.prog X.w X.K X.mg X.base CX k f fd ps sp)(hr:vG k X.A)(hb:Binds X.K fd ps ds)(hd:kK dvs ds)(hx:yK CX X E)(ha:PA X (e::es) t)
  (hst:sf (e::es) X.env=(false,eval e X.env)::sf es X.env:=by rfl)(hpl:(yn pos (sf es X.env)).any (·.1)=false:=by rfl)
  (ht:eval (.Call (.Attribute o "__init__" apos) (e::es) [] pos) X.env=(do
   let ov ←eval o X.env
   standAt apos.atName
   let (f,first) ←holding [ov] (Ak ov "__init__" pl)
   callWith pos f first (yn pos (sf (e::es) X.env)) (backToKw pos (Am [] X.env))):=by rfl):
  PE X (.Call (.Attribute o "__init__" apos) (e::es) [] pos) (aDz sp dvs E t):=by
 intro pins s σ H Q I h;refine yb (pl:=pl) (thn (ho pins s σ H (fun v H1=>v=.ref B/\aDz sp dvs E t σ H1 Q) I ⟨rfl,h⟩) fun u s1 zq=>?_) ht;obtain⟨x,H1,I1,rx,ex,q⟩:=zq;subst ex;obtain rfl:u=se B:=rx;refine PySem.W.method_cls I1.kIn c.g (PySem.W.cls_value I1.kIn c.r c.fd rfl ?_);refine xy (first:=[]) (h₀:=X.base) I.ok.mod.kin c.k (thn (ha pos pins _ σ H1 _ (I1.tok _) q) fun us s2 ⟨vs,H2,I2,r,q2⟩=>⟨I2.kIn,?_⟩) hst hpl;exact mP F hr hb hd hx I2 r q2
def aDi (K:Ξ) (t:TA):TE:=fun σ H Q=>t σ H fun vs H1=>∃e v C R fI dx,vs=[.ref e,v]/\H1 e=some (Ex0 e C dx)/\zW K C R fI/\Q .non H1
theorem aCw(c:aEv X.K)(ho:PE X o (tC (.ty "ValueError")))(ha:PA X (e::es) t)
  (hst:sf (e::es) X.env=(false,eval e X.env)::sf es X.env:=by rfl)(hpl:(yn pos (sf es X.env)).any (·.1)=false:=by rfl)
  (ht:eval (.Call (.Attribute o "__init__" apos) (e::es) [] pos) X.env=(do
   let ov ←eval o X.env
   standAt apos.atName
   let (f,first) ←holding [ov] (Ak ov "__init__" pl)
   callWith pos f first (yn pos (sf (e::es) X.env)) (backToKw pos (Am [] X.env))):=by rfl):
  PE X (.Call (.Attribute o "__init__" apos) (e::es) [] pos) (aDi X.K t):=by
 intro pins s σ H Q I h;refine yb (pl:=pl) (thn (ho pins s σ H (fun v H1=>v=.ty "ValueError"/\aDi X.K t σ H1 Q) I ⟨rfl,h⟩) fun u s1 zq=>?_) ht;obtain⟨x,H1,I1,rx,ex,q⟩:=zq;subst ex;obtain rfl:u=Value.type "ValueError":=rx;have key:∀{Q':Value×List Value->ο->Prop},Q' (.builtin "ValueError.__init__",[]) { s1 with toks:=s1.toks+1 }->rj (rl X.prog X.w) X.A (Ak (.type "ValueError") "__init__" pl) Q' X.xe s1:=fun {Q'} q'=>by
  unfold Ak;refine ι ((zb aHx).here ?_);dsimp only;rw[if_pos PySem.W.canon_tga];refine ι (PySem.W.cls_open (hook:=none) I1.kIn (zb aHm) (zb aCl) c.ga (zb aDj) c.sub c.f (Φ ?_));show rj _ _ (handedOut (.builtin "ValueError.__init__")) _ _ _;rw[AR (v:=.builtin "ValueError.__init__") rfl];exact Φ (Φ q')
 refine key ?_;refine AL (thn (ha pos pins _ σ H1 _ (I1.tok _) q) fun us s2 zq=>?_) hst hpl;obtain⟨vs,H2,I2,r,e',v,C,R,fI,dx,ev,he,cx,q2⟩:=zq;subst ev;cases r with
 |cons r1 r2 =>
  cases r2 with
  |cons r3 r4 =>
   cases r4;cases r1;obtain⟨⟨oe,vs,g,oc,ox,od,h1,hv⟩,_⟩:=I2.hok e' _ he;obtain⟨nm,qn,N,bs,sn,sub,ab,col,dd,k0,k1,k2,k3,k5,mN,oI,hC,_⟩:=cx.cls I2.kIn;obtain⟨hh,gg,d,tk,os⟩:=s2;refine xinit (aEu R) hC g oc od h1 fun h' oe' vs' kp g' oc' ox' od' sz hv'=>?_;have I3:=I2.write (x:=e') (e:=e') (o:=Ex0 e' C dx) (t':=tk) (h':=h') (by rw[he];exact ud) (.inl rfl) (fun b o nb z=>kp b o nb z) ⟨_,g'⟩ (Ex0.ok g' (oc'.trans oc) (ox'.trans ox) od' (by rw[sz];exact h1) (hv'.trans hv));rw[aHz he]at I3;exact⟨.non,H2,I3,rfl,q2⟩
theorem aAz{H:Hp}{Q:VK}(c:zW X.K C R f)(F:jI X.prog X.w X.K X.mg X.base CX k f fd ps sp)(hr:vG (k+1) X.A)(hb:Binds X.K fd ps ds)(hd:kK dvs ds)
  (hx:yK CX X E)(I:Inv X pins σ H s)(r:kK vs us)(hz:vs.length<=ρ)(h:∀e,H e=none->sp (.ref e::(vs++dvs)) (upd H e (Ex0 e C none)) (fun v H2=>v=.non/\Q (.ref e) H2) E):
  rj (rl X.prog X.w) X.A (call (.ref C) us) (fun u s'=>∃e H',u=.ref e/\X.s₀.heap.objs.size<=e/\Inv X pins σ H' s'/\Q (.ref e) H') X.xe s:=by
 obtain⟨nm,qn,N,bs,sn,sub,ab,col,dd,k0,k1,k2,k3,k5,mN,oI,hC,hN,hi,hf,hfc⟩:=c.cls I.kIn;obtain⟨hh,g,d,t,os⟩:=s;refine xmake (aEu R) hC hN hi hf hfc (by rw[←r.length];exact hz) fun h' e mk ye=>?_;obtain⟨kp,en,t0,e1,tn,e2⟩:=mk;have hE:H e=none:=I.hok.fresh ye;have I2:Inv X pins σ (upd H e (Ex0 e C none)) ⟨h',g,d,t,os⟩:=I.laid (a:=e) (o:=Ex0 e C none) (t':=t) kp ye (Ex0.ok e1 rfl rfl rfl (by show 1<6;decide) rfl);have hq:=h e hE;have r2:kK (V.ref e::(vs++dvs)) (se e::(us++ds)):=.cons rfl (r.append hd);have hl:(se e::us++ds).length=ps.length:=by
  have e':=r2.length;rw[F.len _ _ _ _ hq]at e';exact e'.symm
 refine zi (As (F.run _ X.stack _ _ ⟨se e::us,[]⟩ (se e::(us++ds)) _ _ E (hr.make C us []) (I2.env0.make C us []) (hb _ (se e::us) I2.kIn hl) r2 hq) fun rr s' hq'=>?_);cases rr with
 |error ev=>exact hx pins σ _ _ ev s' I2 hq'
 |ok fl =>
  cases fl with
  |ret u =>
   obtain⟨v,H',I3,rv,ev,q3⟩:=I2.after hq';subst ev;exact⟨rv,e,H',rfl,sg I.sz ye,I3,q3⟩
  |next=>exact su hq'
  |brk=>exact su hq'
  |cont=>exact su hq'
def aHs (S:St->Prop) (C:Addr) (sp:Sp) (dvs:List V) (E:XK) (t:TA):TS:=fun _ σ H=>S σ/\t σ H fun vs H1=>vs.length<=1000/\∀e,H1 e=none →
 sp (.ref e::(vs++dvs)) (upd H1 e (Ex0 e C none)) (fun v H2=>v=.non/\∃e' dx,V.ref e=.ref e'/\H2 e'=some (Ex0 e' C dx)/\E (.ref e') none (upd H2 e' (ExF e' C dx))) E0
theorem xG(c:zW X.K C R f)(F:jI X.prog X.w X.K X.mg X.base (CXE X.prog X.w) k f fd ps sp)(hr:vG (k+1) X.A)(hg:Gl X x)(hm:X.mg x=some (.ref C))(hb:Binds X.K fd ps ds)(hd:kK dvs ds)(hra:aDw X S E)(ha:PA X (e::es) t)
  (hdb:(x == ("__debug__" : Str))=false:=by decide)(he:sf (e::es) X.env=(false,eval e X.env)::sf es X.env:=by rfl)(hpl:(yn pos (sf es X.env)).any (·.1)=false:=by rfl):
  PS X (.Raise (some (.Call (.Name x p) (e::es) [] pos)) none rpos) (aHs S C sp dvs E t):=by
 intro pins s σ H D I h;obtain⟨hS,h⟩:=h;refine aIr hr.hd ?_;refine xx (cZ I hg hm ?_ hdb);refine xy (h₀:=X.base) I.ok.mod.kin c.kp (thn (ha pos pins s σ H _ I h) fun us s1 ⟨vs,H1,I1,r,hz,q⟩=>⟨I1.kIn,?_⟩) he hpl;refine thn (aAz (E:=E0) (Q:=fun v H2=>∃e' dx,v=.ref e'/\H2 e'=some (Ex0 e' C dx)/\E (.ref e') none (upd H2 e' (ExF e' C dx))) c F hr hb hd passX I1 r (by rw[qx];omega) q) fun u s2 zq=>?_;obtain⟨e',H2,eu,ye,I2,e'',dx,e3,h2,hE⟩:=zq
 ·cases e3;obtain⟨⟨oe,vs',g,oc,ox,od,h1,hv⟩,_⟩:=I2.hok e' _ h2;obtain⟨nm,qn,N,bs,sn,sub,ab,col,dd,k0,k1,k2,k3,k5,mN,oI,hC,_⟩:=c.cls I2.kIn;obtain⟨c1,d1,dt1,sl1⟩:=oe;cases oc;cases ox;cases od;exact⟨e',C,N,nm,qn,bs,_,true,sn,sub,ab,col,dd,k0,k1,k2,k3,k5,_,vs',sl1,eu,aEu R,hC,g,hv,hra pins σ H2 s2 e' C _ hS I2 h2 ye hE⟩
end
section
variable {X:Cx}
theorem aAo(hc:PT X c tc)(ha:PSx X a t)(hb:PSs X b u):aAu X (.If c a b pos) (aDl tc t u):=⟨kS hc ha.h hb⟩
end
section
variable {X:Cx}
def tyM (K:Ξ) (x:V) (H:Hp) (t:String):Prop:=tyN K x H t\/(t = "dict"/\∃p kvs,x=.ref p/\H p=some (.dK kvs))
end
def aGp (v:V):Prop:=zZ v=true\/∃r,v=.ref r
theorem aDp:∀{v:V},zZ v=true->eqV v v=true
 |.non,_=>rfl
 |.bl b,_=>by cases b <;> rfl
 |.int i,_=>by simp[eqV]
 |.str x,_=>by simp[eqV]
theorem aAy(h:aGp v)(r:RelV v u)(r':RelV v u'):uc A s u u' true:=by
 rcases h with h|⟨a,rfl⟩
 ·have:=aEw (A:=A) (s:=s) r r' h h;rw[aDp h]at this;exact this
 ·cases r;cases r';exact uc.same _
end L2
namespace L2
open PySem PyProof.Rows
section
variable {prog:vh}{w:vy}{A:vm}{E:Value->ο->Prop}{s:ο}{K:Ξ}{e C R fI:Addr}{oe:Obj}
theorem aIt{Q:Option Value->ο->Prop}(X:K.In s.heap)(c:zW K C R fI)(I:zg s.heap e oe C od)(hf:PySem.W.findObj K C od "__class__" = some (.bind (.builtin "getset_descriptor.__get__") (.builtin "object.__class__")))(hmo:wz K C (.type "object")=some true)(h:Q (some (.ref C)) { s with toks:=s.toks+1 }):
  rj (rl prog w) A (getAttr? (.ref e) "__class__") Q E s:=by
 obtain⟨cd,hcd,hm,_⟩:=c.clsIn;have isB:zy (rl prog w) s.heap (isInstance (.ref e) (.type "BaseException")) true:=I.type.andThen (PySem.W.looks_mroIn X (by
  unfold wz;rw[hcd,Option.bind_some,hm,if_neg (by intro z;cases z)];rfl))
 have L0:=I.type (M:=rl prog w);have L1:=xa (M:=rl prog w) X c.ga;have L2:=xa (M:=rl prog w) X c.gh;have L3:=PySem.W.looks_find (M:=rl prog w) X I hf;obtain⟨hp,g,d,t,os⟩:=s;unfold getAttr? getAttrBy? getAttrBy;refine ι (wpAny_mkText (ι (wpAny_attempt (wf (ι (L0.at (ι (L1.at ?_))))))));show rj _ _ (getAttrByItsOwn _ _ _ _ _ _) _ _ _;unfold getAttrByItsOwn;refine ι (show rj _ _ (typeLookup (.ref C) "__getattr__") _ _ _ from L2.at ?_);have FB:=PySem.F.attr_ValueError.ga;have hk:builtinKind "BaseException.__getattribute__" = some .slot:=by decide +kernel
 have hs:splitId "BaseException.__getattribute__" = some ("BaseException","__getattribute__"):=by decide +kernel
 refine ι (wpAny_attempt (wf ?_));unfold callGetattribute;rw[if_neg (by intro z;cases z)];unfold boundAndCalled;rw[FB.bind];refine ι (Φ (zi ?_));show Ag _ _ (.call (.builtin "BaseException.__getattribute__") ⟨[.ref e,.str "__class__" t],[]⟩) _ _;refine zj FB.plain PySem.F.entry_bexc_ga ?_;refine @PySem.W.check_slot (rl prog w) _ _ _ "BaseException.__getattribute__" "BaseException" "__getattribute__" (.ref e) [.str "__class__" t] [] _ hk hs isB (PySem.F.args_bexc_ga _ _) ?_;unfold Ae.«object.__getattribute__» slotArgs;refine ι (Φ ?_);refine ι (Φ ?_);refine ι (L0.at ?_);refine ι (L3.at ?_);show rj _ _ (holding [Value.builtin "object.__class__"] (call (.builtin "getset_descriptor.__get__") [.builtin "object.__class__",.ref e,.ref C]) >>= ret) _ _ _;refine ι (wf (zi ?_));refine PySem.W.class_get (s:=⟨hp,g,d,t+1,os⟩) X I hmo ?_;refine Φ ?_;show rj _ _ (handedOut (.ref C)) _ _ _;rw[AR rfl];exact Φ (Φ h)
theorem xisnt{Q:Fin->ο->Prop}(X:K.In s.heap)(c:zW K C R fI)(I:zg s.heap e oe C od)(hf:PySem.W.findObj K C od "__class__" = some (.bind (.builtin "getset_descriptor.__get__") (.builtin "object.__class__")))(hmo:wz K C (.type "object")=some true)
  (hn:uu K C D=true)(h:Q (.done (.ret (.bool false))) { s with toks:=s.toks+1 }):
  rj (rl prog w) A (Ae.«isinstance.nested» ⟨[.ref e,.ref D,.int dep tk],[]⟩) Q E s:=by
 unfold uu at hn;rw[ub,ub,ub]at hn;obtain⟨⟨⟨e0,e1⟩,e2⟩,e3⟩:=hn;have hty:=PySem.W.looks_typeIn (M:=rl prog w) X (beq_iff_eq.mp e2);have hsub:=PySem.W.looks_subIn (M:=rl prog w) X (beq_iff_eq.mp e3);have isT:∀{B:Addr},(PySem.W.clsIn K B).isSome=true->zy (rl prog w) s.heap (isType (.ref B)) true:=fun {B} hB=>by
  unfold PySem.W.clsIn at hB
  split at hB
  ·rename_i c' d' cd' sl' ho;intro A' Q' E' s' k q;unfold isType loadHead;exact ι (wpAny_loadPart (k _ _ (X _ _ ho)) (Φ q))
  ·cases hB
 have his:=isT e1;obtain⟨cd,hcd,_⟩:=c.clsIn;have hisD:=isT (B:=C) (by rw[hcd];rfl);have hne:(se C == se D)=false:=xb.mpr fun q=>of_decide_eq_true e0 (se.inj (beq_iff_eq.mp q));obtain⟨h0,g,d,tt,os⟩:=s;have L0:=I.type (M:=rl prog w);have LI:zy (rl prog w) h0 (isInstance (.ref e) (.ref D)) false:=L0.andThen hsub;unfold Ae.«isinstance.nested»;refine ι (L0.at ?_);rw[if_neg (fun q=>by rw[hne]at q;exact Bool.noConfusion q)];refine ι (hty.at ?_);rw[if_pos (by decide)]
 k_delta "plainIsInstance"
 refine ι (ι (his.at ?_));simp only[Bool.not_true,ya,if_false];refine ι (LI.at ?_);simp only[ya,if_false];refine ι (aIt X c I hf hmo ?_);refine ι (hisD.at ?_);simp only[Bool.not_true,ya,if_false];refine ι (wpAny_rule ?_);refine hsub.at ?_
 first
  |exact Φ h
  |exact Φ (Φ h)
  |exact ι (Φ (Φ h))
end
structure eW (K:Ξ) (C D:Addr):Prop where
 ha:uv K (.ref C) "__class__" = some (some (.builtin "object.__class__"))
 hg:Az K (.builtin "object.__class__") "__get__" = some (some (.builtin "getset_descriptor.__get__"))
 ht:PySem.W.takesIn K (.builtin "object.__class__")=some true
 hm:wz K C (.type "object")=some true
 nt:uu K C D=true
end L2
namespace L2
open PySem PySem.Spec PyProof.Rows
section
variable {X:Cx}{pins:List (Addr×Obj)}{σ:St}{H:Hp}{s:ο}{h':vn}
theorem Inv.turned2{t':Nat}{e it p:Addr}(I:Inv X pins σ H s)(k:∀b u,b≠e->b≠it->s.heap.get? b=some u->h'.get? b=some u)(fe:dH X pins H e)(fi:dH X pins H it)
  (hp:s.heap.objs.size<=p)(new:vC X.prog X.w (upd H p o) h' p o):Inv X pins σ (upd H p o) { s with heap:=h',toks:=t' }:=by
 have hn:=I.hok.fresh hp;have ne:∀b u,H b=some u->b≠e:=fun b u q=>jK q fe.1;have ni:∀b u,H b=some u->b≠it:=fun b u q=>jK q fi.1;have nx:∀b,b∉[e,it]->b≠e/\b≠it:=fun b hb=>⟨fun z=>hb (by simp[z]),fun z=>hb (by simp[z])⟩;have np:∀b u,s.heap.get? b=some u->b≠p:=fun b u q=>sk (ω (ra q) hp);have u:Un (frs X.stack) [e,it] H (upd H p o) s.heap h':=by
  refine⟨fun b u q _ _ hx=>k b u (nx b hx).1 (nx b hx).2 q,fun b u q _ _ hx=>⟨u.slots,k b u (nx b hx).1 (nx b hx).2 q⟩,fun b u q n _=>?_,fun b u q hx=>⟨u,k b u (nx b hx).1 (nx b hx).2 q⟩,fun b xs q=>?_,fun b o' u q=>?_,fun b ps q=>⟨#[],?_⟩⟩
  ·rw[jW (np b u q)];exact n
  ·rw[jW (jK q hn)];exact q
  ·rw[jW (jK q hn)];exact q
  ·rw[jW (jK q hn),q];simp
 have hok:HOk X.prog X.w (upd H p o) h':=fun b v eb=>by
  by_cases hb:b=p
  ·subst hb;rw[jL]at eb;cases eb;exact new
  ·rw[jW hb]at eb;refine(I.hok b v eb).stay (fun c w hc q=>k c w ?_ ?_ q) (fun c q=>by rw[jW (jK q hn)];exact q) fun c xs q=>by rw[jW (jK q hn)];exact q
   ·rcases hc with z|z
    ·rw[z];exact ne b v eb
    ·exact ne c _ z
   ·rcases hc with z|z
    ·rw[z];exact ni b v eb
    ·exact ni c _ z
 refine I.call (g':=s.gens) (d':=s.drawn) (t':=t') (ch:=[e,it]) u hok I.bare fun b hb=>?_;have:b=e\/b=it:=by simpa using hb
 rcases this with rfl|rfl
 ·exact⟨fe.2.2.2.1,fe.2.1,fe.2.2.2.2.1,fe.2.2.2.2.2⟩
 ·exact⟨fi.2.2.2.1,fi.2.1,fi.2.2.2.2.1,fi.2.2.2.2.2⟩
end
def Ite (K:Ξ) (a:Addr):It :=
 ⟨fun i H=>∃xs x,SqL K H a xs/\xs[i]?=some x,fun i H x H'=>∃y p,x=.ref p/\H p=none/\H'=upd H p (.tup [.int (i:Int),y])/\∀xs,SqL K H a xs->xs[i]?=some y,fun i H=>∃xs,SqL K H a xs/\xs.length<=i⟩
theorem aBw{K:Ξ}(a e it:Addr)(hne:e≠it):Turn P w K (.Tuple elts x1 pos) (Ite K a) [e,it] e (fun i h=>(∃old,IsEnum h e it (i:Int) old)/\h.IsListIter it a i) where
 mem:=by simp
 obj:=fun i h st b hb=>by
  have:b=e\/b=it:=by simpa using hb
  obtain⟨⟨old,he⟩,o,ho,hc,hd⟩:=st;rcases this with rfl|rfl
  ·exact⟨_,he,fun v z=>by cases z⟩
  ·exact⟨o,ho,fun v z=>by rw[hd]at z;cases z⟩
 keep:=fun i h h' st k=>by
  obtain⟨⟨old,he⟩,o,ho,r⟩:=st;exact⟨⟨old,k e (by simp) _ he⟩,o,k it (by simp) _ ho,r⟩
 item:=by
  intro X hP hw hK hc i pins s σ H E I hf st hg;subst hP hw hK;obtain⟨xs,x,hq,hx⟩:=hg;obtain⟨its,rv,p,hz⟩:=I.list hq;obtain⟨u,hu,ru⟩:=rv.get hx;have fe:=hf e (by simp);have fi:=hf it (by simp);obtain⟨⟨old,he⟩,hit⟩:=st;refine wpAny_pyNext_enum_item he hit p.isList (x:=u) (by simpa using hu) hne fun h1 heo hit1 ht1 hz1 hk1=>⟨_,rfl,?_⟩;refine wpAny_letOwnedTupleGo_enum heo fun h2 he2 hs2=>?_;replace hs2:xk e h1 h2:=hs2;have ne:s.heap.objs.size≠e:=Nat.ne_of_gt (ra he);have ht2:h2.get? s.heap.objs.size=some { cls:=.type "tuple",data:=.seq #[.int i s.toks,u] }:=(hs2.2 _ ne).trans ht1;have k2:∀b v,b≠e->b≠it->s.heap.get? b=some v->h2.get? b=some v:=fun b v n1 n2 q=>(hs2.2 b n1).trans (hk1 b v n1 n2 q);refine⟨.ref s.heap.objs.size,upd H s.heap.objs.size (.tup [.int (i:Int),x]),I.turned2 (t':=s.toks+1) k2 fe fi (μ _) ⟨(by show 2<=ρ;decide),[.int i s.toks,u],.cons ⟨_,rfl⟩ (.cons ru .nil),_,ht2,rfl,_,rfl⟩,rfl,⟨x,_,rfl,I.hok.fresh (μ _),rfl,fun ys hy=>by rw[I.list_inj hy hq];exact hx⟩,⟨⟨_,he2⟩,?_⟩,fun b hb=>?_⟩
  ·obtain⟨o,ho,r⟩:=hit1;exact⟨o,(hs2.2 it (va hne)).trans ho,r⟩
  ·have:b=e\/b=it:=by simpa using hb
   obtain⟨oi,hoi,_⟩:=hit;rcases this with rfl|rfl
   ·rw[jW (va ne)];exact fe.1
   ·rw[jW (sk (ra hoi))];exact fi.1
 done:=by
  intro X hP hw hK hc i pins s σ H E I hf st hg;subst hP hw hK;obtain⟨xs,hq,hl⟩:=hg;obtain⟨its,rv,p,hz⟩:=I.list hq;have hlen:=rv.length;obtain⟨f0,f1,f2,f3,f4,f5⟩:=hf it (by simp);obtain⟨⟨old,he⟩,hit⟩:=st;exact wpAny_pyNext_enum_end (I.ok.hd hc) he hit p.isList (by simp;omega) fun h' eb=>⟨rfl,I.turned (t':=s.toks) (fun b o hb e=>eb b o hb e) f0 f1 f3 f4 f5⟩
 self:=fun _ _ _ _ _ st h=>by
  obtain⟨⟨old,he⟩,_⟩:=st;exact wpAny_pyIter_enum he h
def iEnum (K:Ξ) (ta:TA):TI:=fun σ H R=>ta σ H fun vs H1=>∃a xs,vs=[.ref a]/\SqL K H1 a xs/\R (Ite K a) H1
theorem aAc{a:Expr}(hg:Gl X "enumerate")(hm:X.mg "enumerate" = none)(ha:PA X [a] ta)(hs:sf [a] X.env=[(false,eval a X.env)]:=by rfl):PI X (.Tuple elts x1 tpos) (.Call (.Name "enumerate" p) [a] [] pos) (iEnum X.K ta):=by
 intro pins s σ H R I h;refine Call_ (lB I hg hm boot_enumerate (zc (thn (ha pos pins s σ H _ I h) fun us s1 zq=>?_) hs rfl));obtain⟨vs,H1,I1,r1,q1⟩:=zq;obtain⟨l,xs,e,hl,q⟩:=q1;subst e;obtain⟨u,rfl,rx⟩:=vals1 r1;cases rx;obtain⟨its,rv,pl,hz⟩:=I1.list hl;refine call_enumerate_list pl.isList fun h' he hit hsz hk=>wpAny_pyIter_enum he ?_;refine⟨s1.heap.objs.size+1,[s1.heap.objs.size+1,s1.heap.objs.size],_,_,H1,rfl,I1.kept (t':=s1.toks) hk,aBw l _ _ (Nat.succ_ne_self _),⟨⟨_,he⟩,hit⟩,fun b hb=>?_,q⟩;have:b=s1.heap.objs.size+1\/b=s1.heap.objs.size:=by simpa using hb
 rcases this with rfl|rfl
 ·exact I1.fpOk (An _) (I1.hok.fresh (An _))
 ·exact I1.fpOk (μ _) (I1.hok.fresh (μ _))
theorem sM{K:Ξ}{xs:List V}{g:TG}{tb:TS}{D:Ends}{σ:St}{H:Hp}(Pv:Nat->St->Hp->Prop)(h0:Pv 0 σ H)(hl:∀i σ H,i<=xs.length->Pv i σ H->SqL K H a xs)
  (hs:∀i x σ H p,xs[i]?=some x->Pv i σ H->H p=none->g (.ref p) σ (upd H p (.tup [.int (i:Int),x])) fun σ2 H2=>tb { D with nx:=Pv (i+1),ct:=Pv (i+1),bk:=D.nx } σ2 H2)(hd:∀σ H,Pv xs.length σ H->D.nx σ H):
  ∃W:Nat->Nat->St->Hp->Prop,(∃m,W 0 m σ H)/\∀i m σ H,W i m σ H →
   ((Ite K a).stop i H/\D.nx σ H)\/((Ite K a).go i H/\∃N:St->Hp->Prop,(∀σ' H',N σ' H'->∃m',m'<m/\W (i+1) m' σ' H')/\∀x H',(Ite K a).yld i H x H'->g x σ H' fun σ2 H2=>tb { D with nx:=N,ct:=N,bk:=D.nx } σ2 H2):=by
 refine⟨fun i m σ H=>m=xs.length-i/\i<=xs.length/\Pv i σ H,⟨xs.length,by simp,sd _,h0⟩,?_⟩;rintro i m σ H ⟨rfl,hi,p⟩;have q:=hl i σ H hi p
 by_cases hlt:i<xs.length
 ·refine .inr ⟨⟨xs,xs[i],q,by simp[hlt]⟩,Pv (i+1),fun σ' H' p'=>⟨xs.length-(i+1),by omega,rfl,hlt,p'⟩,fun x H' y=>?_⟩;obtain⟨y',pa,rfl,hn,rfl,hy⟩:=y;exact hs i y' σ H pa (hy xs q) p hn
 ·have e:i=xs.length:=by omega
  subst e;exact .inl ⟨⟨xs,q,μ _⟩,hd σ H p⟩
end L2
namespace L2
open PySem
theorem vG.units1(r:vG k A):A.units+1<cLine:=by
 have:=r.units;omega
end L2
namespace L2
open PySem PySem.Spec PyProof.Rows
section
variable {X:Cx}
theorem hZ:vT X (.type "int") (fun xs H Q=>∃b:Bool,xs=[.bl b]/\Q (.int (if b then 1 else 0)) H):=by
 intro pins s σ H xs us Q I r h;obtain⟨b,rfl,q⟩:=h;obtain⟨u,rfl,r1⟩:=vals1 r;cases r1;exact call_int_bool ⟨.int _,H,I.tok _,⟨_,rfl⟩,q⟩
end
def uN (K:Ξ) (H:Hp) (x:V) (d:PyData):Prop:=Dat K H x d\/(∃a kvs,x=.ref a/\H a=some (.dK kvs))/\d=.dict []
def tyD:PyData->String
 |.none=>"NoneType"
 |.bool _=>"bool"
 |.int _=>"int"
 |.str _=>"str"
 |.list _=>"list"
 |.tuple _=>"tuple"
 |.dict _=>"dict"
theorem Dat.ty{K:Ξ}(h:Dat K H x d):tyN K x H (tyD d):=by
 cases h with
 |lst h _=>exact .inl ⟨rfl,_,h⟩
 |tup h _=>exact .inr ⟨rfl,_,h⟩
 |_=>rfl
theorem uN.ty{K:Ξ}(h:uN K H x d):tyM K x H (tyD d):=by
 rcases h with h|⟨⟨a,kvs,rfl,h⟩,rfl⟩
 ·exact .inl h.ty
 ·exact .inr ⟨rfl,a,kvs,rfl,h⟩
theorem uN.same{K:Ξ}(h:uN K H x d)(g:jG H H'):uN K H' x d:=by
 rcases h with h|⟨⟨a,kvs,rfl,h⟩,rfl⟩
 ·exact .inl (h.same g)
 ·exact .inr ⟨⟨a,kvs,rfl,g _ _ h⟩,rfl⟩
theorem DatAll.length{K:Ξ}: ∀{xs:List V}{ds:List PyData},DatAll K H xs ds->xs.length=ds.length
 |_,_,.nil=>rfl
 |_,_,.cons _ t=>congrArg (·+1) (DatAll.length t)
theorem DatAll.get{K:Ξ}: ∀{xs:List V}{ds:List PyData}{i:Nat}{x:V},DatAll K H xs ds->xs[i]?=some x->∃d,ds[i]?=some d/\Dat K H x d
 |_,_,_,_,.nil,e=>by simp at e
 |_,_,0,_,.cons h _,e=>by simp at e;subst e;exact⟨_,rfl,h⟩
 |_,_,i+1,x,.cons _ t,e=>by
  obtain⟨d,h1,h2⟩:=DatAll.get (i:=i) (x:=x) t (by simpa using e);exact⟨d,by simpa using h1,h2⟩
theorem DatAll.app{K:Ξ}: ∀{xs ys:List V}{ds es:List PyData},DatAll K H xs ds->DatAll K H ys es->DatAll K H (xs++ys) (ds++es)
 |_,_,_,_,.nil,s=>s
 |_,_,_,_,.cons h t,s=>.cons h (DatAll.app t s)
theorem DatAll.take{K:Ξ}: ∀{xs:List V}{ds:List PyData}(n:Nat),DatAll K H xs ds->DatAll K H (xs.take n) (ds.take n)
 |_,_,0,_=>.nil
 |_,_,_+1,.nil=>.nil
 |_,_,n+1,.cons h t=>.cons h (DatAll.take n t)
theorem DatAll.drop{K:Ξ}: ∀{xs:List V}{ds:List PyData}(n:Nat),DatAll K H xs ds->DatAll K H (xs.drop n) (ds.drop n)
 |_,_,0,h=>h
 |_,_,_+1,.nil=>.nil
 |_,_,n+1,.cons _ t=>DatAll.drop n t
end L2
namespace L2
open PySem
theorem kM{H H1:Hp}(e:upd H p o=H1)(hp:H p=none):jG H H1/\H1 p=some o:=by
 subst e;exact⟨fun b u q=>by rw[jW (jK q hp)];exact q,jL⟩
theorem vY{H1:Hp}(e:upd H p o=H1):But p H H1/\H1 p=some o:=by
 subst e;exact⟨But.upd,jL⟩
theorem jG.at{H H1:Hp}(g:jG H H1)(h:H a=some o):H1 a=some o:=g _ _ h
theorem jG.tp{K:Ξ}(e:jG H H')(h:SqT K H a xs):SqT K H' a xs:=by
 rcases h with (h|⟨o,h⟩)|h
 ·exact .inl (.inl (e _ _ h))
 ·exact .inl (.inr ⟨o,e _ _ h⟩)
 ·exact .inr h
theorem jG.dt{K:Ξ}(g:jG H H')(h:Dat K H x d):Dat K H' x d:=h.same g
theorem jG.dts{K:Ξ}(g:jG H H')(h:DatAll K H xs ds):DatAll K H' xs ds:=h.same g
theorem jG.dtt{K:Ξ}(g:jG H H')(h:uN K H x d):uN K H' x d:=h.same g
theorem join{R:VK}(hk:R v H')(h:∀Q:VK,Q v H'->tIf t ta tb σ H Q):tIf t ta tb σ H R:=h R hk
theorem aHb(P:St->Hp->Prop){D:Ends}{rest:TS}(hk:∀σ' H',P σ' H'->rest D σ' H')(h:∀nx:St->Hp->Prop,(∀σ' H',P σ' H'->nx σ' H')->aDl c t u { D with nx:=nx } σ H):tSeq (aDl c t u) rest D σ H:=h (rest D) hk
end L2
local macro_rules | `(tactic| walk_at"hp") => `(tactic| first
 |assumption
 |exact L2.jL
 |exact L2.jG.refl _
 | (refine' L2.jG.at ?k1 ?_; (case k1=>assumption);walk_at"hp";done)
 | (refine L2.SqL.of ?_;walk_at"hp";done)
 | (refine L2.SqT.of ?_;walk_at"hp";done)
 | (refine' L2.jG.seq ?k1 ?_; (case k1=>assumption);walk_at"hp";done)
 | (refine' L2.jG.tp ?k1 ?_; (case k1=>assumption);walk_at"hp";done)
 | (refine' L2.jG.dt ?k1 ?_; (case k1=>assumption);walk_at"hp";done)
 | (refine' L2.jG.dts ?k1 ?_; (case k1=>assumption);walk_at"hp";done)
 | (refine' L2.jG.dtt ?k1 ?_; (case k1=>assumption);walk_at"hp";done)
 | (refine' L2.jG.trans ?_ ?k1; (case k1=>assumption);walk_at"hp";done))
local macro_rules | `(tactic| walk_at"al") => `(tactic| (intro pX hX;generalize eX : L2.upd _ pX _ = HX;obtain ⟨gX,kX⟩ := L2.kM eX hX;clear eX))
local macro_rules | `(tactic| o_unpack $r:ident) => `(tactic| (intro $r:ident hX;generalize eX : L2.upd _ $r:ident _ = HX;obtain ⟨gX,kX⟩ := L2.kM eX hX;clear eX))
local macro_rules | `(tactic| walk_at"ch") => `(tactic| (generalize eX : L2.upd _ _ _ = HX;obtain ⟨gX,kX⟩ := L2.vY eX;clear eX))
local macro_rules | `(tactic| walk_at"rd") => `(tactic| repeat first
 | (refine⟨_,rfl,?_⟩)
 | (refine⟨_,_,rfl,rfl,?_⟩)
 | (refine⟨_,_,rfl,rfl,⟨by decide,by decide⟩,?_⟩)
 | (refine' ⟨_,_,rfl,.inl ?k1,?_⟩; (case k1=>walk_at"hp"))
 | (refine' ⟨_,_,_,_,rfl,rfl,?k1,?k2,?_⟩; (case k1=>walk_at"hp"); (case k2=>rfl)))
namespace L2
open PySem PySem.Spec PyProof.Rows
section
variable {X:Cx}
def Exc (K:Ξ) (H:Hp) (e C:Addr) (fs:List (Str×V)):Prop:=∃dx R fI,(H e=some (ExF e C (some dx))\/H e=some (Ex0 e C (some dx)))/\H dx=some (XD dx fs)/\zW K C R fI
theorem Exc.obj(I:Inv X pins σ H s)(h:Exc X.K H e C fs):
  ∃dx R fI oe vs o1,s.heap.get? e=some oe/\oe.cls=.ref C/\oe.dict=some dx/\oe.data=.fields vs/\s.heap.get? dx=some o1/\zW X.K C R fI:=by
 obtain⟨dx,R,fI,he,hd,c⟩:=h;obtain⟨⟨mA,hn,_⟩,_⟩:=I.hok dx _ hd;obtain⟨o1,ho,_⟩:=fK hn;rcases he with he|he
 ·obtain⟨⟨oe,vs,g,oc,ox,od⟩,_⟩:=I.hok e _ he;exact⟨dx,R,fI,oe,vs,o1,g,oc,ox,od,ho,c⟩
 ·obtain⟨⟨oe,vs,g,oc,ox,od,_⟩,_⟩:=I.hok e _ he;exact⟨dx,R,fI,oe,vs,o1,g,oc,ox,od,ho,c⟩
structure ExP (K:Ξ) (e C dx:Addr) (s:ο):Prop where
 k:K.In s.heap
 o:∃oe vs o1,s.heap.get? e=some oe/\oe.cls=.ref C/\oe.dict=some dx/\oe.data=.fields vs/\s.heap.get? dx=some o1
theorem aFm{K:Ξ}: Answers (ExP K e C dx) (.ref e) (.ref C) true:=fun dep tk=>Meets.of_wp fun prog w A R s hs=>by
 obtain⟨⟨_,oe,vs,o1,g,oc,_⟩,h⟩:=hs;unfold Ae.«isinstance.nested»;refine ι (m:=typeOf (.ref e)) (wpAny_typeOf_ref g ?_);rw[oc];show rj _ _ (if (se C == se C)=true then _ else _) _ _ s;rw[if_pos (by simp)]
 repeat (first|refine Φ ?_|refine wpAny_rule ?_|refine ι ?_)
 exact⟨_,rfl,h s.toks⟩
theorem aHw{K:Ξ}(c:zW K C R fI)(x:eW K C D):Answers (ExP K e C dx) (.ref e) (.ref D) false:=fun dep tk=>Meets.of_wp fun prog w A Rs s hs=>by
 obtain⟨⟨k,oe,vs,o1,g,oc,ox,od,ho⟩,h⟩:=hs;obtain⟨cd,hcd,_⟩:=c.clsIn;exact xisnt (od:=some o1) k c (iS g oc od (by rw[ox];exact ho)) (PySem.W.findObj_data (by rw[hcd];rfl) x.ha x.hg x.ht) x.hm x.nt ⟨_,rfl,h _⟩
theorem zA{K:Ξ}(hK:X.K=K):vT X (.builtin "isinstance") (fun xs H Q=>∃e C D fs b,xs=[.ref e,.ref D]/\Exc K H e C fs/\((D=C/\b=true)\/(eW K C D/\b=false))/\Q (.bl b) H):=by
 subst hK;intro pins s σ H xs us Q I r h;obtain⟨e,C,D,fs,b,rfl,he,hb,q⟩:=h;obtain⟨u,v,rfl,ru,rv⟩:=vals2 r;cases ru;cases rv;obtain⟨dx,R,fI,oe,vs,o1,g,oc,ox,od,ho,c⟩:=he.obj I;have fin:Answers (ExP X.K e C dx) (.ref e) (.ref D) b:=by
  rcases hb with⟨rfl,rfl⟩|⟨hn,rfl⟩
  ·exact aFm
  ·exact aHw c hn
 refine call_isinstance_of ?_ (by intro z;cases z);exact fin 0 _ X.prog X.w X.A (fun r s'=>match r with | .ok (.ret v)=>EP X pins σ Q v s' | .ok _=>False | .error e=>X.xe e s') s ⟨⟨I.kIn,oe,vs,o1,g,oc,ox,od,ho⟩,fun tk=>⟨.bl b,H,I.tok _,rfl,q⟩⟩
theorem aDu(hu:X.A.units+64<cLine):OpR X (vo .NotEq) (fun x y H Q=>∃(a b:Addr) (xs:List V),x=.ref a/\y=.ref b/\SqL X.K H a xs/\SqL X.K H b []/\Q (.bl (!xs.isEmpty)) H):=by
 intro pins s σ H x y v u Q I rx ry h;obtain⟨a,b,xs,rfl,rfl,ha,hb,q⟩:=h;cases rx;cases ry;obtain⟨i1,r1,p1,_⟩:=I.list ha;obtain⟨i2,r2,p2,_⟩:=I.list hb;cases r2;show rj _ _ (richCompare .NotEq (.ref a) (.ref b)) _ _ _;cases xs with
 |nil =>
  cases r1;refine SeqAt.RcNeAt.lists (e:=fun _=>true) p1.isList p2.isList rfl (by omega) (fun j h1 _=>absurd h1 (Ah _)) _ _ _ _ ?_;exact⟨.bl false,H,I,rfl,q⟩
 |cons z zs =>
  cases r1 with
  |cons rz rt =>
   refine SeqAt.RcNeAt.lists_lengths p1.isList p2.isList (by simp) (by omega) _ _ _ _ ?_;exact⟨.bl true,H,I,rfl,q⟩
end
inductive EqS (K:Ξ) (H:Hp):Nat->V->V->Prop
 |same {n:Nat}{v:V} : aGp v->EqS K H n v v
 |lst {n:Nat}{a b:Addr}{xs ys:List V} : SqL K H a xs->SqL K H b ys->xs.length=ys.length->(∀(i:Nat) x y,xs[i]?=some x->ys[i]?=some y->EqS K H n x y)->EqS K H (n+1) (.ref a) (.ref b)
 |tup {n:Nat}{a b:Addr}{xs ys:List V} : SqT K H a xs->SqT K H b ys->xs.length=ys.length->(∀(i:Nat) x y,xs[i]?=some x->ys[i]?=some y->EqS K H n x y)->EqS K H (n+1) (.ref a) (.ref b)
section
variable {X:Cx}
theorem mM : ((tw n).all fun _=>true)=true:=by simp
theorem cY{us:List Value}{j:Nat}(h:us[j]?=some u)(hj:j<us.toArray.size):us.toArray[j]=u:=by
 have:=(η.mp h).2;simpa using this
theorem Inv.eqs(I:Inv X pins σ H s):∀{n:Nat}{x y:V},EqS X.K H n x y->∀{A:vm}{u v:Value},RelV x u->RelV y v->A.units+n<cLine->uc A s u v true:=by
 intro n x y h
 induction h with
 |same hs=>intro A u v ru rv _;exact aAy hs ru rv
 | @lst n a b xs ys ha hb hl _ ih =>
  intro A u v ru rv hu;cases ru;cases rv
  by_cases hab:a=b
  ·subst hab;exact uc.same _
  obtain⟨i1,r1,p1,_⟩:=I.list ha;obtain⟨i2,r2,p2,_⟩:=I.list hb;have l1:=r1.length;have l2:=r2.length;refine uc.of_refs hab ?_;have:=SeqAt.RcAt.lists (A:=A) (e:=fun _=>true) p1.isList p2.isList (by rw[χ,χ];omega) (by omega) (fun j h1 h2=>by
   have hj:j<xs.length:=by rw[χ]at h1;omega
   have hj2:j<ys.length:=by omega
   obtain⟨u1,e1,q1⟩:=r1.get (θ hj);obtain⟨u2,e2,q2⟩:=r2.get (θ hj2);rw[cY e1,cY e2];exact ih j _ _ (θ hj) (θ hj2) q1 q2 (by show A.units+1+n<cLine;omega))
  rw[mM]at this;exact this
 | @tup n a b xs ys ha hb hl _ ih =>
  intro A u v ru rv hu;cases ru;cases rv
  by_cases hab:a=b
  ·subst hab;exact uc.same _
  obtain⟨i1,r1,p1,_⟩:=I.tuple ha;obtain⟨i2,r2,p2,_⟩:=I.tuple hb;have l1:=r1.length;have l2:=r2.length;refine uc.of_refs hab ?_;have:=SeqAt.RcAt.tuples (A:=A) (e:=fun _=>true) (show s.heap.IsTuple a i1.toArray from p1) (show s.heap.IsTuple b i2.toArray from p2) (by omega) (fun j h1 h2=>by
   have hj:j<xs.length:=by rw[χ]at h1;omega
   have hj2:j<ys.length:=by omega
   obtain⟨u1,e1,q1⟩:=r1.get (θ hj);obtain⟨u2,e2,q2⟩:=r2.get (θ hj2);rw[cY e1,cY e2];exact ih j _ _ (θ hj) (θ hj2) q1 q2 (by show A.units+1+n<cLine;omega))
  rw[mM,show(i1.toArray.size == i2.toArray.size)=true by rw[χ,χ,show i1.length=i2.length by omega];simp]at this;exact this
end
end L2
namespace L2
open PySem
theorem eJ{n:Nat}(h:n<2 ^ 100):n.log2<100:=by
 by_cases h0:n=0
 ·subst h0;decide
 ·exact(Nat.log2_lt h0).mpr h
end L2
namespace L2
open PySem PySem.Spec PyProof.Rows
section
variable {X:Cx}{e:Expr}{es:List Expr}{te:TE}{t:TA}
theorem aFz(h:PAx X es t):PEx X (.List es pos) (tLst t):=⟨kN h.h⟩
theorem mE(h:PEx X e te):aAu X (.Return (some e) pos) (tRet te):=⟨jP h.h⟩
end
structure bN (k:Nat) (A:vm):Prop where
 dp:A.depth+3*k+5<recursionLimit
 un:A.units+16*k+200<cLine
 gd:A.guards=some []
theorem bN.mono{j:Nat}(r:bN k A)(h:j<=k):bN j A:=⟨by have:=r.dp;omega,by have:=r.un;omega,r.gd⟩
theorem bN.deeper{k:Nat}(r:bN (k+1) A)(env:Env):bN k (A.deeper env) :=
 ⟨by have:=r.dp;show A.depth+1+3*k+5<_;omega,by have:=r.un;show A.units+3+16*k+200<_;omega,r.gd⟩
theorem bN.depth(r:bN k A):A.depth<recursionLimit:=by have:=r.dp;omega
theorem bN.units(r:bN k A):A.units+64<cLine:=by have:=r.un;omega
theorem vG.toH(r:vG k A):bN k A:=⟨r.dp,r.un,r.gd⟩
theorem vG.mark(r:vG k A)(v:Option Value):bN k (A.mark v):=⟨r.dp,r.un,r.gd⟩
structure bP (P:vh) (w:vy) (K:Ξ) (mg:Str->Option Value) (base:vn) (CX:CXT) (k:Nat) (m:Str) (C:Addr) (sp:Sp):Prop where
 cl:Cls K C
 ex:∃f fd ps,Meth K C m f/\jI P w K mg base CX k f fd ps sp/\Binds K fd ps []
section
variable {X:Cx}{CX:CXT}{k:Nat}{E:XK}{m:Str}{pos apos:Pos}{e o:Expr}{es:List Expr}{ta:TE}{t:TA}{T:Addr->Sp->Prop}
def aCd (T:Addr->Sp->Prop) (m:Str) (E:XK) (ta:TE) (t:TA):TE:=fun σ H Q=>ta σ H fun x H1=>∃a C dx fs sp,x=.ref a/\H1 a=some (.ins C dx fs)/\fs.lookup m=none/\T C sp/\t σ H1 fun vs H2=>sp (x::vs) H2 Q E
theorem sD(he:PE X o ta)(hT:∀C sp,T C sp->bP X.prog X.w X.K X.mg X.base CX k m C sp)(hr:vG k X.A)(hx:yK CX X E)(ha:PA X (e::es) t)
  (hst:sf (e::es) X.env=(false,eval e X.env)::sf es X.env:=by rfl)(hpl:(yn pos (sf es X.env)).any (·.1)=false:=by rfl)
  (ht:eval (.Call (.Attribute o m apos) (e::es) [] pos) X.env=(do
   let ov ←eval o X.env
   standAt apos.atName
   let (f,first) ←holding [ov] (Ak ov m pl)
   callWith pos f first (yn pos (sf (e::es) X.env)) (backToKw pos (Am [] X.env))):=by rfl):
  PE X (.Call (.Attribute o m apos) (e::es) [] pos) (aCd T m E ta t):=by
 intro pins s σ H Q I h;refine yb (pl:=pl) (thn (he pins s σ H _ I h) fun u s1 zq=>?_) ht;obtain⟨x,H1,I1,rx,a,C,dx,fs,sp,ex,ea,l,hC,q⟩:=zq;subst ex;obtain rfl:u=se a:=rx;obtain⟨c,f,fd,ps,hm,F,hb⟩:=hT C sp hC;refine dU I1 ea c hm l ?_;refine xy (first:=[.ref a]) (h₀:=X.base) I.ok.mod.kin hm.kp (thn (ha pos pins s1 σ H1 _ I1 q) fun us s2 ⟨vs,H2,I2,r,q2⟩=>⟨I2.kIn,?_⟩) hst hpl;exact mP (us:=.ref a::us) (vs:=.ref a::vs) (dvs:=[]) F hr hb .nil hx I2 (.cons rfl r) (by rw[uy];exact q2)
theorem aK(he:PE X o ta)(hT:∀C sp,T C sp->bP X.prog X.w X.K X.mg X.base CX k m C sp)(hr:vG k X.A)(hx:yK CX X E)
  (ht:eval (.Call (.Attribute o m apos) [] [] pos) X.env=(do
   let ov ←eval o X.env
   standAt apos.atName
   let (f,first) ←holding [ov] (Ak ov m pl)
   callWith pos f first (yn pos (sf [] X.env)) (backToKw pos (Am [] X.env))):=by rfl):
  PE X (.Call (.Attribute o m apos) [] [] pos) (aCd T m E ta tNil):=by
 intro pins s σ H Q I h;refine yb (pl:=pl) (thn (he pins s σ H _ I h) fun u s1 zq=>?_) ht;obtain⟨x,H1,I1,rx,a,C,dx,fs,sp,ex,ea,l,hC,q⟩:=zq;subst ex;obtain rfl:u=se a:=rx;obtain⟨c,f,fd,ps,hm,F,hb⟩:=hT C sp hC;refine dU I1 ea c hm l ?_;exact PySem.W.callWith_K0 (first:=[.ref a]) I1.kIn hm.kp (mP (us:=[.ref a]) (vs:=[.ref a]) (dvs:=[]) F hr hb .nil hx I1 (.cons rfl .nil) q)
end
def uO:V->Option Str
 |.str x=>some x
 |.int i=>if i.natAbs<2 ^ 100 then some (toString i) else none
 |_=>none
def TJ:=St->Hp->Str->(Str->Hp->Prop)->Prop
def PJ (X:Cx) (es:List Expr) (t:TJ):Prop:=∀(pins:List (Addr×Obj)) (s:ο) (σ:St) (H:Hp) (acc:Str) (Q:Str->Hp->Prop),Inv X pins σ H s->t σ H acc Q →
 rj (rl X.prog X.w) X.A (joinParts acc (evalEach es X.env)) (EP X pins σ fun v H'=>∃z,v=.str z/\Q z H') X.xe s
section
variable {X:Cx}{e e1 e2:Expr}{es:List Expr}{te:TE}{t:TJ}{pos p:Pos}{x:Str}
def jNil:TJ:=fun _ H acc Q=>acc.length<=ρ/\Q acc H
theorem aHu:PJ X [] jNil:=fun _ s _ H acc Q I h=>joinParts_nil ⟨.str acc,H,I.tok _,⟨_,rfl⟩,acc,rfl,h.2⟩ h.1
def jStr (x:Str) (t:TJ):TJ:=fun σ H acc Q=>(acc++x).length<=ρ/\t σ H (acc++x) Q
theorem aIs{j}(ht:PJ X es t):PJ X (.Constant (.str x) j p::es) (jStr x t):=by
 intro pins s σ H acc Q I h;refine joinParts_cons (Calls.Constant_str ⟨h.1,ht pins _ σ H _ Q (I.tok _) h.2⟩)
theorem aDt{s:ο}{R:Value->ο->Prop}(I:Inv X pins σ H s)(r:RelV v u)(hy:uO v=some y)(hl:y.length<=ρ)
  (h:∀t' tk,Inv X pins σ H { s with toks:=tk }->R (.str y t') { s with toks:=tk }):rj (rl X.prog X.w) X.A (formatField u Str.empty) R E s:=by
 cases v with
 |str x =>
  obtain⟨t,rfl⟩:=r;cases hy;exact formatField_str (fun t' tk=>h t' tk (I.kept fun _ _ q=>q)) hl
 |int i =>
  obtain⟨t,rfl⟩:=r;have hy':(if i.natAbs<2 ^ 100 then some (δ (toString i)) else none)=some y:=hy
  by_cases hi:i.natAbs<2 ^ 100
  ·rw[if_pos hi]at hy';cases hy';refine formatField_int_small ?_ (h _ _ (I.kept fun _ _ q=>q));have:=eJ hi;omega
  ·rw[if_neg hi]at hy';cases hy'
 |_=>cases hy
def jVal (te:TE) (t:TJ):TJ:=fun σ H acc Q=>te σ H fun v H1=>∃y,uO v=some y/\y.length<=ρ/\(acc++y).length<=ρ/\t σ H1 (acc++y) Q
theorem aDc(he:PE X e te)(ht:PJ X es t):PJ X (.FormattedValue e (-1) none p::es) (jVal te t):=by
 intro pins s σ H acc Q I h;refine joinParts_cons (FormattedValue_plain (thn (he pins s σ H _ I h) fun u s1 zq=>?_));obtain⟨v,H1,I1,r,y,hy,hl,ha,q⟩:=zq;exact aDt I1 r hy hl fun t' tk I2=>⟨ha,ht pins _ σ H1 _ Q I2 q⟩
def tJoin (t:TJ):TE:=fun σ H Q=>t σ H Str.empty fun z H1=>Q (.str z) H1
theorem aGi(h:PJ X (e1::e2::es) t):PE X (.JoinedStr (e1::e2::es) pos) (tJoin t):=by
 intro pins s σ H Q I hq;exact JoinedStr_many (thn (h pins s σ H Str.empty _ I hq) fun u s1 ⟨v,H1,I1,r,z,ez,q⟩=>⟨v,H1,I1,r,by rw[ez];exact q⟩)
def aHp (te:TE):TE:=fun σ H Q=>te σ H fun v H1=>∃y,uO v=some y/\y.length<=ρ/\Q (.str y) H1
theorem aEr(he:PE X e te):PE X (.JoinedStr [.FormattedValue e (-1) none p] pos) (aHp te):=by
 intro pins s σ H Q I h;refine JoinedStr_one (FormattedValue_plain (thn (he pins s σ H _ I h) fun u s1 zq=>?_));obtain⟨v,H1,I1,r,y,hy,hl,q⟩:=zq;exact aDt I1 r hy hl fun t' tk I2=>⟨.str y,H1,I2,⟨_,rfl⟩,q⟩
end
end L2
namespace L2
open PySem
def jn (c:Nat):List (List Nat)->List Nat
 |[]=>[]
 |[p]=>p
 |p::q::r=>p++c::jn c (q::r)
theorem wX{c:Nat}: ∀{p1 p2 t1 t2:List Nat},c∉p1->c∉p2->p1++c::t1=p2++c::t2->p1=p2/\t1=t2
 |[],[],t1,t2,_,_,h=>⟨rfl,(Aa h).2⟩
 |[],b::p2,t1,t2,_,h2,h=>absurd (ξ.mpr (.inl (Aa h).1)) h2
 |a::p1,[],t1,t2,h1,_,h=>absurd (ξ.mpr (.inl (Aa h).1.symm)) h1
 |a::p1,b::p2,t1,t2,h1,h2,h=>by
  obtain⟨e1,e2⟩:=Aa h;obtain⟨e3,e4⟩:=wX (fun z=>h1 (rg _ z)) (fun z=>h2 (rg _ z)) e2;exact⟨by rw[e1,e3],e4⟩
theorem aCk{c:Nat}: ∀{ps qs:List (List Nat)},ps≠[]->qs≠[]->(∀p∈ps,c∉p)->(∀q∈qs,c∉q)->jn c ps=jn c qs->ps=qs
 |[],_,h,_,_,_,_=>absurd rfl h
 |_,[],_,h,_,_,_=>absurd rfl h
 |[p],[q],_,_,_,_,h=>by rw[show p=q from h]
 |[p],q::q2::qs,_,_,hp,_,h=>by
  have e:p=q++c::jn c (q2::qs):=h;exact absurd (by rw[e];simp) (hp p (qy ..))
 |p::p2::ps,[q],_,_,_,hq,h=>by
  have e:p++c::jn c (p2::ps)=q:=h;exact absurd (by rw[←e];simp) (hq q (qy ..))
 |p::p2::ps,q::q2::qs,_,_,hp,hq,h=>by
  obtain⟨e1,e2⟩:=wX (hp p (qy ..)) (hq q (qy ..)) h;have ih:=aCk (by simp) (by simp) (fun z hz=>hp z (rg _ hz)) (fun z hz=>hq z (rg _ hz)) e2;rw[e1,ih]
theorem iZ(c:Nat):∀ys:List Str,(π ⟨#[c]⟩ ys).cps.toList=jn c (ys.map fun y=>y.cps.toList)
 |[]=>rfl
 |[y]=>rfl
 |y::z::ys=>by
  show(y++⟨#[c]⟩++π ⟨#[c]⟩ (z::ys)).cps.toList=_;rw[vb,vb,vf,vf,iZ c (z::ys),ug];rfl
theorem aDv(x y:Str):vw x y≠[]:=fun h=>by
 unfold vw at h
 split at h
 ·cases h
 ·split at h
  ·cases h
  ·rw[StrLaws.partsBetween_eq]at h;obtain⟨p,r,e⟩:=StrLaws.partsFrom_ne x y.length 0 (we x y 0 x.length (x.length+1));rw[e]at h;cases h
theorem xX{c:Nat}{ys:List Str}(hne:ys≠[])(hf:∀y∈ys,c∉y.cps.toList):vw (π ⟨#[c]⟩ ys) ⟨#[c]⟩=ys:=by
 have h1:=StrLaws.join_split (π ⟨#[c]⟩ ys) ⟨#[c]⟩;have h2:=congrArg (fun z:Str=>z.cps.toList) h1;simp only[iZ]at h2;have h3:=aCk (by simpa using aDv _ _) (by simpa using hne) (fun p hp=>by
  obtain⟨y,hy,rfl⟩:=rm.mp hp;exact StrLaws.split_free _ c y hy) (fun p hp=>by
  obtain⟨y,hy,rfl⟩:=rm.mp hp;exact hf y hy) h2
 have hi:∀{as bs:List Str},(as.map fun y=>y.cps.toList)=(bs.map fun y=>y.cps.toList)->as=bs:=by
  intro as
  induction as with
  |nil=>intro bs h;cases bs with
   |nil=>rfl
   |cons b bs=>cases h
  |cons a as ih=>intro bs h;cases bs with
   |nil=>cases h
   |cons b bs =>
    obtain⟨e1,e2⟩:=Aa h;rw[ih e2,Str.ext' (Array.toList_inj.mp e1)]
 exact hi h3
end L2
namespace L2
open PySem PySem.Spec PyProof.Rows
section
variable {X:Cx}
theorem fN:MtR X "str.split" (fun x vs H Q=>∃z y:Str,x=.str z/\vs=[.str y]/\(y.length == 0)=false/\z.length+2<=ρ/\∀p,H p=none->Q (.ref p) (upd H p (.lst ((vw z y).map V.str)))):=by
 intro pins s σ H x vs v us Q I rx rv h;obtain⟨z,y,rfl,rfl,h2,h4,q⟩:=h;have hn:(Ae.Str.partsBetween z (we z y 0 z.length (z.length+1)) y.length).length<=ρ:=by
  have e1:=StrLaws.occ_length_le z y 0 z.length (z.length+1);rw[length_partsBetween];omega
 obtain⟨t,rfl⟩:=rx;obtain⟨u,rfl,ru⟩:=vals1 rv;obtain⟨t',rfl⟩:=ru;have fin:∀(tk:Nat) (ws:List Value),kK ((vw z y).map V.str) ws->(vw z y).length<=ρ →
   EP X pins σ Q (.ref s.heap.objs.size) { s with toks:=tk,heap:=s.heap.push { cls:=.type "list",data:=.seq ws.toArray } }:=fun tk ws rw' hl=>by
  refine⟨.ref s.heap.objs.size,_,I.laid (o:=.lst ((vw z y).map V.str)) (fun b o e=>ς _ e) (μ _) ?_,rfl,q _ (I.hok.fresh (μ _))⟩;exact⟨by rw[ε];exact hl,_,0,rw',sj _ rfl⟩
 cases h1:(decide (z.length<y.length)||decide (Ae.Str.strKind z<Ae.Str.strKind y))
 ·cases hf:(we z y 0 z.length (z.length+1)).isEmpty
  ·refine call_meets F.slot_str_split (typeIs_str _ _ _) F.entry_str_split (F.args_str_split_2 _ _) (meets_str_split_sep z y t t' h1 h2 hf (by omega) hn) ?_;have e:vw z y=Ae.Str.partsBetween z (we z y 0 z.length (z.length+1)) y.length:=(if_neg (ne_true_of_eq_false h1)).trans (if_neg (ne_true_of_eq_false hf));exact fin _ _ (by rw[e];exact nR _ _) (by rw[e];exact hn)
  ·have e:vw z y=[z]:=(if_neg (ne_true_of_eq_false h1)).trans (if_pos hf);exact call_meets F.slot_str_split (typeIs_str _ _ _) F.entry_str_split (F.args_str_split_2 _ _) (meets_str_split_not_found z y t t' h1 h2 hf) (fin s.toks [.str z t] (by rw[e];exact .cons ⟨_,rfl⟩ .nil) (by rw[e];show 1<=ρ;decide))
 ·have e:vw z y=[z]:=if_pos h1;exact call_meets F.slot_str_split (typeIs_str _ _ _) F.entry_str_split (F.args_str_split_2 _ _) (meets_str_split_cannot_occur z y t t' h1) (fin s.toks [.str z t] (by rw[e];exact .cons ⟨_,rfl⟩ .nil) (by rw[e];show 1<=ρ;decide))
theorem vW:MtR X "str.join" (fun x vs H Q=>∃(sep:Str) (a:Addr) (ys:List Str),x=.str sep/\vs=[.ref a]/\SqL X.K H a (ys.map V.str)/\(ys.map (·.length)).sum+ys.length*sep.length<=16777216/\Q (.str (π sep ys)) H):=by
 intro pins s σ H x vs v us Q I rx rv h;obtain⟨sep,a,ys,rfl,rfl,ha,hz,q⟩:=h;obtain⟨t,rfl⟩:=rx;obtain⟨u,rfl,ru⟩:=vals1 rv;cases ru;obtain⟨its,r,pl,_⟩:=I.list ha;refine PyProof.Rows.join_list pl.isList (wI (by simpa using r)) hz fun t' k=>⟨.str _,H,I.tok _,⟨_,rfl⟩,?_⟩;rw[show Txt.join sep ys=π sep ys from StrLaws.glued_eq_join sep ys];exact q
end
section
variable {X:Cx}
theorem iB(f:Nat->Int):∀k,argBest (fun i j=>decide (f i > f j)) k<=k/\∀j,j<=k->f j<=f (argBest (fun i j=>decide (f i > f j)) k)
 |0=>⟨μ _,fun j hj=>by rw[show j=0 by omega];exact Int.le_refl _⟩
 |k+1=>by
  obtain⟨h1,h2⟩:=iB f k;unfold argBest
  by_cases h:f (k+1) > f (argBest (fun i j=>decide (f i > f j)) k)
  ·rw[if_pos (decide_eq_true h)];refine⟨μ _,fun j hj=>?_⟩
   by_cases e:j=k+1
   ·rw[e];exact Int.le_refl _
   ·have:=h2 j (by omega);omega
  ·rw[if_neg (by rw[decide_eq_false h];exact Ω)];refine⟨by omega,fun j hj=>?_⟩
   by_cases e:j=k+1
   ·rw[e];omega
   ·exact h2 j (by omega)
theorem yR(hc:X.calm=true):vT X (.builtin "max") (fun xs H Q=>∃(a:Addr) (ns:List Int),xs=[.ref a]/\SqL X.K H a (ns.map V.int)/\ns≠[]/\∀m:Int,m∈ns->(∀n∈ns,n<=m)->Q (.int m) H):=by
 intro pins s σ H xs us Q I r h;obtain⟨a,ns,rfl,ha,hne,q⟩:=h;obtain⟨u,rfl,rx⟩:=vals1 r;cases rx;obtain⟨its,rv,pl,_⟩:=I.list ha;have hi:=intsAre_of rv;obtain⟨ys,hy⟩:=hi.allInts.items;have e1:ns=ys.toList.map (·.1):=by
  rw[←nums_intItems,←hy];exact(show numsOf its.toArray.toList=ns from hi.numsOf).symm
 have hsz:ys.size=ns.length:=by rw[e1,ε,wn]
 have hpos : 0<ns.length:=List.length_pos_iff.mpr hne;have hat:∀j,ns[j]?=ys[j]?.map (fun x:Int×Tok=>x.1):=fun j=>by rw[e1,sv,Array.getElem?_toList]
 have hnum:∀j,j<ns.length->ns[j]?=some (numAt ys j):=fun j hj=>by
  have hj2:j<ys.size:=by omega
  rw[hat,Array.getElem?_eq_getElem hj2];unfold numAt;rw[Array.getElem?_eq_getElem hj2];rfl
 refine max_intList (I.ok.hd hc) (hy ▸ pl.isList) (by omega) fun v h' tk hv hk=>?_;obtain⟨t,rfl⟩:=intItems_at hv;obtain⟨b1,b2⟩:=iB (numAt ys) (ys.size-1);refine⟨.int _,H,I.kept hk,⟨_,rfl⟩,q _ (ψ (hnum _ (by omega))) fun n hn=>?_⟩;obtain⟨j,hj⟩:=tq.mp hn;have hjl:j<ns.length:=(η.mp hj).1;rw[hnum j hjl]at hj;cases hj;exact b2 j (by omega)
theorem aFv:OpR X (yk .Mult) (fun x y H Q=>∃(z:Str) (n:Int),x=.str z/\y=.int n/\(n=0\/n=1)/\z.length<=ρ/\Q (.str (if n=1 then z else Str.empty)) H):=by
 intro pins s σ H x y v u Q I rx ry h;obtain⟨z,n,rfl,rfl,hn,hl,q⟩:=h;obtain⟨t,rfl⟩:=rx;obtain⟨t',rfl⟩:=ry;rcases hn with rfl|rfl
 ·refine P.mul_str_none (by decide) (by decide) ⟨.str _,H,I.tok _,⟨_,rfl⟩,q⟩
 ·refine P.mul_str (by decide) (fun _ h=>by simp at h) (fun _ h=>by simp at h) ?_;exact⟨.str _,H,I,⟨_,rfl⟩,q⟩
theorem aCi(hu:X.A.units+64<cLine):OpR X (vo .Eq) (fun x y H Q=>∃(a b:Addr) (xs:List V),x=.ref a/\y=.ref b/\SqL X.K H a xs/\SqL X.K H b []/\Q (.bl xs.isEmpty) H):=by
 intro pins s σ H x y v u Q I rx ry h;obtain⟨a,b,xs,rfl,rfl,ha,hb,q⟩:=h;cases rx;cases ry;obtain⟨i1,r1,p1,_⟩:=I.list ha;obtain⟨i2,r2,p2,_⟩:=I.list hb;cases r2;cases xs with
 |nil =>
  cases r1;refine SeqAt.eq_listAt (e:=fun _=>true) p1.isList p2.isList rfl (by omega) (fun j h1 _=>absurd h1 (Ah _)) ?_;exact⟨.bl true,H,I,rfl,q⟩
 |cons z zs =>
  cases r1 with
  |cons rz rt =>
   refine SeqAt.eq_list_lengthsAt p1.isList p2.isList (by simp) (by omega) ?_;exact⟨.bl false,H,I,rfl,q⟩
end
def aDx (J:It) (k:Nat) (js:List Nat) (g:TG) (tc:TT) (tk tv:TE) (σ:St) (Q:VK) (H1:Hp):Prop:=∀D,H1 D=none →
 ∃W:Nat->Nat->St->List (Key×V)->Hp->Prop,(∃m,W 0 m (eO k js σ) [] (upd H1 D (.dK [])))/\∀i m σ' kvs H',W i m σ' kvs H' →
  (J.stop i H'/\Q (.ref D) H') ∨
  (J.go i H'/\∃N:St->List (Key×V)->Hp->Prop,(∀σ' ys H',N σ' ys H'->∃m',m'<m/\W (i+1) m' σ' ys H') ∧
   ∀x H2,J.yld i H' x H2->g x σ' H2 fun σ3 H3=>tc σ3 H3 fun b H4=>if b=true then tk σ3 H4 fun y H5=>tv σ3 H5 fun v H6=>∃key,y=kV key/\H6 D=some (.dK kvs)/\kvs.length<ρ/\N σ3 (putK kvs key v) (upd H6 D (.dK (putK kvs key v))) else N σ3 kvs H4)
def aIo (wi:TI) (k:Nat) (js:List Nat) (g:TG) (tc:TT) (tk tv:TE):TE:=fun σ H Q=>wi σ H fun J H1=>aDx J k js g tc tk tv σ Q H1
section
variable {prog:vh}{w:vy}{A:vm}{R:Result->ο->Prop}{s:ο}
theorem nL{iter:Expr}(I:Nat->ο->Prop)
  (turn:∀n s,I n s->rj (rl prog w) A (pyNext it) (fun r s₁=>match r with
   |none=>R (.ok .next) s₁
   |some v=>rj (rl prog w) A (Ad target it v) (fun _ s₀=>rj (rl prog w) A (assign target env v) (fun _ s₂ =>
     rj (rl prog w) A (forIn ifs true fun c r=>if r=true then do let ok ←isTrue c env (eval c env);pure (yu ok) else pure (yu r)) (fun ok s₃ =>
      if ok=true then rj (rl prog w) A (eval kx env) (fun kv s₄=>rj (rl prog w) A (eval vx env) (fun vv s₅ =>
       rj (rl prog w) A (dictSet D kv vv) (fun _ s₆=>∃m,m<n/\I m s₆) (fun _ _=>False) s₅) (fun _ _=>False) s₄) (fun _ _=>False) s₃
      else ∃m,m<n/\I m s₃) (fun _ _=>False) s₂) (fun _ _=>False) s₀) (fun _ _=>False) s₁) (fun _ _=>False) s)
  (n:Nat)(h:I n s):Ag (rl prog w) A (.compLoop (.DictComp kx vx [⟨target,iter,ifs,0⟩] scope pos) 0 it (.ref D) env) R s:=by
 refine codeAny_loop rfl I (fun n s hI=>?_) n h;show rj _ A ((compTurn (.DictComp kx vx [⟨target,iter,ifs,0⟩] scope pos) 0 it (.ref D) env).onRaise (fun x=>do noteFrame x env;theTreesLotGoes x)) _ _ s;refine wpAny_noted ?_;rw[compTurn_dict];refine ι (ym (ι (ua (turn n s hI) (fun r s₁ h₁=>?_) fun _ _ z=>su z)));cases r with
 |none=>exact Φ h₁
 |some v =>
  refine ι (ua h₁ (fun _ s₀ h₀=>?_) fun _ _ z=>su z);refine ι (ua h₀ (fun _ s₂ h₂=>ι (ua h₂ (fun ok s₃ h₃=>?_) fun _ _ z=>su z)) fun _ _ z=>su z);cases ok with
  |false=>exact Φ ⟨rfl,h₃⟩
  |true =>
   exact ι (ι (ua h₃ (fun kv s₄ h₄=>ι (wf (ua h₄ (fun vv s₅ h₅=>ι (ym (wf (ua h₅ (fun _ s₆ h₆=>Φ ⟨rfl,h₆⟩) fun _ _ z=>su z)))) fun _ _ z=>su z))) fun _ _ z=>su z))
end
section
variable {X:Cx}{elt tg iter:Expr}{ifs:List Expr}{scope:Scope}{cl:List (Str×Addr)}{ts ys:List Str}{js:List Nat}{pos:Pos}{wi:TI}{g:TG}{tc:TT}{te:TE}
theorem aBd{s4:ο}{fp:List Addr}(I2:Inv X pins σ H2 s2)(f2:∀b∈fp,dH X pins H2 b)
  (I4:Inv (X.comp scope cl N s2 H2 fp C) pins' σ' H3 s4)(hC:s2.heap.objs.size<=C)(hs':xk C s4.heap h'):Inv X pins σ H3 { s4 with heap:=h' }:=by
 have ext:=hs'.extBut;have neC:∀b o,s2.heap.get? b=some o->b≠C:=fun b o e=>sk (ω (ra e) hC);have hok:HOk X.prog X.w H3 h':=HOk.but (C:=C) I4.hok I4.free fun b o hb e=>ext b o hb e;have B:Un (frs X.stack) fp H2 H3 s2.heap s4.heap:=I4.base;have u:Un (frs X.stack) fp H2 H3 s2.heap h':=by
  refine⟨fun b o e q hb hx=>ext b o (neC b o e) (B.keep b o e q hb hx),fun b o e q hb hx=>?_,B.free,fun b o e hx=>?_,B.tups,B.frzs,B.tbls⟩
  ·obtain⟨sl,e1⟩:=B.slot b o e q hb hx;exact⟨sl,ext b _ (neC b o e) e1⟩
  ·obtain⟨o',e1⟩:=B.there b o e hx;exact⟨o',ext b _ (neC b o e) e1⟩
 have os:s4.os=s2.os:=I4.os;have gb:=I4.bare;obtain⟨hh,gg,dd,tt,os'⟩:=s4;obtain rfl:os'=s2.os:=os;have fin:=I2.call (h':=h') (g':=gg) (d':=dd) (t':=tt) (ch:=fp) u hok gb fun b hb=>⟨(f2 b hb).2.2.2.1,(f2 b hb).2.1,(f2 b hb).2.2.2.2.1,(f2 b hb).2.2.2.2.2⟩;exact fin
theorem aDk(ts ys:List Str)(js:List Nat)(hc:X.calm=true)(hi:PI X tg iter wi)(hclos:closureFor scope X.env=pure cl)(hsub:cN X.env cl)(hcap:iJ X scope cl ys js)
  (hg:∀s H fp C,PG (X.comp scope cl (ts++ys) s H fp C) tg g)(ht:∀s H fp C,PIf (X.comp scope cl (ts++ys) s H fp C) ifs tc)(hek:∀s H fp C,PE (X.comp scope cl (ts++ys) s H fp C) kx tk)(hev:∀s H fp C,PE (X.comp scope cl (ts++ys) s H fp C) vx tv)
  (hkind:scope.kind=.function:=by rfl)(hcell:(scope.names.all fun y=>y.2 != .cell)=true:=by rfl)
  (hnames:(scope.names.all fun y=>y.2 != .local||scope.names.lookup y.1 == some .local)=true:=by rfl)
  (hhas:((relabel scope X.env).names.all fun p=>(p.2 != .cell&&p.2 != .free)||(cl.lookup p.1).isSome)=true:=by rfl)
  (hs:∀x,zd iter X.env x=pure x:=by intro _;rfl):PE X (.DictComp kx vx [⟨tg,iter,ifs,0⟩] scope pos) (aIo wi ts.length js g tc tk tv):=by
 intro pins s σ H Q I h;have hcell':∀y∈scope.names,y.2≠.cell:=fun y hy z=>by
  have:=ue.mp hcell y hy;rw[z]at this;exact absurd this (by decide)
 have hnames':∀y∈scope.names,y.2=.local->scope.names.lookup y.1=some .local:=fun y hy z=>by
  have:=ue.mp hnames y hy;rw[z]at this;simpa using this
 have hhas':∀x,((relabel scope X.env).names.lookup x=some .cell\/(relabel scope X.env).names.lookup x=some .free)->∃c,cl.lookup x=some c:=fun x hx=>by
  rcases hx with hx|hx
  ·have:=ue.mp hhas _ (ve hx);exact wx.mp (by simpa using this)
  ·have:=ue.mp hhas _ (ve hx);exact wx.mp (by simpa using this)
 rw[arm_eval_DictComp];refine wpAny_comprehension_free (use:=none) rfl hs hclos hkind hnames' (thn (hi pins s σ H _ I h) fun v s1 h1=>thn h1 fun itv s2 h2=>?_);obtain⟨it,fp,tn,J,H2,e,I2,T,st2,f2,hD⟩:=h2;subst e;have fl:∀b∈fp,b<s2.heap.objs.size:=fun b hb=>by
  obtain⟨o,e,_⟩:=T.obj _ _ st2 b hb;exact ra e
 refine wpAny_newObj_type (wpAny_newFunctionEnv hcell' (by intro y hy;simp at hy) (fun h₁ hns₁ hsb₁=>?_) hkind);dsimp only at hns₁ hsb₁ ⊢;have hn2:H2 s2.heap.objs.size=none:=I2.hok.fresh (μ _);obtain⟨W,⟨m0,w0⟩,turn⟩:=hD _ hn2;have I2d:Inv X pins σ (upd H2 s2.heap.objs.size (.dK [])) { s2 with heap:=s2.heap.push { cls:=.type "dict",data:=.dict #[] } } :=
  I2.laid (a:=s2.heap.objs.size) (o:=.dK []) (h':=s2.heap.push { cls:=.type "dict",data:=.dict #[] }) (t':=s2.toks) (fun _ _ q=>ς _ q) (μ _) (tN s2.heap I2.big)
 generalize hHH:s2.heap.push { cls:=.type "dict",dict:=none,data:=.dict #[] }=HH at hns₁ hsb₁ I2d ⊢;have hC:HH.objs.size=s2.heap.objs.size+1:=by rw[←hHH,zh]
 have hlt:s2.heap.objs.size<HH.objs.size:=by rw[hC];exact zm _
 have f2d:∀b∈fp,dH X pins (upd H2 s2.heap.objs.size (.dK [])) b:=fun b hb=>⟨by rw[jW (sk (fl b hb))];exact(f2 b hb).1,(f2 b hb).2⟩;have fld:∀b∈fp,b<HH.objs.size:=fun b hb=>Nat.lt_trans (fl b hb) hlt;have old:∀b o,HH.get? b=some o->h₁.get? b=some o:=fun b o e=>hsb₁.extBut b o (sk (ra e)) (ς _ e);have I':Inv (X.comp scope cl (ts++ys) { s2 with heap:=HH } (upd H2 s2.heap.objs.size (.dK [])) fp HH.objs.size) [] (eO ts.length js σ) (upd H2 s2.heap.objs.size (.dK [])) { s2 with heap:=h₁,toks:=s2.toks+([]:List (Str×Value)).length } :=
  tS (s:={ s2 with heap:=HH }) I2d hsub hcap hkind hhas' f2d fld (μ _) hns₁ old
 have stat:∀{H':Hp},(∀b∈fp,H' b=none)->∀b∈fp,dH (X.comp scope cl (ts++ys) { s2 with heap:=HH } (upd H2 s2.heap.objs.size (.dK [])) fp HH.objs.size) [] H' b:=fun {H'} hn b hb =>
  ⟨hn b hb,sk (fld b hb),I'.ok.exfs b hb,.inl hb,(I'.ok.exf b hb).2,fun p hq=>absurd (show p∈([]:List (Addr×Obj)) from by simpa using hq) (by simp)⟩
 have tn1:tn 0 h₁:=T.keep _ _ _ st2 fun b _ o e=>old b o (hHH ▸ ς _ e);have loop:∀s₃ : ο,s₃ = { s2 with heap:=h₁,toks:=s2.toks+([]:List (Str×Value)).length } →
   Ag (rl X.prog X.w) X.A (.compLoop (.DictComp kx vx [⟨tg,iter,ifs,0⟩] scope pos) 0 (.ref it) (.ref s2.heap.objs.size) (compEnvC scope cl HH.objs.size X.env))
    (compPost (rl X.prog X.w) X.A X.xe none (EP X pins σ Q) (.ref s2.heap.objs.size) HH.objs.size) s₃:=by
  rintro s₃ rfl;refine nL (fun n s'=>∃i σ' kvs H',Inv (X.comp scope cl (ts++ys) { s2 with heap:=HH } (upd H2 s2.heap.objs.size (.dK [])) fp HH.objs.size) [] σ' H' s'/\tn i s'.heap/\(∀b∈fp,H' b=none)/\W i n σ' kvs H') ?_ m0 ⟨0,_,[],_,I',tn1,fun b hb=>(f2d b hb).1,w0⟩;rintro n s3 ⟨i,σ3,kvs,H3,I3,st3,fr3,w3⟩;rcases turn i n σ3 kvs H3 w3 with⟨stop,qn⟩|⟨go,N,hN,step⟩
  ·refine thn (T.done (X.comp scope cl (ts++ys) { s2 with heap:=HH } (upd H2 s2.heap.objs.size (.dK [])) fp HH.objs.size) rfl rfl rfl hc i _ s3 σ3 H3 (fun _ _=>False) I3 (stat fr3) st3 stop) fun r s4 zq=>?_;obtain⟨hr,I4⟩:=zq;subst hr;obtain⟨m,hn,_⟩:=I4.loc;exact⟨m,hn,fun h' hs'=>⟨.ref s2.heap.objs.size,_,aBd (s2:={ s2 with heap:=HH }) I2d f2d I4 (μ _) hs',rfl,qn⟩⟩
  ·refine thn (T.item (X.comp scope cl (ts++ys) { s2 with heap:=HH } (upd H2 s2.heap.objs.size (.dK [])) fp HH.objs.size) rfl rfl rfl hc i _ s3 σ3 H3 (fun _ _=>False) I3 (stat fr3) st3 go) fun r s4 zq=>?_;obtain⟨u,hr,h4⟩:=zq;subst hr;refine thn h4 fun _ s5 zq=>?_;obtain⟨x,H5,I5,r5,y5,st5,fr5⟩:=zq;have I5':=I5.pinned (stat fr5) (T.obj _ _ st5);refine thn (hg _ _ _ _ _ s5 σ3 H5 x u _ I5' r5 (step x H5 y5)) fun _ s6 zq=>?_;obtain⟨σ6,H6,I6,q6⟩:=zq;refine thn (ht _ _ _ _ _ s6 σ6 H6 _ I6 q6) fun b s7 zq=>?_;obtain⟨H7,I7,q7⟩:=zq;have facts:∀{σ':St}{H':Hp}{s':ο},Inv (X.comp scope cl (ts++ys) { s2 with heap:=HH } (upd H2 s2.heap.objs.size (.dK [])) fp HH.objs.size) ([]++bW fp s5.heap) σ' H' s'->tn (i+1) s'.heap/\(∀b∈fp,H' b=none):=fun {σ' H' s'} J=>by
    refine⟨T.keep _ _ _ st5 fun b hb o e=>(J.pin (b,o) (rq _ (rq _ (xU hb e)))).1,fun b hb=>?_⟩;obtain⟨o,e,d⟩:=T.obj _ _ st5 b hb;exact(J.pin (b,o) (rq _ (rq _ (xU hb e)))).2.1
   have bare:∀{σ':St}{H':Hp}{s':ο},Inv (X.comp scope cl (ts++ys) { s2 with heap:=HH } (upd H2 s2.heap.objs.size (.dK [])) fp HH.objs.size) ([]++bW fp s5.heap) σ' H' s'->Inv (X.comp scope cl (ts++ys) { s2 with heap:=HH } (upd H2 s2.heap.objs.size (.dK [])) fp HH.objs.size) [] σ' H' s':=fun J=>J.pins_of fun p hp=>absurd hp (by simp);cases b with
   |false =>
    have q7':N σ6 kvs H7:=by simpa using q7
    obtain⟨m',hm,w7⟩:=hN _ _ _ q7';obtain⟨a3,a4⟩:=facts I7;show ∃m,m<n/\_;exact⟨m',hm,i+1,σ6,kvs,H7,bare I7,a3,a4,w7⟩
   |true =>
    rw[if_pos rfl]at q7;show rj _ _ (eval kx _) _ _ s7;refine thn (hek _ _ _ _ _ s7 σ6 H7 _ I7 q7) fun kv s8 zq=>?_;obtain⟨y,H8,I8,r8,q8⟩:=zq;refine thn (hev _ _ _ _ _ s8 σ6 H8 _ I8 q8) fun vv s9 zq=>?_;obtain⟨v,H9,I9,r9,key,ek,eD,hl,n9⟩:=zq;subst ek;obtain⟨m',hm,w9⟩:=hN _ _ _ n9;obtain⟨a3,a4⟩:=facts I9;have I9':=bare I9;obtain⟨z,hd,vs,rel,dd⟩:=dk_of I9'.hok eD;have hz:vs.length<=ρ:=by rw[←rel.length];exact z
    have hlp:(putK kvs key v).length<=ρ:=by have:=sB kvs key v;omega
    refine wpAny_dictSet_pairs (hsz:=hz) (wT r8) dd fun h' dd' hs=>?_;have he:∃q,h'.get? s2.heap.objs.size=some q:=let ⟨q,_,_,hq,_⟩:=dd'; ⟨q,hq⟩;exact⟨m',hm,i+1,σ6,putK kvs key v,_,aGj I9' (by rw[eD];exact ud) hs he (aIn hlp hd (rel.put key r9) dd'),T.keep _ _ _ a3 fun b hb o e=>(hs.2 b (sk (fl b hb))).trans e,fun b hb=>by rw[jW (sk (fl b hb))];exact a4 b hb,w9⟩
 exact codeAny_compStart_dict (loop _ rfl) (T.self _ 0 _ _ _ tn1 (loop _ rfl))
end
def uC (P:Nat->List (Key×V)->Hp->Prop) (i:Nat) (js:List Nat) (σ:St):St->List (Key×V)->Hp->Prop:=fun σ' ys H=>P (i+1) ys H/\∃o,σ'=o::xC js σ
theorem uL{K:Ξ}{xs:List V}{k:Nat}{tc:TT}{tk tv:TE}{Q:VK}{H1:Hp}(P:Addr->Nat->List (Key×V)->Hp->Prop)(h0:∀D,H1 D=none->P D 0 [] (upd H1 D (.dK [])))(hl:∀D i ys H,i<=xs.length->P D i ys H->SqL K H a xs)
  (hs:∀D i x ys H,xs[i]?=some x->P D i ys H->tc (some x::xC js σ) H fun b H2=>if b=true then tk (some x::xC js σ) H2 fun y H3=>tv (some x::xC js σ) H3 fun v H4=>∃key,y=kV key/\H4 D=some (.dK ys)/\ys.length<ρ/\uC (P D) i js σ (some x::xC js σ) (putK ys key v) (upd H4 D (.dK (putK ys key v))) else uC (P D) i js σ (some x::xC js σ) ys H2)
  (hd:∀D ys H,P D xs.length ys H->Q (.ref D) H)(hk:k=1:=by rfl):
  aDx (Itl K a) k js (dL 0) tc tk tv σ Q H1:=by
 subst hk;intro D hD;refine⟨fun i m σ' ys H=>m=xs.length-i/\i<=xs.length/\P D i ys H/\∃o,σ'=o::xC js σ,⟨xs.length,by simp,sd _,h0 D hD,none,rfl⟩,?_⟩;rintro i m σ' ys H ⟨rfl,hi,p,o,rfl⟩;have q:=hl D i ys H hi p
 by_cases hlt:i<xs.length
 ·refine .inr ⟨⟨xs,xs[i],q,by simp[hlt]⟩,uC (P D) i js σ,fun σ3 zs H3 z=>⟨xs.length-(i+1),by omega,rfl,hlt,z.1,z.2⟩,fun x H' y=>?_⟩;obtain⟨e,y⟩:=y;subst e;exact hs D i x ys _ (y xs q) p
 ·have e:i=xs.length:=by omega
  subst e;exact .inl ⟨⟨xs,q,μ _⟩,hd D ys H p⟩
section
variable {X:Cx}{tg:Expr}
def iSeq (K:Ξ) (tl:TE):TI:=fun σ H R=>tl σ H fun x H1=>∃a,x=.ref a/\(((∃xs,SqL K H1 a xs)/\R (Itl K a) H1)\/((∃xs,SqT K H1 a xs)/\R (Itt K a) H1))
theorem aJd(hl:PE X l tl):PI X tg l (iSeq X.K tl):=by
 intro pins s σ H R I h;refine thn (hl pins s σ H _ I h) fun v s1 zq=>?_;obtain⟨x,H1,I1,r1,q1⟩:=zq;obtain⟨a,e,q1⟩:=q1;subst e;cases r1;rcases q1 with⟨⟨xs,hq⟩,q⟩|⟨⟨xs,hq⟩,q⟩
 ·obtain⟨its,rv,p,hz⟩:=I1.list hq;refine wpAny_pyIter_list p.isList ?_;refine⟨s1.heap.objs.size,[s1.heap.objs.size],_,_,H1,rfl,I1.kept (t':=s1.toks) fun b o e=>ς _ e,nV a _,⟨_,sj _ rfl,rfl,rfl⟩,fun b hb=>?_,q⟩;have e:b=s1.heap.objs.size:=by simpa using hb
  subst e;exact I1.fpOk (μ _) (I1.hok.fresh (μ _))
 ·obtain⟨its,rv,p,hz⟩:=I1.tuple hq;refine wpAny_pyIter_tuple (show s1.heap.IsTuple a its.toArray from p) ?_;refine⟨s1.heap.objs.size,[s1.heap.objs.size],_,_,H1,rfl,I1.kept (t':=s1.toks) fun b o e=>ς _ e,lH a _,⟨_,sj _ rfl,rfl,rfl⟩,fun b hb=>?_,q⟩;have e:b=s1.heap.objs.size:=by simpa using hb
  subst e;exact I1.fpOk (μ _) (I1.hok.fresh (μ _))
theorem oZ{K:Ξ}(hK:X.K=K)(he:PE X e ta)(hb:za e f X.env (eval e X.env)=eval e X.env):PE X (.Attribute e f pos) (tFld K ta f):=hK ▸ vB he hb
theorem aCs:OpR X (yk .Add) (fun x y H Q=>∃a b xs ys,x=.ref a/\y=.ref b/\SqT X.K H a xs/\SqT X.K H b ys/\ys≠[]/\xs.length+ys.length<=ρ ∧
  (xs=[]->Q (.ref b) H)/\(xs≠[]->∀p,H p=none->Q (.ref p) (upd H p (.tup (xs++ys))))):=by
 intro pins s σ H x y v u Q I rx ry h;obtain⟨a,b,xs,ys,rfl,rfl,ha,hb,hx,hz,q1,q2⟩:=h
 by_cases hxs:xs=[]
 ·cases rx;cases ry;obtain⟨its,r1,p1,_⟩:=I.tuple ha;obtain⟨its2,r2,p2,_⟩:=I.tuple hb;have e1:its=[]:=r1.nil_iff.mpr hxs;subst e1;obtain⟨⟨cls,dd,data,sl⟩,ho,hc,n,hd⟩:=id p1;obtain⟨⟨cls2,dd2,data2,sl2⟩,ho2,hc2,n2,hd2⟩:=id p2;simp only at hc hd hc2 hd2;subst hc hd hc2 hd2;exact concat_meets ⟨_,ho,rfl⟩ ⟨_,ho2,rfl⟩ noFill_tuple_add seq_tuple_add Av Ao (zw _ _)
   (tuple_addW0 a b _ _ n n2 dd dd2 sl sl2 rfl) ⟨ho,ho2,.ref b,H,I,rfl,q1 hxs⟩
 ·exact aGf pins s σ H _ _ v u Q I rx ry ⟨a,b,xs,ys,rfl,rfl,ha,hb,hxs,hz,fun z=>absurd z hx,fun _=>q2 hxs⟩
end
theorem aBh{X:Cx}{i:Nat}(hN:X.N.Nodup)(hi:X.N[i]?=some x)(hx:Loc X.env.scope x)(he:PEx X (.List es p1) te)(hf:X.fn x=true:=by rfl):
  aAu X (.Assign [.Name x pos'] (.List es p1) pos) (tAsg te (dL i)):=⟨kI hN hi hx he.h rfl (.inl hf)⟩
theorem joinC(b:Bool){D:Ends}{rest:TS}{c:TT}{t u:TS}{H:Hp}(hk:if b=true then t { D with nx:=rest D } σ H' else u { D with nx:=rest D } σ H')(h:∀Q:Bool->Hp->Prop,Q b H'->c σ H Q):tSeq (aDl c t u) rest D σ H:=h _ hk
theorem aAk : SlR X (fun x lo hi H Q=>∃z,x=.str z/\z.length<=ρ/\Q (.str (Txt.slice z lo hi)) H):=by
 intro pins s σ H x v vl vu lo hi sl Q I rx hs pl pu h;obtain⟨z,rfl,hz,q⟩:=h;obtain⟨t,rfl⟩:=rx;refine⟨"str",_,F.slot_str_getitem.lookup,typeIs_str _ _ _,?_⟩;have fin:∀(a b:Option Int),Q (.str (Txt.slice z a b)) H->∀t' k,EP X pins σ Q (.str (Txt.slice z a b) t') { s with toks:=k }:=fun a b q t' k=>⟨.str _,H,I.tok _,⟨_,rfl⟩,q⟩;cases pl with
 |none =>
  cases pu with
  |none=>exact yo (l:=none) (u:=none) (st:=none) hs rfl (post_val_or_str ⟨sg (Txt.slice_le z none none) hz,fin none none q⟩)
  |int j tj=>exact yo (l:=none) (u:=some (j,tj)) (st:=none) hs rfl (post_val_or_str ⟨sg (Txt.slice_le z none (some j)) hz,fin none (some j) q⟩)
 |int i ti =>
  cases pu with
  |none=>exact yo (l:=some (i,ti)) (u:=none) (st:=none) hs rfl (post_val_or_str ⟨sg (Txt.slice_le z (some i) none) hz,fin (some i) none q⟩)
  |int j tj=>exact yo (l:=some (i,ti)) (u:=some (j,tj)) (st:=none) hs rfl (post_val_or_str ⟨sg (Txt.slice_le z (some i) (some j)) hz,fin (some i) (some j) q⟩)
theorem aEp : OpR X (yk .Add) (fun x y H Q=>∃a b xs ys,x=.ref a/\y=.ref b/\SqT X.K H a xs/\SqT X.K H b ys/\ys≠[]/\xs.length+ys.length<=ρ/\∀p H',jG H H'->SqT X.K H' p (xs++ys)->Q (.ref p) H'):=by
 intro pins s σ H x y v u Q I rx ry h;obtain⟨a,b,xs,ys,rfl,rfl,ha,hb,hx,hz,q⟩:=h;refine aCs pins s σ H _ _ v u Q I rx ry ⟨a,b,xs,ys,rfl,rfl,ha,hb,hx,hz,fun e=>?_,fun _ p hp=>?_⟩
 ·subst e;exact q b H (fun _ _ z=>z) hb
 ·exact q p _ (fun b o z=>by rw[jW (jK z hp)];exact z) (SqT.of jL)
theorem cS{K:Ξ}{xs:List V}{k:Nat}{g:TG}{tc:TT}{te:TE}{Q:VK}(P:Nat->List V->Hp->Prop)(h0:P 0 [] H1)(hl:∀i ys H,i<=xs.length->P i ys H->SqT K H a xs/\ys.length<=i)(hz:xs.length<ρ)
  (hs:∀i x ys H (os:St),os.length=k->xs[i]?=some x->P i ys H->g x (os++xC js σ) H fun σ3 H3=>tc σ3 H3 fun b H2=>if b=true then te σ3 H2 fun v H3=>oB P i k js σ σ3 (ys++[v]) H3 else oB P i k js σ σ3 ys H2)
  (hd:∀ys H,P xs.length ys H->∀p,H p=none->Q (.ref p) (upd H p (.lst ys))):
  mL (Itt K a) k js g tc te σ Q H1:=by
 refine⟨fun i m σ' ys H=>m=xs.length-i/\i<=xs.length/\P i ys H/\∃os:St,os.length=k/\σ'=os++xC js σ,⟨xs.length,by simp,sd _,h0,Au k none,yc,rfl⟩,?_⟩;rintro i m σ' ys H ⟨rfl,hi,p,os,ho,rfl⟩;obtain⟨q,hy⟩:=hl i ys H hi p
 by_cases hlt:i<xs.length
 ·refine .inr ⟨⟨xs,xs[i],q,by simp[hlt]⟩,by omega,oB P i k js σ,fun σ3 zs H3 z=>⟨xs.length-(i+1),by omega,rfl,hlt,z.1,z.2⟩,fun x H' y=>?_⟩;obtain⟨e,y⟩:=y;subst e;exact hs i x ys _ os ho (y xs q) p
 ·have e:i=xs.length:=by omega
  subst e;exact .inl ⟨⟨xs,q,μ _⟩,hd ys H p⟩
end L2
namespace L2
open PySem
inductive Kd where
 |num (w:Nat)
 |nest (i:Nat)
 |many (n:Nat) (k:Kd)
 |pick (is:List Nat)
abbrev Shp:=Str×List (Str×Kd)
abbrev Un3:=Str×Nat×Str
def xE:List Nat->Nat
 |[]=>0
 |x::xs=>max x (xE xs)
theorem iY{n:Nat}: ∀{xs:List Nat},n∈xs->n<=xE xs
 |x::xs,h=>by
  rcases ξ.mp h with rfl|h
  ·exact Nat.le_max_left _ _
  ·exact sg (iY h) (Nat.le_max_right _ _)
theorem sV:∀{xs:List Nat},xs≠[]->xE xs∈xs
 |[],h=>absurd rfl h
 |[x],_=>by show max x 0∈[x];rw[Nat.max_zero];exact τ.mpr rfl
 |x::y::xs,_=>by
  have ih:=sV (xs:=y::xs) (by simp);show max x (xE (y::xs))∈_
  by_cases h:x<=xE (y::xs)
  ·rw[Nat.max_eq_right h];exact rg _ ih
  ·rw[Nat.max_eq_left (by omega)];exact qy ..
theorem aGc{m:Nat}{xs:List Nat}(h1:m∈xs)(h2:∀n∈xs,n<=m):m=xE xs :=
 Nat.le_antisymm (iY h1) (h2 _ (sV fun z=>by rw[z]at h1;cases h1))
def Kd.size (sz:List Nat):Kd->Nat
 |.num w=>w
 |.nest i=>sz.getD i 0
 |.many n k=>n*k.size sz
 |.pick is=>1+xE (is.map fun i=>sz.getD i 0)
def Kd.depth (dp:List Nat):Kd->Nat
 |.num _=>0
 |.nest i=>dp.getD i 0
 |.many _ k=>k.depth dp
 |.pick is=>xE (is.map fun i=>dp.getD i 0)
def pj (p x:Str):Str:=if p.length=0 then x else p++δ "." ++ x
def Kd.units (sz:List Nat) (ut:List (Str->List Un3)):Kd->Str->List Un3
 |.num w,p=>[(p,w,δ "num")]
 |.nest i,p=>(ut.getD i fun _=>[]) p
 |.many n k,p=>(tw n).flatMap fun j=>k.units sz ut (pj p (δ (toString j)))
 |.pick is,p=>[(pj p (δ "tag"),1,δ "tag"),(p,xE (is.map fun i=>sz.getD i 0),δ "pick")]
structure Tab where
 sz:List Nat
 dp:List Nat
 ut:List (Str->List Un3)
def Tab.more (t:Tab) (s:Shp):Tab:=⟨t.sz++[(s.2.map fun f=>f.2.size t.sz).sum],t.dp++[1+xE (s.2.map fun f=>f.2.depth t.dp)],t.ut++[fun p=>s.2.flatMap fun f=>f.2.units t.sz t.ut (pj p f.1)]⟩
def tabs (S:List Shp):Tab:=S.foldl Tab.more ⟨[],[],[]⟩
theorem aBl(S:List Shp)(s:Shp):tabs (S++[s])=(tabs S).more s:=by unfold tabs;rw[List.foldl_append];rfl
def Tab.Ok (t:Tab):Prop:=t.ut.length=t.sz.length/\∀i p,(((t.ut.getD i fun _=>[]) p).map (·.2.1)).sum=t.sz.getD i 0
theorem rH(f:Nat->List Un3)(m:Nat)(h:∀j,((f j).map (·.2.1)).sum=m):∀n,((((tw n).flatMap f)).map (·.2.1)).sum=n*m
 |0=>by simp
 |n+1=>by
  rw[yh,wq,ν,List.sum_append,rH f m h n,xm,h n,Nat.succ_mul]
theorem Kd.units_sum{t:Tab}(h:t.Ok):∀(k:Kd) (p:Str),((k.units t.sz t.ut p).map (·.2.1)).sum=k.size t.sz
 |.num w,p=>by simp[Kd.units,Kd.size]
 |.nest i,p=>h.2 i p
 |.many n k,p=>rH _ _ (fun j=>Kd.units_sum h k _) n
 |.pick is,p=>by simp[Kd.units,Kd.size]
theorem lY{t:Tab}(h:t.Ok)(p:Str):∀fs:List (Str×Kd),((fs.flatMap fun f=>f.2.units t.sz t.ut (pj p f.1)).map (·.2.1)).sum=(fs.map fun f=>f.2.size t.sz).sum
 |[]=>rfl
 |f::fs=>by
  rw[AC,ν,List.sum_append,Kd.units_sum h,lY h p fs,uj,Ac]
theorem Tab.Ok.more{t:Tab}(h:t.Ok)(s:Shp):(t.more s).Ok:=by
 refine⟨by show(t.ut++[_]).length=(t.sz++[_]).length;rw[ζ,ζ,h.1];rfl,fun i p=>?_⟩;show((((t.ut++[_]).getD i fun _=>[]) p).map (fun u:Un3=>u.2.1)).sum=(t.sz++[_]).getD i 0;rw[Θ,Θ]
 by_cases hi:i<t.ut.length
 ·rw[rf hi,rf (by rw[←h.1];exact hi)];have:=h.2 i p;rw[Θ,Θ]at this;exact this
 ·rw[Γ (by omega),Γ (by rw[←h.1];omega),←h.1]
  by_cases e:i-t.ut.length=0
  ·rw[e];exact lY h p s.2
  ·obtain⟨n,hn⟩ : ∃n,i-t.ut.length=n+1:=⟨i-t.ut.length-1,by omega⟩;rw[hn];rfl
def Kd.Below (n:Nat):Kd->Prop
 |.num _=>True
 |.nest i=>i<n
 |.many _ k=>k.Below n
 |.pick is=>∀i∈is,i<n
theorem yU{α : Type}{xs ys:List α}{d : α}{i:Nat}(h:i<xs.length):(xs++ys).getD i d=xs.getD i d:=by
 rw[Θ,Θ,rf h]
theorem Kd.Below.mono{n m:Nat}(h:n<=m):∀{k:Kd},k.Below n->k.Below m
 |.num _,_=>ud
 |.nest i,q=>ω (show i<n from q) h
 |.many _ k,q=>Kd.Below.mono (k:=k) h q
 |.pick is,q=>fun i hi=>ω (q i hi) h
theorem rE{xs ys is:List Nat}(h:∀i∈is,i<xs.length):(is.map fun i=>(xs++ys).getD i 0)=is.map fun i=>xs.getD i 0 :=
 zv fun i hi=>yU (h i hi)
theorem Kd.size_app{sz more:List Nat}: ∀{k:Kd},k.Below sz.length->k.size (sz++more)=k.size sz
 |.num _,_=>rfl
 |.nest i,q=>yU q
 |.many n k,q=>by show n*_=n*_;rw[Kd.size_app (k:=k) q]
 |.pick is,q=>by show 1+xE _=1+xE _;rw[rE q]
theorem Kd.depth_app{dp more:List Nat}: ∀{k:Kd},k.Below dp.length->k.depth (dp++more)=k.depth dp
 |.num _,_=>rfl
 |.nest i,q=>yU q
 |.many n k,q=>Kd.depth_app (k:=k) q
 |.pick is,q=>by show xE _=xE _;rw[rE q]
theorem Kd.units_app{sz more:List Nat}{ut um:List (Str->List Un3)}(e:ut.length=sz.length):∀{k:Kd},k.Below sz.length->∀p,k.units (sz++more) (ut++um) p=k.units sz ut p
 |.num _,_,_=>rfl
 |.nest i,q,p=>by show((ut++um).getD i _) p=(ut.getD i _) p;rw[yU (by rw[e];exact q)]
 |.many n k,q,p=>by
  show(tw n).flatMap _=(tw n).flatMap _
  congr 1
  funext j
  exact Kd.units_app e (k:=k) q _
 |.pick is,q,p=>by
  show[_,(p,xE _,_)]=[_,(p,xE _,_)];rw[rE q]
theorem aJ:∀S:List Shp,(tabs S).sz.length=S.length/\(tabs S).dp.length=S.length/\(tabs S).ut.length=S.length:=fun S=>by
 have:∀(S:List Shp) (t:Tab) (n:Nat),(t.sz.length=n/\t.dp.length=n/\t.ut.length=n)->((S.foldl Tab.more t).sz.length=n+S.length/\(S.foldl Tab.more t).dp.length=n+S.length/\(S.foldl Tab.more t).ut.length=n+S.length):=by
  intro S
  induction S with
  |nil=>intro t n h;exact h
  |cons s S ih =>
   intro t n h;have:=ih (t.more s) (n+1) ⟨by show(t.sz++[_]).length=_;rw[ζ,h.1];rfl,by show(t.dp++[_]).length=_;rw[ζ,h.2.1];rfl,by show(t.ut++[_]).length=_;rw[ζ,h.2.2];rfl⟩;rw[υ,show n+(S.length+1)=n+1+S.length by omega];exact this
 have h:=this S ⟨[],[],[]⟩ 0 ⟨rfl,rfl,rfl⟩;rw[Nat.zero_add]at h;exact h
theorem sT(S:List Shp):∀R:List Shp,∃a b c,(tabs (S++R)).sz=(tabs S).sz++a/\(tabs (S++R)).dp=(tabs S).dp++b/\(tabs (S++R)).ut=(tabs S).ut++c:=fun R=>by
 have:∀(R:List Shp) (t:Tab),∃a b c,(R.foldl Tab.more t).sz=t.sz++a/\(R.foldl Tab.more t).dp=t.dp++b/\(R.foldl Tab.more t).ut=t.ut++c:=by
  intro R
  induction R with
  |nil=>intro t;exact⟨[],[],[],by simp,by simp,by simp⟩
  |cons s R ih =>
   intro t;obtain⟨a,b,c,h1,h2,h3⟩:=ih (t.more s);exact⟨[_]++a,[_]++b,[_]++c,h1.trans (ug _ _ _),h2.trans (ug _ _ _),h3.trans (ug _ _ _)⟩
 unfold tabs;rw[List.foldl_append];exact this R _
structure Cl5 where
 num:Addr
 nest:Addr
 many:Addr
 pick:Addr
 shape:Addr
inductive KO (c:Cl5) (K:Ξ) (H:Hp) (sa:List Addr):Addr->Kd->Prop
 |num {a dx:Addr}{w:Nat} : H a=some (.ins c.num dx [("width",.int w)])->KO c K H sa a (.num w)
 |nest {a dx s:Addr}{i:Nat} : sa[i]?=some s->H a=some (.ins c.nest dx [("shape",.ref s)])->KO c K H sa a (.nest i)
 |many {a dx b:Addr}{n:Nat}{k:Kd} : H a=some (.ins c.many dx [("count",.int n),("kind",.ref b)])->KO c K H sa b k->KO c K H sa a (.many n k)
 |pick {a dx t:Addr}{is:List Nat}{ss:List Addr} : H a=some (.ins c.pick dx [("shapes",.ref t)])->SqT K H t (ss.map V.ref)->ss.length=is.length->(∀(j i:Nat) (s:Addr),is[j]?=some i->ss[j]?=some s->sa[i]?=some s)->KO c K H sa a (.pick is)
theorem KO.same{K:Ξ}(h:KO c K H sa a k)(g:jG H H'):KO c K H' sa a k:=by
 induction h with
 |num h=>exact .num (g _ _ h)
 |nest e h=>exact .nest e (g _ _ h)
 |many h _ ih=>exact .many (g _ _ h) ih
 |pick h t l e=>exact .pick (g _ _ h) (g.tp t) l e
theorem pG{sa more:List Addr}{i:Nat}(h:sa[i]?=some s):(sa++more)[i]?=some s:=by
 rw[rf (η.mp h).1];exact h
theorem KO.more{K:Ξ}(h:KO c K H sa a k)(more:List Addr):KO c K H (sa++more) a k:=by
 induction h with
 |num h=>exact .num h
 |nest e h=>exact .nest (pG e) h
 |many h _ ih=>exact .many h ih
 |pick h t l e=>exact .pick h t l fun j i s h1 h2=>pG (e j i s h1 h2)
theorem KO.ahead{K:Ξ}(h:KO c K H sa a k):k.Below sa.length:=by
 induction h with
 |num h=>exact ud
 |nest e h=>exact(η.mp e).1
 |many h _ ih=>exact ih
 | @pick a dx t is ss h t' l e =>
  intro i hi;obtain⟨j,hj⟩:=tq.mp hi;have hj1:j<is.length:=(η.mp hj).1;exact(η.mp (e j i _ hj (θ (by omega)))).1
inductive FO (c:Cl5) (K:Ξ) (H:Hp) (sa:List Addr):List Addr->List (Str×Kd)->Prop
 |nil:FO c K H sa [] []
 |cons {p k:Addr}{ps:List Addr}{nm:Str}{kd:Kd}{fs:List (Str×Kd)} : SqT K H p [.str nm,.ref k]->KO c K H sa k kd->FO c K H sa ps fs->FO c K H sa (p::ps) ((nm,kd)::fs)
theorem FO.same{K:Ξ}(h:FO c K H sa ps fs)(g:jG H H'):FO c K H' sa ps fs:=by
 induction h with
 |nil=>exact .nil
 |cons t k _ ih=>exact .cons (g.tp t) (k.same g) ih
theorem FO.len{K:Ξ}(h:FO c K H sa ps fs):ps.length=fs.length:=by
 induction h with
 |nil=>rfl
 |cons _ _ _ ih=>rw[υ,υ,ih]
theorem FO.snoc{K:Ξ}(h:FO c K H sa ps fs)(t:SqT K H p [.str nm,.ref k])(hk:KO c K H sa k kd):FO c K H sa (ps++[p]) (fs++[(nm,kd)]):=by
 induction h with
 |nil=>exact .cons t hk .nil
 |cons t' k' _ ih=>exact .cons t' k' ih
theorem FO.get{K:Ξ}(h:FO c K H sa ps fs):∀{i:Nat}{p:Addr},ps[i]?=some p->∃nm kd k,fs[i]?=some (nm,kd)/\SqT K H p [.str nm,.ref k]/\KO c K H sa k kd:=by
 induction h with
 |nil=>intro i p e;simp at e
 |cons t k _ ih =>
  intro i p e;cases i with
  |zero=>cases e;exact⟨_,_,_,rfl,t,k⟩
  |succ i=>exact ih e
def SO (c:Cl5) (K:Ξ) (H:Hp) (sa:List Addr) (a:Addr) (s:Shp):Prop:=∃dx t ps,H a=some (.ins c.shape dx [("name",.str s.1),("fields",.ref t)])/\SqT K H t (ps.map V.ref)/\FO c K H sa ps s.2
theorem SO.same{K:Ξ}(h:SO c K H sa a s)(g:jG H H'):SO c K H' sa a s:=by
 obtain⟨dx,t,ps,h1,h2,h3⟩:=h;exact⟨dx,t,ps,g _ _ h1,g.tp h2,h3.same g⟩
def SW (c:Cl5) (K:Ξ) (H:Hp) (sa:List Addr) (S:List Shp):Prop:=sa.length=S.length/\∀(i:Nat) (a:Addr) (s:Shp),sa[i]?=some a->S[i]?=some s->SO c K H (sa.take i) a s
theorem SW.same{K:Ξ}(h:SW c K H sa S)(g:jG H H'):SW c K H' sa S:=⟨h.1,fun i a s h1 h2=>(h.2 i a s h1 h2).same g⟩
theorem SW.nil{K:Ξ}: SW c K H [] []:=⟨rfl,fun i a s h _=>by simp at h⟩
theorem SW.snoc{K:Ξ}(h:SW c K H sa S)(x:SO c K H sa a s):SW c K H (sa++[a]) (S++[s]):=by
 have hl:sa.length=S.length:=h.1;refine⟨by rw[ζ,ζ,h.1];rfl,fun i b u h1 h2=>?_⟩
 by_cases hi:i<sa.length
 ·rw[rf hi]at h1;rw[rf (by rw[←h.1];exact hi)]at h2;rw[List.take_append_of_le_length (by omega)];exact h.2 i b u h1 h2
 ·have hi2:i<(sa++[a]).length:=(η.mp h1).1;have e:i=sa.length:=by rw[ζ,uk]at hi2;omega
  subst e;rw[Γ (μ _),vc]at h1;rw[Γ (by omega),show sa.length-S.length=0 by omega]at h2;cases h1;cases h2;rw[List.take_left' rfl];exact x
inductive LK (K:Ξ) (H:Hp):Addr->Kd->Prop
 |num {a:Addr}{w:Nat} : SqT K H a [.str (δ "num"),.int w]->LK K H a (.num w)
 |nest {a:Addr}{i:Nat} : SqT K H a [.str (δ "shape"),.int i]->LK K H a (.nest i)
 |many {a b:Addr}{n:Nat}{k:Kd} : SqT K H a [.str (δ "row"),.int n,.ref b]->LK K H b k->LK K H a (.many n k)
 |pick {a l:Addr}{is:List Nat} : SqT K H a [.str (δ "pick"),.ref l]->SqL K H l (is.map fun (i:Nat)=>V.int i)->LK K H a (.pick is)
theorem LK.same{K:Ξ}(h:LK K H a k)(g:jG H H'):LK K H' a k:=by
 induction h with
 |num h=>exact .num (g.tp h)
 |nest h=>exact .nest (g.tp h)
 |many h _ ih=>exact .many (g.tp h) ih
 |pick h l=>exact .pick (g.tp h) (g.seq l)
inductive LF (K:Ξ) (H:Hp):List Addr->List (Str×Kd)->Prop
 |nil:LF K H [] []
 |cons {p k:Addr}{ps:List Addr}{nm:Str}{kd:Kd}{fs:List (Str×Kd)} : SqT K H p [.str nm,.ref k]->LK K H k kd->LF K H ps fs->LF K H (p::ps) ((nm,kd)::fs)
theorem LF.same{K:Ξ}(h:LF K H ps fs)(g:jG H H'):LF K H' ps fs:=by
 induction h with
 |nil=>exact .nil
 |cons t k _ ih=>exact .cons (g.tp t) (k.same g) ih
theorem LF.len{K:Ξ}(h:LF K H ps fs):ps.length=fs.length:=by
 induction h with
 |nil=>rfl
 |cons _ _ _ ih=>rw[υ,υ,ih]
theorem LF.snoc{K:Ξ}(h:LF K H ps fs)(t:SqT K H p [.str nm,.ref k])(hk:LK K H k kd):LF K H (ps++[p]) (fs++[(nm,kd)]):=by
 induction h with
 |nil=>exact .cons t hk .nil
 |cons t' k' _ ih=>exact .cons t' k' ih
theorem LF.get{K:Ξ}(h:LF K H ps fs):∀{i:Nat}{p:Addr},ps[i]?=some p->∃nm kd k,fs[i]?=some (nm,kd)/\SqT K H p [.str nm,.ref k]/\LK K H k kd:=by
 induction h with
 |nil=>intro i p e;simp at e
 |cons t k _ ih =>
  intro i p e;cases i with
  |zero=>cases e;exact⟨_,_,_,rfl,t,k⟩
  |succ i=>exact ih e
def LS (K:Ξ) (H:Hp) (a:Addr) (s:Shp):Prop:=∃l ps,SqT K H a [.str s.1,.ref l]/\SqL K H l (ps.map V.ref)/\LF K H ps s.2
theorem LS.same{K:Ξ}(h:LS K H a s)(g:jG H H'):LS K H' a s:=by
 obtain⟨l,ps,h1,h2,h3⟩:=h;exact⟨l,ps,g.tp h1,g.seq h2,h3.same g⟩
inductive LW (K:Ξ) (H:Hp):List Addr->List Shp->Prop
 |nil:LW K H [] []
 |cons {a:Addr}{as:List Addr}{s:Shp}{S:List Shp} : LS K H a s->LW K H as S->LW K H (a::as) (s::S)
theorem LW.same{K:Ξ}(h:LW K H as S)(g:jG H H'):LW K H' as S:=by
 induction h with
 |nil=>exact .nil
 |cons t _ ih=>exact .cons (t.same g) ih
theorem LW.len{K:Ξ}(h:LW K H as S):as.length=S.length:=by
 induction h with
 |nil=>rfl
 |cons _ _ ih=>rw[υ,υ,ih]
theorem LW.snoc{K:Ξ}(h:LW K H as S)(x:LS K H a s):LW K H (as++[a]) (S++[s]):=by
 induction h with
 |nil=>exact .cons x .nil
 |cons t _ ih=>exact .cons t ih
theorem LW.get{K:Ξ}(h:LW K H as S):∀{i:Nat}{a:Addr},as[i]?=some a->∃s,S[i]?=some s/\LS K H a s:=by
 induction h with
 |nil=>intro i a e;simp at e
 |cons t _ ih =>
  intro i a e;cases i with
  |zero=>cases e;exact⟨_,rfl,t⟩
  |succ i=>exact ih e
abbrev spS:Str:=⟨#[32]⟩
abbrev nlS:Str:=⟨#[10]⟩
def Kd.words (nm:Nat->Str):Kd->List Str
 |.num w=>[δ "num",δ (toString (w:Int))]
 |.nest i=>[nm i]
 |.many n k=>δ "row" :: δ (toString (n:Int))::k.words nm
 |.pick is=>δ "pick" :: is.map nm
theorem Kd.words_ne(nm:Nat->Str):∀k:Kd,k.words nm≠[]
 |.num _=>by simp[Kd.words]
 |.nest _=>by simp[Kd.words]
 |.many _ _=>by simp[Kd.words]
 |.pick _=>by simp[Kd.words]
def kR (S:List Shp) (i:Nat):Str:=(S.getD i (Str.empty,[])).1
def aAm (nm:Nat->Str) (s:Shp):List (List Str):=[δ "shape",s.1]::s.2.map fun f=>f.1::f.2.words nm
def iX (S:List Shp):List (List Str):=S.flatMap (aAm (kR S))
def Pln (w:Str):Prop:=32∉w.cps.toList/\10∉w.cps.toList
theorem aAn{c d:Nat}(ne:d≠c):∀{ps:List (List Nat)},(∀p∈ps,d∉p)->d∉jn c ps
 |[],_=>by simp[jn]
 |[p],h=>h p (τ.mpr rfl)
 |p::q::r,h=>by
  have ih:=aAn ne (ps:=q::r) fun x hx=>h x (rg _ hx);have hp:=h p (qy ..);show d∉p++c::jn c (q::r);simp only[rn,ξ,not_or];exact⟨hp,ne,ih⟩
theorem uI{ws:List Str}(hne:ws≠[])(h:∀w∈ws,Pln w):vw (π spS ws) spS=ws:=xX hne fun w hw=>(h w hw).1
theorem rZ{ls:List (List Str)}(hne:ls≠[])(h:∀l∈ls,∀w∈l,Pln w):vw (π nlS (ls.map (π spS))) nlS=ls.map (π spS):=by
 refine xX (by simpa using hne) fun y hy=>?_;obtain⟨l,hl,rfl⟩:=rm.mp hy;rw[iZ];refine aAn (by decide) fun p hp=>?_;obtain⟨w,hw,rfl⟩:=rm.mp hp;exact(h l hl w hw).2
theorem aF{y:Str}{ys:List Str}(h:ys≠[]):π sep (y::ys)=y++sep++π sep ys:=by
 cases ys with
 |nil=>exact absurd rfl h
 |cons z zs=>rfl
theorem wY{n:Nat}(h:n<=9):Pln (δ (toString (n:Int))):=by
 have:∀m:Fin 10,Pln (δ (toString ((m.val:Nat):Int))):=by
  intro m;unfold Pln;revert m;decide +kernel
 exact this ⟨n,by omega⟩
def Kd.Fit (n:Nat):Kd->Prop
 |.num w=>1<=w/\w<=4
 |.nest i=>i<n
 |.many m k=>1<=m/\m<=6/\((∃w,k=.num w/\1<=w/\w<=4)\/∃i,k=.nest i/\i<n)
 |.pick is=>2<=is.length/\is.length<=4/\is.Nodup/\∀i∈is,i<n
theorem Kd.Fit.below : ∀{k:Kd},k.Fit n->k.Below n
 |.num _,_=>ud
 |.nest _,h=>h
 |.many _ k,h=>by
  rcases h.2.2 with⟨w,rfl,_⟩|⟨i,rfl,hi⟩
  ·exact ud
  ·exact hi
 |.pick _,h=>h.2.2.2
theorem Kd.Fit.plain{n:Nat}{nm:Nat->Str}(hnm:∀i,i<n->Pln (nm i)):∀{k:Kd},k.Fit n->∀w∈k.words nm,Pln w:=by
 have hnum:∀w:Nat,1<=w/\w<=4->∀x∈(Kd.num w).words nm,Pln x:=fun w hw x hx=>by
  simp only[Kd.words,ξ,Δ,or_false]at hx;rcases hx with rfl|rfl
  ·unfold Pln;decide +kernel
  ·exact wY (by omega)
 intro k h;cases k with
 |num w=>exact hnum w h
 |nest i =>
  intro x hx;rw[τ.mp (show x∈[nm i] from hx)];exact hnm i h
 |many m k =>
  intro x hx;simp only[Kd.words,ξ]at hx;rcases hx with rfl|rfl|hx
  ·unfold Pln;decide +kernel
  ·exact wY (by have:=h.2.1;omega)
  ·rcases h.2.2 with⟨w,rfl,hw⟩|⟨i,rfl,hi⟩
   ·exact hnum w hw x hx
   ·rw[τ.mp (show x∈[nm i] from hx)];exact hnm i hi
 |pick is =>
  intro x hx;simp only[Kd.words,ξ,rm]at hx;rcases hx with rfl|⟨i,hi,rfl⟩
  ·unfold Pln;decide +kernel
  ·exact hnm i (h.2.2.2 i hi)
def Kd.Rk (r:Nat):Kd->Prop
 |.num _=>True
 |.nest i=>2*i+2<=r
 |.many _ k=>(∃w,k=.num w/\1<=r)\/∃i,k=.nest i/\2*i+3<=r
 |.pick is=>∀i∈is,2*i+3<=r
theorem Kd.Fit.rk : ∀{k:Kd},k.Fit n->k.Rk (2*n+1)
 |.num _,_=>ud
 |.nest i,h=>by have:i<n:=h;show 2*i+2<=2*n+1;omega
 |.many m k,h=>by
  rcases h.2.2 with⟨w,e,_⟩|⟨i,e,hi⟩
  ·exact .inl ⟨w,e,by omega⟩
  ·exact .inr ⟨i,e,by omega⟩
 |.pick is,h=>fun i hi=>by have:=h.2.2.2 i hi;omega
theorem Kd.Rk.mono{r q:Nat}(h:r<=q):∀{k:Kd},k.Rk r->k.Rk q
 |.num _,_=>ud
 |.nest i,g=>sg (show 2*i+2<=r from g) h
 |.many m k,g=>by
  rcases g with⟨w,e,hw⟩|⟨i,e,hi⟩
  ·exact .inl ⟨w,e,by omega⟩
  ·exact .inr ⟨i,e,by omega⟩
 |.pick is,g=>fun i hi=>sg (g i hi) h
theorem Kd.Fit.mono{n m:Nat}(h:n<=m):∀{k:Kd},k.Fit n->k.Fit m
 |.num _,g=>g
 |.nest i,g=>ω (show i<n from g) h
 |.many _ k,g=>⟨g.1,g.2.1,by
  rcases g.2.2 with g|⟨i,e,hi⟩
  ·exact .inl g
  ·exact .inr ⟨i,e,by omega⟩⟩
 |.pick is,g=>⟨g.1,g.2.1,g.2.2.1,fun i hi=>ω (g.2.2.2 i hi) h⟩
structure Good (S:List Shp):Prop where
 ne:∀(i:Nat) (s:Shp),S[i]?=some s->s.2≠[]
 few:∀(i:Nat) (s:Shp),S[i]?=some s->s.2.length<=6
 fit:∀(i:Nat) (s:Shp),S[i]?=some s->∀f∈s.2,f.2.Fit i/\1<=f.1.length/\f.1.length<=6
 sz:∀i:Nat,(tabs S).sz.getD i 0<=1000
theorem sU{α : Type}{S:List α}{i:Nat}{s : α}(h:S[i]?=some s):S=S.take i++s::S.drop (i+1)/\(S.take i).length=i:=by
 obtain⟨hi,e⟩:=η.mp h;refine⟨?_,by rw[rh];omega⟩
 conv=>lhs;rw[←yf i S]
 rw[List.drop_eq_getElem_cons hi,e]
theorem mQ{α : Type}{xs zs:List α}{y d : α}: (xs++y::zs).getD xs.length d=y:=by
 rw[Θ,Γ (μ _),vc];rfl
theorem iW{S R:List Shp}{i:Nat}(h:i<S.length):(tabs (S++R)).sz.getD i 0=(tabs S).sz.getD i 0/\(tabs (S++R)).dp.getD i 0=(tabs S).dp.getD i 0/\((tabs (S++R)).ut.getD i fun _=>[])=(tabs S).ut.getD i fun _=>[]:=by
 obtain⟨a,b,c,e1,e2,e3⟩:=sT S R;obtain⟨l1,l2,l3⟩:=aJ S;rw[e1,e2,e3];exact⟨yU (by omega),yU (by omega),yU (by omega)⟩
theorem aP(S:List Shp)(s:Shp)(R:List Shp):(tabs (S++s::R)).sz.getD S.length 0=(s.2.map fun f=>f.2.size (tabs S).sz).sum/\(tabs (S++s::R)).dp.getD S.length 0=1+xE (s.2.map fun f=>f.2.depth (tabs S).dp)/\∀p,((tabs (S++s::R)).ut.getD S.length fun _=>[]) p=s.2.flatMap fun f=>f.2.units (tabs S).sz (tabs S).ut (pj p f.1):=by
 have e:S++s::R=(S++[s])++R:=by rw[ug];rfl
 obtain⟨h1,h2,h3⟩:=iW (S:=S++[s]) (R:=R) (i:=S.length) (by rw[ζ];exact zm _);obtain⟨l1,l2,l3⟩:=aJ S;rw[e,h1,h2,h3,aBl];refine⟨?_,?_,fun p=>?_⟩
 ·show((tabs S).sz++[_]).getD _ _=_;rw[←l1,mQ]
 ·show((tabs S).dp++[_]).getD _ _=_;rw[←l2,mQ]
 ·show((tabs S).ut++[_]).getD _ _ p=_;rw[←l3,mQ]
theorem Kd.tab_lo{S R:List Shp}{k:Kd}(h:k.Below S.length):k.size (tabs (S++R)).sz=k.size (tabs S).sz/\k.depth (tabs (S++R)).dp=k.depth (tabs S).dp/\∀p,k.units (tabs (S++R)).sz (tabs (S++R)).ut p=k.units (tabs S).sz (tabs S).ut p:=by
 obtain⟨a,b,c,e1,e2,e3⟩:=sT S R;obtain⟨l1,l2,l3⟩:=aJ S;rw[e1,e2,e3];exact⟨Kd.size_app (by rw[l1];exact h),Kd.depth_app (by rw[l2];exact h),fun p=>Kd.units_app (by omega) (by rw[l1];exact h) p⟩
theorem tG{α β : Type}{f g : α->List β}: ∀{xs:List α},(∀x∈xs,f x=g x)->xs.flatMap f=xs.flatMap g
 |[],_=>rfl
 |x::xs,h=>by rw[AC,AC,h x (qy ..),tG fun y hy=>h y (rg _ hy)]
theorem gK{S:List Shp}{i:Nat}(h:S[i]?=some s)(hF:∀f∈s.2,f.2.Below i):(tabs S).sz.getD i 0=(s.2.map fun f=>f.2.size (tabs S).sz).sum/\(tabs S).dp.getD i 0=1+xE (s.2.map fun f=>f.2.depth (tabs S).dp)/\∀p,((tabs S).ut.getD i fun _=>[]) p=s.2.flatMap fun f=>f.2.units (tabs S).sz (tabs S).ut (pj p f.1):=by
 obtain⟨e,hl⟩:=sU h;generalize S.take i=A at e hl;generalize S.drop (i+1)=B at e;subst e;subst hl;obtain⟨h1,h2,h3⟩:=aP A s B;have q:=fun f hf=>Kd.tab_lo (R:=s::B) (hF f hf);refine⟨?_,?_,fun p=>?_⟩
 ·rw[h1,zv fun f hf=>(q f hf).1]
 ·rw[h2,zv fun f hf=>(q f hf).2.1]
 ·rw[h3 p,tG fun f hf=>(q f hf).2.2 _]
theorem Kd.units_len{sz:List Nat}{ut:List (Str->List Un3)}{n:Nat}(h:∀i,i<n->1<=sz.getD i 0/\∀p,((ut.getD i fun _=>[]) p).length<=sz.getD i 0):∀{k:Kd},k.Fit n->1<=k.size sz/\∀p,(k.units sz ut p).length<=k.size sz:=by
 have hn:∀w,1<=w->1<=(Kd.num w).size sz/\∀p,((Kd.num w).units sz ut p).length<=(Kd.num w).size sz:=fun w hw=>⟨hw,fun p=>hw⟩;intro k hk;cases k with
 |num w=>exact hn w hk.1
 |nest i=>exact h i hk
 |many m k =>
  have hs : 1<=k.size sz/\∀p,(k.units sz ut p).length<=k.size sz:=by
   rcases hk.2.2 with⟨w,rfl,hw,_⟩|⟨i,rfl,hi⟩
   ·exact hn w hw
   ·exact h i hi
  refine⟨Nat.mul_pos hk.1 hs.1,fun p=>?_⟩;show((tw m).flatMap _).length<=m*_;have:∀m,((tw m).flatMap fun j=>k.units sz ut (pj p (δ (toString j)))).length<=m*k.size sz:=by
   intro m
   induction m with
   |zero=>exact sd _
   |succ m ih =>
    rw[yh,wq,ζ,xm,Nat.succ_mul];exact Nat.add_le_add ih (hs.2 _)
  exact this m
 |pick is =>
  refine⟨by show 1<=1+_;omega,fun p=>?_⟩;show 2<=1+xE _;cases is with
  |nil=>exact absurd hk.1 (by decide)
  |cons i r =>
   have:=(h i (hk.2.2.2 i (qy ..))).1;have g:=iY (n:=sz.getD i 0) (xs:=(i::r).map fun i=>sz.getD i 0) (qy ..);omega
theorem dQ(p:Str):∀{fs:List (Str×Kd)},(∀f∈fs,1<=f.2.size sz/\∀p,(f.2.units sz ut p).length<=f.2.size sz)->(fs.flatMap fun f=>f.2.units sz ut (pj p f.1)).length<=(fs.map fun f=>f.2.size sz).sum/\fs.length<=(fs.map fun f=>f.2.size sz).sum
 |[],_=>⟨μ _,μ _⟩
 |f::fs,h=>by
  have ih:=dQ p (fs:=fs) fun g hg=>h g (rg _ hg);have h0:=h f (qy ..);rw[AC,ζ,uj,Ac,υ];exact⟨Nat.add_le_add (h0.2 _) ih.1,by omega⟩
theorem Good.len(h:Good S):∀n i,i<n->i<S.length->1<=(tabs S).sz.getD i 0/\∀p,(((tabs S).ut.getD i fun _=>[]) p).length<=(tabs S).sz.getD i 0
 |0,i,hi,_=>absurd hi (Ah _)
 |n+1,i,hi,hl=>by
  have hs:S[i]?=some S[i]:=θ hl;have hF:=h.fit i _ hs;obtain⟨e1,e2,e3⟩:=gK hs fun f hf=>(hF f hf).1.below;have q:∀f∈S[i].2,1<=f.2.size (tabs S).sz/\∀p,(f.2.units (tabs S).sz (tabs S).ut p).length<=f.2.size (tabs S).sz:=fun f hf =>
   Kd.units_len (fun j hj=>Good.len h n j (by omega) (by omega)) (hF f hf).1
  have hne:=h.ne i _ hs;have : 1<=S[i].2.length:=by
   cases e:S[i].2 with
   |nil=>exact absurd e hne
   |cons _ _=>exact Nat.succ_le_succ (sd _)
  refine⟨?_,fun p=>?_⟩
  ·rw[e1];exact sg this (dQ Str.empty q).2
  ·rw[e1,e3 p];exact(dQ p q).1
theorem Good.kd(h:Good S){k:Kd}(hk:k.Fit S.length): 1<=k.size (tabs S).sz/\∀p,(k.units (tabs S).sz (tabs S).ut p).length<=k.size (tabs S).sz:=Kd.units_len (fun j hj=>h.len S.length j hj hj) hk
theorem rD{m:Nat}: ∀{xs:List Nat},(∀x∈xs,x<=m)->xE xs<=m
 |[],_=>sd _
 |x::xs,h=>Nat.max_le.mpr ⟨h x (qy ..),rD fun y hy=>h y (rg _ hy)⟩
theorem Kd.size_bd{sz:List Nat}{m:Nat}(h:∀i,sz.getD i 0<=m)(hm : 4<=m):∀{k:Kd},k.Fit n->k.size sz<=6*m
 |.num w,hk=>by have:=hk.2;show w<=_;omega
 |.nest i,_=>by have:=h i;show sz.getD i 0<=_;omega
 |.many c k,hk=>by
  have:k.size sz<=m:=by
   rcases hk.2.2 with⟨w,rfl,_,hw⟩|⟨i,rfl,hi⟩
   ·show w<=m;omega
   ·exact h i
  exact Nat.mul_le_mul hk.2.1 this
 |.pick is,_=>by
  have:xE (is.map fun i=>sz.getD i 0)<=m:=rD fun x hx=>by obtain⟨i,_,rfl⟩:=rm.mp hx;exact h i
  show 1+_<=_;omega
def Kd.parts (S:List Shp):Kd->List (Str×Kd)
 |.nest i=>(S.getD i (Str.empty,[])).2
 |.many n k=>(tw n).map fun j=>(δ (toString j),k)
 |_=>[]
theorem Kd.parts_units(h:Good S){k:Kd}(hk:k.Fit S.length)(hs:(∃i,k=.nest i)\/∃n q,k=.many n q)(p:Str):k.units (tabs S).sz (tabs S).ut p=(k.parts S).flatMap fun f=>f.2.units (tabs S).sz (tabs S).ut (pj p f.1):=by
 rcases hs with⟨i,rfl⟩|⟨n,q,rfl⟩
 ·have hi:i<S.length:=hk;have hs:S[i]?=some S[i]:=θ hi;have e:(Kd.nest i).parts S=S[i].2:=by show(S.getD i _).2=_;rw[Θ,hs];rfl
  rw[e];exact(gK hs fun f hf=>((h.fit i _ hs) f hf).1.below).2.2 p
 ·show(tw n).flatMap _=((tw n).map _).flatMap _;rw[List.flatMap_map]
def Kd.isNum:Kd->Bool
 |.num _=>true
 |_=>false
def Kd.isNest:Kd->Bool
 |.nest _=>true
 |_=>false
def Kd.isMany:Kd->Bool
 |.many _ _=>true
 |_=>false
def Kd.isPick:Kd->Bool
 |.pick _=>true
 |_=>false
def Nolk (m:Str):Prop:=∀v w:V,[(("width" : Str),v)].lookup m=none/\[(("shape" : Str),v)].lookup m=none/\[(("count" : Str),v),(("kind" : Str),w)].lookup m=none/\[(("shapes" : Str),v)].lookup m=none
def spV (c:Cl5) (K:Ξ) (r:Nat) (F:Kd->Bool) (val:Kd->Tab->Nat):Sp:=fun vs H Q _=>∃(a:Addr) (kd:Kd) (sa:List Addr) (S:List Shp),vs=[.ref a]/\F kd=true/\kd.Rk r/\kd.Fit S.length/\KO c K H sa a kd/\SW c K H sa S/\Good S/\∀H',jG H H'->Q (.int (val kd (tabs S))) H'
def TV (c:Cl5) (K:Ξ) (r:Nat) (val:Kd->Tab->Nat):Addr->Sp->Prop:=fun C sp=>(C=c.num/\sp=spV c K r Kd.isNum val)\/(C=c.nest/\sp=spV c K r Kd.isNest val)\/(C=c.many/\sp=spV c K r Kd.isMany val)\/(C=c.pick/\sp=spV c K r Kd.isPick val)
theorem wZ{K:Ξ}{val:Kd->Tab->Nat}{H:Hp}{kd:Kd}{S:List Shp}{Q:VK}{E:XK}(hm:Nolk m)(hr:kd.Rk r)(hf:kd.Fit S.length)(ho:KO c K H sa a kd)(hw:SW c K H sa S)(hg:Good S)
  (q:∀H',jG H H'->Q (.int (val kd (tabs S))) H'):∃a' C dx fs sp,V.ref a=.ref a'/\H a'=some (.ins C dx fs)/\fs.lookup m=none/\TV c K r val C sp/\sp [.ref a] H Q E:=by
 cases id ho with
 |num h=>exact⟨_,_,_,_,_,rfl,h,(hm _ .non).1,.inl ⟨rfl,rfl⟩,a,_,sa,S,rfl,rfl,hr,hf,ho,hw,hg,q⟩
 |nest e h=>exact⟨_,_,_,_,_,rfl,h,(hm _ .non).2.1,.inr (.inl ⟨rfl,rfl⟩),a,_,sa,S,rfl,rfl,hr,hf,ho,hw,hg,q⟩
 |many h _=>exact⟨_,_,_,_,_,rfl,h,(hm _ _).2.2.1,.inr (.inr (.inl ⟨rfl,rfl⟩)),a,_,sa,S,rfl,rfl,hr,hf,ho,hw,hg,q⟩
 |pick h _ _ _=>exact⟨_,_,_,_,_,rfl,h,(hm _ .non).2.2.2,.inr (.inr (.inr ⟨rfl,rfl⟩)),a,_,sa,S,rfl,rfl,hr,hf,ho,hw,hg,q⟩
def gY (c:Cl5) (K:Ξ) (r:Nat) (val:Nat->Tab->Nat):Sp:=fun vs H Q _=>∃(a:Addr) (i:Nat) (sa:List Addr) (S:List Shp),vs=[.ref a]/\sa[i]?=some a/\2*i+1<=r/\SW c K H sa S/\Good S/\∀H',jG H H'->Q (.int (val i (tabs S))) H'
inductive UR (K:Ξ) (H:Hp):List Addr->List Un3->Prop
 |nil:UR K H [] []
 |cons {t:Addr}{ts:List Addr}{u:Un3}{us:List Un3} : SqT K H t [.str u.1,.int u.2.1,.str u.2.2]->UR K H ts us->UR K H (t::ts) (u::us)
theorem UR.same{K:Ξ}(h:UR K H ts us)(g:jG H H'):UR K H' ts us:=by
 induction h with
 |nil=>exact .nil
 |cons t _ ih=>exact .cons (g.tp t) ih
theorem UR.len{K:Ξ}(h:UR K H ts us):ts.length=us.length:=by
 induction h with
 |nil=>rfl
 |cons _ _ ih=>rw[υ,υ,ih]
theorem UR.app{K:Ξ}(h:UR K H ts us)(h':UR K H ts' us'):UR K H (ts++ts') (us++us'):=by
 induction h with
 |nil=>exact h'
 |cons t _ ih=>exact .cons t ih
theorem UR.get{K:Ξ}(h:UR K H ts us):∀{i:Nat}{t:Addr},ts[i]?=some t->∃u,us[i]?=some u/\SqT K H t [.str u.1,.int u.2.1,.str u.2.2]:=by
 induction h with
 |nil=>intro i t e;simp at e
 |cons t _ ih =>
  intro i a e;cases i with
  |zero=>cases e;exact⟨_,rfl,t⟩
  |succ i=>exact ih e
theorem UR.but{K:Ξ}{H:Hp}(h:UR K H ts us)(g:But l H H')(hl:H l=some (.lst zs)):UR K H' ts us:=by
 induction h with
 |nil=>exact .nil
 |cons t _ ih=>exact .cons (g.tup hl t) ih
def UL (K:Ξ) (H:Hp) (l:Addr) (us:List Un3):Prop:=∃ts:List Addr,H l=some (.lst (ts.map V.ref))/\UR K H ts us
abbrev un (kd:Kd) (S:List Shp) (p:Str):List Un3:=kd.units (tabs S).sz (tabs S).ut p
theorem Kd.parts_un(h:Good S){k:Kd}(hk:k.Fit S.length)(hs:(∃i,k=.nest i)\/∃n q,k=.many n q){p:Str}: un k S p=(k.parts S).flatMap fun f=>un f.2 S (pj p f.1):=Kd.parts_units h hk hs p
def spU (c:Cl5) (K:Ξ) (r:Nat) (F:Kd->Bool):Sp:=fun vs H Q _=>∃(a:Addr) (p:Str) (kd:Kd) (sa:List Addr) (S:List Shp),vs=[.ref a,.str p]/\p.length+8*r<=200/\F kd=true/\kd.Rk r/\kd.Fit S.length/\KO c K H sa a kd/\SW c K H sa S/\Good S ∧
 ∀l H',jG H H'->H l=none->UL K H' l (un kd S p)->Q (.ref l) H'
def TU (c:Cl5) (K:Ξ) (r:Nat):Addr->Sp->Prop:=fun C sp=>(C=c.num/\sp=spU c K r Kd.isNum)\/(C=c.nest/\sp=spU c K r Kd.isNest)\/(C=c.many/\sp=spU c K r Kd.isMany)\/(C=c.pick/\sp=spU c K r Kd.isPick)
theorem kdU{K:Ξ}{H:Hp}{kd:Kd}{S:List Shp}(hm:Nolk m)(hr:kd.Rk r)(hf:kd.Fit S.length)(ho:KO c K H sa a kd)(hw:SW c K H sa S)(hg:Good S):
  ∃C dx fs sp,H a=some (.ins C dx fs)/\fs.lookup m=none/\TU c K r C sp/\∀(p:Str) (Q:VK) (E:XK),p.length+8*r<=200->(∀l H',jG H H'->H l=none->UL K H' l (un kd S p)->Q (.ref l) H')->sp [.ref a,.str p] H Q E:=by
 cases id ho with
 |num h=>exact⟨_,_,_,_,h,(hm _ .non).1,.inl ⟨rfl,rfl⟩,fun p Q E hp q=>⟨a,p,_,sa,S,rfl,hp,rfl,hr,hf,ho,hw,hg,q⟩⟩
 |nest e h=>exact⟨_,_,_,_,h,(hm _ .non).2.1,.inr (.inl ⟨rfl,rfl⟩),fun p Q E hp q=>⟨a,p,_,sa,S,rfl,hp,rfl,hr,hf,ho,hw,hg,q⟩⟩
 |many h _=>exact⟨_,_,_,_,h,(hm _ _).2.2.1,.inr (.inr (.inl ⟨rfl,rfl⟩)),fun p Q E hp q=>⟨a,p,_,sa,S,rfl,hp,rfl,hr,hf,ho,hw,hg,q⟩⟩
 |pick h _ _ _=>exact⟨_,_,_,_,h,(hm _ .non).2.2.2,.inr (.inr (.inr ⟨rfl,rfl⟩)),fun p Q E hp q=>⟨a,p,_,sa,S,rfl,hp,rfl,hr,hf,ho,hw,hg,q⟩⟩
inductive PR (c:Cl5) (K:Ξ) (H:Hp) (sa:List Addr):List Addr->List (Str×Kd)->Prop
 |nil:PR c K H sa [] []
 |cons {t k:Addr}{x:V}{y:Str}{kd:Kd}{ts:List Addr}{ps:List (Str×Kd)} : SqT K H t [x,.ref k]->uO x=some y->KO c K H sa k kd->PR c K H sa ts ps->PR c K H sa (t::ts) ((y,kd)::ps)
theorem PR.same{K:Ξ}(h:PR c K H sa ts ps)(g:jG H H'):PR c K H' sa ts ps:=by
 induction h with
 |nil=>exact .nil
 |cons t x k _ ih=>exact .cons (g.tp t) x (k.same g) ih
theorem PR.len{K:Ξ}(h:PR c K H sa ts ps):ts.length=ps.length:=by
 induction h with
 |nil=>rfl
 |cons _ _ _ _ ih=>rw[υ,υ,ih]
theorem PR.snoc{K:Ξ}{x:V}(h:PR c K H sa ts ps)(t1:SqT K H t [x,.ref k])(h2:uO x=some y)(h3:KO c K H sa k kd):PR c K H sa (ts++[t]) (ps++[(y,kd)]):=by
 induction h with
 |nil=>exact .cons t1 h2 h3 .nil
 |cons t x k _ ih=>exact .cons t x k ih
theorem PR.get{K:Ξ}(h:PR c K H sa ts ps):∀{i:Nat}{t:Addr},ts[i]?=some t->∃x y kd k,ps[i]?=some (y,kd)/\SqT K H t [x,.ref k]/\uO x=some y/\KO c K H sa k kd:=by
 induction h with
 |nil=>intro i t e;simp at e
 |cons t x k _ ih =>
  intro i a e;cases i with
  |zero=>cases e;exact⟨_,_,_,_,rfl,t,x,k⟩
  |succ i=>exact ih e
theorem FO.parts{K:Ξ}(h:FO c K H sa ps fs)(more:List Addr):PR c K H (sa++more) ps fs:=by
 induction h with
 |nil=>exact .nil
 |cons t k _ ih=>exact .cons t rfl (k.more more) ih
def PL (c:Cl5) (K:Ξ) (H:Hp) (sa:List Addr) (l:Addr) (ps:List (Str×Kd)):Prop:=∃ts:List Addr,H l=some (.lst (ts.map V.ref))/\PR c K H sa ts ps
def spP (c:Cl5) (K:Ξ) (F:Kd->Bool):Sp:=fun vs H Q _=>∃(a:Addr) (kd:Kd) (sa:List Addr) (S:List Shp),vs=[.ref a]/\F kd=true/\kd.Fit S.length/\KO c K H sa a kd/\SW c K H sa S/\Good S/\∀l H',jG H H'->H l=none->PL c K H' sa l (kd.parts S)->Q (.ref l) H'
def TPt (c:Cl5) (K:Ξ):Addr->Sp->Prop:=fun C sp=>(C=c.nest/\sp=spP c K Kd.isNest)\/(C=c.many/\sp=spP c K Kd.isMany)
theorem callP{K:Ξ}{H:Hp}{kd:Kd}{S:List Shp}{Q:VK}{E:XK}(hm:Nolk m)(hs:(∃i,kd=.nest i)\/∃n q,kd=.many n q)(hf:kd.Fit S.length)(ho:KO c K H sa a kd)(hw:SW c K H sa S)(hg:Good S)
  (q:∀l H',jG H H'->H l=none->PL c K H' sa l (kd.parts S)->Q (.ref l) H'):∃a' C dx fs sp,V.ref a=.ref a'/\H a'=some (.ins C dx fs)/\fs.lookup m=none/\TPt c K C sp/\sp [.ref a] H Q E:=by
 cases id ho with
 |num h=>rcases hs with⟨_,z⟩|⟨_,_,z⟩ <;> cases z
 |nest e h=>exact⟨_,_,_,_,_,rfl,h,(hm _ .non).2.1,.inl ⟨rfl,rfl⟩,a,_,sa,S,rfl,rfl,hf,ho,hw,hg,q⟩
 |many h _=>exact⟨_,_,_,_,_,rfl,h,(hm _ _).2.2.1,.inr ⟨rfl,rfl⟩,a,_,sa,S,rfl,rfl,hf,ho,hw,hg,q⟩
 |pick h _ _ _=>rcases hs with⟨_,z⟩|⟨_,_,z⟩ <;> cases z
theorem SW.at{K:Ξ}(h:SW c K H sa S){i:Nat}(e:sa[i]?=some a):∃s,S[i]?=some s/\SO c K H (sa.take i) a s:=by
 have hi:i<S.length:=by rw[←h.1];exact(η.mp e).1
 exact⟨S[i],θ hi,h.2 i a _ e (θ hi)⟩
theorem SO.fields{K:Ξ}{H:Hp}{sa:List Addr}(h:SO c K H (sa.take i) a s):∃dx t ps,H a=some (.ins c.shape dx [("name",.str s.1),("fields",.ref t)])/\SqT K H t (ps.map V.ref)/\PR c K H sa ps s.2:=by
 obtain⟨dx,t,ps,h1,h2,h3⟩:=h;refine⟨dx,t,ps,h1,h2,?_⟩;have:=h3.parts (sa.drop i);rw[yf]at this;exact this
theorem aAt:∀j:Nat,j<6->(δ (toString j)).length=1:=by decide +kernel
theorem Kd.parts_ok(h:Good S){k:Kd}{r:Nat}(hk:k.Fit S.length)(hr:k.Rk (r+1)){f:Str×Kd}(hf:f∈k.parts S):f.2.Rk r/\f.2.Fit S.length/\1<=f.1.length/\f.1.length<=6:=by
 cases k with
 |num w=>cases hf
 |nest i =>
  have hi:i<S.length:=hk;have hs:S[i]?=some S[i]:=θ hi;have e:(Kd.nest i).parts S=S[i].2:=by show(S.getD i _).2=_;rw[Θ,hs];rfl
  rw[e]at hf;obtain⟨g1,g2,g3⟩:=h.fit i _ hs f hf;exact⟨g1.rk.mono (by have : 2*i+2<=r+1:=hr;omega),g1.mono (by omega),g2,g3⟩
 |many n q =>
  obtain⟨j,hj,rfl⟩:=rm.mp hf;have hj':j<6:=ω (Aq.mp hj) hk.2.1;have:=aAt j hj';refine⟨?_,?_,by show 1<=(δ (toString j)).length;omega,by show(δ (toString j)).length<=6;omega⟩
  ·rcases hr with⟨w,rfl,_⟩|⟨i,rfl,hi⟩
   ·exact ud
   ·show 2*i+2<=r;omega
  ·rcases hk.2.2 with⟨w,rfl,hw⟩|⟨i,rfl,hi⟩
   ·exact hw
   ·exact hi
 |pick is=>cases hf
def Kd.lv:Kd->Nat
 |.many _ _=>1
 |_=>0
theorem Kd.lv_le:∀k:Kd,k.lv<=1
 |.num _=>sd _
 |.nest _=>sd _
 |.many _ _=>μ _
 |.pick _=>sd _
def LX (K:Ξ) (H:Hp) (sl:Addr) (S:List Shp):Prop:=∃as:List Addr,SqL K H sl (as.map V.ref)/\LW K H as S
theorem LX.same{K:Ξ}(h:LX K H sl S)(g:jG H H'):LX K H' sl S:=by
 obtain⟨as,h1,h2⟩:=h;exact⟨as,g.seq h1,h2.same g⟩
def pD (K:Ξ) (val:Kd->Tab->Nat):Nat->Sp
 |0=>fun _ _ _ _=>False
 |r+1=>fun vs H Q _=>∃(a sl:Addr) (kd:Kd) (S:List Shp),vs=[.ref a,.ref sl]/\kd.Rk r/\kd.lv<=r/\kd.Fit S.length/\LK K H a kd/\LX K H sl S/\Good S/\∀H',jG H H'->Q (.int (val kd (tabs S))) H'
def spLU (K:Ξ):Nat->Sp
 |0=>fun _ _ _ _=>False
 |r+1=>fun vs H Q _=>∃(a sl:Addr) (p:Str) (kd:Kd) (S:List Shp),vs=[.ref a,.ref sl,.str p]/\p.length+8*r<=200/\kd.Rk r/\kd.lv<=r/\kd.Fit S.length/\LK K H a kd/\LX K H sl S/\Good S ∧
  ∀l H',jG H H'->H l=none->UL K H' l (un kd S p)->Q (.ref l) H'
def vSz (kd:Kd) (t:Tab):Nat:=kd.size t.sz
def vDp (kd:Kd) (t:Tab):Nat:=kd.depth t.dp
def sSz (i:Nat) (t:Tab):Nat:=t.sz.getD i 0
def sDp (i:Nat) (t:Tab):Nat:=t.dp.getD i 0
theorem KO.but{K:Ξ}{H:Hp}(g:But l H H')(hl:H l=some (.lst zs))(h:KO c K H sa a k):KO c K H' sa a k:=by
 have n:∀{a C dx fs},H a=some (.ins C dx fs)->H' a=some (.ins C dx fs):=fun h=>g _ _ (gW h hl (by intro z;cases z)) h
 induction h with
 |num h=>exact .num (n h)
 |nest e h=>exact .nest e (n h)
 |many h _ ih=>exact .many (n h) ih
 |pick h t l e=>exact .pick (n h) (g.tup hl t) l e
theorem FO.but{K:Ξ}{H:Hp}(g:But l H H')(hl:H l=some (.lst zs))(h:FO c K H sa ps fs):FO c K H' sa ps fs:=by
 induction h with
 |nil=>exact .nil
 |cons t k _ ih=>exact .cons (g.tup hl t) (k.but g hl) ih
theorem SO.but{K:Ξ}{H:Hp}(g:But l H H')(hl:H l=some (.lst zs))(h:SO c K H sa a s):SO c K H' sa a s:=by
 obtain⟨dx,t,ps,h1,h2,h3⟩:=h;exact⟨dx,t,ps,g _ _ (gW h1 hl (by intro z;cases z)) h1,g.tup hl h2,h3.but g hl⟩
theorem SW.but{K:Ξ}{H:Hp}(g:But l H H')(hl:H l=some (.lst zs))(h:SW c K H sa S):SW c K H' sa S:=⟨h.1,fun i a s h1 h2=>(h.2 i a s h1 h2).but g hl⟩
theorem But.from{H:Hp}(g:jG H H1)(hl:H l=none)(b:But l H1 H2):jG H H2:=fun x o q=>b x o (jK q hl) (g x o q)
theorem fF{H:Hp}(hx:H x=none)(hd:H dx=none):jG H (upd (upd H dx o) x u):=fun b v q=>by
 rw[jW (jK q hx),jW (jK q hd)];exact q
theorem jG.putn{H:Hp}(g:jG H H1)(h:H a=none):jG H (upd H1 a o):=fun b v q=>by
 rw[jW (jK q h)];exact g _ _ q
theorem qJ{ss:List Addr}{i:Nat}(h:(ss.map V.ref)[i]?=some x):∃s,ss[i]?=some s/\x=.ref s:=by
 rw[sv]at h;cases e:ss[i]? with
 |none=>rw[e]at h;cases h
 |some c=>rw[e]at h;cases h;exact⟨c,rfl,rfl⟩
theorem qY{α β : Type}{f : α->β}{l:List α}{i:Nat}{a : α}(h:l[i]?=some a):(l.take (i+1)).map f=(l.take i).map f++[f a]:=by
 rw[vz,h,ν];rfl
theorem cT{α β : Type}{f : α->List β}{l:List α}{i:Nat}{a : α}(h:l[i]?=some a):(l.take (i+1)).flatMap f=(l.take i).flatMap f++f a:=by
 rw[vz,h,wq];show _++[a].flatMap f=_;rw[xm]
theorem qQ{α : Type}{l:List α}: l.take l.length=l:=wu
theorem aBi{ns:List Nat}{m:Int}(h1:m∈ns.map fun n:Nat=>(n:Int))(h2:∀n∈ns.map fun n:Nat=>(n:Int),n<=m):m=((xE ns:Nat):Int):=by
 obtain⟨n,hn,rfl⟩:=rm.mp h1;rw[←aGc hn fun k hk=>by have:=h2 (k:Int) (List.mem_map_of_mem hk);omega]
theorem sumI:∀ns:List Nat,(ns.map fun n:Nat=>(n:Int)).sum=((ns.sum:Nat):Int)
 |[]=>rfl
 |n::ns=>by rw[uj,Ac,Ac,sumI ns];omega
theorem Kd.Rk.zero : ∀{k:Kd},k.Rk 0->k.Fit n->k.isNum=true
 |.num _,_,_=>rfl
 |.nest i,h,_=>by have : 2*i+2<=0:=h;omega
 |.many _ _,h,_=>by
  rcases h with⟨_,_,h⟩|⟨i,_,h⟩ <;> omega
 |.pick is,h,q=>by
  cases is with
  |nil=>exact absurd q.1 (by decide)
  |cons i _=>have:=h i (qy ..);omega
theorem Kd.Rk.sub{r:Nat}(h:(Kd.many n k).Rk (r+1)):k.Rk r:=by
 rcases h with⟨w,rfl,_⟩|⟨i,rfl,hi⟩
 ·exact ud
 ·show 2*i+2<=r;omega
theorem Kd.Fit.sub(h:(Kd.many n k).Fit m):k.Fit m:=by
 rcases h.2.2 with⟨w,rfl,hw⟩|⟨i,rfl,hi⟩
 ·exact hw
 ·exact hi
theorem tW{os:St}(h:os.length=2):∃a b,os=[a,b]:=by
 match os,h with
 |[a,b],_=>exact⟨a,b,rfl⟩
theorem uJ{m:Str}(h:m = "size" ∨ m = "depth" ∨ m = "units_at" ∨ m = "parted"):Nolk m:=by
 rcases h with rfl|rfl|rfl|rfl <;> exact fun _ _=>⟨rfl,rfl,rfl,rfl⟩
theorem bP.mono{K:Ξ}{k:Nat}(h:bP P w K mg base CX j m C sp)(hk:j<=k):bP P w K mg base CX k m C sp:=by
 obtain⟨c,f,fd,ps,h1,h2,h3⟩:=h;exact⟨c,f,fd,ps,h1,h2.mono hk,h3⟩
theorem noFn{K:Ξ}{sp:Sp}(h:∀vs H Q E,sp vs H Q E->False):jI P w K mg base CX k f fd ps sp:=⟨fun vs H Q E q=>(h vs H Q E q).elim,fun _ _ _ H _ _ vs Q E _ _ _ _ q=>(h vs H Q E q).elim⟩
theorem noV{K:Ξ}{F:Kd->Bool}(hF:∀k,F k=true->k.isNum=true->False):∀vs H Q E,spV c K 0 F val vs H Q E->False:=fun vs H Q E ⟨a,kd,sa,S,_,h1,h2,h3,_⟩=>hF kd h1 (h2.zero h3)
theorem noU{K:Ξ}{F:Kd->Bool}(hF:∀k,F k=true->k.isNum=true->False):∀vs H Q E,spU c K 0 F vs H Q E->False:=fun vs H Q E ⟨a,p,kd,sa,S,_,_,h1,h2,h3,_⟩=>hF kd h1 (h2.zero h3)
theorem nn1:∀k:Kd,k.isNest=true->k.isNum=true->False:=fun k h g=>by cases k <;> first|exact Ω h|exact Ω g
theorem nn2:∀k:Kd,k.isMany=true->k.isNum=true->False:=fun k h g=>by cases k <;> first|exact Ω h|exact Ω g
theorem nn3:∀k:Kd,k.isPick=true->k.isNum=true->False:=fun k h g=>by cases k <;> first|exact Ω h|exact Ω g
theorem ff1:∀k:Kd,k.isNest=true->(∃i,k=.nest i)\/∃n q,k=.many n q:=fun k h=>by
 cases k <;> first|exact .inl ⟨_,rfl⟩|cases h
theorem ff2:∀k:Kd,k.isMany=true->(∃i,k=.nest i)\/∃n q,k=.many n q:=fun k h=>by
 cases k <;> first|exact .inr ⟨_,_,rfl⟩|cases h
inductive Itm where
 |sh (n:Str)
 |fd (n:Str) (k:Kd)
def bO (s:Shp):List Itm:=.sh s.1::s.2.map fun f=>.fd f.1 f.2
def kF (S:List Shp):List Itm:=S.flatMap bO
def Itm.line (nm:Nat->Str):Itm->List Str
 |.sh n=>[δ "shape",n]
 |.fd n k=>n::k.words nm
theorem bE(S:List Shp):iX S=(kF S).map (Itm.line (kR S)):=by
 unfold iX kF;rw[List.map_flatMap]
 congr 1
 funext s
 unfold aAm bO;rw[uj,sx];rfl
theorem zD(A B:List Shp):kF (A++B)=kF A++kF B:=wq
def aA (S:List Shp) (j:Nat) (T:List Shp):Prop:=(∃S2,S=T++S2/\j=(kF T).length)\/∃S1 s S2 f1 f2,S=S1++s::S2/\s.2=f1++f2/\T=S1++[(s.1,f1)]/\j=(kF S1).length+1+f1.length
theorem aA.start(S:List Shp):aA S 0 []:=.inl ⟨S,rfl,rfl⟩
theorem aA.next(h:aA S j T)(hj:j<(kF S).length):∃S1 s S2,S=S1++s::S2 ∧
  (((kF S)[j]?=some (.sh s.1)/\T=S1/\aA S (j+1) (S1++[(s.1,[])]))\/∃f1 n k f2,s.2=f1++(n,k)::f2/\(kF S)[j]?=some (.fd n k)/\T=S1++[(s.1,f1)]/\aA S (j+1) (S1++[(s.1,f1++[(n,k)])])):=by
 have one:∀{T:List Shp}{S2:List Shp},S=T++S2->j=(kF T).length->∃S1 s S2,S=S1++s::S2 ∧
  (((kF S)[j]?=some (.sh s.1)/\T=S1/\aA S (j+1) (S1++[(s.1,[])]))\/∃f1 n k f2,s.2=f1++(n,k)::f2/\(kF S)[j]?=some (.fd n k)/\T=S1++[(s.1,f1)]/\aA S (j+1) (S1++[(s.1,f1++[(n,k)])])):=by
  intro T S2 e ej;cases S2 with
  |nil=>rw[e,uy,←ej]at hj;exact absurd hj (vq _)
  |cons s S2 =>
   refine⟨T,s,S2,e,.inl ⟨?_,rfl,.inr ⟨T,s,S2,[],s.2,e,rfl,rfl,by rw[ej];rfl⟩⟩⟩;rw[e,zD,Γ (by omega),ej,vc];rfl
 rcases h with⟨S2,e,ej⟩|⟨S1,s,S2,f1,f2,e,ef,eT,ej⟩
 ·exact one e ej
 ·cases f2 with
  |nil =>
   rw[uy]at ef;have e2:T=S1++[s]:=by rw[eT,←ef]
   refine one (S2:=S2) (by rw[e,e2,ug];rfl) ?_;rw[e2,zD,ζ,ej];show _=_+([s].flatMap bO).length;rw[xm];unfold bO;rw[υ,ε,ef];omega
  |cons f f2 =>
   refine⟨S1,s,S2,e,.inr ⟨f1,f.1,f.2,f2,ef,?_,eT,.inr ⟨S1,s,S2,f1++[(f.1,f.2)],f2,e,by rw[ef,ug];rfl,rfl,by rw[ej,ζ];rfl⟩⟩⟩;rw[e,zD,Γ (by omega),show j-(kF S1).length=f1.length+1 by omega];show((bO s)++kF S2)[f1.length+1]?=_;unfold bO;rw[zp,List.getElem?_cons_succ,rf (by rw[ε,ef,ζ,υ];omega),sv,ef,Γ (μ _),vc];rfl
theorem zK{A:List Shp}(h:A≠[]): 0<(kF A).length:=by
 cases A with
 |nil=>exact absurd rfl h
 |cons a A=>exact Nat.succ_pos _
theorem aA.done(h:aA S (kF S).length T):T=S:=by
 rcases h with⟨S2,e,ej⟩|⟨S1,s,S2,f1,f2,e,ef,eT,ej⟩
 ·cases S2 with
  |nil=>rw[e,uy]
  |cons s S2 =>
   rw[e,zD,ζ]at ej;have:=zK (A:=s::S2) (by simp);omega
 ·rw[e,zD,ζ,show kF (s::S2)=bO s++kF S2 from rfl,ζ]at ej;unfold bO at ej;rw[υ,ε,ef,ζ]at ej;have h2:f2=[]:=uh.mp (by omega);have h3:S2=[]:=by
   cases S2 with
   |nil=>rfl
   |cons a A=>have:=zK (A:=a::A) (by simp);omega
  rw[eT,e,h3];subst h2;rw[uy]at ef;rw[←ef]
theorem vP(sa:List Addr)(z:Addr):atI ((sa++[z]).map V.ref) (-1)=some (.ref z):=by
 have l:((sa++[z]).map V.ref).length=sa.length+1:=by rw[ε,ζ];rfl
 have e:ixN (sa.length+1) (-1)=some sa.length:=by
  unfold ixN;rw[if_neg (by omega),if_pos (by omega)]
  congr 1
  omega
 unfold atI;rw[l,e];show((sa++[z]).map V.ref)[sa.length]?=_;rw[ν,Γ (by rw[ε];exact μ _),ε,vc];rfl
theorem aDo(sa:List Addr)(z:Addr):ixN ((sa++[z]).map V.ref).length (-1)=some sa.length:=by
 rw[ε,ζ,uk];unfold ixN;rw[if_neg (by omega),if_pos (by omega)]
 congr 1
 omega
theorem aDm(sa:List Addr)(z y:Addr):((sa++[z]).map V.ref).set sa.length (.ref y)=(sa++[y]).map V.ref:=by
 rw[ν,ν,List.set_append_right _ _ (by rw[ε];exact μ _),ε,vc];rfl
theorem cutA(xs:List V)(k:Nat):fL xs (some (k:Int)) none=xs.drop k:=by
 unfold fL;rw[HT.sIx_none,HT.sIx_nat];have e:xs.drop (min k xs.length)=xs.drop k:=by
  by_cases h:k<=xs.length
  ·rw[Nat.min_eq_left h]
  ·rw[Nat.min_eq_right (by omega),List.drop_length,List.drop_eq_nil_of_le (by omega)]
 rw[e,vt];rw[xu];omega
theorem rS(x:V)(xs:List V):fL (x::xs) (some 1) none=xs:=cutA (x::xs) 1
theorem aGx(x y:V)(xs:List V):fL (x::y::xs) (some 2) none=xs:=cutA (x::y::xs) 2
theorem at0{x:V}{xs:List V}: atI (x::xs) 0=some x:=yP (j:=0) rfl
theorem at1{x y:V}{xs:List V}: atI (x::y::xs) 1=some y:=yP (j:=1) rfl
theorem cutB(xs:List V)(k:Nat):fL xs none (some (k:Int))=xs.take k:=by
 unfold fL;rw[HT.sIx_none,HT.sIx_nat,List.drop_zero,Nat.sub_zero]
 by_cases h:k<=xs.length
 ·rw[Nat.min_eq_left h]
 ·rw[Nat.min_eq_right (by omega),wu,vt (by omega)]
theorem cutC(sa:List Addr)(z:Addr):fL ((sa++[z]).map V.ref) none (some (-1))=sa.map V.ref:=by
 unfold fL;rw[HT.sIx_none,List.drop_zero,Nat.sub_zero];have l:((sa++[z]).map V.ref).length=sa.length+1:=by rw[ε,ζ];rfl
 have e:HT.sIx ((sa++[z]).map V.ref).length ((sa++[z]).map V.ref).length (some (-1))=(sa.map V.ref).length:=by
  rw[l,ε];show(if (-1:Int)<0 then ((-1:Int)+((sa.length+1:Nat):Int)).toNat else min (-1:Int).toNat (sa.length+1))=_;rw[if_pos (by decide)];omega
 rw[e,ν,List.take_left' rfl]
def dk (T:List Shp) (sa:List Addr):List (Key×V):=List.zipWith (fun (s:Shp) (a:Addr)=>((.inr s.1:Key),V.ref a)) T sa
theorem aCt{T:List Shp}{sa:List Addr}(hn:(T.map (·.1)).Nodup):∀{i:Nat}{s:Shp}{a:Addr},T[i]?=some s->sa[i]?=some a->bQ (dk T sa) (.inr s.1)=some (.ref a):=by
 induction T generalizing sa with
 |nil=>intro i s a h;simp at h
 |cons t T ih =>
  intro i s a h1 h2;cases sa with
  |nil=>simp at h2
  |cons b sa =>
   cases i with
   |zero =>
    cases h1;cases h2;unfold dk bQ;rw[xo,List.find?_cons_of_pos (by simp)];rfl
   |succ i =>
    have hn':=xj.mp (show(t.1::T.map (·.1)).Nodup from hn);have:=ih hn'.2 (sa:=sa) h1 h2;unfold dk bQ at this ⊢;rw[xo,List.find?_cons_of_neg]
    ·exact this
    ·intro z;have z2:t.1=s.1:=yp.inj (show(yp t.1:Key)=.inr s.1 from of_decide_eq_true z);have h1':T[i]?=some s:=h1;exact hn'.1 (by rw[z2];exact List.mem_map_of_mem (ψ h1'))
theorem aBa{kvs:List (Key×V)}{k:Key}(h:∀x∈kvs,x.1≠k):putK kvs k v=kvs++[(k,v)]:=by
 unfold putK
 first
 |rw[if_neg (by simp only[List.any_eq_true,not_exists];rintro x ⟨hx,z⟩;exact h x hx (of_decide_eq_true z))]
 | (split
    · rename_i z
      simp only[List.any_eq_true]at z;obtain⟨x,hx,z⟩:=z;exact absurd (by simpa using z) (h x hx)
    · rfl)
theorem rK{α β γ : Type}(f : α->β->γ):∀{xs:List α}{ys:List β}{x : α}{y : β},xs.length=ys.length->List.zipWith f (xs++[x]) (ys++[y])=List.zipWith f xs ys++[f x y]
 |[],[],_,_,_=>rfl
 |a::xs,b::ys,x,y,h=>by
  rw[zp,zp,xo,xo,rK f (Nat.succ.inj h)];rfl
theorem aFk{T:List Shp}{sa:List Addr}{j:Nat}(h1:T[j]?=some s)(h2:sa[j]?=some a):dk (T.take (j+1)) (sa.take (j+1))=dk (T.take j) (sa.take j)++[(.inr s.1,.ref a)]:=by
 unfold dk;rw[vz,vz,h1,h2];refine rK _ ?_;rw[rh,rh];have:=(η.mp h1).1;have:=(η.mp h2).1;omega
theorem aAb{T:List Shp}{sa:List Addr}: ∀x∈dk T sa,∃s∈T,x.1=.inr s.1:=by
 induction T generalizing sa with
 |nil=>intro x hx;cases sa <;> simp[dk]at hx
 |cons t T ih =>
  intro x hx;cases sa with
  |nil=>simp[dk]at hx
  |cons a sa =>
   unfold dk at hx;rw[xo]at hx;rcases ξ.mp hx with rfl|hx
   ·exact⟨t,qy ..,rfl⟩
   ·obtain⟨s,hs,e⟩:=ih x hx;exact⟨s,rg _ hs,e⟩
theorem SW.init{K:Ξ}{sa:List Addr}{z:Addr}{T:List Shp}{s:Shp}(h:SW c K H (sa++[z]) (T++[s])):SW c K H sa T/\SO c K H sa z s:=by
 have hl:sa.length=T.length:=by have:=h.1;rw[ζ,ζ]at this;exact Nat.succ.inj this
 refine⟨⟨hl,fun i a u h1 h2=>?_⟩,?_⟩
 ·have hi:i<sa.length:=(η.mp h1).1;have:=h.2 i a u (pG h1) (by rw[rf (by omega)];exact h2);rw[List.take_append_of_le_length (by omega)]at this;exact this
 ·have:=h.2 sa.length z s (by rw[Γ (μ _),vc];rfl) (by rw[hl,Γ (μ _),vc];rfl);rw[List.take_left' rfl]at this;exact this
theorem aEk(c:Nat):∀ps:List (List Nat),(jn c ps).length<=(ps.map (·.length)).sum+ps.length
 |[]=>μ _
 |[p]=>by show p.length<=(p.length+0)+1;omega
 |p::q::r=>by
  have ih:=aEk c (q::r);show(p++c::jn c (q::r)).length<=_;rw[ζ,υ,uj,Ac,υ];omega
theorem bR{α : Type}{f : α->Nat}{m:Nat}: ∀{l:List α},(∀x∈l,f x<=m)->(l.map f).sum<=l.length*m
 |[],_=>sd _
 |x::l,h=>by
  have h1:=h x (qy ..);have h2:=bR (f:=f) (l:=l) fun y hy=>h y (rg _ hy);rw[uj,Ac,υ,Nat.succ_mul];omega
theorem aM{c:Nat}{ws:List Str}{m:Nat}(h:∀w∈ws,w.length<=m):(π ⟨#[c]⟩ ws).length<=ws.length*(m+1):=by
 have e:(π ⟨#[c]⟩ ws).length=(jn c (ws.map fun w=>w.cps.toList)).length:=by
  rw[←iZ];exact(wn).symm
 rw[e];refine sg (aEk _ _) ?_;rw[sx,ε,Nat.mul_add,Nat.mul_one];exact Nat.add_le_add_right (bR fun w hw=>by show w.cps.toList.length<=m;rw[wn];exact h w hw) _
theorem mT{ns:List Nat}{i:Nat}(h:(ns.map fun n:Nat=>V.int n)[i]?=some x):∃c:Nat,ns[i]?=some c/\x=.int c:=by
 rw[sv]at h;cases e:ns[i]? with
 |none=>rw[e]at h;cases h
 |some c=>rw[e]at h;cases h;exact⟨c,rfl,rfl⟩
theorem lR{ss:List Addr}{i:Nat}(h:ss[i]?=some s):atI (ss.map V.ref) (i:Int)=some (.ref s):=yP (by rw[sv,h];rfl)
theorem cP{ss:List Str}{i:Nat}(h:ss[i]?=some s):atI (ss.map V.str) (i:Int)=some (.str s):=yP (by rw[sv,h];rfl)
theorem LX.at{K:Ξ}(h:LX K H sl S){i:Nat}(hi:i<S.length):∃(as:List Addr) (s l:Addr) (ps:List Addr),SqL K H sl (as.map V.ref)/\as[i]?=some s/\SqT K H s [.str (S[i]).1,.ref l]/\SqL K H l (ps.map V.ref)/\LF K H ps (S[i]).2:=by
 obtain⟨as,h1,h2⟩:=h;have hl:=h2.len;have ha:as[i]?=some (as[i]'(by omega)):=θ _;obtain⟨s,hs,l,ps,q1,q2,q3⟩:=h2.get ha;rw[θ hi]at hs;cases hs;exact⟨as,_,l,ps,h1,ha,q1,q2,q3⟩
def offs (xs:List Addr) (H:Hp):Hp:=fun b=>if b∈xs then none else H b
theorem yO{xs:List Addr}{a:Addr}{H:Hp}(n:a∉xs)(h:H a=some o):offs xs H a=some o:=by unfold offs;rw[if_neg n];exact h
theorem xW : jG (offs xs H) H:=fun b o q=>by
 unfold offs at q
 split at q
 ·cases q
 ·exact q
theorem aH{xs:List Addr}{H H':Hp}(h:∀b o,b∉xs->H b=some o->H' b=some o):jG (offs xs H) (offs xs H'):=fun b o q=>by
 unfold offs at q ⊢
 split at q
 ·cases q
 ·rename_i n;rw[if_neg n];exact h b o n q
theorem qD(g:jG H H'):jG (offs xs H) (offs xs H'):=aH fun b o _ q=>g b o q
theorem sW{xs ys:List Addr}(h:∀b,b∈xs->b∈ys):jG (offs ys H) (offs xs H):=fun b o q=>by
 unfold offs at q ⊢
 split at q
 ·cases q
 ·rename_i n;rw[if_neg fun z=>n (h b z)];exact q
def Al (xs:List Addr) (H:Hp):Prop:=∀b∈xs,∃o,H b=some o
theorem Al.same(h:Al xs H)(g:jG H H'):Al xs H':=fun b hb=>by
 obtain⟨o,ho⟩:=h b hb;exact⟨o,g _ _ ho⟩
theorem Al.new{H:Hp}(h:Al xs H)(ht:H t=none):t∉xs:=fun z=>by
 obtain⟨o,ho⟩:=h t z;rw[ht]at ho;cases ho
end L2
namespace L2
open PySem PySem.Spec PyProof.Rows
def isBl (b:Bool):Value->Bool
 |.bool c=>c == b
 |_=>false
theorem aAp:∀{bs:List Bool}{its:List Value},kK (bs.map V.bl) its->its=bs.map yq
 |[],_,h=>by cases h;rfl
 |b::bs,_,h=>by
  cases h with
  |cons h1 h2=>cases h1;rw[aAp h2];rfl
theorem sS(b:Bool):∀bs:List Bool,(bs.map yq).countP (isBl b)=bs.count b
 |[]=>rfl
 |c::bs=>by
  rw[uj,List.countP_cons,List.count_cons,sS b bs];rfl
theorem aBp{X:Cx}{K:Ξ}(hK:X.K=K):MtR X "list.count" (fun x vs H Q=>∃(a:Addr) (bs:List Bool) (b:Bool),x=.ref a/\vs=[.bl b]/\SqL K H a (bs.map V.bl)/\Q (.int (bs.count b:Nat)) H):=by
 subst hK;intro pins s σ H x vs v us Q I rx rv h;obtain⟨a,bs,b,rfl,rfl,ha,q⟩:=h;cases rx;obtain⟨u,rfl,ru⟩:=vals1 rv;cases ru;obtain⟨its,r,pl,_⟩:=I.list ha;obtain⟨⟨cls,dd,data,sl⟩,ho,hc,n,hd⟩:=pl.isList;simp only at hc hd;subst hc hd;have e:=aAp r;subst e;refine call_meets PySem.F.slot_list_count ⟨_,ho,rfl⟩ PySem.F.entry_list_count (PySem.F.args_list_count_2 _ _) (PySem.SeqAt.list_countAt a _ n dd sl (.bool b) (isBl b)) ⟨ho,fun y hy=>?_,?_⟩
 ·obtain⟨c,_,rfl⟩:=rm.mp (by simpa using hy:y∈bs.map yq);exact PySem.SeqAt.EqAt.bool_bool c b
 ·rw[show(bs.map yq).toArray.toList=bs.map yq from rfl,sS];exact⟨.int _,H,I.tok _,⟨_,rfl⟩,q⟩
end L2
namespace L2
open PySem
abbrev Hold:=Str×Nat
abbrev pI:=Str×Nat×Nat×List Hold
def lj (p x:Str):Str:=if p.length=0 then x else if x.length=0 then p else p++δ "." ++ x
def ahd (st:Str) (m:Int) (x:pI):pI:=(lj st x.1,x.2.1,((x.2.2.1:Int)+m).toNat,x.2.2.2.map fun h=>(lj st h.1,h.2))
def ahead (st:Str) (rows:List pI) (m:Int):List pI:=rows.map (ahd st m)
def insF (S:List Shp) (f:Kd->List pI):Nat->List (Str×Kd)->List pI
 |_,[]=>[]
 |o,x::xs=>ahead x.1 (f x.2) o++insF S f (o+x.2.size (tabs S).sz) xs
def pickR (n:Nat) (x:pI):pI:=(x.1,x.2.1,x.2.2.1,(Str.empty,n)::x.2.2.2)
def ins (S:List Shp):Nat->Kd->List pI
 |0,.num w=>[(Str.empty,w,0,[])]
 |0,_=>[]
 |r+1,.num w=>[(Str.empty,w,0,[])]
 |r+1,.nest i=>insF S (ins S r) 0 ((Kd.nest i).parts S)
 |r+1,.many n k=>insF S (ins S r) 0 ((Kd.many n k).parts S)
 |r+1,.pick is=>(δ "tag",1,0,[])::(tw is.length).flatMap fun n=>(ahead (kR S (is.getD n 0)) (ins S r (.nest (is.getD n 0))) 1).map (pickR n)
end L2
namespace L2
open PySem PySem.Spec PyProof.Rows
theorem KV.get:∀{kvs:List (Key×V)}{vs:List (Key×Value)},KV kvs vs->∀{i:Nat}{kv:Key×V},kvs[i]?=some kv->∃u,vs[i]?=some (kv.1,u)
 |_,_,.nil,_,_,e=>by simp at e
 |_,_,.cons (a:=p) (b:=q) r _,0,kv,e=>by
  simp at e;subst e;exact⟨q.2,by simp[r.1]⟩
 |_,_,.cons _ t,i+1,kv,e=>by
  obtain⟨u,h⟩:=KV.get t (i:=i) (kv:=kv) (by simpa using e);exact⟨u,by simpa using h⟩
end L2
namespace L2.TX
open PySem PySem.Spec PyProof.Rows
section
variable {prog:vh}{w:vy}{A:vm}{R:Result->ο->Prop}{I:Addr}{fp wr:List Addr}{G:Array GenState->Array GenState->Prop}{n:Nat}{P:Nat->Value->Prop}{St:Nat->ο->Prop}
end
end L2.TX
namespace L2
open PySem PySem.Spec PyProof.Rows
theorem aHv{X:Cx}(hu:X.A.units+64<cLine):OpR X (vo .Eq) (fun x y H Q=>∃(a b:Addr) (xs ys:List V),x=.ref a/\y=.ref b/\SqT X.K H a xs/\SqT X.K H b ys/\xs.length=ys.length/\(∀(i:Nat) x y,xs[i]?=some x->ys[i]?=some y->EqS X.K H 8 x y)/\Q (.bl true) H):=by
 intro pins s σ H x y v u Q I rx ry h;obtain⟨a,b,xs,ys,rfl,rfl,ha,hb,hl,he,q⟩:=h;cases rx;cases ry;obtain⟨i1,r1,p1,_⟩:=I.tuple ha;obtain⟨i2,r2,p2,_⟩:=I.tuple hb;have l1:=r1.length;have l2:=r2.length;refine SeqAt.eq_tupleAt (e:=fun _=>true) (show s.heap.IsTuple a i1.toArray from p1) (show s.heap.IsTuple b i2.toArray from p2) (by omega) (fun j h1 h2=>?_) ?_
 ·have hj:j<xs.length:=by rw[χ]at h1;omega
  have hj2:j<ys.length:=by omega
  obtain⟨u1,e1,q1⟩:=r1.get (θ hj);obtain⟨u2,e2,q2⟩:=r2.get (θ hj2);rw[cY e1,cY e2];exact I.eqs (he j _ _ (θ hj) (θ hj2)) q1 q2 (by show X.A.units+1+8<cLine;omega)
 ·rw[mM,show(i1.toArray.size == i2.toArray.size)=true by rw[χ,χ,show i1.length=i2.length by omega];simp];exact⟨.bl true,H,I,rfl,q⟩
end L2
namespace K12
open PySem L2
theorem mH : 0<=ρ:=by decide
theorem bI : 1<=ρ:=by decide
theorem qA : 2<=ρ:=by decide
theorem cI : 3<=ρ:=by decide
theorem szL4 : 4<=ρ:=by decide
theorem szL5 : 5<=ρ:=by decide
def top (i : Nat) : Stmt := PySem.Challenge.pw_roomslaid_k12_lines_refused.main.body.getD i (.Pass ⟨0,0,0,0⟩)
def inClass:Stmt->Nat->Stmt
 |.ClassDef _ _ _ body _ _ _ _ _ _ _,j=>body.getD j (.Pass ⟨0,0,0,0⟩)
 |s,_=>s
theorem qP{c A B:Prop}[Decidable c](hc:c)(h:A):if c then A else B:=by rw[if_pos hc];exact h
theorem kW{c A B:Prop}[Decidable c](hc:¬ c)(h:B):if c then A else B:=by rw[if_neg hc];exact h
structure Blt (mg:Str->Option Value):Prop where
 range:mg "range" = none
 len:mg "len" = none
 isinstance:mg "isinstance" = none
 int:mg "int" = none
 bool:mg "bool" = none
 list:mg "list" = none
 all:mg "all" = none
 max:mg "max" = none
 min:mg "min" = none
 reversed:mg "reversed" = none
 tuple:mg "tuple" = none
 divmod:mg "divmod" = none
 str:mg "str" = none
 sum:mg "sum" = none
 zip:mg "zip" = none
 enumerate:mg "enumerate" = none
 dict:mg "dict" = none
 ValueError:mg "ValueError" = none
 repr:mg "repr" = none
structure Df (K:Ξ) (mg:Str->Option Value) (x:Str) (f:Addr) (fd:sq) (ps:List Str):Prop where
 m:mg x=some (.ref f)
 k:keepIn K (.ref f)=true
 b:Binds K fd ps []
def St3 (H:Hp) (p:Addr):Prop:=∃a b c:Int,H p=some (.lst [.int a,.int b,.int c])
def Drawn (p:Addr) (H H':Hp):Prop:=St3 H' p/\∀b o,b≠p->H b=some o->H' b=some o
theorem Drawn.trans(a:Drawn p H H1)(b:Drawn p H1 H2):Drawn p H H2:=⟨b.1,fun c o n h=>b.2 c o n (a.2 c o n h)⟩
theorem Drawn.refl(h:St3 H p):Drawn p H H:=⟨h,fun _ _ _ q=>q⟩
theorem Drawn.new{H1:Hp}(a:Drawn p H H1)(hl:H1 l=none):Drawn p H (upd H1 l o):=by
 obtain⟨⟨x,y,z,e⟩,h⟩:=a;refine⟨⟨x,y,z,by rw[jW (jK e hl)];exact e⟩,fun b u n q=>?_⟩;have:=h b u n q;rw[jW (jK this hl)];exact this
theorem Drawn.same{H:Hp}(a:Drawn p H H')(hp:H p=none):jG H H':=fun b o h=>a.2 b o (jK h hp) h
theorem vD{H:Hp}(h:H p=none)(o:HO):jG H (upd H p o):=fun b u q=>by rw[jW (jK q h)];exact q
theorem aEq(ns:List Int){i:Int}(h0 : 0<=i)(h1:i<ns.length):∃v:Int,atI (ns.map V.int) i=some (.int v):=by
 have hk:i.toNat<ns.length:=by omega
 have e:i=((i.toNat:Nat):Int):=by omega
 have q:atI (ns.map V.int) ((i.toNat:Nat):Int)=some (.int ns[i.toNat]):=yP (by rw[sv,θ hk] <;> rfl);rw[←e]at q;exact⟨_,q⟩
theorem small{n:Nat}(h:n<=1000):n<=ρ:=wk (kP h)
def aCg (K:Ξ):Sp:=fun vs H Q _=>∃(a:Addr) (ns:List Int) (k:Int),vs=[.ref a,.int k]/\SqL K H a (ns.map V.int)/\0<=k/\k<64/\∀v:Int,Q (.int v) H
def aAd (K:Ξ):Sp:=fun vs H Q _=>∃(a:Addr) (ns:List Int),vs=[.ref a]/\SqL K H a (ns.map V.int)/\ns.length<=63/\∀H',Q (.bl true) H'
theorem jG.tup{K:Ξ}{H H':Hp}{a:Addr}{xs:List V}(e:jG H H')(h:SqT K H a xs):SqT K H' a xs:=by
 rcases h with (h|⟨o,h⟩)|h
 ·exact .inl (.inl (e _ _ h))
 ·exact .inl (.inr ⟨o,e _ _ h⟩)
 ·exact .inr h
theorem Drawn.tup{K:Ξ}{p:Addr}{H H':Hp}{a:Addr}{xs:List V}(hs:St3 H p)(e:Drawn p H H')(h:SqT K H a xs):SqT K H' a xs:=by
 obtain⟨x,y,z,hp⟩:=hs;rcases h with (h|⟨o,h⟩)|h
 ·exact .inl (.inl (e.2 _ _ (gW h hp (by intro z;cases z)) h))
 ·exact .inl (.inr ⟨o,e.2 _ _ (gW h hp (by intro z;cases z)) h⟩)
 ·exact .inr h
structure uZ (K:Ξ) (mg:Str->Option Value) (x:Str) (C fI:Addr) (as:List Str):Prop where
 m:mg x=some (.ref C)
 cl:Cls K C
 ma:Mk K C fI
 na:∀a∈as,zC K C a
structure DfM (K:Ξ) (C:Addr) (m:Str) (f:Addr) (fd:sq) (ps:List Str):Prop where
 me:Meth K C m f
 b:Binds K fd ps []
structure DfI (K:Ξ) (fd:sq) (ps:List Str):Prop where
 b:Binds K fd ps []
structure TX (K:Ξ) (mg:Str->Option Value) (x:Str) (C R fI:Addr) (as:List Str):Prop where
 m:mg x=some (.ref C)
 c:zW K C R fI
 x:XCls K C (.ref R::VB)
 n:∀a∈as,uv K (.ref C) a=some none
structure TXB (K:Ξ) (mg:Str->Option Value) (C fI:Addr):Prop where
 m:mg "RoomError" = some (.ref C)
 i:aGy K C fI
 x:XCls K C VB
def aEx:List Str:=["shape","num","row","pick","tag","room","things","part","tags","put","take","many","look","which","store","choose","copy","each","span","if","else","end","out"]
abbrev aC:Str:="abcdefghijklmnopqrstuvwxyz"
abbrev aL:Str:="0123456789"
structure Cst (K:Ξ) (mg:Str->Option Value) (t1 t2 t3 t4 t5 t6 t7 t8 t9 t10 t11 t12 t13:Tok) (ts:Addr):Prop where
 SMALL_LETTERS:mg "SMALL_LETTERS" = some (.str "abcdefghijklmnopqrstuvwxyz" t1)
 FIGURES:mg "FIGURES" = some (.str "0123456789" t2)
 MOST_LETTERS:mg "MOST_LETTERS" = some (.int 6 t3)
 MOST_FIGURES:mg "MOST_FIGURES" = some (.int 10 t4)
 MOST_SHAPES:mg "MOST_SHAPES" = some (.int 8 t5)
 MOST_FIELDS:mg "MOST_FIELDS" = some (.int 6 t6)
 MOST_CELLS:mg "MOST_CELLS" = some (.int 64 t7)
 MOST_UNITS:mg "MOST_UNITS" = some (.int 40 t8)
 MOST_DEPTH:mg "MOST_DEPTH" = some (.int 4 t9)
 MOST_WIDTH:mg "MOST_WIDTH" = some (.int 4 t10)
 MOST_COUNT:mg "MOST_COUNT" = some (.int 6 t11)
 LEAST_PICKED:mg "LEAST_PICKED" = some (.int 2 t12)
 MOST_PICKED:mg "MOST_PICKED" = some (.int 4 t13)
 OWN_WORDS:mg "OWN_WORDS" = some (.ref ts)
 words:∀H,SqT K H ts (aEx.map V.str)
def tyA (K:Ξ) (x:V) (H:Hp) (t:String):Prop:=tyN K x H t\/(t = "dict"/\∃p kvs,x=.ref p/\H p=some (.dK kvs))
theorem jG.tyA{K:Ξ}(g:jG H H')(h:tyA K x H t):tyA K x H' t:=by
 rcases h with h|⟨e,p,kvs,ex,h⟩
 ·left;cases x with
  |ref p =>
   rcases h with⟨e,xs,h⟩|⟨e,xs,h⟩
   ·exact .inl ⟨e,xs,g.seq h⟩
   ·exact .inr ⟨e,xs,jG.tup g h⟩
  |_=>exact h
 ·exact .inr ⟨e,p,kvs,ex,g _ _ h⟩
def within (x:Str) (most:Int):Bool:=decide (1<=(x.length:Int))&&decide ((x.length:Int)<=most)
def sJ (x signs:Str):Bool:=x.cps.toList.all fun c=>decide (c∈signs.cps.toList)
def jM (x:Str):Bool:=within x 6&&sJ x aC&&!decide (x∈aEx)
def sG (x:Str):Bool:=decide (x.cps.toList[0]?=some 48)&&decide (1<(x.length:Int))
def aY (x:Str):Option Int:=if (within x 10&&sJ x aL&&!sG x)=true then some ((PySem.NumText.digitsVal x.cps.toList:Nat):Int) else none
def optV:Option Int->V
 |none=>.non
 |some n=>.int n
def vK (o:Option Int) (lo hi:Int):Option Int:=match o with
 |none=>none
 |some n=>if lo<=n/\n<=hi then some n else none
def lC (K:Ξ):Sp:=fun vs H Q _=>∃(x:V) (signs:Str) (most:Int),vs=[x,.str signs,.int most] ∧
 ((∃z:Str,x=.str z/\z.length<=1000/\∀H',jG H H'->Q (.bl (within z most&&sJ z signs)) H')\/(∃t,tyA K x H t/\t ≠ "str"/\Q (.bl false) H))
def aI (K:Ξ):Sp:=fun vs H Q _=>∃x:V,vs=[x] ∧
 ((∃z:Str,x=.str z/\z.length<=1000/\∀H',jG H H'->Q (.bl (jM z)) H')\/(∃t,tyA K x H t/\t ≠ "str"/\∀H',jG H H'->Q (.bl false) H'))
def dP (K:Ξ):Sp:=fun vs H Q _=>∃(x:V) (lo hi:Int),vs=[x,.int lo,.int hi] ∧
 ((∃z:Str,x=.str z/\z.length<=1000/\∀H',jG H H'->Q (optV (vK (aY z) lo hi)) H')\/(∃t,tyA K x H t/\t ≠ "str"/\∀H',jG H H'->Q .non H'))
theorem eM(x:Str)(ys:List Str):inV (.str x) (ys.map V.str)=decide (x∈ys):=by
 rw[xi];simp only[inV,List.any_map,List.any_eq_true,Function.comp,decide_eq_true_eq,eqV,beq_iff_eq];constructor
 ·rintro ⟨y,hy,rfl⟩;exact hy
 ·intro h;exact⟨x,h,rfl⟩
theorem cV(ys:List Str):(ys.map V.str).all zZ=true:=by
 rw[ue];intro x hx;obtain⟨n,_,rfl⟩:=rm.mp hx;rfl
theorem pO:aC.cps.toList=List.range' 97 26:=by decide +kernel
theorem rC:aL.cps.toList=List.range' 48 10:=by decide +kernel
theorem hV(c:Nat):c∈aC.cps.toList ↔ 97<=c/\c<=122:=by
 rw[pO,List.mem_range'_1];omega
theorem sZ(c:Nat):c∈aL.cps.toList ↔ 48<=c/\c<=57:=by
 rw[rC,List.mem_range'_1];omega
theorem aCf(f:Nat->Bool)(l:List Nat)(i:Nat)(h:l[i]?=some c):((l.take (i+1)).map f)=(l.take i).map f++[f c]:=by
 rw[vz,h,ν] <;> rfl
theorem all_map(f:Nat->Bool)(l:List Nat):(l.map f).all id=l.all f:=by
 rw[List.all_map];rfl
theorem isa3{t:String}(h:t ≠ "str"):isa t "str" = false:=by
 unfold isa;simp[h]
theorem is_0{c:Nat}: decide (V.str ⟨#[c]⟩=V.str (δ "0"))=decide (c=48):=by
 have e:(δ "0")=⟨#[48]⟩:=by decide +kernel
 rw[e,xi,decide_eq_true_eq,decide_eq_true_eq];constructor
 ·intro h;injection h with h;injection h with h;simpa using h
 ·rintro rfl;rfl
theorem jG.st3(g:jG H H')(h:St3 H p):St3 H' p:=by
 obtain⟨x,y,z,e⟩:=h;exact⟨x,y,z,g _ _ e⟩
theorem Drawn.keep(d:Drawn p H H1)(g:jG H1 H2):Drawn p H H2:=⟨jG.st3 g d.1,fun b o n e=>g _ _ (d.2 b o n e)⟩
theorem len_list(z:Str):z.cps.toList.length=z.length:=wn
theorem dA(p:Str):Str.empty++p=p:=Str.ext' (by rw[vb];simp[Str.empty])
theorem qU{a:Nat}(h:a<=5000):a<=ρ:=by rw[qx];omega
def mS:Sp:=fun vs H Q _=>∃(p:Str) (x:V) (y:Str),vs=[.str p,x]/\uO x=some y/\p.length<=1000/\y.length<=1000/\Q (.str (pj p y)) H
def dR:Sp:=fun vs H Q _=>∃(p:Addr) (m:Int),vs=[.ref p,.int m]/\0<m/\m<1073741824/\St3 H p/\∀(v:Nat) (H':Hp),(v:Int)<m->Drawn p H H'->Q (.int v) H'
def aGr:Sp:=fun vs H Q _=>∃c:Int,vs=[.int c]/\∀(p:Addr) (H':Hp),H p=none->Drawn p H H'->Q (.ref p) H'
structure Wds (K:Ξ) (H:Hp) (a:Addr) (ws:List Str):Prop where
 l:SqL K H a (ws.map V.str)
 s:∀w∈ws,w.length<=1000
 n:ws.length<=1000
theorem Wds.same{K:Ξ}(h:Wds K H a ws)(g:jG H H'):Wds K H' a ws:=⟨g.seq h.l,h.s,h.n⟩
def fE:List Str->Bool
 |[x,y]=>decide (x=δ "shape")&&jM y
 |_=>false
def aGt (K:Ξ):Sp:=fun vs H Q _=>∃(a:Addr) (ws:List Str),vs=[.ref a]/\Wds K H a ws/\∀H',jG H H'->Q (.bl (fE ws)) H'
def aCn (C:Addr) (n:Str):Sp:=fun vs H Q _=>∃(a dx:Addr) (v:V) (H1:Hp),vs=[.ref a,v]/\H a=some (.ins C dx [])/\jG H1 H/\H1 a=none/\∀H',jG H1 H'->H' a=some (.ins C dx [(n,v)])->Q .non H'
def spI2 (C:Addr) (n m:Str):Sp:=fun vs H Q _=>∃(a dx:Addr) (v u:V) (H1:Hp),vs=[.ref a,v,u]/\H a=some (.ins C dx [])/\jG H1 H/\H1 a=none/\∀H',jG H1 H'->H' a=some (.ins C dx [(n,v),(m,u)])->Q .non H'
def spIT (K:Ξ) (C:Addr) (n:Str):Sp:=fun vs H Q _=>∃(a dx l:Addr) (ys:List V) (H1:Hp),vs=[.ref a,.ref l]/\H a=some (.ins C dx [])/\jG H1 H/\H1 a=none/\SqL K H1 l ys/\∀t H',jG H1 H'->H' a=some (.ins C dx [(n,.ref t)])->SqT K H' t ys->Q .non H'
def aEc (c:Cl5) (K:Ξ):Sp:=fun vs H Q _=>∃(a dx fl:Addr) (nm:Str) (ps:List Addr) (fs:List (Str×Kd)) (sa:List Addr) (H1:Hp),vs=[.ref a,.str nm,.ref fl]/\H a=some (.ins c.shape dx [])/\jG H1 H/\H1 a=none/\(SqL K H1 fl (ps.map V.ref)\/SqT K H1 fl (ps.map V.ref))/\FO c K H1 sa ps fs/\fs.length<=100 ∧
 ∀t ps' H',jG H1 H'->H' a=some (.ins c.shape dx [("name",.str nm),("fields",.ref t)])->SqT K H' t (ps'.map V.ref)->FO c K H' sa ps' fs->Q .non H'
def spGr (c:Cl5) (K:Ξ) (r:Nat):Sp:=fun vs H Q _=>∃(a:Addr) (is:List Nat) (sa:List Addr) (S:List Shp),vs=[.ref a]/\(Kd.pick is).Rk r/\(Kd.pick is).Fit S.length/\KO c K H sa a (.pick is)/\SW c K H sa S/\Good S/\∀H',jG H H'->Q (.int ((xE (is.map fun i=>(tabs S).sz.getD i 0):Nat):Int)) H'
def aGw (c:Cl5) (K:Ξ) (r:Nat):Sp:=fun vs H Q _=>∃(a:Addr) (i:Nat) (sa:List Addr) (S:List Shp),vs=[.ref a]/\sa[i]?=some a/\2*i+2<=r/\8*r<=200/\SW c K H sa S/\Good S/\∀l H',jG H H'->H l=none->UL K H' l (un (.nest i) S Str.empty)->Q (.ref l) H'
theorem FO.insD{K:Ξ}{H:Hp}{x:V}(h:FO c K H sa ps fs)(ha:H a=some (.ins C dx [("name",x)])):FO c K (upd H a o) sa ps fs:=by
 have n:∀{b C' dx' fs'},H b=some (.ins C' dx' fs')->fs'.head?.map (·.1)≠some ("name" : Str)->upd H a o b=some (.ins C' dx' fs'):=fun hb z=>by
  rw[jW (fun e=>z (by rw[e,ha]at hb;cases hb;rfl))];exact hb
 have t:∀{b xs},SqT K H b xs->SqT K (upd H a o) b xs:=fun h=>by
  rcases h with (h|⟨o',h⟩)|h
  ·exact .inl (.inl (by rw[jW (gW h ha (by intro z;cases z))];exact h))
  ·exact .inl (.inr ⟨o',by rw[jW (gW h ha (by intro z;cases z))];exact h⟩)
  ·exact .inr h
 have kk:∀{b kd},KO c K H sa b kd->KO c K (upd H a o) sa b kd:=fun h=>by
  induction h with
  |num h=>exact .num (n h (by show some (δ "width")≠some (δ "name");decide))
  |nest e h=>exact .nest e (n h (by show some (δ "shape")≠some (δ "name");decide))
  |many h _ ih=>exact .many (n h (by show some (δ "count")≠some (δ "name");decide)) ih
  |pick h h2 l e=>exact .pick (n h (by show some (δ "shapes")≠some (δ "name");decide)) (t h2) l e
 induction h with
 |nil=>exact .nil
 |cons h1 h2 _ ih=>exact .cons (t h1) (kk h2) ih
def NOk (nm:Nat->Str) (n:Nat):Prop:=∀i,i<n->jM (nm i)=true
theorem qR(h:jM x=true): 1<=x.length/\x.length<=6:=by
 unfold jM within at h;simp only[ub,decide_eq_true_eq]at h;omega
theorem xI{y:Str}(h:jM x=true)(hy:y∈aEx):x≠y:=by
 rintro rfl;unfold jM at h;simp only[ub,Bool.not_eq_true',decide_eq_false_iff_not]at h;exact h.2 hy
theorem dig{w:Nat}(h:w<=9):aY (δ (toString (w:Int)))=some (w:Int)/\(δ (toString (w:Int))).length=1/\jM (δ (toString (w:Int)))=false/\PySem.intText? (δ (toString (w:Int)))=some (w:Int):=by
 have:∀m:Fin 10,aY (δ (toString ((m.val:Nat):Int)))=some ((m.val:Nat):Int)/\(δ (toString ((m.val:Nat):Int))).length=1/\jM (δ (toString ((m.val:Nat):Int)))=false/\PySem.intText? (δ (toString ((m.val:Nat):Int)))=some ((m.val:Nat):Int):=by decide +kernel
 exact this ⟨w,by omega⟩
theorem mF:jM (δ "num")=false/\jM (δ "row")=false/\jM (δ "pick")=false:=by decide +kernel
def Kd.named (nm:Nat->Str):Kd->List Str
 |.num _=>[]
 |.nest i=>[nm i]
 |.many _ k=>Kd.named nm k
 |.pick is=>is.map nm
theorem eR(hn:NOk nm n):∀{k:Kd},k.Fit n->(k.words nm).filter jM=Kd.named nm k:=by
 have hnum:∀w,w<=9->((Kd.num w).words nm).filter jM=[]:=fun w hw=>by
  show[δ "num",δ (toString (w:Int))].filter jM=[];rw[uw (by rw[mF.1];decide),uw (by rw[(dig hw).2.2.1];decide)];rfl
 have hnest:∀i,i<n->((Kd.nest i).words nm).filter jM=[nm i]:=fun i hi=>by
  show[nm i].filter jM=_;rw[xg (hn i hi)];rfl
 intro k hk;cases k with
 |num w=>exact hnum w (by have:=hk.2;omega)
 |nest i=>exact hnest i hk
 |many m k =>
  show(δ "row" :: δ (toString (m:Int))::k.words nm).filter jM=Kd.named nm k;rw[uw (by rw[mF.2.1];decide),uw (by rw[(dig (by have:=hk.2.1;omega)).2.2.1];decide)];rcases hk.2.2 with⟨w,rfl,hw⟩|⟨i,rfl,hi⟩
  ·exact hnum w (by omega)
  ·exact hnest i hi
 |pick is =>
  show(δ "pick" :: is.map nm).filter jM=is.map nm;rw[uw (by rw[mF.2.2];decide),List.filter_eq_self.mpr];intro x hx;obtain⟨i,hi,rfl⟩:=rm.mp hx;exact hn i (hk.2.2.2 i hi)
theorem fV{nm:Nat->Str}{n:Nat}(hn:NOk nm n):∀{k:Kd},k.Fit n->(∀w∈k.words nm,w.length<=6)/\(k.words nm).length<=5:=by
 have hnum:∀w,w<=9->∀x∈(Kd.num w).words nm,x.length<=6:=fun w hw x hx=>by
  simp only[Kd.words,ξ,Δ,or_false]at hx;rcases hx with rfl|rfl
  ·decide
  ·rw[(dig hw).2.1];decide
 have hnest:∀i,i<n->∀x∈(Kd.nest i).words nm,x.length<=6:=fun i hi x hx=>by
  rw[τ.mp (show x∈[nm i] from hx)];exact(qR (hn i hi)).2
 intro k hk;cases k with
 |num w=>exact⟨hnum w (by have:=hk.2;omega),by show 2<=5;decide⟩
 |nest i=>exact⟨hnest i hk,by show 1<=5;decide⟩
 |many m k =>
  have:(∀x∈k.words nm,x.length<=6)/\(k.words nm).length<=2:=by
   rcases hk.2.2 with⟨w,rfl,hw⟩|⟨i,rfl,hi⟩
   ·exact⟨hnum w (by omega),by show 2<=2;decide⟩
   ·exact⟨hnest i hi,by show 1<=2;decide⟩
  refine⟨fun x hx=>?_,by show(k.words nm).length+1+1<=5;omega⟩;simp only[Kd.words,ξ]at hx;rcases hx with rfl|rfl|hx
  ·decide
  ·rw[(dig (by have:=hk.2.1;omega)).2.1];decide
  ·exact this.1 x hx
 |pick is =>
  refine⟨fun x hx=>?_,by show(is.map nm).length+1<=5;rw[ε];have:=hk.2.1;omega⟩;simp only[Kd.words,ξ,rm]at hx;rcases hx with rfl|⟨i,hi,rfl⟩
  ·decide
  ·exact(qR (hn i (hk.2.2.2 i hi))).2
theorem oJ{f:Str->Bool}{l:List Str}{i:Nat}(h:l[i]?=some a):(l.take (i+1)).filter f=(l.take i).filter f++(if f a=true then [a] else []):=by
 rw[vz,h,List.filter_append]
 congr 1
 show[a].filter f=_
 by_cases z:f a=true
 ·rw[if_pos z,xg z];rfl
 ·rw[if_neg z,uw z];rfl
theorem aN{ns:List Str}{i:Nat}(h:(ns.map V.str)[i]?=some x):∃c,ns[i]?=some c/\x=.str c:=by
 rw[sv]at h;cases e:ns[i]? with
 |none=>rw[e]at h;cases h
 |some c=>rw[e]at h;cases h;exact⟨c,rfl,rfl⟩
def spLJ:Sp:=fun vs H Q _=>∃(p y:Str),vs=[.str p,.str y]/\p.length<=1000/\y.length<=1000/\1<=y.length/\Q (.str (pj p y)) H
structure Wel (S:List Shp):Prop where
 good:Good S
 nm:∀s∈S,jM s.1=true
 fnm:∀s∈S,∀f∈s.2,jM f.1=true
 nd:(S.map (·.1)).Nodup
 fnd:∀s∈S,(s.2.map (·.1)).Nodup
 len:S.length<=5
 bd:∀(i:Nat) (s:Shp),S[i]?=some s->(tabs S).sz.getD i 0<=64/\(un (.nest i) S Str.empty).length<=40/\(tabs S).dp.getD i 0<=4/\s.2.length<=5
theorem bU{α : Type}{S:List α}{x y : α}{i:Nat}(h:(S++[x])[i]?=some y):S[i]?=some y\/(i=S.length/\y=x):=by
 by_cases hi:i<S.length
 ·rw[rf hi]at h;exact .inl h
 ·rw[Γ (by omega)]at h;have:i-S.length<1:=(η.mp h).1;have e:i=S.length:=by omega
  subst e;rw[vc]at h;cases h;exact .inr ⟨rfl,rfl⟩
theorem Good.snoc{s:Shp}(h:Good S1)(h1:s.2≠[])(h2:s.2.length<=6)(h3:∀f∈s.2,f.2.Fit S1.length/\1<=f.1.length/\f.1.length<=6)(h4:(s.2.map fun f=>f.2.size (tabs S1).sz).sum<=1000):Good (S1++[s]):=by
 refine⟨fun i t e=>?_,fun i t e=>?_,fun i t e=>?_,fun i=>?_⟩
 ·rcases bU e with e|⟨_,rfl⟩
  ·exact h.ne i t e
  ·exact h1
 ·rcases bU e with e|⟨_,rfl⟩
  ·exact h.few i t e
  ·exact h2
 ·rcases bU e with e|⟨rfl,rfl⟩
  ·exact h.fit i t e
  ·exact h3
 ·by_cases hi:i<S1.length
  ·rw[(iW hi).1];exact h.sz i
  ·by_cases e:i=S1.length
   ·subst e;rw[(aP S1 s []).1];exact h4
   ·have hl:=(aJ (S1++[s])).1;rw[ζ,uk]at hl;rw[Θ,AH (by omega)];exact sd _
theorem Good.pre{S1 S2:List Shp}(h:Good (S1++S2)):Good S1:=by
 refine⟨fun i t e=>h.ne i t ?_,fun i t e=>h.few i t ?_,fun i t e=>h.fit i t ?_,fun i=>?_⟩
 ·rw[rf (η.mp e).1];exact e
 ·rw[rf (η.mp e).1];exact e
 ·rw[rf (η.mp e).1];exact e
 ·by_cases hi:i<S1.length
  ·rw[←(iW (R:=S2) hi).1];exact h.sz i
  ·have hl:=(aJ S1).1;rw[Θ,AH (by omega)];exact sd _
def sQ (S:List Shp) (i:Nat):Prop:=(tabs S).sz.getD i 0<=64/\(un (.nest i) S Str.empty).length<=40/\(tabs S).dp.getD i 0<=4
theorem Wel.pre{S S1 S2:List Shp}{s:Shp}{f1 f2:List (Str×Kd)}(h:Wel S)(e:S=S1++s::S2)(ef:s.2=f1++f2)(hne:f1≠[]):Good (S1++[(s.1,f1)])/\sQ (S1++[(s.1,f1)]) S1.length/\f1.length<=5:=by
 subst e;have hi:(S1++s::S2)[S1.length]?=some s:=by rw[Γ (μ _),vc];rfl
 obtain⟨b1,b2,b3,b4⟩:=h.bd _ _ hi;obtain⟨t1,t2,t3⟩:=aP S1 s S2;obtain⟨u1,u2,u3⟩:=aP S1 (s.1,f1) [];rw[ef,ζ]at b4;have z1:(f1.map fun f=>f.2.size (tabs S1).sz).sum<=64:=by
  rw[t1,ef,ν,List.sum_append]at b1;omega
 have hfit:=h.good.fit _ _ hi;refine⟨Good.snoc (Good.pre h.good) hne (by show f1.length<=6;omega) (fun f hf=>hfit f (by rw[ef];exact sm _ hf)) (by show(f1.map _).sum<=1000;omega),⟨by rw[u1];exact z1,?_,?_⟩,by omega⟩
 ·have e1:un (.nest S1.length) (S1++[(s.1,f1)]) Str.empty=_:=u3 Str.empty;have e2:un (.nest S1.length) (S1++s::S2) Str.empty=_:=t3 Str.empty;rw[e2,ef,wq,ζ]at b2;rw[e1];show(f1.flatMap _).length<=40;omega
 ·rw[u2];rw[t2,ef,ν]at b3;have:xE (f1.map fun f=>f.2.depth (tabs S1).dp)<=xE ((f1.map fun f=>f.2.depth (tabs S1).dp)++(f2.map fun f=>f.2.depth (tabs S1).dp)):=rD fun x hx=>iY (sm _ hx);show 1+xE (f1.map fun f=>f.2.depth (tabs S1).dp)<=4;omega
theorem vV{S:List Shp}{i:Nat}(h:S[i]?=some s):kR S i=s.1:=by
 unfold kR;rw[Θ,h];rfl
theorem aEt{S1 S2:List Shp}{i:Nat}(h:i<S1.length):kR (S1++S2) i=kR S1 i:=by
 have e:S1[i]?=some S1[i]:=θ h;rw[vV e,vV (by rw[rf h];exact e)]
theorem hG{nm nm':Nat->Str}{n:Nat}(h:∀i,i<n->nm i=nm' i):∀{k:Kd},k.Below n->k.words nm=k.words nm'
 |.num _,_=>rfl
 |.nest i,hk=>by show[nm i]=[nm' i];rw[h i hk]
 |.many m k,hk=>by show _::_::k.words nm=_::_::k.words nm';rw[hG h (k:=k) hk]
 |.pick is,hk=>by
  show _::is.map nm=_::is.map nm';rw[zv fun i hi=>h i (hk i hi)]
theorem wJ{S:List Shp}(h:∀s∈S,jM s.1=true):NOk (kR S) S.length:=fun i hi=>by
 have e:S[i]?=some S[i]:=θ hi;rw[vV e];exact h _ (zo hi)
theorem aBz{S:List Shp}(h:(S.map (·.1)).Nodup){i j:Nat}(hi:i<S.length)(hj:j<S.length)(e:kR S i=kR S j):i=j:=by
 have ei:S[i]?=some S[i]:=θ hi;have ej:S[j]?=some S[j]:=θ hj;rw[vV ei,vV ej]at e;have hp:=zt.mp h;rcases Nat.lt_trichotomy i j with hl|hl|hl
 ·exact absurd (by rw[AN,AN];exact e) (hp i j (by rw[ε];exact hi) (by rw[ε];exact hj) hl)
 ·exact hl
 ·exact absurd (by rw[AN,AN];exact e.symm) (hp j i (by rw[ε];exact hj) (by rw[ε];exact hi) hl)
theorem sA{S:List Shp}(h:(S.map (·.1)).Nodup):∀{k:Kd},k.Fit S.length->(Kd.named (kR S) k).Nodup/\(Kd.named (kR S) k).length<=4/\∀x∈Kd.named (kR S) k,∃i,i<S.length/\x=kR S i:=by
 have hs:∀{k:Kd},(∃w,k=.num w/\1<=w/\w<=4)\/(∃i,k=.nest i/\i<S.length)->(Kd.named (kR S) k).Nodup/\(Kd.named (kR S) k).length<=4/\∀x∈Kd.named (kR S) k,∃i,i<S.length/\x=kR S i:=by
  rintro k (⟨w,rfl,_⟩|⟨i,rfl,hi⟩)
  ·exact⟨Ax,sd _,fun x hx=>by cases hx⟩
  ·exact⟨ui _ _,(by show 1<=4;decide),fun x hx=>⟨i,hi,τ.mp hx⟩⟩
 intro k hk;cases k with
 |num w=>exact hs (.inl ⟨w,rfl,hk⟩)
 |nest i=>exact hs (.inr ⟨i,rfl,hk⟩)
 |many m k=>exact hs (k:=k) hk.2.2
 |pick is =>
  refine⟨?_,by show(is.map _).length<=4;rw[ε];exact hk.2.1,fun x hx=>?_⟩
  ·show(is.map (kR S)).Pairwise (·≠·);rw[AD];exact hk.2.2.1.imp_of_mem fun ha hb ne e=>ne (aBz h (hk.2.2.2 _ ha) (hk.2.2.2 _ hb) e)
  ·obtain⟨i,hi,rfl⟩:=rm.mp hx;exact⟨i,hk.2.2.2 i hi,rfl⟩
theorem wP{ws:List Str}(h:jM n=true):fE (n::ws)=false:=by
 match ws with
 |[]=>rfl
 |[y] =>
  show(decide (n=δ "shape")&&jM y)=false;rw[decide_eq_false (xI h (by decide)),vp]
 |_::_::_=>rfl
def spWh (c:Cl5) (K:Ξ):Sp:=fun vs H Q _=>∃(tl z:Addr) (sa:List Addr) (T:List Shp) (s:Shp),vs=[.ref tl]/\H tl=some (.lst ((sa++[z]).map V.ref))/\SW c K H (sa++[z]) (T++[s])/\(T.map (·.1)).Nodup/\T.length<=100/\∀d H',jG H H'->H d=none->H' d=some (.dK (dk T sa))->Q (.ref d) H'
def wO (c:Cl5) (K:Ξ) (n:Nat):Sp:=fun vs H Q _=>∃(a d:Addr) (kd:Kd) (sa:List Addr) (T:List Shp),vs=[.ref a,.ref d]/\kd.lv<n/\SqL K H a ((kd.words (kR T)).map V.str)/\H d=some (.dK (dk T sa))/\kd.Fit T.length/\NOk (kR T) T.length/\(T.map (·.1)).Nodup/\sa.length=T.length/\∀k H',jG H H'->KO c K H' sa k kd->Q (.ref k) H'
def spTM (c:Cl5) (K:Ξ) (r:Nat):Sp:=fun vs H Q _=>∃(a:Addr) (i:Nat) (sa:List Addr) (S:List Shp),vs=[.ref a]/\sa[i]?=some a/\2*i+2<=r/\8*r<=200/\SW c K H sa S/\Good S/\sQ S i/\∀H',jG H H'->Q (.bl false) H'
def spWF (c:Cl5) (K:Ξ) (r:Nat):Sp:=fun vs H Q _=>∃(tl a z:Addr) (x:V) (sa:List Addr) (T:List Shp) (s:Shp) (fn:Str) (kd:Kd),vs=[.ref tl,x,.ref a]/\H tl=some (.lst ((sa++[z]).map V.ref))/\SW c K H (sa++[z]) (T++[s])/\SqL K H a ((fn::kd.words (kR T)).map V.str)/\kd.Fit T.length/\NOk (kR T) T.length/\(T.map (·.1)).Nodup/\T.length<=100/\2*T.length+2<=r/\8*r<=200/\s.2.length<=50/\Good (T++[(s.1,s.2++[(fn,kd)])])/\sQ (T++[(s.1,s.2++[(fn,kd)])]) T.length ∧
 ∀y H',jG H H'->SO c K H' sa y (s.1,s.2++[(fn,kd)])->Q (.ref y) H'
def txt (S:List Shp):Str:=π nlS ((iX S).map (π spS))
theorem xZ(h:jM x=true):Pln x:=by
 unfold jM at h;simp only[ub]at h;have ha:x.cps.toList.all (fun c=>decide (c∈aC.cps.toList))=true:=h.1.2;have hc:∀c∈x.cps.toList,97<=c/\c<=122:=fun c hc=>(hV c).mp (of_decide_eq_true (ue.mp ha c hc));exact⟨fun z=>by have:=hc _ z;omega,fun z=>by have:=hc _ z;omega⟩
theorem iT(hW:Wel S):∀it∈kF S,(∀w∈it.line (kR S),Pln w/\w.length<=6)/\(it.line (kR S)).length<=6/\it.line (kR S)≠[]:=by
 intro it hit;obtain⟨s,hs,hit⟩:=List.mem_flatMap.mp hit;have hn:=wJ hW.nm;unfold bO at hit;rcases ξ.mp hit with rfl|hit
 ·refine⟨fun w hw=>?_,(by show 2<=6;decide),(by simp[Itm.line])⟩;simp only[Itm.line,ξ,Δ,or_false]at hw;rcases hw with rfl|rfl
  ·exact⟨by unfold Pln;decide +kernel,by decide⟩
  ·exact⟨xZ (hW.nm s hs),(qR (hW.nm s hs)).2⟩
 ·obtain⟨f,hf,rfl⟩:=rm.mp hit;obtain⟨i,hi⟩:=tq.mp hs;have hfit:f.2.Fit S.length:=(hW.good.fit i s hi f hf).1.mono (wk (η.mp hi).1);have hnm:=hW.fnm s hs f hf;obtain⟨w6,w5⟩:=fV hn hfit;refine⟨fun w hw=>?_,(by show(f.2.words (kR S)).length+1<=6;omega),(by simp[Itm.line])⟩;rcases ξ.mp (show w∈f.1::f.2.words (kR S) from hw) with rfl|hw
  ·exact⟨xZ hnm,(qR hnm).2⟩
  ·exact⟨hfit.plain (fun j hj=>xZ (hn j hj)) w hw,w6 w hw⟩
theorem lN{S:List Shp}(hW:Wel S)(hne:S≠[]):(kF S).length<=30/\(∀it∈kF S,(π spS (it.line (kR S))).length<=100/\vw (π spS (it.line (kR S))) spS=it.line (kR S))/\(txt S).length<=4000/\vw (txt S) nlS=(kF S).map fun it=>π spS (it.line (kR S)):=by
 have hl:=iT hW;have h30:(kF S).length<=30:=by
  unfold kF;rw[List.length_flatMap];have h1:(S.map fun s=>(bO s).length).sum<=S.length*6:=bR fun s hs=>by
   obtain⟨i,hi⟩:=tq.mp hs;have:=(hW.bd i s hi).2.2.2;unfold bO;rw[υ,ε];omega
  have:=hW.len;omega
 have hrow:∀it∈kF S,(π spS (it.line (kR S))).length<=100:=fun it hit=>by
  obtain⟨h1,h2,_⟩:=hl it hit;have h3:(π spS (it.line (kR S))).length<=_:=aM (c:=32) (m:=6) fun w hw=>(h1 w hw).2;omega
 have e:(iX S).map (π spS)=(kF S).map fun it=>π spS (it.line (kR S)):=by rw[bE,sx];rfl
 refine⟨h30,fun it hit=>⟨hrow it hit,uI (hl it hit).2.2 fun w hw=>((hl it hit).1 w hw).1⟩,?_,?_⟩
 ·unfold txt;rw[e];have h3:(π nlS ((kF S).map fun it=>π spS (it.line (kR S)))).length<=_:=aM (c:=10) (m:=100) (ws:=(kF S).map fun it=>π spS (it.line (kR S))) fun w hw=>by
   obtain⟨it,hit,rfl⟩:=rm.mp hw;exact hrow it hit
  rw[ε]at h3;omega
 ·unfold txt;rw[rZ,e]
  ·rw[bE];intro z;have h0:=zK hne;rw[List.map_eq_nil_iff]at z;rw[z]at h0;exact absurd h0 (by decide)
  ·intro l hl' w hw;rw[bE]at hl';obtain⟨it,hit,rfl⟩:=rm.mp hl';exact((hl it hit).1 w hw).1
theorem oP{sa:List Addr}{T:List Shp}{s:Shp}(h:sa.length=(T++[s]).length):∃sa0 z,sa=sa0++[z]:=by
 rcases AI sa with rfl|⟨sa0,z,rfl⟩
 ·rw[ζ]at h;exact absurd h (by simp)
 ·exact⟨sa0,z,AJ ..⟩
def aCm (K:Ξ) (r:Nat):Sp:=fun vs H Q _=>∃(sl:Addr) (S:List Shp) (n:Nat),vs=[.ref sl]/\S.length=n+1/\LX K H sl S/\Good S/\2*n+2<=r/\8*r<=200/\∀(b:Bool) H',jG H H'->(b=true->sQ S n)->Q (.bl b) H'
def aHg (K:Ξ):Sp:=fun vs H Q _=>∃(p:Addr) (n:Nat) (xs:List Addr),vs=[.ref p,.int n]/\n<=8/\St3 H p/\p∈xs/\Al xs H/\∀a kd H',Drawn p H H'->kd.Fit n->LK K (offs xs H') a kd->Q (.ref a) H'
theorem Al.drawn(h:Al xs H)(d:Drawn p H H'):Al xs H':=fun b hb=>by
 by_cases e:b=p
 ·obtain⟨x,y,z,q⟩:=d.1;exact⟨_,by rw[e];exact q⟩
 ·obtain⟨o,ho⟩:=h b hb;exact⟨o,d.2 b o e ho⟩
theorem Drawn.offs{xs:List Addr}(d:Drawn p H H')(hp:p∈xs):jG (offs xs H) (offs xs H'):=aH fun b o n q=>d.2 b o (fun z=>n (by rw[z];exact hp)) q
theorem aBm{a n m:Nat}(h:m<=n):((tw m).map fun k=>(a+k) % n).Nodup:=by
 show List.Pairwise (·≠·) _;rw[AD];refine List.pairwise_lt_range.imp_of_mem fun {i j} hi hj hlt e=>?_;have hj':=Aq.mp hj;have h1:=Nat.sub_mod_eq_zero_of_mod_eq e.symm;rw[show a+j-(a+i)=j-i by omega,Nat.mod_eq_of_lt (by omega)]at h1;omega
def spKT (K:Ξ) (n:Nat):Sp:=fun vs H Q _=>∃(a sl:Addr) (kd:Kd) (S:List Shp),vs=[.ref a,.ref sl]/\kd.lv<n/\kd.Fit S.length/\NOk (kR S) S.length/\LK K H a kd/\LX K H sl S/\∀H',jG H H'->Q (.str (π spS (kd.words (kR S)))) H'
def spTx (K:Ξ):Sp:=fun vs H Q _=>∃(sl:Addr) (S:List Shp),vs=[.ref sl]/\LX K H sl S/\Wel S/\S≠[]/\∀H',jG H H'->Q (.str (txt S)) H'
def qH (S:List Shp) (it:Itm):Str:=π spS (it.line (kR S))
theorem tH(S:List Shp):txt S=π nlS ((kF S).map (qH S)):=by
 unfold txt;rw[bE,sx];rfl
def w0L:List Str:=["num","row","pick","tag","room","part","tags","put","look","shape","end","out"]
def nm0 (a:Nat):List Str:=(tw 12).map fun k=>(w0L.getD ((a+k) % 12) Str.empty)++δ "q"
def NmOk (ns:List Str):Prop:=ns.length=12/\ns.Nodup/\∀x∈ns,jM x=true
theorem aIa{a:Nat}(h:a<12):NmOk (nm0 a):=by
 have:∀a:Fin 12,(nm0 a.val).length=12/\(nm0 a.val).Nodup/\∀x∈nm0 a.val,jM x=true:=by decide +kernel
 exact this ⟨a,h⟩
def c1L:Str:=δ "bfgjkqvxyzwh"
def c1 (a k:Nat):Nat:=c1L.cps.toList.getD ((a+k) % 12) 0
def nm1 (tl:Str) (a:Nat):List Str:=(tw 12).map fun k=>(⟨#[c1 a k]⟩ : Str)++tl++δ "x"
theorem iV(tl:Str)(c:Nat):((⟨#[c]⟩ : Str)++tl++δ "x").cps.toList=c::tl.cps.toList++[120]:=by
 rw[vb,vb,vf,vf];rfl
theorem aJe{tl:Str}{a:Nat}(h:a<12)(h4:tl.length<=4)(hl:∀c∈tl.cps.toList,97<=c/\c<=122):NmOk (nm1 tl a):=by
 have hc:∀a:Fin 12,((tw 12).map fun k=>c1 a.val k).Nodup/\∀k,k<12->97<=c1 a.val k/\c1 a.val k<=122:=by decide +kernel
 obtain⟨h1,h2⟩:=hc ⟨a,h⟩;have ho:∀w∈aEx,w.cps.toList.getLast?≠some 120:=by decide +kernel
 refine⟨by unfold nm1;rw[ε,wb],?_,fun x hx=>?_⟩
 ·unfold nm1;show List.Pairwise (·≠·) _;rw[AD];have h1':List.Pairwise (·≠·) ((tw 12).map fun k=>c1 a k):=h1;rw[AD]at h1';refine h1'.imp fun ne e=>ne ?_;have:=congrArg (fun s:Str=>s.cps.toList) e;simp only[iV]at this;exact(Aa this).1
 ·obtain⟨k,hk,rfl⟩:=rm.mp hx;have hk':=Aq.mp hk;have hlen:((⟨#[c1 a k]⟩ : Str)++tl++δ "x").length=tl.length+2:=by
   rw[rp,rp];show 1+tl.length+1=_;omega
  unfold jM within sJ;simp only[ub,decide_eq_true_eq,Bool.not_eq_true',decide_eq_false_iff_not,ue];refine⟨⟨⟨by rw[hlen];omega,by rw[hlen];omega⟩,fun c hc=>?_⟩,fun z=>?_⟩
  ·rw[iV]at hc;rw[hV];simp only[rn,ξ,Δ,or_false]at hc;rcases hc with (rfl|hc)|rfl
   ·exact h2 k hk'
   ·exact hl c hc
   ·exact⟨by decide,by decide⟩
  ·refine ho _ z ?_;rw[iV,List.getLast?_append];rfl
def nm2 (a:Nat):List Str:=((tw 6).map fun k=>Txt.slice (δ "zyxwvu") none (some (1+(((a+k) % 6:Nat):Int))))++(["yz","yyyyyy","y","yx","numz","tagszz"]:List Str)
theorem aHr{a:Nat}(h:a<12):NmOk (nm2 a):=by
 have:∀a:Fin 12,(nm2 a.val).length=12/\(nm2 a.val).Nodup/\∀x∈nm2 a.val,jM x=true:=by decide +kernel
 exact this ⟨a,h⟩
theorem rV:∀cs:List Nat,(π (δ "") (cs.map fun c=>(⟨#[c]⟩ : Str))).cps.toList=cs
 |[]=>rfl
 |[c]=>rfl
 |c::d::cs=>by
  have ih:=rV (d::cs);rw[uj,aF (by simp),vb,vb,vf,vf,ih];rfl
theorem Drawn.free{H H1:Hp}(d:Drawn p H H1)(h:H1 l=none):H l=none:=by
 cases e:H l with
 |none=>rfl
 |some o =>
  by_cases z:l=p
  ·obtain⟨x,y,w,q⟩:=d.1;rw[z,q]at h;cases h
  ·rw[d.2 l o z e]at h;cases h
def bdN:List Str:=[δ "hzhzh",δ "nosh",δ "other"]
def NmC (ns:List Str):Prop:=∀x∈ns,x∉bdN
def Cln (S:List Shp):Prop:=∀s∈S,s.1∉bdN/\∀f∈s.2,f.1∉bdN
theorem Cln.snoc{s:Shp}(h:Cln S)(h1:s.1∉bdN)(h2:∀f∈s.2,f.1∉bdN):Cln (S++[s]):=fun t ht=>by
 rcases rn.mp ht with ht|ht
 ·exact h t ht
 ·rw[τ.mp ht];exact⟨h1,h2⟩
theorem nm0_c{a:Nat}(h:a<12):NmC (nm0 a):=by
 have:∀a:Fin 12,∀x∈nm0 a.val,x∉bdN:=by decide +kernel
 exact this ⟨a,h⟩
theorem nm2_c{a:Nat}(h:a<12):NmC (nm2 a):=by
 have:∀a:Fin 12,∀x∈nm2 a.val,x∉bdN:=by decide +kernel
 exact this ⟨a,h⟩
theorem nm1_c : NmC (nm1 tl a):=fun x hx hb=>by
 have ho:∀w∈bdN,w.cps.toList.getLast?≠some 120:=by decide +kernel
 obtain⟨k,_,rfl⟩:=rm.mp hx;refine ho _ hb ?_;rw[iV];exact List.getLast?_concat ..
def aHj (K:Ξ):Sp:=fun vs H Q _=>∃p:Addr,vs=[.ref p]/\St3 H p/\∀l ns H',Drawn p H H'->H l=none->H' l=some (.lst (ns.map V.str))->NmOk ns->NmC ns->Q (.ref l) H'
theorem modc{a j n:Nat}: (((a:Nat):Int)+((0:Int)+(j:Nat))) % ((n:Nat):Int)=(((a+j) % n:Nat):Int):=by
 rw[xq,←yw]
 first|exact(Int.natCast_emod _ _).symm|exact(Int.ofNat_emod _ _).symm|rfl
theorem Wel.nil:Wel []:=⟨⟨fun i s h=>by simp at h,fun i s h=>by simp at h,fun i s h=>by simp at h,fun i=>by show(([]:List Nat).getD i 0)<=1000;simp⟩,fun s h=>by simp at h,fun s h=>by simp at h,Ax,fun s h=>by simp at h,sd _,fun i s h=>by simp at h⟩
theorem Wel.sz64(h:Wel S)(i:Nat):(tabs S).sz.getD i 0<=64:=by
 by_cases hi:i<S.length
 ·exact(h.bd i _ (θ hi)).1
 ·rw[Θ,AH (by rw[(aJ S).1];omega)];exact sd _
theorem Wel.snoc{S:List Shp}{nm:Str}{fs:List (Str×Kd)}(h:Wel S)(h1:jM nm=true)(h2:nm∉S.map (·.1))(h3:S.length<=4)(h4:fs≠[])(h5:fs.length<=5)(h6:∀f∈fs,f.2.Fit S.length/\jM f.1=true)(h7:(fs.map (·.1)).Nodup)(h8:sQ (S++[(nm,fs)]) S.length):Wel (S++[(nm,fs)]):=by
 have hz:=h8.1;rw[(aP S (nm,fs) []).1]at hz;refine⟨Good.snoc h.good h4 (by show fs.length<=6;omega) (fun f hf=>⟨(h6 f hf).1,qR (h6 f hf).2⟩) (by show(fs.map _).sum<=1000;exact sg hz (by decide)),fun s hs=>?_,fun s hs=>?_,?_,fun s hs=>?_,by rw[ζ,uk];omega,fun i s e=>?_⟩
 ·rcases rn.mp hs with hs|hs
  ·exact h.nm s hs
  ·rw[τ.mp hs];exact h1
 ·rcases rn.mp hs with hs|hs
  ·exact h.fnm s hs
  ·rw[τ.mp hs];exact fun f hf=>(h6 f hf).2
 ·rw[ν,wm];refine⟨h.nd,ui _ _,fun a ha b hb e=>h2 ?_⟩;rw[←show b=nm from τ.mp hb,←e];exact ha
 ·rcases rn.mp hs with hs|hs
  ·exact h.fnd s hs
  ·rw[τ.mp hs];exact h7
 ·rcases bU e with e|⟨rfl,rfl⟩
  ·have hi:i<S.length:=(η.mp e).1;obtain⟨t1,t2,t3⟩:=iW (R:=[(nm,fs)]) hi;obtain⟨b1,b2,b3,b4⟩:=h.bd i s e;refine⟨by rw[t1];exact b1,?_,by rw[t2];exact b3,b4⟩;have e1:un (.nest i) (S++[(nm,fs)]) Str.empty=un (.nest i) S Str.empty:=by
    show((tabs (S++[(nm,fs)])).ut.getD i fun _=>[]) Str.empty=((tabs S).ut.getD i fun _=>[]) Str.empty;rw[t3]
   rw[e1];exact b2
  ·exact⟨h8.1,h8.2.1,h8.2.2,h5⟩
theorem aAr{S:List Shp}{nm:Str}{fs:List (Str×Kd)}{f:Str×Kd}(h:Wel S)(hs:fs≠[]->sQ (S++[(nm,fs)]) S.length)(h5:fs.length<=5)(h6:∀f∈fs,f.2.Fit S.length/\jM f.1=true)(hf:f.2.Fit S.length)(hn:jM f.1=true):Good (S++[(nm,fs++[f])]):=by
 refine Good.snoc h.good (by simp) (by show(fs++[f]).length<=6;rw[ζ,uk];omega) (fun g hg=>?_) ?_
 ·rcases rn.mp hg with hg|hg
  ·exact⟨(h6 g hg).1,qR (h6 g hg).2⟩
  ·rw[τ.mp hg];exact⟨hf,qR hn⟩
 ·show((fs++[f]).map fun f=>f.2.size (tabs S).sz).sum<=1000;rw[ν,List.sum_append];have h1:(fs.map fun f=>f.2.size (tabs S).sz).sum<=64:=by
   by_cases e:fs=[]
   ·rw[e];exact sd _
   ·have hz:=(hs e).1;rw[(aP S (nm,fs) []).1]at hz;exact hz
  have h2:=Kd.size_bd (h.sz64) (by decide) hf;show _+(f.2.size (tabs S).sz+0)<=1000;omega
theorem aEf{S:List Shp}{nm x:Str}{w:Nat}(hw:w<=4):sQ (S++[(nm,[(x,Kd.num w)])]) S.length:=by
 obtain⟨t1,t2,t3⟩:=aP S (nm,[(x,Kd.num w)]) [];refine⟨?_,?_,?_⟩
 ·rw[t1];show w+0<=64;omega
 ·have e1:un (.nest S.length) (S++[(nm,[(x,Kd.num w)])]) Str.empty=_:=t3 Str.empty;rw[e1];show 1<=40;decide
 ·rw[t2];show 1+max 0 0<=4;decide
def spSh (K:Ξ) (r:Nat):Sp:=fun vs H Q _=>∃p:Addr,vs=[.ref p,.int 4]/\St3 H p/\12<=r/\8*r<=200/\∀l S H',Drawn p H H'->H l=none->LX K (offs [p] H') l S->Wel S->S≠[]->Cln S->Q (.ref l) H'
theorem aDs{H:Hp}(h:St3 H p)(ha:H a=none):a≠p:=fun z=>by
 obtain⟨x,y,w,q⟩:=h;rw[z,q]at ha;cases ha
theorem iA{H:Hp}(h:St3 H p):∃o,H p=some o:=by
 obtain⟨x,y,w,q⟩:=h;exact⟨_,q⟩
theorem fB{c d:Nat}(hcd:c≠d):∀{ys:List Str},(∀y∈ys,c∉y.cps.toList)->c∉(π ⟨#[d]⟩ ys).cps.toList
 |[],_,h=>by cases h
 |[y],hy,h=>hy y (qy ..) h
 |y::z::ys,hy,h=>by
  have e:(π ⟨#[d]⟩ (y::z::ys)).cps.toList=y.cps.toList++([d]++(π ⟨#[d]⟩ (z::ys)).cps.toList):=by
   show(y++⟨#[d]⟩++π ⟨#[d]⟩ (z::ys)).cps.toList=_;rw[vb,vb,vf,vf,ug]
  rw[e]at h;rcases rn.mp h with h|h
  ·exact hy y (qy ..) h
  ·rcases rn.mp h with h|h
   ·exact hcd (τ.mp h)
   ·exact fB hcd (fun w hw=>hy w (rg _ hw)) h
theorem aIq{X:Cx}{K:Ξ}{o e:Expr}{es:List Expr}{name:Str}{T id:String}{apos cpos:Pos}{r:V->List V->Hp->VK->Prop}{to:TE}{t:TA}(hK:X.K=K)(pa:PlainAttrs T)(slot:Slot T name id)(hty:typeOf (.builtin id)=pure (.type "method_descriptor"))(hm:MtR X id r)(ho:PE X o to)(ha:PA X (e::es) t)
  (hbase:za o name X.env (eval o X.env)=eval o X.env:=by rfl)
  (hfew:((yn cpos (sf (e::es) X.env)).all (fun x=>!x.1)&&(backToKw cpos (Am [] X.env)).all (fun x=>x.1.isSome)
   && decide ((e::es).length+([]:List Keyword).length+(if ([]:List Keyword).isEmpty then 0 else 1)<30))=true:=by rfl)
  (hline:(apos.endLine == cpos.line)=true:=by rfl)(hs:sf (e::es) X.env=(false,eval e X.env)::sf es X.env:=by rfl)(hplain:(yn cpos (sf es X.env)).any (·.1)=false:=by rfl):
  PE X (.Call (.Attribute o name apos) (e::es) [] cpos) (tBM K T r to t):=by
 subst hK;exact qK pa slot hty hm ho ha hbase hfew hline hs hplain
theorem cC{X:Cx}{K:Ξ}(hK:X.K=K)(he:PE X o ta)(hb:za o f X.env (eval o X.env)=eval o X.env):PE X (.Attribute o f pos) (aHh K ta f):=hK ▸ aFa he hb
def aEj (K:Ξ):Sp:=fun vs H Q _=>∃(e:Addr) (v:V) (C R fI:Addr) (dx:Option Addr),vs=[.ref e,v]/\H e=some (Ex0 e C dx)/\zW K C R fI/\Q .non H
structure Fl (CN e dx:Addr) (H H':Hp) (fs:List (Str×V)):Prop where
 ne:dx≠e
 fr:H dx=none
 kp:∀b o,b≠e->H b=some o->H' b=some o
 ae:H' e=some (Ex0 e CN (some dx))
 ad:H' dx=some (XD dx fs)
theorem Fl.first{H:Hp}{f:Str}{y:V}(he:H e=some (Ex0 e CN none))(hd:H dx=none):Fl CN e dx H (upd (upd H dx (XD dx [(f,y)])) e (Ex0 e CN (some dx))) [(f,y)]:=by
 have ne:dx≠e:=fun z=>by rw[z,he]at hd;cases hd
 refine⟨ne,hd,fun b o n q=>?_,jL,?_⟩
 ·rw[jW n,jW (jK q hd)];exact q
 ·rw[jW ne,jL]
theorem Fl.next(h:Fl CN e dx H H' fs):Fl CN e dx H (upd H' dx (XD dx fs')) fs' :=
 ⟨h.ne,h.fr,fun b o n q=>by rw[jW (jK q h.fr)];exact h.kp b o n q,by rw[jW (va h.ne)];exact h.ae,jL⟩
def iD (CN:Addr) (ns:List Str):Sp:=fun vs H Q _=>∃(e:Addr) (xs:List V),vs=.ref e::xs/\xs.length=ns.length/\H e=some (Ex0 e CN none)/\∀dx H',Fl CN e dx H H' (ns.zip xs)->Q .non H'
theorem Fl.from{H:Hp}(he:H e=none)(h:Fl CN e dx (upd H e (Ex0 e CN none)) H' fs):jG H H':=fun b o q=>by
 have n:=jK q he;exact h.kp b o n (by rw[jW n];exact q)
theorem Fl.fly{H:Hp}(he:H e=none)(h:Fl CN e dx (upd H e (Ex0 e CN none)) H' fs):jG H (upd H' e (ExF e CN (some dx)))/\upd H' e (ExF e CN (some dx)) e=some (ExF e CN (some dx))/\upd H' e (ExF e CN (some dx)) dx=some (XD dx fs):=by
 refine⟨fun b o q=>?_,jL,?_⟩
 ·rw[jW (jK q he)];exact h.from he b o q
 ·rw[jW h.ne];exact h.ad
def XAt (CN:Addr) (H:Hp) (e:Addr) (fs:List (Str×V)):Prop:=∃dx,H e=some (ExF e CN (some dx))/\H dx=some (XD dx fs)
theorem zU{H H1:Hp}(g:jG H H1)(he:H1 e=none)(F:Fl CN e dx (upd H1 e (Ex0 e CN none)) H2 fs):jG H (upd H2 e (ExF e CN (some dx)))/\H e=none/\XAt CN (upd H2 e (ExF e CN (some dx))) e fs:=by
 obtain⟨g2,k1,k2⟩:=F.fly he;exact⟨g.trans g2,g.free he,dx,k1,k2⟩
def Rz (CN:Addr) (H:Hp) (E:XK) (fs:List (Str×V)):Prop:=∀e H',jG H H'->H e=none->XAt CN H' e fs->E (.ref e) none H'
theorem dk_no{T:List Shp}{sa:List Addr}{x:Str}(h:x∉T.map (·.1)):bQ (dk T sa) (.inr x)=none:=by
 unfold bQ;rw[List.find?_eq_none.mpr]
 ·rfl
 ·intro kv hkv z;obtain⟨s,hs,e⟩:=aAb kv hkv;have z2:kv.1=.inr x:=of_decide_eq_true z;rw[e]at z2;exact h (rm.mpr ⟨s,hs,yp.inj z2⟩)
theorem Rz.from(h:Rz CN H E fs)(g:jG H H1):Rz CN H1 E fs:=fun e H' g' he x=>h e H' (g.trans g') (g.free he) x
structure XN4 (K:Ξ) (CF CT CU CM:Addr):Prop where
 mf:eW K CM CF
 mu:eW K CM CU
 mt:eW K CM CT
 fm:eW K CF CM
 fu:eW K CF CU
 ft:eW K CF CT
 um:eW K CU CM
 uf:eW K CU CF
 ut:eW K CU CT
 tm:eW K CT CM
 tf:eW K CT CF
 tu:eW K CT CU
theorem qq{Q:VK}{c:Bool}(h:Q (.bl b) H)(e:b=c):Q (.bl c) H:=e ▸ h
theorem lI(o:Option Int):o.isSome = !decide (optV o=V.non):=by cases o <;> rfl
def eZ:List Str->Bool
 |[w]=>if w=δ "num" then false else jM w
 |[w,x]=>if w=δ "num" then (vK (aY x) 1 4).isSome else false
 |_=>false
def yN:List Str->Bool
 |[]=>false
 |w::r=>if w=δ "row" then (match r with
   |x::y::z=>(vK (aY x) 1 6).isSome&&eZ (y::z)
   |_=>false) else if w=δ "pick" then decide (2<=r.length)&&(decide (r.length<=4)&&r.all jM) else eZ (w::r)
def lE:List Str->Bool
 |f::w::r=>jM f&&yN (w::r)
 |_=>false
def aHc (K:Ξ):Sp:=fun vs H Q _=>∃(a:Addr) (ws:List Str),vs=[.ref a]/\Wds K H a ws/\ws≠[]/\∀H',jG H H'->Q (.bl (eZ ws)) H'
def aGs (K:Ξ):Sp:=fun vs H Q _=>∃(a:Addr) (ws:List Str),vs=[.ref a]/\Wds K H a ws/\ws≠[]/\∀H',jG H H'->Q (.bl (yN ws)) H'
def aHd (K:Ξ):Sp:=fun vs H Q _=>∃(a:Addr) (ws:List Str),vs=[.ref a]/\Wds K H a ws/\∀H',jG H H'->Q (.bl (lE ws)) H'
def sO (K:Ξ):Sp:=fun vs H Q _=>∃(a:Addr) (w:Str) (ws:List Str),vs=[.ref a]/\Wds K H a (w::ws)/\∀l H',jG H H'->H l=none->H' l=some (.lst ((ws.filter jM).map V.str))->Q (.ref l) H'
def aCp (c:Cl5) (CF CT:Addr) (K:Ξ):Sp:=fun vs H Q E=>∃(tl:Addr) (x:V) (nm:Str) (sa:List Addr) (T:List Shp),vs=[.ref tl,x,.str nm]/\H tl=some (.lst (sa.map V.ref))/\SW c K H sa T/\T.length<8 ∧
 ((∃T0 s,T=T0++[s]/\s.2=[]/\Rz CF H E [("line",x)]) ∨
   ((∀s∈T,s.2≠[])/\((nm∈T.map (·.1)/\Rz CT H E [("line",x),("name",.str nm)])\/(nm∉T.map (·.1)/\∀H',jG H H'->Q .non H'))))
def aU (T:List Shp) (ws:List Str) (k:Nat) (y:Str):Prop :=
 ((T=[]\/lE ws=false)/\k=0) ∨
 ∃(T0:List Shp) (s:Shp) (f:Str) (r:List Str),T=T0++[s]/\ws=f::r/\lE ws=true ∧
  ((f∈s.2.map (·.1)/\k=1/\y=f) ∨
     (f∉s.2.map (·.1)/\∃i,(r.filter jM)[i]?=some y/\((r.filter jM).take i).Nodup/\y∈(r.filter jM).take i/\k=1) ∨
     (f∉s.2.map (·.1)/\(r.filter jM).Nodup/\∃i,(r.filter jM)[i]?=some y/\(∀z∈(r.filter jM).take i,z∈T0.map (·.1))/\y∉T0.map (·.1)/\k=2) ∨
     (f∉s.2.map (·.1)/\(r.filter jM).Nodup/\(∀z∈r.filter jM,z∈T0.map (·.1))/\k=3))
def aGo (c:Cl5) (CF CT CU:Addr) (K:Ξ):Sp:=fun vs H Q E=>∃(tl a:Addr) (x:V) (sa:List Addr) (T:List Shp) (ws:List Str) (k:Nat) (y:Str),vs=[.ref tl,x,.ref a]/\H tl=some (.lst (sa.map V.ref))/\SW c K H sa T/\Wds K H a ws/\(∀s∈T,s.2.length<=100)/\(T.map (·.1)).Nodup/\T.length<=100/\aU T ws k y ∧
 (k=0->Rz CF H E [("line",x)])/\(k=1->Rz CT H E [("line",x),("name",.str y)])/\(k=2->Rz CU H E [("line",x),("name",.str y)])/\(k=3->∀H',jG H H'->Q .non H')
theorem sC{α : Type}{l:List α}(h:l≠[]):∃a x,l=a++[x]:=⟨l.dropLast,l.getLast h,(List.dropLast_concat_getLast h).symm⟩
theorem aCz{l:List Str}{i n:Nat}(h:i<n)(e:l[i]?=some y):y∈l.take n:=tq.mpr ⟨i,by rw[vd h];exact e⟩
theorem fJ{l:List Str}{i:Nat}(hn:(l.take n).Nodup)(h:i<n)(e:l[i]?=some y):y∉l.take i:=fun hm=>by
 obtain⟨j,hj⟩:=tq.mp hm;have hji:j<i:=by have:=(η.mp hj).1;rw[rh]at this;omega
 rw[vd hji]at hj;have e1:(l.take n)[i]?=some y:=by rw[vd h];exact e
 have e2:(l.take n)[j]?=some y:=by rw[vd (Nat.lt_trans hji h)];exact hj
 obtain⟨a1,b1⟩:=η.mp e2;obtain⟨a2,b2⟩:=η.mp e1;exact zt.mp hn j i a1 a2 hji (b1.trans b2.symm)
theorem lZ(hn:NOk nm n){k:Kd}(h:(∃w,k=.num w/\1<=w/\w<=4)\/∃i,k=.nest i/\i<n):eZ (k.words nm)=true:=by
 rcases h with⟨w,rfl,h1,h2⟩|⟨i,rfl,hi⟩
 ·show(if δ "num" = δ "num" then (vK (aY (δ (toString (w:Int)))) 1 4).isSome else false)=true;rw[if_pos rfl,(dig (w:=w) (by omega)).1,show vK (some (w:Int)) 1 4=some (w:Int) from if_pos ⟨by omega,by omega⟩];rfl
 ·have hx:=hn i hi;show(if nm i=δ "num" then false else jM (nm i))=true;rw[if_neg (xI hx (by decide)),hx]
theorem aEy{nm:Nat->Str}{n:Nat}(hn:NOk nm n):∀{k:Kd},k.Fit n->yN (k.words nm)=true
 |.num w,h=>show eZ ((Kd.num w).words nm)=true from lZ hn (.inl ⟨w,rfl,h.1,h.2⟩)
 |.nest i,h=>(if_neg (xI (hn i h) (by decide))).trans ((if_neg (xI (hn i h) (by decide))).trans (lZ hn (.inr ⟨i,rfl,h⟩)))
 |.many m k,h=>by
  have hk:(∃w,k=.num w/\1<=w/\w<=4)\/∃i,k=.nest i/\i<n:=h.2.2;have hs:=lZ hn hk;have hm1:=h.1;have hm2:=h.2.1;have hb:(vK (aY (δ (toString (m:Int)))) 1 6).isSome=true:=by
   rw[(dig (w:=m) (by omega)).1,show vK (some (m:Int)) 1 6=some (m:Int) from if_pos ⟨by omega,by omega⟩];rfl
  rcases hk with⟨w,rfl,_⟩|⟨i,rfl,_⟩
  ·show((vK (aY (δ (toString (m:Int)))) 1 6).isSome&&eZ ((Kd.num w).words nm))=true;rw[hb,hs];rfl
  ·show((vK (aY (δ (toString (m:Int)))) 1 6).isSome&&eZ ((Kd.nest i).words nm))=true;rw[hb,hs];rfl
 |.pick is,h=>by
  show(decide (2<=(is.map nm).length)&&(decide ((is.map nm).length<=4)&&(is.map nm).all jM))=true;rw[ε,decide_eq_true h.1,decide_eq_true h.2.1,wg,wg];exact ue.mpr fun x hx=>by
   obtain⟨i,hi,rfl⟩:=rm.mp hx;exact hn i (h.2.2.2 i hi)
theorem aEg{k:Kd}(hf:jM f=true)(hn:NOk nm n)(hk:k.Fit n):lE (f::k.words nm)=true:=by
 have h:=aEy hn hk;have hne:=Kd.words_ne nm k;cases e:k.words nm with
 |nil=>exact absurd e hne
 |cons w r =>
  rw[e]at h;show(jM f&&yN (w::r))=true;rw[hf,h];rfl
theorem uE{x:Str}{f1:List (Str×Kd)}{kd:Kd}(hn:NOk (kR S1) S1.length)(hnd:(S1.map (·.1)).Nodup)(h1:jM n=true)(h2:kd.Fit S1.length)(h3:n∉f1.map (·.1)):aU (S1++[(x,f1)]) (n::kd.words (kR S1)) 3 Str.empty:=by
 obtain⟨n1,_,n2⟩:=sA hnd h2;refine .inr ⟨S1,(x,f1),n,_,rfl,rfl,aEg h1 hn h2,.inr (.inr (.inr ⟨h3,?_,?_,rfl⟩))⟩
 ·rw[eR hn h2];exact n1
 ·rw[eR hn h2];intro z hz;obtain⟨j,hj,rfl⟩:=n2 z hz;rw[vV (θ hj)];exact rm.mpr ⟨_,zo hj,rfl⟩
theorem aCx(h:aA S j T)(hW:Wel S):(T.map (·.1)).Nodup/\T.length<=5/\∀s∈T,s.2.length<=5:=by
 have hb:∀s∈S,s.2.length<=5:=fun s hs=>by
  obtain⟨i,hi⟩:=tq.mp hs;exact(hW.bd i s hi).2.2.2
 have hn:=hW.nd;have hl:=hW.len;rcases h with⟨S2,e,_⟩|⟨S1,s,S2,f1,f2,e,ef,eT,_⟩
 ·subst e;rw[ν,wm]at hn;rw[ζ]at hl;exact⟨hn.1,by omega,fun s hs=>hb s (sm _ hs)⟩
 ·subst eT;subst e;rw[show S1++s::S2=(S1++[s])++S2 by simp]at hn hl hb;rw[ν,wm]at hn;rw[ζ]at hl;refine⟨?_,by rw[ζ]at hl ⊢;simp only[uk]at hl ⊢;omega,fun t ht=>?_⟩
  ·have:=hn.1;rw[ν]at this ⊢;exact this
  ·rcases rn.mp ht with ht|ht
   ·exact hb t (sm _ (sm _ ht))
   ·rw[τ.mp ht];have:=hb s (by simp);rw[ef,ζ]at this;show f1.length<=5;omega
def LOk (bw:List Str):Prop:=bw≠[]/\bw.length<=100/\∀w∈bw,32∉w.cps.toList/\w.length<=100
def RzK (CF CT CU:Addr) (H:Hp) (E:XK) (k n:Nat) (y:Str):Prop:=(k=0->Rz CF H E [("line",.int n)])/\(k=1->Rz CT H E [("line",.int n),("name",.str y)])/\(k=2->Rz CU H E [("line",.int n),("name",.str y)])
theorem RzK.from(h:RzK CF CT CU H E k n y)(g:jG H H1):RzK CF CT CU H1 E k n y:=⟨fun e=>(h.1 e).from g,fun e=>(h.2.1 e).from g,fun e=>(h.2.2 e).from g⟩
def BadL (T:List Shp) (bw:List Str) (k:Nat) (y:Str):Prop :=
 (∃nm,bw=[δ "shape",nm]/\jM nm=true/\((k=0/\∃T0 s,T=T0++[s]/\s.2=[])\/(k=1/\y=nm/\(∀s∈T,s.2≠[])/\nm∈T.map (·.1)))) ∨
 (fE bw=false/\k<3/\aU T bw k y)
def BadT (S:List Shp) (j:Nat) (tail:List Str) (k n:Nat) (y:Str):Prop :=
 (∃bw rest,tail=π spS bw::rest/\LOk bw/\n=j/\∀T,aA S j T->BadL T bw k y) ∨
 (k=0/\n=j+1/\∃(nm:Str) (rest:List Str),tail=π spS [δ "shape",nm]::rest/\jM nm=true/\(∀T,aA S j T->(∀s∈T,s.2≠[])/\nm∉T.map (·.1))/\(rest=[]\/∃nm2 rest2,rest=π spS [δ "shape",nm2]::rest2/\jM nm2=true))
def vH (S:List Shp) (j:Nat) (tail:List Str):List Str:=((kF S).map (qH S)).take j++tail
def aHa (c:Cl5) (CS CF CT CU:Addr) (K:Ξ) (r:Nat):Sp:=fun vs H Q E =>
 (∃x:V,vs=[x]/\(∃t,tyA K x H t/\t ≠ "str")/\Rz CF H E [("line",.int 0)]) ∨
 ∃(S:List Shp) (j:Nat) (tail:List Str),vs=[.str (π nlS (vH S j tail))]/\Wel S/\S≠[]/\j<=(kF S).length/\12<=r/\8*r<=200/\tail.length<=60/\(∀x∈tail,10∉x.cps.toList/\x.length<=100) ∧
  ((tail=[]/\j=(kF S).length/\∀(a dx t:Addr) (sa:List Addr) H',jG H H'->H' a=some (.ins CS dx [("shapes",.ref t)])->SqT K H' t (sa.map V.ref)->SW c K H' sa S->Q (.ref a) H') ∨
     ∃(k n:Nat) (y:Str),BadT S j tail k n y/\RzK CF CT CU H E k n y)
theorem aCr{S:List Shp}{j:Nat}{tail:List Str}(hW:Wel S)(hne:S≠[])(h0:vH S j tail≠[])(h60:tail.length<=60)(ht:∀x∈tail,10∉x.cps.toList/\x.length<=100):(π nlS (vH S j tail)).length<=10000/\vw (π nlS (vH S j tail)) nlS=vH S j tail:=by
 obtain⟨h30,hrow,_,_⟩:=lN hW hne;have hl:=iT hW;have hall:∀x∈vH S j tail,10∉x.cps.toList/\x.length<=100:=fun x hx=>by
  rcases rn.mp hx with hx|hx
  ·obtain⟨it,hit,rfl⟩:=rm.mp (List.mem_of_mem_take hx);exact⟨fB (by decide) fun y hy=>((hl it hit).1 y hy).1.2,(hrow it hit).1⟩
  ·exact ht x hx
 have h3:(π nlS (vH S j tail)).length<=_:=aM (c:=10) (m:=100) fun w hw=>(hall w hw).2;have hlen:(vH S j tail).length<=90:=by
  unfold vH;rw[ζ,rh,ε];omega
 refine⟨sg h3 (by omega),xX (c:=10) h0 fun y hy=>(hall y hy).1⟩
def eE (k n:Nat) (y:Str):List V:=if k=0 then [.str "none",.int n] else if k=1 then [.str "twice",.int n,.str y] else [.str "unknown",.int n,.str y]
structure Fault (tx:Str) (k n:Nat) (y:Str) (S:List Shp) (j:Nat) (tail:List Str):Prop where
 e:tx=π nlS (vH S j tail)
 w:Wel S
 ne:S≠[]
 jl:j<=(kF S).length
 l:tail.length<=60
 t:∀x∈tail,10∉x.cps.toList/\x.length<=100
 b:BadT S j tail k n y
theorem sL : ∀{j:Nat},j<=(kF S).length->∃T,aA S j T
 |0,_=>⟨_,aA.start S⟩
 |j+1,h=>by
  obtain⟨T,hT⟩:=sL (S:=S) (j:=j) (Nat.le_of_succ_le h);obtain⟨S1,s,S2,_,⟨_,_,h'⟩|⟨f1,n,k,f2,_,_,_,h'⟩⟩:=hT.next (show j<(kF S).length from h)
  ·exact⟨_,h'⟩
  ·exact⟨_,h'⟩
theorem aBg : vH S (kF S).length []=(kF S).map (qH S):=by
 unfold vH;rw[uy,vt (by rw[ε];exact μ _)]
def aEn (K:Ξ):Sp:=fun vs H Q _=>∃x:V,vs=[x] ∧
 ((∃S:List Shp,x=.str (π nlS ((kF S).map (qH S)))/\Wel S/\S≠[]/\∀H',jG H H'->Q .non H') ∨
   (∃t,tyA K x H t/\t ≠ "str"/\∀t' H',jG H H'->SqT K H' t' (eE 0 0 Str.empty)->Q (.ref t') H') ∨
   ∃(tx:Str) (k n:Nat) (y:Str) (S:List Shp) (j:Nat) (tail:List Str),x=.str tx/\Fault tx k n y S j tail/\∀t' H',jG H H'->SqT K H' t' (eE k n y)->Q (.ref t') H')
def KnG (CF CT CU:Addr) (k n:Nat) (y:Str) (CN:Addr) (fs:List (Str×V)):Prop:=(k=0/\CF=CN/\fs=([("line",.int n)]:List (Str×V)))\/(k=1/\CT=CN/\fs=([("line",.int n),("name",.str y)]:List (Str×V)))\/(k=2/\CU=CN/\fs=([("line",.int n),("name",.str y)]:List (Str×V)))
def aHe (K:Ξ):Sp:=fun vs H Q _=>∃(t d:Addr) (k n:Nat) (y:Str),vs=[.ref t,.ref d]/\SqT K H t (eE k n y)/\SqT K H d (eE k n y)/\Q (.bl true) H
theorem aDy : (∀x∈eE k n y,zZ x=true)/\atI (eE k n y) 1=some (.int n):=by
 unfold eE
 split
 ·exact⟨fun x hx=>by simp only[ξ,Δ,or_false]at hx;rcases hx with rfl|rfl <;> rfl,rfl⟩
 ·split
  ·exact⟨fun x hx=>by simp only[ξ,Δ,or_false]at hx;rcases hx with rfl|rfl|rfl <;> rfl,rfl⟩
  ·exact⟨fun x hx=>by simp only[ξ,Δ,or_false]at hx;rcases hx with rfl|rfl|rfl <;> rfl,rfl⟩
theorem aIj{K:Ξ}{xs:List V}(h:∀x∈xs,zZ x=true):∀(i:Nat) x y,xs[i]?=some x->xs[i]?=some y->EqS K H 8 x y:=fun i x y hx hy=>by
 rw[hx]at hy;cases hy;exact .same (.inl (h x (ψ hx)))
def strsOf:List Expr->Option (List Str)
 |[]=>some []
 |.Constant (.str n) _ _::es=>(strsOf es).map (n :: ·)
 |_=>none
def tStrs (ns:List Str):TA:=fun _ H Q=>Q (ns.map V.str) H
theorem aW : ∀{es:List Expr}{ns:List Str},strsOf es=some ns->PA X es (tStrs ns)
 |[],ns,h=>by
  cases h;exact jB
 |.Constant (.str n) k p::es,ns,h=>by
  unfold strsOf at h;cases e:strsOf es with
  |none=>rw[e]at h;cases h
  |some ms =>
   rw[e]at h;cases h;exact jA jF (aW e) kZ
end K12
namespace K12
open PySem L2
def bdT:List Str:=[δ "",δ " ",δ "shape",δ "shape a b",δ "shape num",δ "Shape a",δ "a",δ "a num",δ "a num 0",δ "a num 5",δ "a num 02",δ "a num 1 1",δ "a row 0 num 1",δ "a row 7 num 1",δ "a row 2",δ "a row 2 num",δ "a row 2 row 2 num 1",δ "a row 2 pick b c",δ "a pick b",δ "a pick",δ "a pick b c d e f",δ "a b c",δ "a  num 1",δ " a num 1",δ "a num 1 ",δ "A num 1",δ "abcdefg num 1",δ "num num 1",δ "a shape",δ "a1 num 1",δ "a tag",δ "tag num 1",δ "a row 02 num 1",δ "a row 2 num 05",δ "a row 2 b c",δ "a pick b num",δ "shape Ab",δ "a row num 1",δ "a num x",δ "shape  a",δ "shape a ",δ "a row -1 num 1",δ "a num +1",δ "shape abcdefg",δ "a row 10 num 1"]
def bdW:List (List Str):=[[δ ""],[δ "",δ ""],[δ "shape"],[δ "shape",δ "a",δ "b"],[δ "shape",δ "num"],[δ "Shape",δ "a"],[δ "a"],[δ "a",δ "num"],[δ "a",δ "num",δ "0"],[δ "a",δ "num",δ "5"],[δ "a",δ "num",δ "02"],[δ "a",δ "num",δ "1",δ "1"],[δ "a",δ "row",δ "0",δ "num",δ "1"],[δ "a",δ "row",δ "7",δ "num",δ "1"],[δ "a",δ "row",δ "2"],[δ "a",δ "row",δ "2",δ "num"],[δ "a",δ "row",δ "2",δ "row",δ "2",δ "num",δ "1"],[δ "a",δ "row",δ "2",δ "pick",δ "b",δ "c"],[δ "a",δ "pick",δ "b"],[δ "a",δ "pick"],[δ "a",δ "pick",δ "b",δ "c",δ "d",δ "e",δ "f"],[δ "a",δ "b",δ "c"],[δ "a",δ "",δ "num",δ "1"],[δ "",δ "a",δ "num",δ "1"],[δ "a",δ "num",δ "1",δ ""],[δ "A",δ "num",δ "1"],[δ "abcdefg",δ "num",δ "1"],[δ "num",δ "num",δ "1"],[δ "a",δ "shape"],[δ "a1",δ "num",δ "1"],[δ "a",δ "tag"],[δ "tag",δ "num",δ "1"],[δ "a",δ "row",δ "02",δ "num",δ "1"],[δ "a",δ "row",δ "2",δ "num",δ "05"],[δ "a",δ "row",δ "2",δ "b",δ "c"],[δ "a",δ "pick",δ "b",δ "num"],[δ "shape",δ "Ab"],[δ "a",δ "row",δ "num",δ "1"],[δ "a",δ "num",δ "x"],[δ "shape",δ "",δ "a"],[δ "shape",δ "a",δ ""],[δ "a",δ "row",δ "-1",δ "num",δ "1"],[δ "a",δ "num",δ "+1"],[δ "shape",δ "abcdefg"],[δ "a",δ "row",δ "10",δ "num",δ "1"]]
theorem aAl:∀i:Fin 45,bdT.getD i.val Str.empty=π spS (bdW.getD i.val [])/\(bdW.getD i.val []≠[]/\(bdW.getD i.val []).length<=100/\∀w∈bdW.getD i.val [],32∉w.cps.toList/\w.length<=100)/\fE (bdW.getD i.val [])=false/\lE (bdW.getD i.val [])=false/\(10∉(bdT.getD i.val Str.empty).cps.toList/\(bdT.getD i.val Str.empty).length<=100):=by decide +kernel
theorem bd_at:∀i:Fin 45,bdT[i.val]?=some (bdT.getD i.val Str.empty):=by decide +kernel
def aGm:Sp:=fun vs H Q _=>∃p:Addr,vs=[.ref p]/\St3 H p/\∀(i:Nat) (H':Hp),i<45->Drawn p H H'->Q (.str (bdT.getD i Str.empty)) H'
def aCj (K:Ξ):Sp:=fun vs H Q _=>∃(a b:Addr) (n:Nat) (xs ys:List Str),vs=[.ref a,.int n,.ref b]/\SqL K H a (xs.map V.str)/\SqL K H b (ys.map V.str)/\n<=xs.length/\xs.length<=100/\ys.length<=100/\(∀x∈xs++ys,x.length<=100)/\∀H',jG H H'->Q (.str (π nlS (xs.take n++ys++xs.drop n))) H'
def bd0:List Str:=[δ "",δ " ",δ "shape",δ "shape a b",δ "shape num",δ "Shape a",δ "a",δ "a num",δ "a num 0",δ "a num 5",δ "a num 02"]
def bd1:List Str:=[δ "a num 1 1",δ "a row 0 num 1",δ "a row 7 num 1",δ "a row 2",δ "a row 2 num",δ "a row 2 row 2 num 1"]
def bd2:List Str:=[δ "a row 2 pick b c",δ "a pick b",δ "a pick",δ "a pick b c d e f",δ "a b c",δ "a  num 1",δ " a num 1"]
def bd3:List Str:=[δ "a num 1 ",δ "A num 1",δ "abcdefg num 1",δ "num num 1",δ "a shape",δ "a1 num 1",δ "a tag",δ "tag num 1"]
def bd4:List Str:=[δ "a row 02 num 1",δ "a row 2 num 05",δ "a row 2 b c",δ "a pick b num",δ "shape Ab",δ "a row num 1"]
def bd5:List Str:=[δ "a num x",δ "shape  a",δ "shape a ",δ "a row -1 num 1",δ "a num +1",δ "shape abcdefg",δ "a row 10 num 1"]
theorem kQ:jM (δ "row")=false/\jM (δ "2")=false/\jM (δ "pick")=false/\jM (δ "num")=false/\jM (δ "1")=false/\jM (δ "nosh")=true/\jM (δ "other")=true/\jM (δ "hzhzh")=true:=by decide +kernel
theorem aFl:yN [δ "num",δ "1"]=true:=by decide +kernel
theorem uR(h:jM x=true):yN [x]=true:=by
 show(if x=δ "row" then _ else if x=δ "pick" then _ else (if x=δ "num" then false else jM x))=true;rw[if_neg (xI h (by decide)),if_neg (xI h (by decide)),if_neg (xI h (by decide)),h]
theorem aIv(h:jM x=true):yN [δ "row",δ "2",x]=true:=by
 show((vK (aY (δ "2")) 1 6).isSome&&(if x=δ "num" then false else jM x))=true;rw[if_neg (xI h (by decide)),h,show(vK (aY (δ "2")) 1 6).isSome=true by decide +kernel];rfl
theorem iR{r:List Str}(h2 : 2<=r.length)(h4:r.length<=4)(h:∀x∈r,jM x=true):yN (δ "pick" :: r)=true:=by
 show(decide (2<=r.length)&&(decide (r.length<=4)&&r.all jM))=true;rw[decide_eq_true h2,decide_eq_true h4,wg,wg];exact ue.mpr h
theorem aEi{w:Str}{r:List Str}(h:jM f=true)(hk:yN (w::r)=true):lE (f::w::r)=true:=by
 show(jM f&&yN (w::r))=true;rw[h,hk];rfl
theorem dB{r:List Str}(h:∀x∈r,jM x=true):(δ "pick" :: r).filter jM=r:=by
 rw[uw (by rw[kQ.2.2.1];decide)];exact List.filter_eq_self.mpr h
theorem mG{T0:List Shp}{s:Shp}{w:Str}{r:List Str}(hf:jM f=true)(hk:yN (w::r)=true)(h:f∈s.2.map (·.1)):aU (T0++[s]) (f::w::r) 1 f :=
 .inr ⟨T0,s,f,w::r,rfl,rfl,aEi hf hk,.inl ⟨h,rfl,rfl⟩⟩
theorem uF{T0:List Shp}{s:Shp}{w:Str}{r nd:List Str}{i:Nat}(hf:jM f=true)(hk:yN (w::r)=true)(h:f∉s.2.map (·.1))(hn:(w::r).filter jM=nd)(h1:nd[i]?=some y)(h2:(nd.take i).Nodup)(h3:y∈nd.take i):aU (T0++[s]) (f::w::r) 1 y:=by
 subst hn;exact .inr ⟨T0,s,f,w::r,rfl,rfl,aEi hf hk,.inr (.inl ⟨h,i,h1,h2,h3,rfl⟩)⟩
theorem rY{T0:List Shp}{s:Shp}{w:Str}{r nd:List Str}{i:Nat}(hf:jM f=true)(hk:yN (w::r)=true)(h:f∉s.2.map (·.1))(hn:(w::r).filter jM=nd)(hd:nd.Nodup)(h1:nd[i]?=some y)(h2:∀z∈nd.take i,z∈T0.map (·.1))(h3:y∉T0.map (·.1)):aU (T0++[s]) (f::w::r) 2 y:=by
 subst hn;exact .inr ⟨T0,s,f,w::r,rfl,rfl,aEi hf hk,.inr (.inr (.inl ⟨h,hd,i,h1,h2,h3,rfl⟩))⟩
section
variable {T0:List Shp}{s:Shp}{f one:Str}
theorem zH(h:Cln (T0++[s])):δ "hzhzh" ∉ s.2.map (·.1)/\δ "nosh" ∉ T0.map (·.1)/\δ "other" ∉ T0.map (·.1)/\(∀t∈T0++[s],t.1≠δ "nosh"/\t.1≠δ "other"/\t.1≠δ "hzhzh"):=by
 refine⟨fun z=>?_,fun z=>?_,fun z=>?_,fun t ht=>⟨fun e=>?_,fun e=>?_,fun e=>?_⟩⟩
 ·obtain⟨g,hg,e⟩:=rm.mp z;exact(h s (by simp)).2 g hg (by rw[e];unfold bdN;simp)
 ·obtain⟨g,hg,e⟩:=rm.mp z;exact(h g (sm _ hg)).1 (by rw[e];unfold bdN;simp)
 ·obtain⟨g,hg,e⟩:=rm.mp z;exact(h g (sm _ hg)).1 (by rw[e];unfold bdN;simp)
 ·exact(h t ht).1 (by rw[e];unfold bdN;simp)
 ·exact(h t ht).1 (by rw[e];unfold bdN;simp)
 ·exact(h t ht).1 (by rw[e];unfold bdN;simp)
theorem fq1(hf:jM f=true)(h:f∈s.2.map (·.1)):aU (T0++[s]) [f,δ "num",δ "1"] 1 f:=mG hf aFl h
theorem fq2(hf:jM f=true)(h:f∈s.2.map (·.1)):aU (T0++[s]) [f,δ "nosh"] 1 f:=mG hf (uR kQ.2.2.2.2.2.1) h
theorem fq3(hc:Cln (T0++[s])):aU (T0++[s]) [δ "hzhzh",δ "nosh"] 2 (δ "nosh") :=
 rY (nd:=[δ "nosh"]) (i:=0) kQ.2.2.2.2.2.2.2 (uR kQ.2.2.2.2.2.1) (zH hc).1 (by rw[xg kQ.2.2.2.2.2.1];rfl) (ui _ _) rfl (fun z hz=>by cases hz) (zH hc).2.1
theorem fq4(hc:Cln (T0++[s]))(hn:jM s.1=true)(hd:s.1∉T0.map (·.1)):aU (T0++[s]) [δ "hzhzh",s.1] 2 s.1 :=
 rY (nd:=[s.1]) (i:=0) kQ.2.2.2.2.2.2.2 (uR hn) (zH hc).1 (by rw[xg hn];rfl) (ui _ _) rfl (fun z hz=>by cases hz) hd
theorem fq5(hc:Cln (T0++[s]))(hn:jM s.1=true)(hd:s.1∉T0.map (·.1)):aU (T0++[s]) [δ "hzhzh",δ "row",δ "2",s.1] 2 s.1 :=
 rY (nd:=[s.1]) (i:=0) kQ.2.2.2.2.2.2.2 (aIv hn) (zH hc).1 (by rw[uw (by rw[kQ.1];decide),uw (by rw[kQ.2.1];decide),xg hn];rfl) (ui _ _) rfl (fun z hz=>by cases hz) hd
theorem fq6(hc:Cln (T0++[s])):aU (T0++[s]) [δ "hzhzh",δ "pick",δ "nosh",δ "other",δ "nosh"] 1 (δ "nosh") :=
 uF (nd:=[δ "nosh",δ "other",δ "nosh"]) (i:=2) kQ.2.2.2.2.2.2.2 (by decide +kernel) (zH hc).1 (by decide +kernel) rfl (by decide +kernel) (by decide +kernel)
theorem fq7(hc:Cln (T0++[s]))(hn:jM s.1=true)(hd:s.1∉T0.map (·.1)):aU (T0++[s]) [δ "hzhzh",δ "pick",s.1,δ "nosh"] 2 s.1:=by
 have hal:∀x∈[s.1,δ "nosh"],jM x=true:=fun x hx=>by
  simp only[ξ,Δ,or_false]at hx;rcases hx with rfl|rfl
  ·exact hn
  ·exact kQ.2.2.2.2.2.1
 refine rY (nd:=[s.1,δ "nosh"]) (i:=0) kQ.2.2.2.2.2.2.2 (iR (by simp) (by simp) hal) (zH hc).1 (dB hal) ?_ rfl (fun z hz=>by cases hz) hd;exact xj.mpr ⟨fun z=>((zH hc).2.2.2 s (by simp)).1 (τ.mp z),ui _ _⟩
theorem fq8(hf:jM f=true)(h:f∈s.2.map (·.1)):aU (T0++[s]) [f,δ "pick",δ "nosh",δ "nosh"] 1 f:=mG hf (by decide +kernel) h
theorem fq9(hc:Cln (T0++[s]))(hn:jM one=true)(hm:one∈T0.map (·.1)):aU (T0++[s]) [δ "hzhzh",δ "pick",one,δ "nosh",δ "other"] 2 (δ "nosh"):=by
 have hal:∀x∈[one,δ "nosh",δ "other"],jM x=true:=fun x hx=>by
  simp only[ξ,Δ,or_false]at hx;rcases hx with rfl|rfl|rfl
  ·exact hn
  ·exact kQ.2.2.2.2.2.1
  ·exact kQ.2.2.2.2.2.2.1
 refine rY (nd:=[one,δ "nosh",δ "other"]) (i:=1) kQ.2.2.2.2.2.2.2 (iR (by simp) (by simp) hal) (zH hc).1 (dB hal) ?_ rfl (fun z hz=>by rw[τ.mp (show z∈[one] from hz)];exact hm) (zH hc).2.1;refine xj.mpr ⟨fun z=>?_,by decide +kernel⟩;simp only[ξ,Δ,or_false]at z;rcases z with rfl|rfl
 ·exact(zH hc).2.1 hm
 ·exact(zH hc).2.2.1 hm
theorem fqA(hc:Cln (T0++[s]))(hn:jM one=true):aU (T0++[s]) [δ "hzhzh",δ "pick",one,one] 1 one:=by
 have hal:∀x∈[one,one],jM x=true:=fun x hx=>by
  simp only[ξ,Δ,or_false,or_self]at hx;rw[hx];exact hn
 exact uF (nd:=[one,one]) (i:=1) kQ.2.2.2.2.2.2.2 (iR (by simp) (by simp) hal) (zH hc).1 (dB hal) rfl (ui _ _) (τ.mpr rfl)
theorem fqB(hc:Cln (T0++[s]))(hn:jM one=true)(hm:one∈T0.map (·.1)):aU (T0++[s]) [δ "hzhzh",δ "pick",δ "other",one,one] 1 one:=by
 have hal:∀x∈[δ "other",one,one],jM x=true:=fun x hx=>by
  simp only[ξ,Δ,or_false,or_self]at hx;rcases hx with rfl|rfl
  ·exact kQ.2.2.2.2.2.2.1
  ·exact hn
 refine uF (nd:=[δ "other",one,one]) (i:=2) kQ.2.2.2.2.2.2.2 (iR (by simp) (by simp) hal) (zH hc).1 (dB hal) rfl ?_ (by simp);exact xj.mpr ⟨fun z=>(zH hc).2.2.1 (by rw[τ.mp z];exact hm),ui _ _⟩
end
theorem aAf : vH S (kF S).length tail=(kF S).map (qH S)++tail:=by
 unfold vH;rw[vt (by rw[ε];exact μ _)]
theorem yS(hW:Wel S)(hne:S≠[]):((kF S).map (qH S)).length<=30/\∀x∈(kF S).map (qH S),10∉x.cps.toList/\x.length<=100:=by
 obtain⟨h30,hrow,_,_⟩:=lN hW hne;have hl:=iT hW;refine⟨by rw[ε];exact h30,fun x hx=>?_⟩;obtain⟨it,hit,rfl⟩:=rm.mp hx;exact⟨fB (by decide) fun y hy=>((hl it hit).1 y hy).1.2,(hrow it hit).1⟩
theorem lX(hW:Wel S):∀s∈S,s.2≠[]:=fun t ht=>by
 obtain⟨j,hj⟩:=tq.mp ht;exact hW.good.ne j t hj
theorem dD{rest:List Str}(hW:Wel S)(hne:S≠[])(hl:LOk bw)(h60:rest.length<=59)(ht:∀x∈π spS bw::rest,10∉x.cps.toList/\x.length<=100)(hb:BadL S bw k y):Fault (π nlS ((kF S).map (qH S)++π spS bw::rest)) k (kF S).length y S (kF S).length (π spS bw::rest) :=
 ⟨by rw[aAf],hW,hne,μ _,by rw[υ];omega,ht,.inl ⟨bw,rest,rfl,hl,rfl,fun T hT=>by rw[hT.done];exact hb⟩⟩
theorem aBn{j i:Nat}(hW:Wel S)(hne:S≠[])(hj:j<=(kF S).length)(hi:i<45):Fault (π nlS (((kF S).map (qH S)).take j++[bdT.getD i Str.empty]++((kF S).map (qH S)).drop j)) 0 j Str.empty S j (bdT.getD i Str.empty::((kF S).map (qH S)).drop j):=by
 obtain⟨b1,b2,b3,b4,b5⟩:=aAl ⟨i,hi⟩;obtain⟨r1,r2⟩:=yS hW hne;refine⟨by unfold vH;rw[ug];rfl,hW,hne,hj,by rw[υ,xu];omega,fun x hx=>?_,.inl ⟨bdW.getD i [],_,congrArg (· :: _) b1,b2,rfl,fun T hT=>.inr ⟨b3,by decide,.inl ⟨.inr b4,rfl⟩⟩⟩⟩;rcases ξ.mp hx with rfl|hx
 ·exact b5
 ·exact r2 x (zk hx)
theorem aGl(h:aA S 0 T):T=[]:=by
 rcases h with⟨S2,e,ej⟩|⟨S1,s,S2,f1,f2,e,ef,eT,ej⟩
 ·cases T with
  |nil=>rfl
  |cons t T=>have:=zK (A:=t::T) (by simp);omega
 ·omega
theorem yA:(10∉(δ "hzhzh num 1").cps.toList/\(δ "hzhzh num 1").length<=100)/\δ "hzhzh num 1" = π spS [δ "hzhzh",δ "num",δ "1"]/\([δ "hzhzh",δ "num",δ "1"]≠[]/\[δ "hzhzh",δ "num",δ "1"].length<=100/\∀w∈[δ "hzhzh",δ "num",δ "1"],32∉w.cps.toList/\w.length<=100)/\fE [δ "hzhzh",δ "num",δ "1"]=false/\(10∉(δ "shape hzhzh").cps.toList/\(δ "shape hzhzh").length<=100)/\δ "shape hzhzh" = π spS [δ "shape",δ "hzhzh"]:=by decide +kernel
theorem tE(hW:Wel S)(hne:S≠[]):Fault (π nlS (((kF S).map (qH S)).take 0++[δ "hzhzh num 1"]++((kF S).map (qH S)).drop 0)) 0 0 Str.empty S 0 (δ "hzhzh num 1" :: (kF S).map (qH S)):=by
 obtain⟨r1,r2⟩:=yS hW hne;refine⟨rfl,hW,hne,sd _,by rw[υ];omega,fun x hx=>?_,.inl ⟨_,_,congrArg (· :: _) yA.2.1,yA.2.2.1,rfl,fun T hT=>.inr ⟨yA.2.2.2.1,by decide,.inl ⟨.inl (aGl hT),rfl⟩⟩⟩⟩;rcases ξ.mp hx with rfl|hx
 ·exact yA.1
 ·exact r2 x hx
theorem aHk(hc:Cln S):δ "hzhzh" ∉ S.map (·.1):=fun z=>by
 obtain⟨g,hg,e⟩:=rm.mp z;exact(hc g hg).1 (by rw[e];unfold bdN;simp)
theorem pT(h:jM nm=true):(10∉(π spS [δ "shape",nm]).cps.toList/\(π spS [δ "shape",nm]).length<=100)/\LOk [δ "shape",nm]:=by
 have hp:=xZ h;have hl:=qR h;have hw:∀w∈[δ "shape",nm],(32∉w.cps.toList/\w.length<=6)/\10∉w.cps.toList:=fun w hw=>by
  rcases ξ.mp hw with rfl|hw
  ·decide +kernel
  ·rw[τ.mp hw];exact⟨⟨hp.1,hl.2⟩,hp.2⟩
 refine⟨⟨fB (by decide) fun y hy=>(hw y hy).2,?_⟩,(by simp),(by simp),fun w hw'=>⟨(hw w hw').1.1,by have:=(hw w hw').1.2;omega⟩⟩;have h3:(π spS [δ "shape",nm]).length<=_:=aM (c:=32) (m:=6) fun w hw'=>(hw w hw').1.2;exact sg h3 (by simp)
theorem sY{rest:List Str}(hW:Wel S)(hne:S≠[])(hc:Cln S)(hr:rest=[]\/∃nm2 rest2,rest=π spS [δ "shape",nm2]::rest2/\jM nm2=true)(h60:rest.length<=59)(ht:∀x∈rest,10∉x.cps.toList/\x.length<=100):Fault (π nlS ((kF S).map (qH S)++δ "shape hzhzh" :: rest)) 0 ((kF S).length+1) Str.empty S (kF S).length (δ "shape hzhzh" :: rest):=by
 refine⟨by rw[aAf],hW,hne,μ _,by rw[υ];omega,fun x hx=>?_,.inr ⟨rfl,rfl,δ "hzhzh",rest,congrArg (· :: rest) yA.2.2.2.2.2,kQ.2.2.2.2.2.2.2,fun T hT=>by rw[hT.done];exact⟨lX hW,aHk hc⟩,hr⟩⟩;rcases ξ.mp hx with rfl|hx
 ·exact yA.2.2.2.2.1
 ·exact ht x hx
theorem sF{S:List Shp}{nm:Str}{rest:List Str}(hW:Wel S)(hne:S≠[])(hn:nm∈S.map (·.1))(h60:rest.length<=59)(ht:∀x∈rest,10∉x.cps.toList/\x.length<=100):Fault (π nlS ((kF S).map (qH S)++π spS [δ "shape",nm]::rest)) 1 (kF S).length nm S (kF S).length (π spS [δ "shape",nm]::rest):=by
 have hnm:jM nm=true:=by
  obtain⟨s,hs,rfl⟩:=rm.mp hn;exact hW.nm s hs
 obtain⟨o1,o2⟩:=pT hnm;refine dD hW hne o2 h60 (fun x hx=>?_) (.inl ⟨nm,rfl,hnm,.inr ⟨rfl,rfl,lX hW,hn⟩⟩);rcases ξ.mp hx with rfl|hx
 ·exact o1
 ·exact ht x hx
theorem aBo{α : Type}{l:List α}{j:Nat}{x : α}(h:l[j]?=some x):l.drop j=x::l.drop (j+1):=by
 obtain⟨hj,e⟩:=η.mp h;rw[List.drop_eq_getElem_cons hj,e]
theorem tZ{S:List Shp}{j:Nat}{nm2:Str}(hW:Wel S)(hne:S≠[])(hc:Cln S)(hit:(kF S)[j]?=some (.sh nm2)):Fault (π nlS (((kF S).map (qH S)).take j++[δ "shape hzhzh"]++((kF S).map (qH S)).drop j)) 0 (j+1) Str.empty S j (δ "shape hzhzh" :: ((kF S).map (qH S)).drop j):=by
 obtain⟨r1,r2⟩:=yS hW hne;have hj:=(η.mp hit).1;have hpre:∀T,aA S j T->(∀t∈T,t∈S)/\jM nm2=true:=fun T hT=>by
  obtain⟨S1,s,S2,eS,⟨ei,rfl,_⟩|⟨f1,n,k,f2,_,ei,_,_⟩⟩:=hT.next hj
  ·rw[hit]at ei;cases ei;exact⟨fun t ht=>by rw[eS];exact sm _ ht,hW.nm s (by rw[eS];simp)⟩
  ·rw[hit]at ei;cases ei
 obtain⟨T',hT'⟩:=sL (wk hj);have hnm:=(hpre T' hT').2;have hrow:((kF S).map (qH S))[j]?=some (π spS [δ "shape",nm2]):=by rw[sv,hit];rfl
 refine⟨by unfold vH;rw[ug];rfl,hW,hne,wk hj,by rw[υ,xu];omega,fun x hx=>?_,.inr ⟨rfl,rfl,δ "hzhzh",_,congrArg (· :: _) yA.2.2.2.2.2,kQ.2.2.2.2.2.2.2,fun T hT=>⟨fun t ht=>lX hW t ((hpre T hT).1 t ht),fun z=>?_⟩,.inr ⟨nm2,_,aBo hrow,hnm⟩⟩⟩
 ·rcases ξ.mp hx with rfl|hx
  ·exact yA.2.2.2.2.1
  ·exact r2 x (zk hx)
 ·obtain⟨t,ht,e⟩:=rm.mp z;exact aHk hc (by rw[←e];exact rm.mpr ⟨t,(hpre T hT).1 t ht,rfl⟩)
theorem aIh(hW:Wel S)(h:aA S 1 T):∃T0 s,T=T0++[s]/\s.2=[]:=by
 rcases h with⟨S2,e,ej⟩|⟨S1,s,S2,f1,f2,e,ef,eT,ej⟩
 ·cases T with
  |nil=>exact absurd ej (by decide)
  |cons t T =>
   have h1:(kF (t::T)).length=(bO t).length+(kF T).length:=by rw[show kF (t::T)=bO t++kF T from rfl,ζ]
   have h2:(bO t).length=t.2.length+1:=by unfold bO;rw[υ,ε]
   have h3:=lX hW t (by rw[e];simp);have h4 : 0<t.2.length:=List.length_pos_iff.mpr h3;omega
 ·have:f1=[]:=uh.mp (by omega);subst this;exact⟨S1,(s.1,[]),eT,rfl⟩
theorem aBv(hW:Wel S)(hne:S≠[]):Fault (π nlS (((kF S).map (qH S)).take 1++[δ "shape hzhzh"]++((kF S).map (qH S)).drop 1)) 0 1 Str.empty S 1 (δ "shape hzhzh" :: ((kF S).map (qH S)).drop 1):=by
 obtain⟨r1,r2⟩:=yS hW hne;have hn:=zK hne;refine⟨by unfold vH;rw[ug];rfl,hW,hne,hn,by rw[υ,xu];omega,fun x hx=>?_,.inl ⟨[δ "shape",δ "hzhzh"],_,congrArg (· :: _) yA.2.2.2.2.2,(pT kQ.2.2.2.2.2.2.2).2,rfl,fun T hT=>.inl ⟨_,rfl,kQ.2.2.2.2.2.2.2,.inl ⟨rfl,aIh hW hT⟩⟩⟩⟩;rcases ξ.mp hx with rfl|hx
 ·exact yA.2.2.2.2.1
 ·exact r2 x (zk hx)
def Fp (K:Ξ) (H:Hp) (p:Addr):Prop:=∃(tx:Str) (a:Addr) (k n:Nat) (y:Str) (S:List Shp) (j:Nat) (tail:List Str),H p=some (.tup [.str tx,.ref a])/\SqT K H a (eE k n y)/\Fault tx k n y S j tail
def kdT (k:Nat):Str:=if k=1 then δ "twice" else δ "unknown"
def Fq (K:Ξ) (H:Hp) (S:List Shp) (p:Addr):Prop:=∃(a:Addr) (k:Nat) (y:Str) (bw:List Str),H p=some (.tup [.str (π spS bw),.ref a])/\SqT K H a [.str (kdT k),.str y]/\LOk bw/\(10∉(π spS bw).cps.toList/\(π spS bw).length<=100)/\fE bw=false/\aU S bw k y/\(k=1\/k=2)
theorem Fp.same{K:Ξ}(h:Fp K H p)(g:jG H H'):Fp K H' p:=by
 obtain⟨tx,a,k,n,y,S,j,tail,h1,h2,h3⟩:=h;exact⟨tx,a,k,n,y,S,j,tail,g _ _ h1,g.tp h2,h3⟩
theorem cW{K:Ξ}{H:Hp}(g:But l H H')(hl:H l=some (.lst zs))(h:SqT K H a xs):SqT K H' a xs:=by
 rcases h with (h|⟨o,h⟩)|h
 ·exact .inl (.inl (g _ _ (fun e=>by rw[e,hl]at h;cases h) h))
 ·exact .inl (.inr ⟨o,g _ _ (fun e=>by rw[e,hl]at h;cases h) h⟩)
 ·exact .inr h
theorem Fp.but{K:Ξ}{H:Hp}(g:But l H H')(hl:H l=some (.lst zs))(h:Fp K H p):Fp K H' p:=by
 obtain⟨tx,a,k,n,y,S,j,tail,h1,h2,h3⟩:=h;exact⟨tx,a,k,n,y,S,j,tail,g _ _ (fun e=>by rw[e,hl]at h1;cases h1) h1,cW g hl h2,h3⟩
theorem Fq.same{K:Ξ}(h:Fq K H S p)(g:jG H H'):Fq K H' S p:=by
 obtain⟨a,k,y,bw,h1,h2,h3⟩:=h;exact⟨a,k,y,bw,g _ _ h1,g.tp h2,h3⟩
theorem Fq.but{K:Ξ}{H:Hp}(g:But l H H')(hl:H l=some (.lst zs))(h:Fq K H S p):Fq K H' S p:=by
 obtain⟨a,k,y,bw,h1,h2,h3⟩:=h;exact⟨a,k,y,bw,g _ _ (fun e=>by rw[e,hl]at h1;cases h1) h1,cW g hl h2,h3⟩
def spFF (K:Ξ):Sp:=fun vs H Q _=>∃(p sl:Addr) (S:List Shp),vs=[.ref p,.ref sl]/\St3 H p/\LX K (offs [p] H) sl S/\Wel S/\S≠[]/\Cln S/\∀(l:Addr) (ps:List Addr) (H':Hp),Drawn p H H'->H l=none->H' l=some (.lst (ps.map V.ref))->(∀a∈ps,Fq K H' S a)->ps.length<=20->Q (.ref l) H'
def spPl (K:Ξ):Sp:=fun vs H Q _=>∃(sl ll:Addr) (S:List Shp),vs=[.ref sl,.ref ll]/\LX K H sl S/\SqL K H ll (((kF S).map (qH S)).map V.str)/\Wel S/\S≠[]/\Cln S/\∀(l:Addr) (ps:List Addr) (H':Hp),jG H H'->H l=none->H' l=some (.lst (ps.map V.ref))->(∀a∈ps,Fp K H' a)->ps.length<=60->Q (.ref l) H'
def aHi (K:Ξ):Sp:=fun vs H Q _=>∃(p sl:Addr) (S:List Shp),vs=[.ref p,.ref sl]/\St3 H p/\LX K (offs [p] H) sl S/\Wel S/\S≠[]/\Cln S/\∀H',Drawn p H H'->Q (.bl true) H'
theorem sap(a b c:Str):a++b++c=a++(b++c):=Str.ext' (by rw[vb,vb,vb,vb,Array.append_assoc])
theorem jn2(a b:Str):π spS [a,b]=a++(spS++b):=by rw[show π spS [a,b]=a++spS++b from rfl,sap]
theorem jn3(a b c:Str):π spS [a,b,c]=a++(spS++(b++(spS++c))):=by rw[show π spS [a,b,c]=a++spS++π spS [b,c] from rfl,jn2,sap]
theorem jn4(a b c d:Str):π spS [a,b,c,d]=a++(spS++(b++(spS++(c++(spS++d))))):=by rw[show π spS [a,b,c,d]=a++spS++π spS [b,c,d] from rfl,jn3,sap]
theorem jn5(a b c d e:Str):π spS [a,b,c,d,e]=a++(spS++(b++(spS++(c++(spS++(d++(spS++e))))))):=by rw[show π spS [a,b,c,d,e]=a++spS++π spS [b,c,d,e] from rfl,jn4,sap]
theorem eV:δ " num 1" = spS++(δ "num" ++ (spS++δ "1"))/\δ " nosh" = spS++δ "nosh"/\δ " " = spS/\δ " row 2 " = spS++(δ "row" ++ (spS++(δ "2" ++ spS)))/\δ " pick nosh other nosh" = spS++(δ "pick" ++ (spS++(δ "nosh" ++ (spS++(δ "other" ++ (spS++δ "nosh"))))))/\δ " pick " = spS++(δ "pick" ++ spS)/\δ " pick nosh nosh" = spS++(δ "pick" ++ (spS++(δ "nosh" ++ (spS++δ "nosh"))))/\δ " nosh other" = spS++(δ "nosh" ++ (spS++δ "other"))/\δ " pick other " = spS++(δ "pick" ++ (spS++(δ "other" ++ spS))):=by decide +kernel
section
variable (f own one:Str)
theorem lx1:f++δ " num 1" = π spS [f,δ "num",δ "1"]:=by rw[jn3,eV.1]
theorem lx2:f++δ " nosh" = π spS [f,δ "nosh"]:=by rw[jn2,eV.2.1]
theorem lx4:δ "hzhzh" ++ δ " " ++ own=π spS [δ "hzhzh",own]:=by rw[jn2,eV.2.2.1,sap]
theorem lx5:δ "hzhzh" ++ δ " row 2 " ++ own=π spS [δ "hzhzh",δ "row",δ "2",own]:=by rw[jn4,eV.2.2.2.1];simp only[sap]
theorem lx6:δ "hzhzh" ++ δ " pick nosh other nosh" = π spS [δ "hzhzh",δ "pick",δ "nosh",δ "other",δ "nosh"]:=by rw[jn5,eV.2.2.2.2.1]
theorem lx7:δ "hzhzh" ++ δ " pick " ++ own++δ " nosh" = π spS [δ "hzhzh",δ "pick",own,δ "nosh"]:=by rw[jn4,eV.2.2.2.2.2.1,eV.2.1];simp only[sap]
theorem lx8:f++δ " pick nosh nosh" = π spS [f,δ "pick",δ "nosh",δ "nosh"]:=by rw[jn4,eV.2.2.2.2.2.2.1]
theorem lx9:δ "hzhzh" ++ δ " pick " ++ one++δ " nosh other" = π spS [δ "hzhzh",δ "pick",one,δ "nosh",δ "other"]:=by rw[jn5,eV.2.2.2.2.2.1,eV.2.2.2.2.2.2.2.1];simp only[sap]
theorem lxA:δ "hzhzh" ++ δ " pick " ++ one++δ " " ++ one=π spS [δ "hzhzh",δ "pick",one,one]:=by rw[jn4,eV.2.2.2.2.2.1,eV.2.2.1];simp only[sap]
theorem lxB:δ "hzhzh" ++ δ " pick other " ++ one++δ " " ++ one=π spS [δ "hzhzh",δ "pick",δ "other",one,one]:=by rw[jn5,eV.2.2.2.2.2.2.2.2,eV.2.2.1];simp only[sap]
end
theorem nw(h:jM x=true):(32∉x.cps.toList/\10∉x.cps.toList)/\x.length<=6:=⟨⟨(xZ h).1,(xZ h).2⟩,(qR h).2⟩
theorem cw_ok:∀w∈[δ "hzhzh",δ "nosh",δ "other",δ "num",δ "1",δ "row",δ "2",δ "pick"],(32∉w.cps.toList/\10∉w.cps.toList)/\w.length<=6:=by decide +kernel
theorem cQ{K:Ξ}{H:Hp}{f:Str}{r:List Str}(h1:H u=some (.tup [.str tx,.ref t]))(h2:H t=some (.tup [.str (kdT k),.str y]))(e:tx=π spS (f::r))(hb:aU S (f::r) k y)(hk:k=1\/k=2)(hf:jM f=true)(hl:(f::r).length<=5)(hw:∀w∈r,jM w=true\/w∈[δ "hzhzh",δ "nosh",δ "other",δ "num",δ "1",δ "row",δ "2",δ "pick"]):Fq K H S u:=by
 have hall:∀w∈f::r,(32∉w.cps.toList/\10∉w.cps.toList)/\w.length<=6:=fun w hw'=>by
  rcases ξ.mp hw' with rfl|hw'
  ·exact nw hf
  ·rcases hw w hw' with h|h
   ·exact nw h
   ·exact cw_ok w h
 have h3:(π spS (f::r)).length<=_:=aM (c:=32) (m:=6) fun w hw'=>(hall w hw').2;refine⟨t,k,y,f::r,by rw[h1,e],SqT.of h2,⟨by simp,by omega,fun w hw'=>⟨(hall w hw').1.1,by have:=(hall w hw').2;omega⟩⟩,⟨fB (by decide) fun w hw'=>(hall w hw').1.2,sg h3 (by omega)⟩,wP hf,hb,hk⟩
theorem Fq.drawn{K:Ξ}(d:Drawn p H H')(hs:St3 H p)(h:Fq K H S a):Fq K H' S a:=by
 obtain⟨b,k,y,bw,h1,h2,h3⟩:=h;refine⟨b,k,y,bw,d.2 _ _ (fun e=>?_) h1,d.tup hs h2,h3⟩;obtain⟨x,y',z,hp⟩:=hs;rw[e,hp]at h1;cases h1
theorem aB{P:Addr->Prop}{us:List Addr}(h:∀a∈us,P a)(hu:P u):∀a∈us++[u],P a:=fun a ha=>by
 rcases rn.mp ha with ha|ha
 ·exact h a ha
 ·rw[τ.mp ha];exact hu
theorem Drawn.but{H:Hp}(d:Drawn p H G)(g:But l G G')(hl:H l=none)(hp:l≠p):Drawn p H G':=⟨by obtain⟨x,y,z,e⟩:=d.1;exact⟨x,y,z,g p _ (va hp) e⟩,fun b o h e=>g b o (jK e hl) (d.2 b o h e)⟩
def FL (K:Ξ) (H0 G:Hp) (fl:Addr) (us:List Addr):Prop:=But fl H0 G/\G fl=some (.lst (us.map V.ref))/\∀a∈us,Fp K G a
theorem FL.same{K:Ξ}(h:FL K H0 G fl us)(g:jG G G1):FL K H0 G1 fl us:=⟨h.1.trans (But.of g),g _ _ h.2.1,fun a ha=>(h.2.2 a ha).same g⟩
theorem FL.app{K:Ξ}{G:Hp}(h:FL K H0 G fl us)(hu:G u=some (.tup [.str tx,.ref a]))(hd:SqT K G a (eE k n y))(hf:Fault tx k n y S j tail):FL K H0 (upd G fl (.lst (us.map V.ref++[.ref u]))) fl (us++[u]):=by
 have hb:But fl G (upd G fl (.lst (us.map V.ref++[.ref u]))):=But.upd;refine⟨h.1.trans hb,by rw[ν];exact jL,aB (fun a ha=>(h.2.2 a ha).but hb h.2.1) (Fp.but hb h.2.1 ⟨tx,a,k,n,y,S,j,tail,hu,hd,hf⟩)⟩
theorem sI{K:Ξ}{H:Hp}{n:Nat}(h:H t=some (.tup [.str (δ "none"),.int z]))(e:z=n):SqT K H t (eE 0 n Str.empty):=by subst e;exact SqT.of h
theorem due1{K:Ξ}{H:Hp}{n:Nat}(h:H t=some (.tup [.str (kdT k),.int z,.str y]))(hk:k=1\/k=2)(e:z=n):SqT K H t (eE k n y):=by
 subst e;rcases hk with rfl|rfl <;> exact SqT.of h
theorem aEb{l r:List Nat}(h : 32∉l)(e:(l++32::r).take 6=[115,104,97,112,101,32]):l=[115,104,97,112,101]:=by
 rcases l with _|⟨a,l⟩
 ·simp at e
 rcases l with _|⟨b,l⟩
 ·simp at e
 rcases l with _|⟨c,l⟩
 ·simp at e
 rcases l with _|⟨d,l⟩
 ·simp at e
 rcases l with _|⟨g,l⟩
 ·simp at e
 rcases l with _|⟨i,l⟩
 ·simp at e;simp[e]
 ·simp at e;exact absurd (by simp[e]) h
theorem aJo(h:Itm.fd f kd∈kF S):∃s∈S,(f,kd)∈s.2:=by
 obtain⟨s,hs,hm⟩:=List.mem_flatMap.mp h;rcases ξ.mp hm with e|hm
 ·cases e
 ·obtain⟨g,hg,e⟩:=rm.mp hm;cases e;exact⟨s,hs,hg⟩
theorem aFg{S:List Shp}{j:Nat}{x:Str}(hW:Wel S)(hx:((kF S).map (qH S))[j]?=some x)(h:Txt.slice x none (some 6)=δ "shape "):∃nm,(kF S)[j]?=some (.sh nm):=by
 rw[sv]at hx;obtain⟨it,hit,rfl⟩:=yr.mp hx;cases it with
 |sh nm=>exact⟨nm,hit⟩
 |fd f kd =>
  have hm:=ψ hit;obtain⟨s,hs,hf⟩:=aJo hm;have hfn:jM f=true:=hW.fnm s hs _ hf;exfalso
  by_cases h6:(6:Int)<=(qH S (.fd f kd)).length
  ·have e:=eq_of_beq (PyProof.Rows.slice_closes_toL (x:=qH S (.fd f kd)) (j:=6) (by decide) h6);rw[h]at e;have e2:(qH S (.fd f kd)).cps.toList.take 6=[115,104,97,112,101,32]:=by
    have:=congrArg (fun z:Str=>z.cps.toList) e;exact this.symm
   have e3:∃r,(qH S (.fd f kd)).cps.toList=f.cps.toList++32::r:=by
    obtain⟨w,ws,ew⟩ : ∃w ws,Itm.line (kR S) (.fd f kd)=f::w::ws:=by
     cases kd <;> exact⟨_,_,rfl⟩
    refine⟨(π spS (w::ws)).cps.toList,?_⟩;unfold qH;rw[ew,aF (by simp),sap,vb,vb,vf,vf];rfl
   obtain⟨r,er⟩:=e3;rw[er]at e2;have e4:=aEb (nw hfn).1.1 e2;exact xI hfn (by decide) (Str.ext' (Array.ext' (by rw[e4];rfl)):f=δ "shape")
  ·have:=Txt.slice_le (qH S (.fd f kd)) none (some 6);rw[h]at this;have h7:(δ "shape ").length=6:=rfl;omega
theorem wG(nm:Str):δ "shape " ++ nm=π spS [δ "shape",nm]:=by
 rw[aF (by simp)];rfl
theorem jbd{zs:List Str}(h:∀x∈zs,x.length<=100)(hl:zs.length<=300):(zs.map (·.length)).sum+zs.length*nlS.length<=16777216:=by
 have h1:(zs.map (·.length)).sum<=zs.length*100:=bR h;show _+_*1<=_;omega
theorem Fp.drawn{K:Ξ}(d:Drawn p H H')(hs:St3 H p)(h:Fp K H a):Fp K H' a:=by
 obtain⟨tx,b,k,n,y,S,j,tail,h1,h2,h3⟩:=h;refine⟨tx,b,k,n,y,S,j,tail,d.2 _ _ (fun e=>?_) h1,Drawn.tup hs d h2,h3⟩;obtain⟨x,y',z,hp⟩:=hs;rw[e,hp]at h1;cases h1
theorem aEm{i:Nat}{rest:List Str}(hW:Wel S)(hne:S≠[])(hi:i<45)(h60:rest.length<=59)(ht:∀x∈rest,10∉x.cps.toList/\x.length<=100):Fault (π nlS ((kF S).map (qH S)++bdT.getD i Str.empty::rest)) 0 (kF S).length Str.empty S (kF S).length (bdT.getD i Str.empty::rest):=by
 obtain⟨b1,b2,b3,b4,b5⟩:=aAl ⟨i,hi⟩;have b1':bdT.getD i Str.empty=π spS (bdW.getD i []):=b1;have:=dD (bw:=bdW.getD i []) (rest:=rest) (k:=0) (y:=Str.empty) hW hne b2 h60 (fun x hx=>by
  rw[←b1']at hx;rcases ξ.mp hx with rfl|hx
  ·exact b5
  ·exact ht x hx) (.inr ⟨b3,by decide,.inl ⟨.inr b4,rfl⟩⟩)
 rw[←b1']at this;exact this
theorem uK(hW:Wel S)(hne:S≠[]):Fault (δ "") 0 0 Str.empty S 0 [δ ""]:=by
 obtain⟨b1,b2,b3,b4,b5⟩:=aAl ⟨0,by decide⟩;exact⟨rfl,hW,hne,sd _,by decide,fun x hx=>by rw[τ.mp hx];exact b5,.inl ⟨bdW.getD 0 [],[],congrArg (· :: []) b1,b2,rfl,fun T hT=>.inr ⟨b3,by decide,.inl ⟨.inr b4,rfl⟩⟩⟩⟩
end K12
namespace K12
open PySem L2 PyProof.Rows
set_option hygiene false in
local macro_rules | `(tactic| clear 1 $p:ident $H:ident $g:ident $k:ident $h:ident) => `(tactic| (generalize zq9 : upd _ $p _ = $H;obtain ⟨$g, $k⟩ := kM zq9 $h))
set_option hygiene false in
local macro_rules | `(tactic| clear 0 $p:ident $H:ident $g:ident $k:ident) => `(tactic| (generalize zq9 : upd _ $p _ = $H;obtain ⟨$g, $k⟩ := vY zq9))
set_option hygiene false in
local macro_rules | `(tactic| walk_at"sc") => `(tactic| exact⟨rfl, rfl, rfl, by decide +kernel, rfl, by decide +kernel, by decide +kernel⟩)
set_option hygiene false in
local macro_rules | `(tactic| walk_at"o") => `(tactic| first | exact sy rfl | exact Or.inr rfl)
set_option hygiene false in
local macro_rules | `(tactic| w_cond $s:ident) => `(tactic| (obtain ⟨M, C, Ua, Ub, Uc, Ud, Ue, Uf, tRE, VI, am, ar, ck, ak⟩ := Z; (first | refine F.ok $s (fun vs H Q E h => ?_) (fun cdv A outer s0 H vs Q E hr0 h => ?_) | refine F.okE $s (fun vs H Q E h => ?_) (fun cdv A outer s0 H vs Q E hr0 h => ?_)); (rotate_left;have hr := hr0.mono (An _);rotate_right);try (· repeat (first | (obtain ⟨rfl, _⟩ := h;exact rfl) | obtain ⟨_, h⟩ := h))))
abbrev bJ:Stmt:=top 16
theorem nH:jO ["thing","signs","most"] ["thing","signs","most"] (jH bJ):=by walk_at"sc"
abbrev gJ:Stmt:=top 15
theorem wK:jO ["thing"] ["thing"] (jH gJ):=by walk_at"sc"
abbrev cF:Stmt:=top 17
theorem fC:jO ["text","low","high","number"] ["text","low","high"] (jH cF):=by walk_at"sc"
abbrev lF:Stmt:=top 19
theorem aBj:jO ["path","step"] ["path","step"] (jH lF):=by walk_at"sc"
abbrev gP:Stmt:=top 51
theorem uT:jO ["_law_cell_here"] ["_law_cell_here"] (jH gP):=by walk_at"sc"
abbrev eC:Stmt:=top 52
theorem zJ:jO ["_law_box_here","_law_many","_law_digit","_law_number"] ["_law_box_here","_law_many"] (jH eC):=by walk_at"sc"
abbrev eB:Stmt:=top 50
theorem rR:jO ["_law_script","_law_k"] ["_law_script","_law_k"] (jH eB):=by walk_at"sc"
abbrev yC:Stmt:=top 38
theorem gT:jO ["words"] ["words"] (jH yC):=by walk_at"sc"
abbrev eA:Stmt:=inClass (top 21) 3
theorem rG:jO ["self"] ["self"] (jH eA):=by walk_at"sc"
abbrev zV:Stmt:=inClass (top 22) 3
theorem lK:jO ["self"] ["self"] (jH zV):=by walk_at"sc"
abbrev aV:Stmt:=inClass (top 25) 1
theorem nN:jO ["self"] ["self"] (jH aV):=by walk_at"sc"
abbrev bZ:Stmt:=inClass (top 21) 4
theorem pP:jO ["self"] ["self"] (jH bZ):=by walk_at"sc"
abbrev yV:Stmt:=inClass (top 22) 4
theorem iE:jO ["self"] ["self"] (jH yV):=by walk_at"sc"
abbrev zS:Stmt:=inClass (top 25) 2
theorem mK:jO ["self"] ["self"] (jH zS):=by walk_at"sc"
abbrev bX:Stmt:=inClass (top 23) 3
theorem pV:jO ["self"] ["self"] (jH bX):=by walk_at"sc"
abbrev bG:Stmt:=inClass (top 23) 4
theorem nA:jO ["self"] ["self"] (jH bG):=by walk_at"sc"
abbrev yI:Stmt:=inClass (top 24) 4
theorem fS:jO ["self"] ["self"] (jH yI):=by walk_at"sc"
abbrev aZ:Stmt:=inClass (top 24) 5
theorem nI:jO ["self"] ["self"] (jH aZ):=by walk_at"sc"
abbrev cJ:Stmt:=inClass (top 24) 3
theorem pK:jO ["self"] ["self"] (jH cJ):=by walk_at"sc"
abbrev dW:Stmt:=inClass (top 21) 0
theorem rW:jO ["self","width"] ["self","width"] (jH dW):=by walk_at"sc"
abbrev zQ:Stmt:=inClass (top 22) 0
theorem mV:jO ["self","shape"] ["self","shape"] (jH zQ):=by walk_at"sc"
abbrev cM:Stmt:=inClass (top 23) 0
theorem pW:jO ["self","count","kind"] ["self","count","kind"] (jH cM):=by walk_at"sc"
abbrev bT:Stmt:=inClass (top 24) 0
theorem oU:jO ["self","shapes"] ["self","shapes"] (jH bT):=by walk_at"sc"
abbrev zM:Stmt:=inClass (top 26) 0
theorem mI:jO ["self","shapes"] ["self","shapes"] (jH zM):=by walk_at"sc"
abbrev yX:Stmt:=inClass (top 21) 6
theorem iI:jO ["self","path"] ["self","path"] (jH yX):=by walk_at"sc"
abbrev yD:Stmt:=inClass (top 24) 7
theorem fP:jO ["self","path"] ["self","path"] (jH yD):=by walk_at"sc"
abbrev yF:Stmt:=inClass (top 22) 5
theorem fY:jO ["self"] ["self"] (jH yF):=by walk_at"sc"
abbrev zP:Stmt:=inClass (top 23) 5
theorem mR:jO ["self"] ["self"] (jH zP):=by walk_at"sc"
abbrev yE:Stmt:=inClass (top 20) 2
theorem vZ:jO ["self","path","rows","step","kind"] ["self","path"] (jH yE):=by walk_at"sc"
abbrev zT:Stmt:=inClass (top 25) 3
theorem lW:jO ["self"] ["self"] (jH zT):=by walk_at"sc"
abbrev bA:Stmt:=inClass (top 25) 0
theorem nM:jO ["self","name","fields"] ["self","name","fields"] (jH bA):=by walk_at"sc"
abbrev aR:Stmt:=top 56
theorem nG:jO ["_law_path","_law_step"] ["_law_path","_law_step"] (jH aR):=by walk_at"sc"
abbrev zB:Stmt:=top 45
theorem iM:jO ["told"] ["told"] (jH zB):=by walk_at"sc"
abbrev gN:Stmt:=top 47
theorem tY:jO ["words","shapes"] ["words","shapes"] (jH gN):=by walk_at"sc"
abbrev zR:Stmt:=top 48
theorem mD:jO ["shape"] ["shape"] (jH zR):=by walk_at"sc"
abbrev bF:Stmt:=top 46
theorem zY:jO ["told","line","words","kind","shape"] ["told","line","words"] (jH bF):=by walk_at"sc"
abbrev dZ:Stmt:=top 54
theorem tR:jO ["_law_kind_here","_law_shapes_here"] ["_law_kind_here","_law_shapes_here"] (jH dZ):=by walk_at"sc"
abbrev cE:Stmt:=top 57
theorem pH:jO ["_law_kind_here","_law_shapes_here"] ["_law_kind_here","_law_shapes_here"] (jH cE):=by walk_at"sc"
abbrev cH:Stmt:=top 55
theorem vJ:jO ["_law_kind_here","_law_shapes_here","_law_path","_law_found","_law_number","_law_name","_law_inner"] ["_law_kind_here","_law_shapes_here","_law_path"] (jH cH):=by walk_at"sc"
abbrev dN:Stmt:=top 59
theorem hU:jO ["_law_shapes_here","_law_main"] ["_law_shapes_here"] (jH dN):=by walk_at"sc"
abbrev eI:Stmt:=top 58
theorem zI:jO ["_law_box_here","_law_known","_law_way","_law_width","_law_at"] ["_law_box_here","_law_known"] (jH eI):=by walk_at"sc"
abbrev yL:Stmt:=top 61
theorem gO:jO ["_law_kind_here","_law_shapes_here"] ["_law_kind_here","_law_shapes_here"] (jH yL):=by walk_at"sc"
abbrev eH:Stmt:=top 62
theorem xO:jO ["_law_shapes_here","_law_lines","_law_name","_law_fields","_law_field","_law_kind_here"] ["_law_shapes_here"] (jH eH):=by walk_at"sc"
abbrev cG:Stmt:=top 53
theorem xP:jO ["_law_box_here","_law_way","_law_at","_law_words","_law_tail"] ["_law_box_here"] (jH cG):=by walk_at"sc"
abbrev aX:Stmt:=top 60
theorem qO:jO ["_law_box_here","_law_most","_law_names_here","_law_turn","_law_shapes_here","_law_k","_law_fields","_law_j","_law_field"] ["_law_box_here","_law_most"] (jH aX):=by walk_at"sc"
abbrev xT:Stmt:=inClass (top 2) 0
theorem fA:jO ["self","words"] ["self","words"] (jH xT):=by walk_at"sc"
abbrev yH:Stmt:=inClass (top 3) 0
theorem gI:jO ["self","line"] ["self","line"] (jH yH):=by walk_at"sc"
abbrev yW:Stmt:=inClass (top 6) 0
theorem iG:jO ["self","line"] ["self","line"] (jH yW):=by walk_at"sc"
abbrev xA:Stmt:=inClass (top 4) 0
theorem cL:jO ["self","line","name"] ["self","line","name"] (jH xA):=by walk_at"sc"
abbrev xQ:Stmt:=inClass (top 5) 0
theorem dS:jO ["self","line","name"] ["self","line","name"] (jH xQ):=by walk_at"sc"
abbrev cR:Stmt:=top 41
theorem pY:jO ["words"] ["words"] (jH cR):=by walk_at"sc"
abbrev fO:Stmt:=top 40
theorem uM:jO ["words"] ["words"] (jH fO):=by walk_at"sc"
abbrev yG:Stmt:=top 39
theorem fQ:jO ["words"] ["words"] (jH yG):=by walk_at"sc"
abbrev yY:Stmt:=top 44
theorem iH:jO ["words"] ["words"] (jH yY):=by walk_at"sc"
abbrev xV:Stmt:=top 42
theorem eN:jO ["told","line","name"] ["told","line","name"] (jH xV):=by walk_at"sc"
abbrev bB:Stmt:=top 43
theorem xD:jO ["told","line","words","named","at","name"] ["told","line","words"] (jH bB):=by walk_at"sc"
abbrev zN:Stmt:=top 37
theorem vE:jO ["text","lines","told","line","row","words"] ["text"] (jH zN):=by walk_at"sc"
abbrev eF:Stmt:=top 63
theorem vI:jO ["_law_thing","_law_told_here","e","_law_kinds"] ["_law_thing"] (jH eF):=by walk_at"sc"
abbrev lD:Stmt:=top 64
theorem aAw:jO ["_law_told_here","_law_due"] ["_law_told_here","_law_due"] (jH lD):=by walk_at"sc"
abbrev vU:Stmt:=top 65
theorem aDh:∃e0 p0 q0 r0 e1 p1 q1 r1 n1 b1 e2 p2 q2 r2 n2 b2 e3 p3 q3 r3 n3 b3 e4 p4 q4 r4 n4 b4 e5 p5 q5 r5 n5 b5 rest,xR vU=.Assign [.Name "_law_some" q0] (.List e0 p0) r0 :: .Assign [.Name "_law_some" q1] (.BinOp (.Name "_law_some" n1) .Add (.List e1 p1) b1) r1 :: .Assign [.Name "_law_some" q2] (.BinOp (.Name "_law_some" n2) .Add (.List e2 p2) b2) r2 :: .Assign [.Name "_law_some" q3] (.BinOp (.Name "_law_some" n3) .Add (.List e3 p3) b3) r3 :: .Assign [.Name "_law_some" q4] (.BinOp (.Name "_law_some" n4) .Add (.List e4 p4) b4) r4 :: .Assign [.Name "_law_some" q5] (.BinOp (.Name "_law_some" n5) .Add (.List e5 p5) b5) r5::rest/\rest=(xR vU).drop 6/\strsOf e0=some bd0/\strsOf e1=some bd1/\strsOf e2=some bd2/\strsOf e3=some bd3/\strsOf e4=some bd4/\strsOf e5=some bd5:=⟨_,_,_,_,_,_,_,_,_,_,_,_,_,_,_,_,_,_,_,_,_,_,_,_,_,_,_,_,_,_,_,_,_,_,_,rfl,rfl,by first|decide +kernel|rfl,by first|decide +kernel|rfl,by first|decide +kernel|rfl,by first|decide +kernel|rfl,by first|decide +kernel|rfl,by first|decide +kernel|rfl⟩
theorem qS:jO ["_law_box_here","_law_some"] ["_law_box_here"] (jH vU):=by walk_at"sc"
abbrev bK:Stmt:=top 66
theorem mW:jO ["_law_lines","_law_at","_law_more"] ["_law_lines","_law_at","_law_more"] (jH bK):=by walk_at"sc"
abbrev xK:Stmt:=top 67
theorem kT:jO ["_law_box_here","_law_shapes_here","_law_own","_law_field","_law_known","_law_fresh","_law_found","_law_one"] ["_law_box_here","_law_shapes_here"] (jH xK):=by walk_at"sc"
abbrev aS:Stmt:=top 68
theorem vO:jO ["_law_shapes_here","_law_lines","_law_heads","_law_found","_law_at","_law_name","_law_fields"] ["_law_shapes_here","_law_lines"] (jH aS):=by walk_at"sc"
abbrev cO:Stmt:=top 69
theorem qM:jO ["_law_box_here","_law_shapes_here","_law_lines","_law_at","_law_bad","_law_found","_law_line","_law_due","_law_text_here","_law_thing"] ["_law_box_here","_law_shapes_here"] (jH cO):=by walk_at"sc"
abbrev aEl:Stmt:=top 70
theorem oQ:jO ["_law_script","_law_k","_law_box_here","_law_shapes_here"] ["_law_script"] (jH aEl):=by walk_at"sc"
structure ZZ (K:Ξ) (mg:Str->Option Value) (t1 t2 t3 t4 t5 t6 t7 t8 t9 t10 t11 t12 t13:Tok) (ts:Addr) (Va cIu:Addr) (Vb cIv:Addr) (Vc cIx:Addr) (Vd cIy:Addr) (Ve cIz:Addr) (Vf cIw:Addr) (cRE fRE:Addr) (ac aq:Addr) (ah au:Addr) (ap ci:Addr) (aa ao:Addr):Prop where
 M:Blt mg
 C:Cst K mg t1 t2 t3 t4 t5 t6 t7 t8 t9 t10 t11 t12 t13 ts
 Ua:uZ K mg "Num" Va cIu ["width"]
 Ub:uZ K mg "Nested" Vb cIv ["shape"]
 Uc:uZ K mg "Many" Vc cIx ["count","kind"]
 Ud:uZ K mg "Pick" Vd cIy ["shapes"]
 Ue:uZ K mg "Shape" Ve cIz ["name","fields"]
 Uf:uZ K mg "Shapes" Vf cIw ["shapes"]
 tRE:TXB K mg cRE fRE
 VI:aEv K
 am:TX K mg "NamedTwice" ac cRE aq ["line","name"]
 ar:TX K mg "NoShapes" ah cRE au ["line"]
 ck:TX K mg "TooMuch" ap cRE ci ["line"]
 ak:TX K mg "UnknownShape" aa cRE ao ["line","name"]
section
variable (P:vh) (w:vy) {K:Ξ}{mg:Str->Option Value}(base:vn) {t1 t2 t3 t4 t5 t6 t7 t8 t9 t10 t11 t12 t13:Tok}{ts:Addr}{Va cIu:Addr}{Vb cIv:Addr}{Vc cIx:Addr}{Vd cIy:Addr}{Ve cIz:Addr}{Vf cIw:Addr}{cRE fRE:Addr}{ac aq:Addr}{ah au:Addr}{ap ci:Addr}{aa ao:Addr}(Z:ZZ K mg t1 t2 t3 t4 t5 t6 t7 t8 t9 t10 t11 t12 t13 ts Va cIu Vb cIv Vc cIx Vd cIy Ve cIz Vf cIw cRE fRE ac aq ah au ap ci aa ao)
variable {f:Addr}{fd:sq}
include Z
theorem nK{k:Nat}(F:Fun K "is_text_of" "is_text_of" bJ f fd):jI P w K mg base CX0 (k+2) f fd ["thing","signs","most"] (lC K):=by
 w_cond nH;obtain⟨x,signs,most,rfl,h⟩:=h;refine⟨_,(jC (kS (PW.pt (oF (yM (xM (jR (vT.or lG oC) rfl M.isinstance wc (jA (pv 0) (jA (iU (v:=.ty "str") rfl M.str boot_str rfl) jB))))) (fU (yM (tT mC mC jD (jR tD rfl M.len si (jA (pv 0) jB)) (pv 2)))))) (jE (jP fG)) jY) (jE (jP (jR (tP rfl) rfl M.all boot_all (jA (qI ["sign"] ["signs"] [1] rfl (aJb (pv 0)) rfl ⟨rfl,trivial⟩ ⟨⟨rfl,rfl,rfl,_,rfl⟩,trivial⟩ (fun _ _ _ _=>(jV (i:=0) (show sw (["sign","signs"]:List Str) from by decide +kernel) rfl (sy rfl))) (fun _ _ _ _=>qG) (fun _ _ _ _=>(qW aBu (pv 0) (pv 1) (by with_unfolding_all rfl)))) jB))))),?_⟩;rcases h with⟨z,rfl,hz,q⟩|⟨t,ht,hns,q⟩
 ·have hl:=len_list z;refine⟨_,rfl,.inl ⟨_,_,"str",rfl,by decide,rfl,_,rfl,kW (by decide) ?_⟩⟩;refine⟨_,rfl,.str z,z.length,rfl,⟨small hz,rfl⟩,_,_,rfl,rfl,_,rfl,vS (fun c1=>?_) (fun c1=>?_)⟩
  ·refine⟨_,rfl,_,_,rfl,rfl,_,rfl,vS (fun c2=>?_) (fun c2=>?_)⟩
   ·have e:within z most=false:=by
     unfold within;have:decide ((z.length:Int)<=most)=false:=by simpa using c2
     rw[this,Bool.and_false]
    have:=q H (jG.refl H);rw[e,vp]at this;exact this
   ·have e:within z most=true:=by
     unfold within;have c2':decide ((z.length:Int)<=most)=true:=by simpa using c2
     rw[c2',c1];rfl
    refine⟨_,rfl,z,rfl,aCv (fun i ys H'=>H'=H/\ys=((z.cps.toList.take i).map fun c=>decide (c∈signs.cps.toList)).map V.bl) ⟨rfl,rfl⟩ (fun i ys H' _ w=>by rw[w.2,ε,ε];exact List.length_take_le ..) (kP hz) (fun i c ys H' hc w=>?_) (fun ys H' w p hp=>?_)⟩
    ·obtain⟨rfl,rfl⟩:=w;refine⟨_,rfl,_,rfl,⟨#[c]⟩,signs,rfl,rfl,⟨rfl,?_⟩,_,rfl⟩;rw[aCf (fun c=>decide (c∈signs.cps.toList)) _ i hc,ν,aIb];rfl
    ·obtain⟨rfl,rfl⟩:=w;refine⟨p,(z.cps.toList.map fun c=>decide (c∈signs.cps.toList)),rfl,SqL.of ?_,?_⟩
     ·rw[jL,←hl,wu]
     ·have:=q _ (vD hp (.lst (((z.cps.toList.take z.length).map fun c=>decide (c∈signs.cps.toList)).map V.bl)));rw[e,wg]at this;rw[all_map];exact this
  ·refine⟨_,rfl,?_⟩;have e:within z most=false:=by
    unfold within;have:decide (1<=(z.length:Int))=false:=by simpa using c1
    rw[this,vp]
   have:=q H (jG.refl H);rw[e,vp]at this;exact qP (by decide) this
 ·rcases ht with ht|⟨rfl,p,kvs,rfl,hp⟩
  ·exact⟨_,rfl,.inl ⟨x,_,t,rfl,by decide,ht,_,rfl,qP (by rw[isa3 hns];rfl) (iteT q)⟩⟩
  ·exact⟨_,rfl,.inr ⟨p,_,kvs,rfl,by decide,hp,_,rfl,qP (by decide) (iteT q)⟩⟩
theorem wD(F:Fun K "is_name" "is_name" gJ f fd)(cy:Df K mg "is_text_of" fc ec ["thing","signs","most"])(ja:jI P w K mg base CX0 k fc ec ["thing","signs","most"] (lC K)):jI P w K mg base CX0 (k+2) f fd ["thing"] (aI K):=by
 w_cond wK;obtain⟨x,rfl,h⟩:=h;refine⟨_,(jE (jP (yJ (jJ ja hr rfl cy.m cy.k cy.b .nil jQ (jA (pv 0) (jA (qC (v:=.str "abcdefghijklmnopqrstuvwxyz") rfl C.SMALL_LETTERS ⟨_,rfl⟩) (jA (qC (v:=.int 6) rfl C.MOST_LETTERS ⟨_,rfl⟩) jB)))) (zO (qW pM (pv 0) (qC (v:=.ref ts) rfl C.OWN_WORDS rfl) (by with_unfolding_all rfl)))))),?_⟩;rcases h with⟨z,rfl,hz,q⟩|⟨t,ht,hns,q⟩
 ·refine⟨_,rfl,.str z,aC,6,rfl,.inl ⟨z,rfl,hz,fun H1 g1=>⟨_,rfl,vS (fun c=>?_) (fun c=>?_)⟩⟩⟩
  ·refine⟨_,rfl,ts,_,rfl,.inr (C.words _),rfl,cV _,?_⟩;show Q (.bl (!inV (.str z) (aEx.map V.str))) H1;rw[eM];have:=q H1 g1;unfold jM at this;rw[c,wg]at this;exact this
  ·have:=q H1 g1;unfold jM at this;rw[xb.mpr c,vp]at this;exact this
 ·exact⟨_,rfl,x,aC,6,rfl,.inr ⟨t,ht,hns,⟨_,rfl,iteF (q H (jG.refl H))⟩⟩⟩
theorem pA{k:Nat}(F:Fun K "number_in" "number_in" cF f fd){fc:Addr}{ec:sq}(cy:Df K mg "is_text_of" fc ec ["thing","signs","most"])(ja:jI P w K mg base CX0 k fc ec ["thing","signs","most"] (lC K)):jI P w K mg base CX0 (k+2) f fd ["text","low","high"] (dP K):=by
 w_cond fC;obtain⟨x,lo,hi,rfl,h⟩:=h;refine⟨_,(jC (kS (yM (xM (jJ ja hr rfl cy.m cy.k cy.b .nil jQ (jA (pv 0) (jA (qC (v:=.str "0123456789") rfl C.FIGURES ⟨_,rfl⟩) (jA (qC (v:=.int 10) rfl C.MOST_FIGURES ⟨_,rfl⟩) jB)))))) (jE (jP bH)) jY) (jC (kS (PW.pt (wM (kJ qV (jU wB (pv 0) jD (fun _ _=>rfl)) jF (kH _)) (pR (kJ dI (jR tD rfl M.len si (jA (pv 0) jB)) jD (kH _))))) (jE (jP bH)) jY) (jC (kI (i:=3) fC.nd rfl (by walk_at"o") (qX bC rfl M.int boot_int (jA (pv 0) jB))) (jE (jP (tQ (tT mC mC (pv 1) (pv 3) (pv 2)) (pv 3) bH)))))),?_⟩;rcases h with⟨z,rfl,hz,q⟩|⟨t,ht,hns,q⟩
 ·have hl:=len_list z;refine⟨_,rfl,.str z,aL,10,rfl,.inl ⟨z,rfl,hz,fun H1 g1=>⟨_,rfl,vS (fun c=>?_) (fun c=>?_)⟩⟩⟩
  ·have e:aY z=none:=by
    unfold aY;rw[if_neg];intro w;rw[ub]at w;rw[w.1]at c;exact absurd c (by decide)
   have:=q H1 g1;rw[e]at this;exact this
  ·have c':(within z 10&&sJ z aL)=true:=by simpa using c
   have hw : 1<=(z.length:Int):=by
    rw[ub]at c';unfold within at c';have:=c'.1;rw[ub]at this;exact of_decide_eq_true this.1
   have hw2:(z.length:Int)<=10:=by
    rw[ub]at c';unfold within at c';have:=c'.1;rw[ub]at this;exact of_decide_eq_true this.2
   have hd:PySem.NumText.AllDigits z.cps.toList:=fun d hd=>by
    rw[ub]at c';have:=ue.mp c'.2 d hd;exact(sZ d).mp (of_decide_eq_true this)
   obtain⟨c0,hc0⟩ : ∃c0,z.cps.toList[0]?=some c0:=⟨_,θ (by omega)⟩;have at0:atI z.cps.toList 0=some c0:=by
    have:=yP (j:=0) hc0;simpa using this
   have lead:sG z=(decide (c0=48)&&decide (1<(z.length:Int))):=by
    unfold sG;rw[hc0]
    congr 1
    rw[xi];simp
   have no:sG z=true->Q .non H1:=fun w=>by
    have e:aY z=none:=by
     unfold aY;rw[if_neg];intro v;rw[ub,w]at v;exact absurd v.2 (by decide)
    have:=q H1 g1;rw[e]at this;exact this
   have yes:sG z=false->aY z=some ((PySem.NumText.digitsVal z.cps.toList:Nat):Int):=fun w=>by
    unfold aY;rw[if_pos];rw[c',w];rfl
   have hnum:=PySem.intText_digits (x:=z) hd (by intro w;rw[w]at hc0;cases hc0) (by omega);refine⟨_,rfl,z,_,c0,rfl,rfl,small hz,at0,rfl,_,rfl,?_⟩;rw[is_0];refine vS (fun c1=>?_) (fun c1=>?_)
   ·refine⟨_,rfl,.str z,z.length,rfl,⟨small hz,rfl⟩,_,_,rfl,rfl,_,rfl,vS (fun c2=>?_) (fun c2=>?_)⟩
    ·exact no (by rw[lead,c1];simpa using c2)
    ·have ey:=yes (by rw[lead,xb.mpr c2,Bool.and_false]);refine⟨_,rfl,z,_,rfl,hnum,by omega,?_⟩;refine⟨_,rfl,_,rfl,_,_,rfl,rfl,_,rfl,vS (fun d1=>⟨_,rfl,_,_,rfl,rfl,_,rfl,vS (fun d2=>⟨_,rfl,?_⟩) (fun d2=>?_)⟩) (fun d1=>⟨_,rfl,iteF ?_⟩)⟩
     ·have:=q H1 g1;rw[ey,vK,if_pos ⟨of_decide_eq_true d1,of_decide_eq_true d2⟩]at this;exact this
     ·have:=q H1 g1;rw[ey,vK,if_neg (fun w=>d2 (decide_eq_true w.2))]at this;exact this
     ·have:=q H1 g1;rw[ey,vK,if_neg (fun w=>d1 (decide_eq_true w.1))]at this;exact this
   ·have ey:=yes (by rw[lead,xb.mpr c1,vp]);refine iteF ⟨_,rfl,z,_,rfl,hnum,by omega,?_⟩;refine⟨_,rfl,_,rfl,_,_,rfl,rfl,_,rfl,vS (fun d1=>⟨_,rfl,_,_,rfl,rfl,_,rfl,vS (fun d2=>⟨_,rfl,?_⟩) (fun d2=>?_)⟩) (fun d1=>⟨_,rfl,iteF ?_⟩)⟩
    ·have:=q H1 g1;rw[ey,vK,if_pos ⟨of_decide_eq_true d1,of_decide_eq_true d2⟩]at this;exact this
    ·have:=q H1 g1;rw[ey,vK,if_neg (fun w=>d2 (decide_eq_true w.2))]at this;exact this
    ·have:=q H1 g1;rw[ey,vK,if_neg (fun w=>d1 (decide_eq_true w.1))]at this;exact this
 ·exact⟨_,rfl,x,aL,10,rfl,.inr ⟨t,ht,hns,⟨_,rfl,qP (by decide) (q H (jG.refl H))⟩⟩⟩
theorem aBc{k:Nat}(F:Fun K "joined" "joined" lF f fd):jI P w K mg base CX0 (k+2) f fd ["path","step"] mS:=by
 w_cond aBj;obtain⟨p,x,y,rfl,hy,hp,hl,q⟩:=h;refine⟨_,(jE (jP (tQ (cD (pv 0) (fun _=>rfl)) (aGi (aDc (pv 0) (aIs (aDc (pv 1) aHu)))) (aEr (pv 1))))),?_⟩;refine⟨_,rfl,_,⟨small hp,rfl⟩,vS (fun c=>?_) (fun c=>?_)⟩
 ·have hne:¬ p.length=0:=fun z=>by rw[z]at c;exact absurd c (by decide)
  have l1:(Str.empty++p).length<=ρ:=by rw[dA];exact small hp
  have l2:(Str.empty++p++δ ".").length<=ρ:=by rw[dA,rp];exact qU (by have:(δ ".").length=1:=rfl;omega)
  have l3:(Str.empty++p++δ "." ++ y).length<=ρ:=by rw[dA,rp,rp];exact qU (by have:(δ ".").length=1:=rfl;omega)
  refine⟨_,rfl,p,rfl,small hp,l1,l2,_,rfl,y,hy,small hl,l3,l3,?_⟩;rw[dA];unfold pj at q;rw[if_neg hne]at q;exact q
 ·have hne:p.length=0:=by
   by_cases z:p.length=0
   ·exact z
   ·exact absurd (show((p.length:Int) != 0)=true from bne_iff_ne.mpr (by omega)) c
  unfold pj at q;rw[if_pos hne]at q;exact⟨_,rfl,y,hy,small hl,q⟩
theorem uG{k:Nat}(F:Fun K "_law_box" "_law_box" gP f fd):jI P w K mg base CX0 (k+2) f fd ["_law_cell_here"] aGr:=by
 w_cond uT;obtain⟨c,rfl,q⟩:=h;refine⟨_,(jE (jP (kN (jA (jR (nX rfl) rfl M.max boot_max (jA jD (jA (jN oS (pv 0) (jN aIz jD jD)) jB))) (jA (jN zF (pv 0) jD) (jA jD jB)))))),?_⟩;exact⟨_,rfl,_,_,rfl,rfl,⟨by decide,by decide,by decide⟩,_,_,rfl,rfl,_,_,rfl,_,rfl,_,_,rfl,rfl,(by show(0:Int)<_;decide),cI,fun p hp=>q p _ hp ⟨⟨_,_,_,jL⟩,fun b o n e=>by rw[jW n];exact e⟩⟩
theorem tF{k:Nat}(F:Fun K "_law_take" "_law_take" eC f fd):jI P w K mg base CX0 (k+2) f fd ["_law_box_here","_law_many"] dR:=by
 w_cond zJ;obtain⟨p,m,rfl,hm,hm2,⟨a,b,c,h⟩,q⟩:=h;refine⟨_,(jC (kS (kJ dI (jU jZ (pv 0) jD (fun _ _=>rfl)) jD (kH _)) (jC (kI (i:=2) zJ.nd rfl (by walk_at"o") (jN zF (jU jZ (pv 0) jD (fun _ _=>rfl)) (pv 1))) (jC (uS (jN aAe (jU jZ (pv 0) jD (fun _ _=>rfl)) (pv 1)) (uP (pv 0) jD set_list)) (jE (jP (pv 2))))) jY) (jC (uS (jN qE (jU jZ (pv 0) jD (fun _ _=>rfl)) jD) (uP (pv 0) jD set_list)) (jC (kI (i:=3) zJ.nd rfl (by walk_at"o") (jN zF (jN aT (jN qE (jN qE (jU jZ (pv 0) jD (fun _ _=>rfl)) (jN aT jD (jU jZ (pv 0) jD (fun _ _=>rfl)))) jD) jD) jD)) (jC (kI (i:=3) zJ.nd rfl (by walk_at"o") (jN zF (jN qE (jN qE (jN aT (pv 3) (pv 3)) (jN aT jD (jU jZ (pv 0) jD (fun _ _=>rfl)))) jD) jD)) (jE (jP (jN zF (jN aAe (jN zF (jN aT (pv 3) (jN qE (pv 3) jD)) jD) jD) (pv 1)))))))),?_⟩;have nat:∀x:Int,∃v:Nat,x % m=(v:Int)/\(v:Int)<m:=fun x=>by
  have h0:=Int.emod_nonneg x (show m≠0 by omega);have h1:=Int.emod_lt_of_pos x hm;exact⟨(x % m).toNat,by omega,by omega⟩
 refine⟨_,rfl,p,_,_,_,rfl,rfl,SqL.of h,rfl,_,_,rfl,rfl,_,rfl,vS (fun cc=>?_) (fun cc=>?_)⟩
 ·refine⟨_,rfl,p,_,_,_,rfl,rfl,SqL.of h,rfl,_,rfl,_,_,rfl,rfl,hm,?_⟩;refine⟨_,rfl,p,_,_,_,rfl,rfl,SqL.of h,rfl,_,rfl,_,_,rfl,rfl,⟨hm,hm2⟩,_,rfl,p,_,_,0,rfl,rfl,h,rfl,?_⟩;obtain⟨v,hv,hl⟩:=nat a;refine⟨_,rfl,?_⟩;show Q (.int (a % m)) _;rw[hv];exact q v _ hl ⟨⟨_,_,_,jL⟩,fun b' o n e=>by rw[jW n];exact e⟩
 ·refine⟨_,rfl,p,_,_,_,rfl,rfl,SqL.of h,rfl,_,_,rfl,rfl,_,rfl,p,_,_,2,rfl,rfl,h,rfl,?_⟩;have h1:upd H p (.lst [.int a,.int b,.int (c+1)]) p=some (.lst [.int a,.int b,.int (c+1)]):=jL;refine⟨_,rfl,p,_,_,_,rfl,rfl,SqL.of h1,rfl,_,rfl,p,_,_,_,rfl,rfl,SqL.of h1,rfl,_,_,rfl,rfl,.inl ⟨by omega,by omega⟩,_,_,rfl,rfl,_,_,rfl,rfl,_,_,rfl,rfl,.inr ⟨by omega,by omega⟩,_,_,rfl,rfl,(by show(0:Int)<_;decide),?_⟩;refine⟨_,rfl,_,rfl,_,_,rfl,rfl,.inl ⟨by omega,by omega⟩,_,rfl,p,_,_,_,rfl,rfl,SqL.of h1,rfl,_,_,rfl,rfl,.inl ⟨by omega,by omega⟩,_,_,rfl,rfl,_,_,rfl,rfl,_,_,rfl,rfl,(by show(0:Int)<_;decide),?_⟩;refine⟨_,rfl,_,rfl,_,_,rfl,rfl,_,_,rfl,rfl,.inl ⟨by omega,by omega⟩,_,_,rfl,rfl,(by show(0:Int)<_;decide),_,_,rfl,rfl,⟨by decide,by decide⟩,_,rfl,_,_,rfl,rfl,hm,?_⟩;dsimp only;generalize hz:(_ % m:Int)=z;obtain⟨v,hv,hl⟩:=nat (((((((b+7919*(c+1)+17)*48271 % 2147483629)*((b+7919*(c+1)+17)*48271 % 2147483629)+16807*(c+1)+3) % 2147483587)*(((((b+7919*(c+1)+17)*48271 % 2147483629)*((b+7919*(c+1)+17)*48271 % 2147483629)+16807*(c+1)+3) % 2147483587)+11)) % 2147483647) / 8);rw[←hz,hv];exact q v _ hl ⟨⟨_,_,_,jL⟩,fun b' o n e=>by rw[jW n];exact e⟩
theorem tO{k:Nat}(F:Fun K "_law_cell" "_law_cell" eB f fd):jI P w K mg base CX0 (k+2) f fd ["_law_script","_law_k"] (aCg K):=by
 w_cond rR;obtain⟨a,ns,k,rfl,hS,hk0,hk1,q⟩:=h;refine⟨_,(jC (kS (kJ aDn (pv 1) (jR jX rfl M.len si (jA (pv 0) jB)) (kH _)) (jE (jP (jU jZ (pv 0) (pv 1) (fun _ _=>rfl)))) jY) (jE (jP (jN qE (jN aT jD (pv 1)) jD)))),?_⟩;have hl:(ns.map V.int).length=ns.length:=ε _;refine⟨_,rfl,_,rfl,a,_,rfl,.inl hS,_,_,rfl,rfl,_,rfl,?_⟩;refine vS (fun c=>?_) (fun c=>?_)
 ·have c':k<(((ns.map V.int).length:Nat):Int):=of_decide_eq_true c;rw[hl]at c';obtain⟨v,hv⟩:=aEq ns hk0 c';exact⟨_,rfl,_,rfl,a,_,_,_,rfl,rfl,hS,hv,q _⟩
 ·exact⟨_,rfl,_,_,rfl,rfl,.inl ⟨by omega,by omega⟩,_,_,rfl,rfl,q _⟩
theorem gU{k:Nat}(F:Fun K "is_shape_line" "is_shape_line" yC f fd){bq:Addr}{bh:sq}(bb:Df K mg "is_name" bq bh ["thing"])(de:jI P w K mg base CX0 k bq bh ["thing"] (aI K)):jI P w K mg base CX0 (k+2) f fd ["words"] (aGt K):=by
 w_cond gT;obtain⟨a,ws,rfl,hw,q⟩:=h;refine⟨_,(jE (jP (yJ (qW qV (jR jX rfl M.len si (jA (pv 0) jB)) jD (kH _)) (yJ (qW qV (jU jZ (pv 0) jD (fun _ _=>rfl)) jF (kH _)) (zO (jJ de hr rfl bb.m bb.k bb.b .nil jQ (jA (jU jZ (pv 0) jD (fun _ _=>rfl)) jB))))))),?_⟩;refine⟨_,rfl,a,_,rfl,.inl hw.l,rfl,_,rfl,?_⟩
 match ws,hw,q with
 |[],hw,q=>exact kW (by decide) (q _ (jG.refl _))
 |[x],hw,q=>exact kW (by simp) (q _ (jG.refl _))
 |x::y::z::r,hw,q=>exact kW (by simp;omega) (q _ (jG.refl _))
 |[x,y],hw,q =>
  refine qP (by simp) ⟨_,rfl,a,_,_,_,rfl,rfl,hw.l,rfl,rfl,_,rfl,vS (fun c=>?_) (fun c=>?_)⟩
  ·refine⟨_,rfl,a,_,_,_,rfl,rfl,hw.l,rfl,.str y,rfl,.inl ⟨y,rfl,hw.s y (by simp),fun H1 g1=>?_⟩⟩;have e:fE [x,y]=jM y:=by
    show(decide (x=δ "shape")&&jM y)=_;rw[decide_eq_true (show x=δ "shape" from by simpa using c),wg]
   have:=q H1 g1;rw[e]at this;exact this
  ·have e:fE [x,y]=false:=by
    show(decide (x=δ "shape")&&jM y)=_;rw[decide_eq_false (show ¬ x=δ "shape" from by simpa using c),vp]
   have:=q _ (jG.refl _);rw[e]at this;exact this
theorem gV{k:Nat}(F:Fun K "size" "Num.size" eA f fd):jI P w K mg base CX0 (k+2) f fd ["self"] (spV (Cl5.mk Va Vb Vc Vd Ve) K r Kd.isNum vSz):=by
 w_cond rG;obtain⟨a,kd,sa,S,rfl,hF,hk,hf,ho,hw,hg,q⟩:=h;refine⟨_,(jE (jP (vB (pv 0) rfl))),?_⟩;cases id ho with
 |num h1 =>
  exact⟨_,rfl,a,Va,_,_,_,rfl,h1,Ua.cl,Ua.na _ (by decide),rfl,q _ (jG.refl _)⟩
 |_=>cases hF
theorem mB(F:Fun K "size" "Nested.size" zV f fd)(cp:DfM K Ve "size" cm ce ["self"])(fg:jI P w K mg base CX0 k cm ce ["self"] (gY (Cl5.mk Va Vb Vc Vd Ve) K r sSz)):jI P w K mg base CX0 (k+2) f fd ["self"] (spV (Cl5.mk Va Vb Vc Vd Ve) K (r+1) Kd.isNest vSz):=by
 w_cond lK;obtain⟨a,kd,sa,S,rfl,hF,hk,hf,ho,hw,hg,q⟩:=h;refine⟨_,(jE (jP (xS (vB (pv 0) rfl) Ue.cl cp.me fg hr cp.b .nil jQ))),?_⟩;cases id ho with
 | @nest a dx s i e h1 =>
  obtain⟨sh,hs,dx2,t,ps,h2,_⟩:=hw.at e;exact⟨_,rfl,a,Vb,_,_,_,rfl,h1,Ub.cl,Ub.na _ (by decide),rfl,s,dx2,_,rfl,h2,rfl,s,i,sa,S,rfl,e,(by have : 2*i+2<=r+1:=hk;omega),hw,hg,q⟩
 |_=>cases hF
theorem dJ{k r:Nat}(F:Fun K "size" "Shape.size" aV f fd)(ol:∀C sp,TV (Cl5.mk Va Vb Vc Vd Ve) K r vSz C sp->bP P w K mg base CX0 k "size" C sp):jI P w K mg base CX0 (k+2) f fd ["self"] (gY (Cl5.mk Va Vb Vc Vd Ve) K r sSz):=by
 w_cond nN;obtain⟨a,i,sa,S,rfl,e,hi,hw,hg,q⟩:=h;refine⟨_,(jE (jP (jR (rP rfl) rfl M.sum (show yi "sum" = some (.builtin "sum") from by decide +kernel) (jA (qI ["name","kind"] [] [] rfl (mJ (vB (pv 0) rfl)) rfl trivial trivial (fun _ _ _ _=>(dF (K:=K) (n:=2) rfl rfl (kL (jV (i:=0) (show sw (["name","kind"]:List Str) from by decide +kernel) rfl (sy rfl)) (kL (jV (i:=1) (show sw (["name","kind"]:List Str) from by decide +kernel) rfl (sy rfl)) vL)))) (fun _ _ _ _=>qG) (fun _ _ _ _=>(aK (pv 1) ol hr jQ))) jB)))),?_⟩;obtain⟨s,hS,so⟩:=hw.at e;obtain⟨dx,t,ps,k1,k2,k3⟩:=so.fields;have zl:(ps.map V.ref).length=s.2.length:=by rw[ε];exact k3.len
 have hfit:=hg.fit i s hS;have htab:=gK hS fun f hf=>(hfit f hf).1.below;have hil:i<S.length:=(η.mp hS).1;refine⟨_,rfl,a,Ve,_,_,_,rfl,k1,Ue.cl,Ue.na _ (by decide),rfl,t,rfl,⟨_,k2⟩,cS (xs:=ps.map V.ref) (fun j ys H'=>jG H H'/\ys=((s.2.take j).map fun f=>V.int (vSz f.2 (tabs S)))) ⟨jG.refl _,rfl⟩ (fun j ys H' _ z=>⟨z.1.tp k2,by rw[z.2,ε,rh];exact uz _ _⟩) (kP (by have:=hg.few i s hS;omega)) (fun j x ys H' os ho hx z=>?_) (fun ys H' z p hp=>?_)⟩
 ·obtain⟨g,rfl⟩:=z;obtain⟨o1,o2,rfl⟩:=tW ho;obtain⟨u,hu,rfl⟩:=qJ hx;obtain⟨x,y,kd,k,hf,ht,_,hko⟩:=k3.get hu;have hm:=hfit _ (ψ hf);exact⟨u,_,rfl,g.tp ht,rfl,_,_,rfl,_,_,rfl,rfl,_,rfl,wZ (uJ (by simp)) (hm.1.rk.mono hi) (hm.1.mono (wk hil)) (hko.same g) (hw.same g) hg fun H2 g2=>⟨⟨g.trans g2,(qY hf).symm⟩,[_,_],rfl,rfl⟩⟩
 ·obtain⟨g,rfl⟩:=z;have g2:=vD hp (.lst ((s.2.take (ps.map V.ref).length).map fun f=>V.int (vSz f.2 (tabs S))));have kp:upd H' p (.lst ((s.2.take (ps.map V.ref).length).map fun f=>V.int (vSz f.2 (tabs S)))) p=some (.lst (((s.2.map fun f=>vSz f.2 (tabs S)).map fun n:Nat=>(n:Int)).map V.int)):=by
   rw[jL,zl,qQ,sx,sx];rfl
  have q':=q _ (g.trans g2);refine⟨p,(s.2.map fun f=>vSz f.2 (tabs S)).map fun n:Nat=>(n:Int),rfl,SqL.of kp,?_⟩;rw[sumI];rw[show sSz i (tabs S)=(s.2.map fun f=>vSz f.2 (tabs S)).sum from htab.1]at q';exact q'
theorem eY{k:Nat}(F:Fun K "depth" "Num.depth" bZ f fd):jI P w K mg base CX0 (k+2) f fd ["self"] (spV (Cl5.mk Va Vb Vc Vd Ve) K r Kd.isNum vDp):=by
 w_cond pP;obtain⟨a,kd,sa,S,rfl,hF,hk,hf,ho,hw,hg,q⟩:=h;refine⟨_,(jE (jP jD)),?_⟩;cases id ho with
 |num h1 =>
  exact q _ (jG.refl _)
 |_=>cases hF
theorem iQ(F:Fun K "depth" "Nested.depth" yV f fd)(cg:DfM K Ve "depth" cf bu ["self"])(eh:jI P w K mg base CX0 k cf bu ["self"] (gY (Cl5.mk Va Vb Vc Vd Ve) K r sDp)):jI P w K mg base CX0 (k+2) f fd ["self"] (spV (Cl5.mk Va Vb Vc Vd Ve) K (r+1) Kd.isNest vDp):=by
 w_cond iE;obtain⟨a,kd,sa,S,rfl,hF,hk,hf,ho,hw,hg,q⟩:=h;refine⟨_,(jE (jP (xS (vB (pv 0) rfl) Ue.cl cg.me eh hr cg.b .nil jQ))),?_⟩;cases id ho with
 | @nest a dx s i e h1 =>
  obtain⟨sh,hs,dx2,t,ps,h2,_⟩:=hw.at e;exact⟨_,rfl,a,Vb,_,_,_,rfl,h1,Ub.cl,Ub.na _ (by decide),rfl,s,dx2,_,rfl,h2,rfl,s,i,sa,S,rfl,e,(by have : 2*i+2<=r+1:=hk;omega),hw,hg,q⟩
 |_=>cases hF
theorem bV{k r:Nat}(F:Fun K "depth" "Shape.depth" zS f fd)(nk:∀C sp,TV (Cl5.mk Va Vb Vc Vd Ve) K r vDp C sp->bP P w K mg base CX0 k "depth" C sp):jI P w K mg base CX0 (k+2) f fd ["self"] (gY (Cl5.mk Va Vb Vc Vd Ve) K r sDp):=by
 w_cond mK;obtain⟨a,i,sa,S,rfl,e,hi,hw,hg,q⟩:=h;refine⟨_,(jE (jP (jN qE jD (jR (yR rfl) rfl M.max boot_max (jA (qI ["name","kind"] [] [] rfl (mJ (vB (pv 0) rfl)) rfl trivial trivial (fun _ _ _ _=>(dF (K:=K) (n:=2) rfl rfl (kL (jV (i:=0) (show sw (["name","kind"]:List Str) from by decide +kernel) rfl (sy rfl)) (kL (jV (i:=1) (show sw (["name","kind"]:List Str) from by decide +kernel) rfl (sy rfl)) vL)))) (fun _ _ _ _=>qG) (fun _ _ _ _=>(aK (pv 1) nk hr jQ))) jB))))),?_⟩;obtain⟨s,hS,so⟩:=hw.at e;obtain⟨dx,t,ps,k1,k2,k3⟩:=so.fields;have zl:(ps.map V.ref).length=s.2.length:=by rw[ε];exact k3.len
 have hfit:=hg.fit i s hS;have htab:=gK hS fun f hf=>(hfit f hf).1.below;have hil:i<S.length:=(η.mp hS).1;refine⟨_,rfl,a,Ve,_,_,_,rfl,k1,Ue.cl,Ue.na _ (by decide),rfl,t,rfl,⟨_,k2⟩,cS (xs:=ps.map V.ref) (fun j ys H'=>jG H H'/\ys=((s.2.take j).map fun f=>V.int (vDp f.2 (tabs S)))) ⟨jG.refl _,rfl⟩ (fun j ys H' _ z=>⟨z.1.tp k2,by rw[z.2,ε,rh];exact uz _ _⟩) (kP (by have:=hg.few i s hS;omega)) (fun j x ys H' os ho hx z=>?_) (fun ys H' z p hp=>?_)⟩
 ·obtain⟨g,rfl⟩:=z;obtain⟨o1,o2,rfl⟩:=tW ho;obtain⟨u,hu,rfl⟩:=qJ hx;obtain⟨x,y,kd,k,hf,ht,_,hko⟩:=k3.get hu;have hm:=hfit _ (ψ hf);exact⟨u,_,rfl,g.tp ht,rfl,_,_,rfl,_,_,rfl,rfl,_,rfl,wZ (uJ (by simp)) (hm.1.rk.mono hi) (hm.1.mono (wk hil)) (hko.same g) (hw.same g) hg fun H2 g2=>⟨⟨g.trans g2,(qY hf).symm⟩,[_,_],rfl,rfl⟩⟩
 ·obtain⟨g,rfl⟩:=z;have g2:=vD hp (.lst ((s.2.take (ps.map V.ref).length).map fun f=>V.int (vDp f.2 (tabs S))));have kp:upd H' p (.lst ((s.2.take (ps.map V.ref).length).map fun f=>V.int (vDp f.2 (tabs S)))) p=some (.lst (((s.2.map fun f=>vDp f.2 (tabs S)).map fun n:Nat=>(n:Int)).map V.int)):=by
   rw[jL,zl,qQ,sx,sx];rfl
  have q':=q _ (g.trans g2);refine⟨p,(s.2.map fun f=>vDp f.2 (tabs S)).map fun n:Nat=>(n:Int),rfl,SqL.of kp,(by simpa using hg.ne i s hS),fun m h1 h2=>?_⟩;rw[aBi h1 h2];refine⟨_,_,rfl,rfl,?_⟩;rw[show sDp i (tabs S)=1+xE (s.2.map fun f=>vDp f.2 (tabs S)) from htab.2.1,yw]at q';exact q'
theorem oR(F:Fun K "size" "Many.size" bX f fd)(ol:∀C sp,TV (Cl5.mk Va Vb Vc Vd Ve) K r vSz C sp->bP P w K mg base CX0 k "size" C sp):jI P w K mg base CX0 (k+2) f fd ["self"] (spV (Cl5.mk Va Vb Vc Vd Ve) K (r+1) Kd.isMany vSz):=by
 w_cond pV;obtain⟨a,kd,sa,S,rfl,hF,hk,hf,ho,hw,hg,q⟩:=h;refine⟨_,(jE (jP (jN aT (vB (pv 0) rfl) (aK (vB (pv 0) rfl) ol hr jQ)))),?_⟩;cases id ho with
 | @many a dx b n k h1 h2 =>
  refine⟨_,rfl,a,Vc,_,_,_,rfl,h1,Uc.cl,Uc.na _ (by decide),rfl,_,rfl,a,Vc,_,_,_,rfl,h1,Uc.cl,Uc.na _ (by decide),rfl,wZ (uJ (by simp)) hk.sub hf.sub h2 hw hg fun H' g=>⟨_,_,rfl,rfl,.inl ⟨by have:=hf.2.1;omega,by have:=hf.2.1;omega⟩,?_⟩⟩;have q':=q H' g;rw[show vSz (Kd.many n k) (tabs S)=n*vSz k (tabs S) from rfl,Int.natCast_mul]at q';exact q'
 |_=>cases hF
theorem nC(F:Fun K "depth" "Many.depth" bG f fd)(nk:∀C sp,TV (Cl5.mk Va Vb Vc Vd Ve) K r vDp C sp->bP P w K mg base CX0 k "depth" C sp):jI P w K mg base CX0 (k+2) f fd ["self"] (spV (Cl5.mk Va Vb Vc Vd Ve) K (r+1) Kd.isMany vDp):=by
 w_cond nA;obtain⟨a,kd,sa,S,rfl,hF,hk,hf,ho,hw,hg,q⟩:=h;refine⟨_,(jE (jP (aK (vB (pv 0) rfl) nk hr jQ))),?_⟩;cases id ho with
 | @many a dx b n k h1 h2 =>
  exact⟨_,rfl,a,Vc,_,_,_,rfl,h1,Uc.cl,Uc.na _ (by decide),rfl,wZ (uJ (by simp)) hk.sub hf.sub h2 hw hg q⟩
 |_=>cases hF
theorem aE{k r:Nat}(F:Fun K "greatest" "Pick.greatest" yI f fd){cm:Addr}{ce:sq}(cp:DfM K Ve "size" cm ce ["self"])(fg:jI P w K mg base CX0 k cm ce ["self"] (gY (Cl5.mk Va Vb Vc Vd Ve) K r sSz)):jI P w K mg base CX0 (k+2) f fd ["self"] (spGr (Cl5.mk Va Vb Vc Vd Ve) K (r+1)):=by
 w_cond fS;obtain⟨a,is,sa,S,rfl,hk,hf,ho,hw,hg,q⟩:=h;refine⟨_,(jE (jP (jR (yR rfl) rfl M.max boot_max (jA (qI ["shape"] [] [] rfl (mJ (vB (pv 0) rfl)) rfl trivial trivial (fun _ _ _ _=>(jV (i:=0) (show sw (["shape"]:List Str) from by decide +kernel) rfl (sy rfl))) (fun _ _ _ _=>qG) (fun _ _ _ _=>(xS (pv 0) Ue.cl cp.me fg hr cp.b .nil jQ))) jB)))),?_⟩;obtain⟨dx,t,ss,h1,h2,h3,h4⟩ : ∃(dx t:Addr) (ss:List Addr),H a=some (.ins Vd dx [("shapes",.ref t)])/\SqT K H t (ss.map V.ref)/\ss.length=is.length/\∀(j i:Nat) (s:Addr),is[j]?=some i->ss[j]?=some s->sa[i]?=some s:=by
  cases ho with
  |pick h1 h2 h3 h4=>exact⟨_,_,_,h1,h2,h3,h4⟩
 have zl:(ss.map V.ref).length=is.length:=by rw[ε];exact h3
 refine⟨_,rfl,a,Vd,_,_,_,rfl,h1,Ud.cl,Ud.na _ (by decide),rfl,t,rfl,⟨_,h2⟩,rM (xs:=ss.map V.ref) (fun j ys H'=>jG H H'/\ys=((is.take j).map fun i=>V.int (sSz i (tabs S)))) ⟨jG.refl _,rfl⟩ (fun j ys H' _ z=>⟨z.1.tp h2,by rw[z.2,ε,rh];exact uz _ _⟩) (kP (by have:=hf.2.1;omega)) (fun j x ys H' hx z=>?_) (fun ys H' z p hp=>?_)⟩
 ·obtain⟨g,rfl⟩:=z;obtain⟨s,hs,rfl⟩:=qJ hx;have hj:j<is.length:=by rw[←h3];exact(η.mp hs).1
  have hi:is[j]?=some is[j]:=θ hj;have e:=h4 j _ s hi hs;obtain⟨sh,hS,dx2,t2,ps,k2,_⟩:=hw.at e;exact⟨_,rfl,s,dx2,_,rfl,g _ _ k2,rfl,s,is[j],sa,S,rfl,e,(by have:=hk _ (zo hj);omega),hw.same g,hg,fun H2 g2=>⟨⟨g.trans g2,(qY hi).symm⟩,_,rfl⟩⟩
 ·obtain⟨g,rfl⟩:=z;have g2:=vD hp (.lst ((is.take (ss.map V.ref).length).map fun i=>V.int (sSz i (tabs S))));have kp:upd H' p (.lst ((is.take (ss.map V.ref).length).map fun i=>V.int (sSz i (tabs S)))) p=some (.lst (((is.map fun i=>sSz i (tabs S)).map fun n:Nat=>(n:Int)).map V.int)):=by
   rw[jL,zl,qQ,sx,sx];rfl
  have q':=q _ (g.trans g2);refine⟨p,(is.map fun i=>sSz i (tabs S)).map fun n:Nat=>(n:Int),rfl,SqL.of kp,(by have:=hf.1;intro z;rw[sx,List.map_eq_nil_iff]at z;rw[z]at this;exact absurd this (by decide)),fun m h5 h6=>?_⟩;rw[aBi h5 h6];exact q'
theorem nP{k r:Nat}(F:Fun K "depth" "Pick.depth" aZ f fd){cf:Addr}{bu:sq}(cg:DfM K Ve "depth" cf bu ["self"])(eh:jI P w K mg base CX0 k cf bu ["self"] (gY (Cl5.mk Va Vb Vc Vd Ve) K r sDp)):jI P w K mg base CX0 (k+2) f fd ["self"] (spV (Cl5.mk Va Vb Vc Vd Ve) K (r+1) Kd.isPick vDp):=by
 w_cond nI;obtain⟨a,kd,sa,S,rfl,hF,hk,hf,ho,hw,hg,q⟩:=h;refine⟨_,(jE (jP (jR (yR rfl) rfl M.max boot_max (jA (qI ["shape"] [] [] rfl (mJ (vB (pv 0) rfl)) rfl trivial trivial (fun _ _ _ _=>(jV (i:=0) (show sw (["shape"]:List Str) from by decide +kernel) rfl (sy rfl))) (fun _ _ _ _=>qG) (fun _ _ _ _=>(xS (pv 0) Ue.cl cg.me eh hr cg.b .nil jQ))) jB)))),?_⟩;obtain⟨is,dx,t,ss,rfl,h1,h2,h3,h4⟩ : ∃(is:List Nat) (dx t:Addr) (ss:List Addr),kd=.pick is/\H a=some (.ins Vd dx [("shapes",.ref t)])/\SqT K H t (ss.map V.ref)/\ss.length=is.length/\∀(j i:Nat) (s:Addr),is[j]?=some i->ss[j]?=some s->sa[i]?=some s:=by
  cases ho with
  |pick h1 h2 h3 h4=>exact⟨_,_,_,_,rfl,h1,h2,h3,h4⟩
  |_=>cases hF
 have zl:(ss.map V.ref).length=is.length:=by rw[ε];exact h3
 refine⟨_,rfl,a,Vd,_,_,_,rfl,h1,Ud.cl,Ud.na _ (by decide),rfl,t,rfl,⟨_,h2⟩,rM (xs:=ss.map V.ref) (fun j ys H'=>jG H H'/\ys=((is.take j).map fun i=>V.int (sDp i (tabs S)))) ⟨jG.refl _,rfl⟩ (fun j ys H' _ z=>⟨z.1.tp h2,by rw[z.2,ε,rh];exact uz _ _⟩) (kP (by have:=hf.2.1;omega)) (fun j x ys H' hx z=>?_) (fun ys H' z p hp=>?_)⟩
 ·obtain⟨g,rfl⟩:=z;obtain⟨s,hs,rfl⟩:=qJ hx;have hj:j<is.length:=by rw[←h3];exact(η.mp hs).1
  have hi:is[j]?=some is[j]:=θ hj;have e:=h4 j _ s hi hs;obtain⟨sh,hS,dx2,t2,ps,k2,_⟩:=hw.at e;exact⟨_,rfl,s,dx2,_,rfl,g _ _ k2,rfl,s,is[j],sa,S,rfl,e,(by have:=hk _ (zo hj);omega),hw.same g,hg,fun H2 g2=>⟨⟨g.trans g2,(qY hi).symm⟩,_,rfl⟩⟩
 ·obtain⟨g,rfl⟩:=z;have g2:=vD hp (.lst ((is.take (ss.map V.ref).length).map fun i=>V.int (sDp i (tabs S))));have kp:upd H' p (.lst ((is.take (ss.map V.ref).length).map fun i=>V.int (sDp i (tabs S)))) p=some (.lst (((is.map fun i=>sDp i (tabs S)).map fun n:Nat=>(n:Int)).map V.int)):=by
   rw[jL,zl,qQ,sx,sx];rfl
  have q':=q _ (g.trans g2);refine⟨p,(is.map fun i=>sDp i (tabs S)).map fun n:Nat=>(n:Int),rfl,SqL.of kp,(by have:=hf.1;intro z;rw[sx,List.map_eq_nil_iff]at z;rw[z]at this;exact absurd this (by decide)),fun m h5 h6=>?_⟩;rw[aBi h5 h6];exact q'
theorem oN{r:Nat}(F:Fun K "size" "Pick.size" cJ f fd)(dg:DfM K Vd "greatest" df cz ["self"])(gq:jI P w K mg base CX0 k df cz ["self"] (spGr (Cl5.mk Va Vb Vc Vd Ve) K (r+1))):jI P w K mg base CX0 (k+2) f fd ["self"] (spV (Cl5.mk Va Vb Vc Vd Ve) K (r+1) Kd.isPick vSz):=by
 w_cond pK;obtain⟨a,kd,sa,S,rfl,hF,hk,hf,ho,hw,hg,q⟩:=h;refine⟨_,(jE (jP (jN qE jD (xS (pv 0) Ud.cl dg.me gq hr dg.b .nil jQ)))),?_⟩;cases id ho with
 | @pick a dx t is ss h1 h2 h3 h4 =>
  refine⟨_,rfl,a,dx,_,rfl,h1,rfl,a,is,sa,S,rfl,hk,hf,ho,hw,hg,fun H' g=>⟨_,_,rfl,rfl,?_⟩⟩;have q':=q H' g;rw[show vSz (Kd.pick is) (tabs S)=1+xE (is.map fun i=>(tabs S).sz.getD i 0) from rfl,yw]at q';exact q'
 |_=>cases hF
theorem rL{k:Nat}(F:Fun K "__init__" "Num.__init__" dW f fd):jI P w K mg base CX0 (k+2) f fd ["self","width"] (aCn Va "width"):=by
 w_cond rW;obtain⟨a,dx,v,H1,rfl,hA,g,h0,q⟩:=h;refine⟨_,(jE (cA (pv 0) (pv 1) rfl)),?_⟩;exact⟨_,rfl,_,rfl,a,Va,dx,[],rfl,hA,Ua.cl,Ua.na _ (by decide),by decide,q _ (g.putn h0) jL⟩
theorem lA{k:Nat}(F:Fun K "__init__" "Nested.__init__" zQ f fd):jI P w K mg base CX0 (k+2) f fd ["self","shape"] (aCn Vb "shape"):=by
 w_cond mV;obtain⟨a,dx,v,H1,rfl,hA,g,h0,q⟩:=h;refine⟨_,(jE (cA (pv 0) (pv 1) rfl)),?_⟩;exact⟨_,rfl,_,rfl,a,Vb,dx,[],rfl,hA,Ub.cl,Ub.na _ (by decide),by decide,q _ (g.putn h0) jL⟩
theorem pL{k:Nat}(F:Fun K "__init__" "Many.__init__" cM f fd):jI P w K mg base CX0 (k+2) f fd ["self","count","kind"] (spI2 Vc "count" "kind"):=by
 w_cond pW;obtain⟨a,dx,v,u,H1,rfl,hA,g,h0,q⟩:=h;refine⟨_,(jC (cA (pv 0) (pv 1) rfl) (jE (cA (pv 0) (pv 2) rfl))),?_⟩;exact⟨_,rfl,_,rfl,a,Vc,dx,[],rfl,hA,Uc.cl,Uc.na _ (by decide),by decide,_,rfl,_,rfl,a,Vc,dx,_,rfl,jL,Uc.cl,Uc.na _ (by decide),(by show 1<1000;decide),q _ ((g.putn h0).putn h0) jL⟩
theorem oW{k:Nat}(F:Fun K "__init__" "Pick.__init__" bT f fd):jI P w K mg base CX0 (k+2) f fd ["self","shapes"] (spIT K Vd "shapes"):=by
 w_cond oU;obtain⟨a,dx,l,ys,H1,rfl,hA,g,h0,hl,q⟩:=h;refine⟨_,(jE (cA (pv 0) (qX zX rfl M.tuple boot_tuple (jA (pv 1) jB)) rfl)),?_⟩;refine⟨_,rfl,l,ys,rfl,.inl ⟨g.seq hl,fun t ht=>?_⟩⟩;clear 1 t H2 g2 k2 ht;exact⟨_,rfl,a,Vd,dx,[],rfl,g2 _ _ hA,Ud.cl,Ud.na _ (by decide),by decide,q t _ ((g.trans g2).putn h0) jL (SqT.of (by rw[jW (va (jK hA ht))];exact k2))⟩
theorem lS{k:Nat}(F:Fun K "__init__" "Shapes.__init__" zM f fd):jI P w K mg base CX0 (k+2) f fd ["self","shapes"] (spIT K Vf "shapes"):=by
 w_cond mI;obtain⟨a,dx,l,ys,H1,rfl,hA,g,h0,hl,q⟩:=h;refine⟨_,(jE (cA (pv 0) (qX zX rfl M.tuple boot_tuple (jA (pv 1) jB)) rfl)),?_⟩;refine⟨_,rfl,l,ys,rfl,.inl ⟨g.seq hl,fun t ht=>?_⟩⟩;clear 1 t H2 g2 k2 ht;exact⟨_,rfl,a,Vf,dx,[],rfl,g2 _ _ hA,Uf.cl,Uf.na _ (by decide),by decide,q t _ ((g.trans g2).putn h0) jL (SqT.of (by rw[jW (va (jK hA ht))];exact k2))⟩
theorem bM{k:Nat}(F:Fun K "units_at" "Num.units_at" yX f fd):jI P w K mg base CX0 (k+2) f fd ["self","path"] (spU (Cl5.mk Va Vb Vc Vd Ve) K r Kd.isNum):=by
 w_cond iI;obtain⟨a,p,kd,sa,S,rfl,hp,hF,hk,hf,ho,hw,hg,q⟩:=h;refine⟨_,(jE (jP (kN (jA (jT (jA (pv 1) (jA (vB (pv 0) rfl) (jA jF jB)))) jB)))),?_⟩;cases id ho with
 |num h1 =>
  refine⟨_,rfl,_,rfl,a,Va,_,_,_,rfl,h1,Ua.cl,Ua.na _ (by decide),rfl,cI,fun t ht=>?_⟩;clear 1 t H1 g1 k1 ht;refine⟨bI,fun l hl=>?_⟩;clear 1 l H2 g2 k2 hl;exact q l H2 (g1.trans g2) (g1.free hl) ⟨[t],k2,.cons (g2.tp (SqT.of k1)) .nil⟩
 |_=>cases hF
theorem gM{r:Nat}(F:Fun K "units_at" "Pick.units_at" yD f fd)(gn:Df K mg "joined" jb ip ["path","step"])(nq:jI P w K mg base CX0 k jb ip ["path","step"] mS)(dg:DfM K Vd "greatest" df cz ["self"])(gq:jI P w K mg base CX0 k df cz ["self"] (spGr (Cl5.mk Va Vb Vc Vd Ve) K (r+1))):jI P w K mg base CX0 (k+2) f fd ["self","path"] (spU (Cl5.mk Va Vb Vc Vd Ve) K (r+1) Kd.isPick):=by
 w_cond fP;obtain⟨a,p,kd,sa,S,rfl,hp,hF,hk,hf,ho,hw,hg,q⟩:=h;refine⟨_,(jE (jP (kN (jA (jT (jA (jJ nq hr rfl gn.m gn.k gn.b .nil jQ (jA (pv 1) (jA jF jB))) (jA jD (jA jF jB)))) (jA (jT (jA (pv 1) (jA (xS (pv 0) Ud.cl dg.me gq hr dg.b .nil jQ) (jA jF jB)))) jB))))),?_⟩;cases id ho with
 | @pick a dx t is ss h1 h2 h3 h4 =>
  refine⟨_,rfl,p,_,_,rfl,rfl,(by omega),(by decide),cI,fun t1 ht1=>?_⟩;clear 1 t1 H1 g1 k1 ht1;refine⟨_,rfl,_,rfl,a,dx,_,rfl,g1 _ _ h1,rfl,a,is,sa,S,rfl,hk,hf,ho.same g1,hw.same g1,hg,fun H2 g2=>⟨cI,fun t2 ht2=>?_⟩⟩;clear 1 t2 H3 g3 k3 ht2;refine⟨qA,fun l hl=>?_⟩;clear 1 l H4 g4 k4 hl;exact q l H4 (((g1.trans g2).trans g3).trans g4) (((g1.trans g2).trans g3).free hl) ⟨[t1,t2],k4,.cons (((g2.trans g3).trans g4).tp (SqT.of k1)) (.cons (g4.tp (SqT.of k3)) .nil)⟩
 |_=>cases hF
theorem fZ{k:Nat}(F:Fun K "parted" "Nested.parted" yF f fd):jI P w K mg base CX0 (k+2) f fd ["self"] (spP (Cl5.mk Va Vb Vc Vd Ve) K Kd.isNest):=by
 w_cond fY;obtain⟨a,kd,sa,S,rfl,hF,hf,ho,hw,hg,q⟩:=h;refine⟨_,(jE (jP (qX pJ rfl M.list boot_list (jA (vB (vB (pv 0) rfl) rfl) jB)))),?_⟩;cases id ho with
 | @nest a dx s i e h1 =>
  obtain⟨sh,hs,so⟩:=hw.at e;obtain⟨dx2,t,ps,k1,k2,k3⟩:=so.fields;refine⟨_,rfl,a,Vb,_,_,_,rfl,h1,Ub.cl,Ub.na _ (by decide),rfl,s,Ve,_,_,_,rfl,k1,Ue.cl,Ue.na _ (by decide),rfl,t,_,rfl,.inr k2,fun l hl=>?_⟩;clear 1 l H1 g1 kl hl;refine q l H1 g1 hl ⟨ps,kl,?_⟩;rw[show(Kd.nest i).parts S=sh.2 by show(S.getD i _).2=_;rw[Θ,hs];rfl];exact k3.same g1
 |_=>cases hF
theorem lL{k:Nat}(F:Fun K "parted" "Many.parted" zP f fd):jI P w K mg base CX0 (k+2) f fd ["self"] (spP (Cl5.mk Va Vb Vc Vd Ve) K Kd.isMany):=by
 w_cond mR;obtain⟨a,kd,sa,S,rfl,hF,hf,ho,hw,hg,q⟩:=h;refine⟨_,(jE (jP (qI ["number"] ["self"] [0] rfl (vF rfl M.range (jA (vB (pv 0) rfl) jB)) rfl ⟨rfl,trivial⟩ ⟨⟨rfl,rfl,rfl,_,rfl⟩,trivial⟩ (fun _ _ _ _=>(jV (i:=0) (show sw (["number","self"]:List Str) from by decide +kernel) rfl (sy rfl))) (fun _ _ _ _=>qG) (fun _ _ _ _=>(jT (jA (pv 0) (jA (oZ (K:=K) rfl (pv 1) rfl) jB))))))),?_⟩;cases id ho with
 | @many a dx b n k h1 h2 =>
  have hn:n<=6:=hf.2.1;refine⟨_,rfl,a,Vc,_,_,_,rfl,h1,Uc.cl,Uc.na _ (by decide),rfl,n,rfl,by omega,by omega,xL (n:=n) (fun j ys H'=>jG H H'/\∃tt:List Addr,ys=tt.map V.ref/\tt.length=j/\PR (Cl5.mk Va Vb Vc Vd Ve) K H' sa tt ((tw j).map fun j=>(δ (toString j),k))) ⟨jG.refl _,[],rfl,rfl,.nil⟩ (fun j ys H' _ z=>?_) (kP (by omega)) (fun j ys H' hj z=>?_) (fun ys H' z p hp=>?_)⟩
  ·obtain⟨_,tt,rfl,hl,_⟩:=z;rw[ε];omega
  ·obtain⟨g,tt,rfl,hl,hP⟩:=z;refine⟨_,rfl,_,rfl,a,Vc,_,_,_,rfl,g _ _ h1,Uc.cl,Uc.na _ (by decide),rfl,qA,fun t ht=>?_⟩;clear 1 t H1 g1 k1 ht;refine⟨⟨g.trans g1,tt++[t],by rw[ν];rfl,by rw[ζ,hl];rfl,?_⟩,_,rfl⟩;rw[yh,ν];refine(hP.same g1).snoc (x:=.int ((0:Int)+(j:Nat))) (SqT.of k1) ?_ (h2.same (g.trans g1));rw[xq];exact if_pos (by show(j:Nat)<2 ^ 100;exact ω hj (by omega))
  ·obtain⟨g,tt,rfl,hl,hP⟩:=z;clear 1 p H1 g1 k1 hp;exact q p H1 (g.trans g1) (g.free hp) ⟨tt,k1,hP.same g1⟩
 |_=>cases hF
theorem aG{k r:Nat}{FF:Kd->Bool}(hFF:∀k,FF k=true->(∃i,k=.nest i)\/∃n q,k=.many n q)(F:Fun K "units_at" "Kind.units_at" yE f fd)(qo:∀C sp,TPt (Cl5.mk Va Vb Vc Vd Ve) K C sp->bP P w K mg base CX0 k "parted" C sp)(ju:∀C sp,TU (Cl5.mk Va Vb Vc Vd Ve) K r C sp->bP P w K mg base CX0 k "units_at" C sp){jb:Addr}{ip:sq}(gn:Df K mg "joined" jb ip ["path","step"])(nq:jI P w K mg base CX0 k jb ip ["path","step"] mS):jI P w K mg base CX0 (k+2) f fd ["self","path"] (spU (Cl5.mk Va Vb Vc Vd Ve) K (r+1) FF):=by
 w_cond vZ;obtain⟨a,p,kd,sa,S,rfl,hp,hF,hk,hf,ho,hw,hg,q⟩:=h;refine⟨_,(jC (kI (i:=2) vZ.nd rfl (by walk_at"o") (kN jB)) (jC (xB vg rfl (qL (aK (pv 0) qo hr jQ)) (zL rfl (kL (jV (i:=3) vZ.nd rfl (sy rfl)) (kL (jV (i:=4) vZ.nd rfl (sy rfl)) vL))) (jE (kU (qK qw PySem.F.slot_list_extend PySem.F.type_list_extend aBt (pv 2) (jA (sD (pv 4) ju hr jQ (jA (jJ nq hr rfl gn.m gn.k gn.b .nil jQ (jA (pv 1) (jA (pv 3) jB))) jB)) jB))))) (jE (jP (pv 2))))),?_⟩;refine⟨mH,fun l hl=>?_⟩;generalize e1:upd H l _=H1;obtain⟨g1,k1⟩:=kM e1 hl;refine⟨_,rfl,callP (uJ (by simp)) (hFF kd hF) hf (ho.same g1) (hw.same g1) hg fun l2 H2 g2 hl2 zq=>?_⟩;obtain⟨tt,k2,pr⟩:=zq;have kl2:=g2 _ _ k1;have n2:l2≠l:=va (jK k1 hl2);have hw2:=hw.same (g1.trans g2);have zl:tt.length=(kd.parts S).length:=pr.len;have bd:=Kd.size_bd hg.sz (by decide) hf;have lens:∀j,(((kd.parts S).take j).flatMap fun f=>un f.2 S (pj p f.1)).length<=6000:=fun j=>by
  have h1:(un kd S p).length<=_:=(hg.kd hf).2 p;rw[Kd.parts_un hg hf (hFF kd hF)]at h1
  conv at h1=>lhs;rw[←yf j (kd.parts S)]
  rw[wq,ζ]at h1;omega
 refine⟨l2,rfl,⟨_,SqL.of k2⟩,xF (xs:=tt.map V.ref) (fun j σ H'=>∃o3 o4,σ = [some (.ref a),some (.str p),some (.ref l),o3,o4]/\But l H2 H'/\UL K H' l (((kd.parts S).take j).flatMap fun f=>un f.2 S (pj p f.1))) ⟨_,_,rfl,But.refl,[],kl2,.nil⟩ (fun j σ H' _ z=>?_) (fun j x σ H' hx z=>?_) (fun σ H' z=>?_)⟩
 ·obtain⟨o3,o4,rfl,g,_⟩:=z;exact SqL.of (g _ _ n2 k2)
 ·obtain⟨o3,o4,rfl,g,us,ku,ur⟩:=z;obtain⟨t,ht,rfl⟩:=qJ hx;obtain⟨x,y,kd',kk,hps,hq,hx',hko⟩:=pr.get ht;obtain⟨p1,p2,p3,p4⟩:=Kd.parts_ok hg hf hk (ψ hps);obtain⟨C',dx',fs',sp',m1,m2,m3,m4⟩:=kdU (uJ (m:="units_at") (by simp)) p1 p2 (hko.but g kl2) (hw2.but g kl2) hg;have hyl:(pj p y).length<=p.length+7:=by
   have e1:(δ ".").length=1:=rfl;have p4':y.length<=6:=p4;unfold pj
   split
   ·omega
   ·rw[rp,rp];omega
  refine⟨t,_,rfl,g.tup kl2 hq,rfl,_,_,rfl,_,_,rfl,rfl,_,rfl,.inl ⟨rfl,_,SqL.of ku⟩,_,rfl,kk,C',dx',fs',sp',rfl,m1,m2,m3,_,rfl,_,rfl,p,x,y,rfl,hx',(by omega),(by have p4':y.length<=6:=p4;omega),m4 _ _ _ (by omega) fun l3 H3 g3 hl3 zq=>?_⟩;obtain⟨us3,k3,ur3⟩:=zq;have ku3:=g3 _ _ ku;have h6:=lens (j+1);rw[cT hps,ζ,←ur.len,←ur3.len]at h6;refine⟨l,l3,_,_,rfl,rfl,ku3,k3,(by rw[qx,ε,ε];omega),?_⟩;clear 0 l H4 g4 k4;refine⟨_,_,rfl,(g.trans (But.of g3)).trans g4,us++us3,by rw[ν];exact k4,?_⟩;rw[cT hps];exact((ur.same g3).but g4 ku3).app (ur3.but g4 ku3)
 ·obtain⟨o3,o4,rfl,g,u⟩:=z;rw[ε,zl,qQ]at u;refine⟨_,rfl,q l H' (But.from (g1.trans g2) hl g) hl ?_⟩;rw[Kd.parts_un hg hf (hFF kd hF)];exact u
theorem lQ(F:Fun K "units" "Shape.units" zT f fd)(iu:DfI K du ["self","shape"])(iw:jI P w K mg base CX0 k cIv du ["self","shape"] (aCn Vb "shape"))(ju:∀C sp,TU (Cl5.mk Va Vb Vc Vd Ve) K r C sp->bP P w K mg base CX0 k "units_at" C sp):jI P w K mg base CX0 (k+2) f fd ["self"] (aGw (Cl5.mk Va Vb Vc Vd Ve) K r):=by
 w_cond lW;obtain⟨a,i,sa,S,rfl,e,hi,h8,hw,hg,q⟩:=h;refine⟨_,(jE (jP (sD (zG Ub.ma iw hr0 rfl Ub.m iu.b .nil jQ (jA (pv 0) jB)) ju hr jQ (jA jF jB)))),?_⟩;refine⟨_,rfl,fun x dx hx hdx _=>⟨x,dx,.ref a,H,rfl,jL,fF hx hdx,hx,fun H1 g1 k1=>⟨rfl,?_⟩⟩⟩;have hil:i<S.length:=by rw[←hw.1];exact(η.mp e).1
 obtain⟨C',dx',fs',sp',m1,m2,m3,m4⟩:=kdU (kd:=.nest i) (r:=r) (uJ (m:="units_at") (by simp)) hi hil (.nest e k1) (hw.same g1) hg;exact⟨x,C',dx',fs',sp',rfl,m1,m2,m3,m4 _ _ _ (by show 0+8*r<=200;omega) fun l H2 g2 hl u=>q l H2 (g1.trans g2) (g1.free hl) u⟩
theorem nO{k:Nat}(F:Fun K "__init__" "Shape.__init__" bA f fd):jI P w K mg base CX0 (k+2) f fd ["self","name","fields"] (aEc (Cl5.mk Va Vb Vc Vd Ve) K):=by
 w_cond nM;obtain⟨a,dx,fl,nm,ps,fs,sa,H1,rfl,hA,g,h0,hl,hP,hn,q⟩:=h;refine⟨_,(jC (cA (pv 0) (pv 1) rfl) (jE (cA (pv 0) (qX zX rfl M.tuple boot_tuple (jA (qI ["field","kind"] [] [] rfl (aJd (pv 2)) rfl trivial trivial (fun _ _ _ _=>(dF (K:=K) (n:=2) rfl rfl (kL (jV (i:=0) (show sw (["field","kind"]:List Str) from by decide +kernel) rfl (sy rfl)) (kL (jV (i:=1) (show sw (["field","kind"]:List Str) from by decide +kernel) rfl (sy rfl)) vL)))) (fun _ _ _ _=>qG) (fun _ _ _ _=>(jT (jA (pv 0) (jA (pv 1) jB))))) jB)) rfl))),?_⟩;refine⟨_,rfl,_,rfl,a,Ve,dx,[],rfl,hA,Ue.cl,Ue.na _ (by decide),by decide,?_⟩;have ga:jG H1 (upd H a (.ins Ve dx (yZ "name" (.str nm) []))):=g.putn h0;have ka:upd H a (.ins Ve dx (yZ "name" (.str nm) [])) a=some (.ins Ve dx [("name",.str nm)]):=jL;generalize upd H a (.ins Ve dx (yZ "name" (.str nm) []))=H2 at ga ka;have zl:(ps.map V.ref).length=fs.length:=by rw[ε];exact hP.len
 have turn:∀(j:Nat) (x:V) (ys:List V) (H':Hp) (Pv:Nat->List V->Hp->Prop),Pv=(fun j ys H'=>jG H2 H'/\∃tt:List Addr,ys=tt.map V.ref/\tt.length=j/\FO (Cl5.mk Va Vb Vc Vd Ve) K H' sa tt (fs.take j))->(ps.map V.ref)[j]?=some x->Pv j ys H'->∃t nm kk,x=.ref t/\SqT K H' t [.str nm,.ref kk]/\∀u,H' u=none->Pv (j+1) (ys++[.ref u]) (upd H' u (.tup [.str nm,.ref kk])):=by
  intro j x ys H' Pv eP hx z;subst eP;obtain⟨g2,tt,rfl,htl,hF⟩:=z;obtain⟨t,ht,rfl⟩:=qJ hx;obtain⟨nm',kd,kk,hfs,hq,hko⟩:=hP.get ht;refine⟨t,nm',kk,rfl,g2.tp (ga.tp hq),fun u hu=>?_⟩;generalize e3:upd H' u _=H3;obtain⟨g3,k3⟩:=kM e3 hu;refine⟨g2.trans g3,tt++[u],by rw[ν];rfl,by rw[ζ,htl];rfl,?_⟩;have:=(hF.same g3).snoc (SqT.of k3) (hko.same ((ga.trans g2).trans g3));rw[vz,hfs];exact this
 have fin:∀(ys:List V) (H':Hp),(jG H2 H'/\∃tt:List Addr,ys=tt.map V.ref/\tt.length=(ps.map V.ref).length/\FO (Cl5.mk Va Vb Vc Vd Ve) K H' sa tt (fs.take (ps.map V.ref).length))->∀p,H' p=none->∀t,upd H' p (.lst ys) t=none->Q .non (upd (upd (upd H' p (.lst ys)) t (.tup ys)) a (.ins Ve dx [("name",.str nm),("fields",.ref t)])):=by
  intro ys H' z p hp t ht;obtain⟨g2,tt,rfl,htl,hF⟩:=z;generalize e3:upd H' p _=H3 at ht;obtain⟨g3,k3⟩:=kM e3 hp;clear 1 t H4 g4 k4 ht;have ka4:H4 a=_:=(g2.trans g3 |>.trans g4) _ _ ka;rw[zl,qQ]at hF;have G:jG H1 (upd H4 a (.ins Ve dx [("name",.str nm),("fields",.ref t)])):=(((ga.trans g2).trans g3).trans g4).putn h0;have nta:t≠a:=va (jK ((g2.trans g3) _ _ ka) ht);refine q t tt _ G jL (SqT.of (by rw[jW nta];exact k4)) ?_;exact FO.insD (hF.same (g3.trans g4)) ka4
 have st:jG H2 H2/\∃tt:List Addr,([]:List V)=tt.map V.ref/\tt.length=0/\FO (Cl5.mk Va Vb Vc Vd Ve) K H2 sa tt (fs.take 0):=⟨jG.refl _,[],rfl,rfl,by rw[List.take_zero];exact .nil⟩;have lst:∀(H':Hp) (p t:Addr) (ys:List V),(jG H2 H'/\∃tt:List Addr,ys=tt.map V.ref/\tt.length=(ps.map V.ref).length/\FO (Cl5.mk Va Vb Vc Vd Ve) K H' sa tt (fs.take (ps.map V.ref).length))->H' p=none->upd H' p (.lst ys) t=none->upd (upd H' p (.lst ys)) t (.tup ys) a=some (.ins Ve dx [("name",.str nm)]):=fun H' p t ys z hp ht=>(vD ht _) _ _ ((vD hp _) _ _ (z.1 _ _ ka));refine⟨_,rfl,fl,rfl,?_⟩;rcases hl with hl|hl
 ·refine .inl ⟨⟨_,ga.seq hl⟩,dO (xs:=ps.map V.ref) (fun j ys H'=>jG H2 H'/\∃tt:List Addr,ys=tt.map V.ref/\tt.length=j/\FO (Cl5.mk Va Vb Vc Vd Ve) K H' sa tt (fs.take j)) st (fun j ys H' _ z=>⟨z.1.seq (ga.seq hl),by obtain⟨_,tt,rfl,hl,_⟩:=z;rw[ε];omega⟩) (kP (by omega)) (fun j x ys H' os ho hx z=>?_) (fun ys H' z p hp=>⟨p,ys,rfl,.inl ⟨SqL.of jL,fun t ht=>⟨_,rfl,a,Ve,dx,_,rfl,lst H' p t ys z hp ht,Ue.cl,Ue.na _ (by decide),(by show 1<1000;decide),fin ys H' z p hp t ht⟩⟩⟩)⟩;obtain⟨o1,o2,rfl⟩:=tW ho;obtain⟨t,nm',kk,rfl,hq,nxt⟩:=turn j x ys H' _ rfl hx z;exact⟨t,_,rfl,hq,rfl,_,_,rfl,_,_,rfl,rfl,_,rfl,_,rfl,qA,fun u hu=>⟨nxt u hu,[_,_],rfl,rfl⟩⟩
 ·refine .inr ⟨⟨_,ga.tp hl⟩,cS (xs:=ps.map V.ref) (fun j ys H'=>jG H2 H'/\∃tt:List Addr,ys=tt.map V.ref/\tt.length=j/\FO (Cl5.mk Va Vb Vc Vd Ve) K H' sa tt (fs.take j)) st (fun j ys H' _ z=>⟨z.1.tp (ga.tp hl),by obtain⟨_,tt,rfl,hl,_⟩:=z;rw[ε];omega⟩) (kP (by omega)) (fun j x ys H' os ho hx z=>?_) (fun ys H' z p hp=>⟨p,ys,rfl,.inl ⟨SqL.of jL,fun t ht=>⟨_,rfl,a,Ve,dx,_,rfl,lst H' p t ys z hp ht,Ue.cl,Ue.na _ (by decide),(by show 1<1000;decide),fin ys H' z p hp t ht⟩⟩⟩)⟩;obtain⟨o1,o2,rfl⟩:=tW ho;obtain⟨t,nm',kk,rfl,hq,nxt⟩:=turn j x ys H' _ rfl hx z;exact⟨t,_,rfl,hq,rfl,_,_,rfl,_,_,rfl,rfl,_,rfl,_,rfl,qA,fun u hu=>⟨nxt u hu,[_,_],rfl,rfl⟩⟩
theorem mY{k:Nat}(F:Fun K "_law_joined" "_law_joined" aR f fd):jI P w K mg base CX0 (k+2) f fd ["_law_path","_law_step"] spLJ:=by
 w_cond nG;obtain⟨p,y,rfl,hp,hy,hy1,q⟩:=h;refine⟨_,(jE (jP (jN jS (jN jS (pv 0) (jN aFv jF (qX hZ rfl M.int boot_int (jA (yJ (qW aGn (pv 0) jF (kH _)) (zO (qW aGn (pv 1) jF (kH _)))) jB)))) (pv 1)))),?_⟩;have hye:¬ y=δ "":=fun z=>by rw[z]at hy1;exact absurd hy1 (by decide)
 have hd:(δ ".").length=1:=rfl;refine⟨_,rfl,_,rfl,rfl,_,rfl,vS (fun c=>?_) (fun c=>?_)⟩
 ·have hpe:¬ p.length=0:=fun z=>by
   have e:p=δ "":=Str.ext' (by rw[show p.cps = #[] from Array.eq_empty_of_size_eq_zero z];rfl);rw[e]at c;exact absurd c (by decide)
  refine⟨_,rfl,rfl,_,rfl,_,_,rfl,rfl,?_⟩;rw[show(!decide (V.str y=V.str (δ "")))=true by simpa using hye];refine⟨.inr rfl,by decide,_,_,rfl,rfl,(by rw[qx,if_pos rfl,if_pos rfl,hd];omega),_,rfl,_,_,rfl,rfl,(by rw[qx,if_pos rfl,if_pos rfl,rp,hd];omega),?_⟩;rw[if_pos rfl,if_pos rfl];unfold pj at q;rw[if_neg hpe]at q;exact q
 ·have hp0:p=δ "":=by simpa using c
  subst hp0;refine⟨_,rfl,_,_,rfl,rfl,.inl rfl,by decide,_,_,rfl,rfl,(by decide),_,rfl,_,_,rfl,rfl,(by rw[qx,rp];simp only[ya,if_false];rw[if_neg (by decide)];show 0+0+y.length<=_;omega),?_⟩;unfold pj at q;rw[if_pos (by decide)]at q;simp only[ya,if_false];rw[if_neg (by decide),show δ "" = Str.empty from rfl,dA,dA];exact q
theorem iF{k:Nat}(F:Fun K "whole_shapes" "whole_shapes" zB f fd):jI P w K mg base CX0 (k+2) f fd ["told"] (spWh (Cl5.mk Va Vb Vc Vd Ve) K):=by
 w_cond iM;obtain⟨tl,z,sa,T,s,rfl,hl,hw,hnd,hlen,q⟩:=h;refine⟨_,(jE (jP (aDk ["shape"] [] [] rfl (qL (vA xH (pv 0) vQ (vR (bY zE jD)))) rfl trivial trivial (fun _ _ _ _=>(jV (i:=0) (show sw (["shape"]:List Str) from by decide +kernel) rfl (sy rfl))) (fun _ _ _ _=>qG) (fun _ _ _ _=>(oZ (K:=K) rfl (pv 0) rfl)) (fun _ _ _ _=>(pv 0))))),?_⟩;obtain⟨hw0,_⟩:=hw.init;have zl:(sa.map V.ref).length=T.length:=by rw[ε];exact hw0.1
 refine⟨_,rfl,_,rfl,_,rfl,tl,_,rfl,SqL.of hl,fun p hp=>?_⟩;rw[cutC];generalize e2:upd H p _=H2;obtain⟨g2,k2⟩:=kM e2 hp;refine⟨p,rfl,⟨_,SqL.of k2⟩,uL (xs:=sa.map V.ref) (fun D j ys H'=>jG H2 H'/\H2 D=none/\H' D=some (.dK ys)/\ys=dk (T.take j) (sa.take j)) (fun D hD=>⟨(jG.refl H2).putn hD,hD,jL,rfl⟩) (fun D j ys H' _ z=>z.1.seq (SqL.of k2)) (fun D j x ys H' hx z=>?_) (fun D ys H' z=>?_)⟩
 ·obtain⟨g,hD,kD,rfl⟩:=z;obtain⟨a,ha,rfl⟩:=qJ hx;obtain⟨sh,hS,dx,t,ps,k1,_⟩:=hw0.at ha;have hj:=(η.mp hS).1;have hnk:∀x∈dk (T.take j) (sa.take j),x.1≠(.inr sh.1:Key):=fun x hx e=>by
   obtain⟨u,hu,eu⟩:=aAb x hx;obtain⟨i,hi⟩:=tq.mp hu;have hij:i<j:=by have:=(η.mp hi).1;rw[rh]at this;omega
   rw[vd hij]at hi;have e2:kR T i=kR T j:=by rw[vV hi,vV hS];exact yp.inj (eu.symm.trans e)
   have:=aBz hnd (η.mp hi).1 hj e2;omega
  refine⟨_,rfl,a,Ve,_,_,_,rfl,g _ _ (g2 _ _ k1),Ue.cl,Ue.na _ (by decide),rfl,_,rfl,.inr sh.1,rfl,kD,?_,?_⟩
  ·have:(dk (T.take j) (sa.take j)).length<=100:=by unfold dk;rw[List.length_zipWith,rh];omega
   exact wd this (by decide)
  ·rw[aBa hnk];exact⟨⟨g.putn hD,hD,jL,(aFk hS ha).symm⟩,_,rfl⟩
 ·obtain⟨g,hD,kD,rfl⟩:=z;rw[zl,qQ,←hw0.1,qQ]at kD;exact q D H' (g2.trans g) (g2.free hD) kD
theorem wA(F:Fun K "kind_in" "kind_in" gN f fd)(fh:Df K mg "kind_in" iq gr ["words","shapes"])(lq:jI P w K mg base CX0 k iq gr ["words","shapes"] (wO (Cl5.mk Va Vb Vc Vd Ve) K r))(qh:DfI K mr ["self","width"])(qi:jI P w K mg base CX0 k cIu mr ["self","width"] (aCn Va "width"))(iu:DfI K du ["self","shape"])(iw:jI P w K mg base CX0 k cIv du ["self","shape"] (aCn Vb "shape"))(qa:DfI K lr ["self","count","kind"])(qb:jI P w K mg base CX0 k cIx lr ["self","count","kind"] (spI2 Vc "count" "kind"))(qd:DfI K lu ["self","shapes"])(qe:jI P w K mg base CX0 k cIy lu ["self","shapes"] (spIT K Vd "shapes")):jI P w K mg base CX0 (k+2) f fd ["words","shapes"] (wO (Cl5.mk Va Vb Vc Vd Ve) K (r+1)):=by
 w_cond tY;obtain⟨a,d,kd,sa,T,rfl,hlv,hl,hd,hf,hn,hnd,hsl,q⟩:=h;refine⟨_,(jC (kS (kJ qV (jU jZ (pv 0) jD (fun _ _=>rfl)) jF (kH _)) (jE (jP (zG Ua.ma qi hr0 rfl Ua.m qh.b .nil jQ (jA (qX bC rfl M.int boot_int (jA (jU jZ (pv 0) jD (fun _ _=>rfl)) jB)) jB)))) jY) (jC (kS (kJ qV (jU jZ (pv 0) jD (fun _ _=>rfl)) jF (kH _)) (jE (jP (zG Uc.ma qb hr0 rfl Uc.m qa.b .nil jQ (jA (qX bC rfl M.int boot_int (jA (jU jZ (pv 0) jD (fun _ _=>rfl)) jB)) (jA (jJ lq hr rfl fh.m fh.k fh.b .nil jQ (jA (vA xH (pv 0) (vR jD) vQ) (jA (pv 1) jB))) jB))))) jY) (jC (kS (kJ qV (jU jZ (pv 0) jD (fun _ _=>rfl)) jF (kH _)) (jE (jP (zG Ud.ma qe hr0 rfl Ud.m qd.b .nil jQ (jA (qI ["name"] ["shapes"] [1] rfl (qL (vA xH (pv 0) (vR jD) vQ)) rfl ⟨rfl,trivial⟩ ⟨⟨rfl,rfl,rfl,_,rfl⟩,trivial⟩ (fun _ _ _ _=>(jV (i:=0) (show sw (["name","shapes"]:List Str) from by decide +kernel) rfl (sy rfl))) (fun _ _ _ _=>qG) (fun _ _ _ _=>(aAh hr.units1 (pv 1) (pv 0) (fun _ _=>rfl)))) jB)))) jY) (jE (jP (zG Ub.ma iw hr0 rfl Ub.m iu.b .nil jQ (jA (aAh hr.units1 (pv 1) (jU jZ (pv 0) jD (fun _ _=>rfl)) (fun _ _=>rfl)) jB))))))),?_⟩;have look:∀i,i<T.length->∃s,sa[i]?=some s/\bQ (dk T sa) (.inr (kR T i))=some (.ref s):=fun i hi=>by
  have hT:T[i]?=some T[i]:=θ hi;have hs:sa[i]?=some (sa[i]'(by omega)):=θ _;exact⟨_,hs,by rw[vV hT];exact aCt hnd hT hs⟩
 cases kd with
 |num w =>
  obtain⟨_,d2,_,d4⟩:=dig (w:=w) (by have:=hf.2;omega);exact⟨_,rfl,a,_,_,_,rfl,rfl,hl,rfl,rfl,_,rfl,qP (by decide) ⟨_,rfl,a,_,_,_,rfl,rfl,hl,rfl,_,_,rfl,d4,by omega,fun x dx hx hdx _=>⟨x,dx,.int w,H,rfl,jL,fF hx hdx,hx,fun H1 g1 k1=>⟨rfl,q x H1 g1 (.num k1)⟩⟩⟩⟩
 |nest i =>
  have hx:=hn i hf;obtain⟨s,hs,hv⟩:=look i hf;exact⟨_,rfl,a,_,_,_,rfl,rfl,hl,rfl,rfl,_,rfl,kW (by simpa using xI hx (y:="num") (by decide)) ⟨_,rfl,a,_,_,_,rfl,rfl,hl,rfl,rfl,_,rfl,kW (by simpa using xI hx (y:="row") (by decide)) ⟨_,rfl,a,_,_,_,rfl,rfl,hl,rfl,rfl,_,rfl,kW (by simpa using xI hx (y:="pick") (by decide)) ⟨_,rfl,_,rfl,a,_,_,_,rfl,rfl,hl,rfl,d,.ref s,rfl,(by rw[←hv];exact gL.k (k:=yp (kR T i)) hd),fun x dx hx hdx _=>⟨x,dx,.ref s,H,rfl,jL,fF hx hdx,hx,fun H1 g1 k1=>⟨rfl,q x H1 g1 (.nest hs k1)⟩⟩⟩⟩⟩⟩
 |many m k =>
  obtain⟨_,d2,_,d4⟩:=dig (w:=m) (by have:=hf.2.1;omega);have hl':SqL K H a (V.str (δ "row")::V.str (δ (toString (m:Int)))::(k.words (kR T)).map V.str):=hl;refine⟨_,rfl,a,_,_,_,rfl,rfl,hl',at0,rfl,_,rfl,kW (by decide) ⟨_,rfl,a,_,_,_,rfl,rfl,hl',at0,rfl,_,rfl,qP (by decide) ⟨_,rfl,a,_,_,_,rfl,rfl,hl',at1,_,_,rfl,d4,by omega,_,rfl,_,rfl,a,_,rfl,hl',fun p hp=>?_⟩⟩⟩;rw[aGx];clear 1 p H1 g1 k1 hp;have hlk:k.lv=0:=by rcases hf.2.2 with⟨w,rfl,_⟩|⟨i,rfl,_⟩ <;> rfl
  refine⟨_,rfl,p,d,k,sa,T,rfl,(by rw[hlk];have : 1<r+1:=hlv;omega),SqL.of k1,g1 _ _ hd,hf.sub,hn,hnd,hsl,fun b H2 g2 ko=>?_⟩;exact fun x dx hx hdx _=>⟨x,dx,.int m,.ref b,H2,rfl,jL,fF hx hdx,hx,fun H3 g3 k3=>⟨rfl,q x H3 ((g1.trans g2).trans g3) (.many k3 (ko.same g3))⟩⟩
 |pick is =>
  have hl':SqL K H a (V.str (δ "pick")::(is.map (kR T)).map V.str):=hl;have h2:=hf.2.1;have zl:((is.map (kR T)).map V.str).length=is.length:=by rw[ε,ε]
  refine⟨_,rfl,a,_,_,_,rfl,rfl,hl',at0,rfl,_,rfl,kW (by decide) ⟨_,rfl,a,_,_,_,rfl,rfl,hl',at0,rfl,_,rfl,kW (by decide) ⟨_,rfl,a,_,_,_,rfl,rfl,hl',at0,rfl,_,rfl,qP (by decide) ⟨_,rfl,_,rfl,a,_,rfl,hl',fun p hp=>?_⟩⟩⟩⟩;rw[rS];clear 1 p H1 g1 k1 hp;refine⟨p,rfl,⟨_,SqL.of k1⟩,xN (xs:=(is.map (kR T)).map V.str) (fun j ys H'=>H'=H1/\∃ss:List Addr,ys=ss.map V.ref/\ss.length=j/\∀(b i:Nat) (s:Addr),is[b]?=some i->ss[b]?=some s->sa[i]?=some s) ⟨rfl,[],rfl,rfl,fun b i s _ z=>by simp at z⟩ (fun j ys H' _ z=>?_) (kP (by omega)) (fun j x ys H' hx z=>?_) (fun ys H' z p2 hp2=>?_)⟩
  ·obtain⟨rfl,ss,rfl,hss,_⟩:=z;exact⟨SqL.of k1,by rw[ε];omega⟩
  ·obtain⟨rfl,ss,rfl,hss,hall⟩:=z;obtain⟨y,hy,rfl⟩:=aN hx;rw[sv]at hy;cases e:is[j]? with
   |none=>rw[e]at hy;cases hy
   |some i =>
    rw[e]at hy;cases hy;obtain⟨s,hs,hv⟩:=look i (hf.2.2.2 i (ψ e));refine⟨_,rfl,_,rfl,d,.ref s,rfl,(by rw[←hv];exact gL.k (k:=yp (kR T i)) (g1 _ _ hd)),⟨rfl,ss++[s],by rw[ν];rfl,by rw[ζ,hss];rfl,fun b i' s' hb1 hb2=>?_⟩,_,rfl⟩;rcases bU hb2 with hb2|⟨eb,es⟩
    ·exact hall b i' s' hb1 hb2
    ·rw[eb,hss,e]at hb1;cases hb1;rw[es];exact hs
  ·obtain⟨rfl,ss,rfl,hss,hall⟩:=z;clear 1 p2 H2 g2 k2 hp2;exact fun x dx hx hdx _=>⟨x,dx,p2,_,H2,rfl,jL,fF hx hdx,hx,SqL.of k2,fun t H3 g3 k3 k4=>⟨rfl,q x H3 ((g1.trans g2).trans g3) (.pick k3 k4 (by rw[hss,zl]) hall)⟩⟩
theorem lU(F:Fun K "is_too_much" "is_too_much" zR f fd)(cp:DfM K Ve "size" cm ce ["self"])(fg:jI P w K mg base CX0 k cm ce ["self"] (gY (Cl5.mk Va Vb Vc Vd Ve) K r sSz))(kq:DfM K Ve "units" km jy ["self"])(ow:jI P w K mg base CX0 k km jy ["self"] (aGw (Cl5.mk Va Vb Vc Vd Ve) K r))(cg:DfM K Ve "depth" cf bu ["self"])(eh:jI P w K mg base CX0 k cf bu ["self"] (gY (Cl5.mk Va Vb Vc Vd Ve) K r sDp)):jI P w K mg base CX0 (k+2) f fd ["shape"] (spTM (Cl5.mk Va Vb Vc Vd Ve) K r):=by
 w_cond mD;obtain⟨a,i,sa,S,rfl,e,hi,h8,hw,hg,⟨b1,b2,b3⟩,q⟩:=h;refine⟨_,(jC (kS (PW.pt (oF (kJ dI (jR jX rfl M.len si (jA (vB (pv 0) rfl) jB)) (qC (v:=.int 6) rfl C.MOST_FIELDS ⟨_,rfl⟩) (kH _)) (fU (kJ dI (xS (pv 0) Ue.cl cp.me fg hr cp.b .nil jQ) (qC (v:=.int 64) rfl C.MOST_CELLS ⟨_,rfl⟩) (kH _))))) (jE (jP fG)) jY) (jE (jP (pe_or (qW dI (jR jX rfl M.len si (jA (xS (pv 0) Ue.cl kq.me ow hr kq.b .nil jQ) jB)) (qC (v:=.int 40) rfl C.MOST_UNITS ⟨_,rfl⟩) (kH _)) (zO (qW dI (xS (pv 0) Ue.cl cg.me eh hr cg.b .nil jQ) (qC (v:=.int 4) rfl C.MOST_DEPTH ⟨_,rfl⟩) (kH _))))))),?_⟩;obtain⟨s,hS,dx,t,ps,k1,k2,k3⟩:=hw.at e;have h6:=hg.few i s hS;have zl:(ps.map V.ref).length=s.2.length:=by rw[ε];exact k3.len
 refine⟨_,rfl,a,Ve,_,_,_,rfl,k1,Ue.cl,Ue.na _ (by decide),rfl,t,_,rfl,.inr k2,_,_,rfl,rfl,_,rfl,kW (by rw[zl];simp;omega) ⟨_,rfl,a,dx,_,rfl,k1,rfl,a,i,sa,S,rfl,e,(by omega),hw,hg,fun H1 g1=>⟨_,_,rfl,rfl,_,rfl,kW (by have:sSz i (tabs S)<=64:=b1;simp;omega) ?_⟩⟩⟩;refine⟨_,rfl,a,dx,_,rfl,g1 _ _ k1,rfl,a,i,sa,S,rfl,e,hi,h8,hw.same g1,hg,fun l H2 g2 hl ⟨us,ku,ur⟩=>⟨l,_,rfl,.inl (SqL.of ku),_,_,rfl,rfl,_,rfl,kW (by rw[ε,ur.len];simp;omega) ?_⟩⟩;refine⟨_,rfl,a,dx,_,rfl,g2 _ _ (g1 _ _ k1),rfl,a,i,sa,S,rfl,e,(by omega),hw.same (g1.trans g2),hg,fun H3 g3=>⟨_,_,rfl,rfl,?_⟩⟩;dsimp only;rw[decide_eq_false (by have:sDp i (tabs S)<=4:=b3;omega)];exact q H3 ((g1.trans g2).trans g3)
theorem nF(F:Fun K "with_field" "with_field" bF f fd)(fh:Df K mg "kind_in" iq gr ["words","shapes"])(lq:jI P w K mg base CX0 k iq gr ["words","shapes"] (wO (Cl5.mk Va Vb Vc Vd Ve) K 2))(cj:Df K mg "whole_shapes" dv dh ["told"])(ie:jI P w K mg base CX0 k dv dh ["told"] (spWh (Cl5.mk Va Vb Vc Vd Ve) K))(jd:DfI K eo ["self","name","fields"])(je:jI P w K mg base CX0 k cIz eo ["self","name","fields"] (aEc (Cl5.mk Va Vb Vc Vd Ve) K))(ix:Df K mg "is_too_much" kr jz ["shape"])(oy:jI P w K mg base CX0 k kr jz ["shape"] (spTM (Cl5.mk Va Vb Vc Vd Ve) K r))(ig:DfI K di ["self","line"])(ii:jI P w K mg base (CXE P w) k ci di ["self","line"] (iD ap ["line"])):jI P w K mg base (CXE P w) (k+2) f fd ["told","line","words"] (spWF (Cl5.mk Va Vb Vc Vd Ve) K r):=by
 w_cond zY;obtain⟨tl,a,z,x,sa,T,s,fn,kd,rfl,hl,hw,hws,hf,hn,hnd,hlen,hr1,h8,hs50,hg,hb,q⟩:=h;refine⟨_,(jC (kI (i:=3) zY.nd rfl (by walk_at"o") (jJ lq hr rfl fh.m fh.k fh.b .nil jQ (jA (vA xH (pv 2) (vR jD) vQ) (jA (jJ ie hr rfl cj.m cj.k cj.b .nil jQ (jA (pv 0) jB)) jB)))) (jC (kI (i:=4) zY.nd rfl (by walk_at"o") (zG Ue.ma je hr0 rfl Ue.m jd.b .nil jQ (jA (vB (jU jZ (pv 0) (bY zE jD) (fun _ _=>rfl)) rfl) (jA (jN aEp (vB (jU jZ (pv 0) (bY zE jD) (fun _ _=>rfl)) rfl) (jT (jA (jT (jA (jU jZ (pv 2) jD (fun _ _=>rfl)) (jA (pv 3) jB))) jB))) jB)))) (jC (kS (xM (jJ oy hr rfl ix.m ix.k ix.b .nil jQ (jA (pv 4) jB))) (jE (xG ck.c ii hr0 rfl ck.m ig.b .nil xY (jA (pv 1) jB))) jY) (jE (jP (pv 4)))))),?_⟩;obtain⟨hw0,dx,t,ps,k1,k2,k3⟩:=hw.init;refine⟨_,rfl,_,rfl,a,_,rfl,hws,fun p hp=>?_⟩;rw[show fL ((fn::kd.words (kR T)).map V.str) (some 1) none=(kd.words (kR T)).map V.str from rS _ _];clear 1 p H1 g1 kp hp;refine⟨_,rfl,tl,z,sa,T,s,rfl,g1 _ _ hl,hw.same g1,hnd,hlen,fun d H2 g2 hd kd2=>?_⟩;refine⟨p,d,kd,sa,T,rfl,(by cases kd <;> simp[Kd.lv]),g2.seq (SqL.of kp),kd2,hf,hn,hnd,hw0.1,fun k H3 g3 ko=>?_⟩;have g13:=(g1.trans g2).trans g3;refine⟨_,rfl,_,rfl,tl,_,_,_,rfl,rfl,SqL.of (g13 _ _ hl),vP _ _,z,Ve,_,_,_,rfl,(g13 _ _ k1),Ue.cl,Ue.na _ (by decide),rfl,_,rfl,_,rfl,tl,_,_,_,rfl,rfl,SqL.of (g13 _ _ hl),vP _ _,z,Ve,_,_,_,rfl,(g13 _ _ k1),Ue.cl,Ue.na _ (by decide),rfl,_,rfl,a,_,_,_,rfl,rfl,g13.seq hws,at0,_,rfl,qA,fun u hu=>?_⟩;clear 1 u H4 g4 k4 hu;refine⟨bI,fun v hv=>?_⟩;clear 1 v H5 g5 k5 hv;have hps:ps.length=s.2.length:=k3.len;refine⟨t,v,ps.map V.ref,[.ref u],rfl,rfl,(g4.trans g5).tp (g13.tp k2),SqT.of k5,(by simp),(by rw[qx,ε];simp;omega),fun fl H6 g6 hfl=>?_⟩;have g36:=(g4.trans g5).trans g6;refine fun y dy hy hdy _=>⟨y,dy,fl,s.1,ps++[u],s.2++[(fn,kd)],sa,H6,rfl,jL,fF hy hdy,hy,.inr (by rw[ν];exact hfl),(k3.same (g13.trans g36)).snoc ((g5.trans g6).tp (SqT.of k4)) (ko.same g36),(by rw[ζ];show s.2.length+1<=100;omega),fun t' ps' H7 g7 k7 st fo=>⟨rfl,?_⟩⟩;have gA:=(g13.trans g36).trans g7;have so:SO (Cl5.mk Va Vb Vc Vd Ve) K H7 sa y (s.1,s.2++[(fn,kd)]):=⟨dy,t',ps',k7,st,fo⟩;have hsw:=(hw0.same gA).snoc so;have hsl:sa.length=T.length:=hw0.1;exact⟨_,rfl,y,T.length,sa++[y],_,rfl,(by rw[←hsl,Γ (μ _),vc];rfl),hr1,h8,hsw,hg,hb,fun H8 g8=>⟨_,rfl,kW (by decide) ⟨_,rfl,q y H8 (gA.trans g8) (so.same g8)⟩⟩⟩
theorem tM{k r:Nat}(F:Fun K "_law_size" "_law_size" dZ f fd){dj:Addr}{cw:sq}(bc:Df K mg "_law_size" dj cw ["_law_kind_here","_law_shapes_here"])(dw:jI P w K mg base CX0 k dj cw ["_law_kind_here","_law_shapes_here"] (pD K vSz r)):jI P w K mg base CX0 (k+2) f fd ["_law_kind_here","_law_shapes_here"] (pD K vSz (r+1)):=by
 w_cond tR;obtain⟨a,sl,kd,S,rfl,hk,hv,hf,hlk,hlx,hg,q⟩:=h;refine⟨_,(jC (kS (kJ qV (jU kO (pv 0) jD (fun _ _=>rfl)) jF (kH _)) (jE (jP (jU kO (pv 0) jD (fun _ _=>rfl)))) jY) (jC (kS (kJ qV (jU kO (pv 0) jD (fun _ _=>rfl)) jF (kH _)) (jE (jP (jN aT (jU kO (pv 0) jD (fun _ _=>rfl)) (jJ dw hr rfl bc.m bc.k bc.b .nil jQ (jA (jU kO (pv 0) jD (fun _ _=>rfl)) (jA (pv 1) jB)))))) jY) (jC (kS (kJ qV (jU kO (pv 0) jD (fun _ _=>rfl)) jF (kH _)) (jE (jP (jN qE jD (jR (yR rfl) rfl M.max boot_max (jA (qI ["_law_at"] ["_law_shapes_here"] [1] rfl (qL (jU kO (pv 0) jD (fun _ _=>rfl))) rfl ⟨rfl,trivial⟩ ⟨⟨rfl,rfl,rfl,_,rfl⟩,trivial⟩ (fun _ _ _ _=>(jV (i:=0) (show sw (["_law_at","_law_shapes_here"]:List Str) from by decide +kernel) rfl (sy rfl))) (fun _ _ _ _=>qG) (fun _ _ _ _=>(jJ dw hr rfl bc.m bc.k bc.b .nil jQ (jA (jT (jA jF (jA (pv 0) jB))) (jA (pv 1) jB))))) jB))))) jY) (jE (jP (jR (rP rfl) rfl M.sum (show yi "sum" = some (.builtin "sum") from by decide +kernel) (jA (qI ["_law_name","_law_inner"] ["_law_shapes_here"] [1] rfl (qL (jU kO (jU jZ (pv 1) (jU kO (pv 0) jD (fun _ _=>rfl)) (fun _ _=>rfl)) jD (fun _ _=>rfl))) rfl ⟨rfl,trivial⟩ ⟨⟨rfl,rfl,rfl,_,rfl⟩,trivial⟩ (fun _ _ _ _=>(dF (K:=K) (n:=2) rfl rfl (kL (jV (i:=0) (show sw (["_law_name","_law_inner","_law_shapes_here"]:List Str) from by decide +kernel) rfl (sy rfl)) (kL (jV (i:=1) (show sw (["_law_name","_law_inner","_law_shapes_here"]:List Str) from by decide +kernel) rfl (sy rfl)) vL)))) (fun _ _ _ _=>qG) (fun _ _ _ _=>(jJ dw hr rfl bc.m bc.k bc.b .nil jQ (jA (pv 1) (jA (pv 2) jB))))) jB))))))),?_⟩;have back : 1<=r->∃r',r=r'+1:=fun h=>⟨r-1,by omega⟩;cases id hlk with
 | @num a w h1=>exact⟨_,rfl,a,_,_,_,rfl,rfl,h1,rfl,rfl,_,rfl,qP (by decide) ⟨_,rfl,a,_,_,_,rfl,rfl,h1,rfl,q _ (jG.refl _)⟩⟩
 | @many a b n k h1 h2 =>
  have hv' : 1<=r:=hv;obtain⟨r,rfl⟩:=back hv';have hlv:k.lv=0:=by rcases hf.2.2 with⟨w,rfl,_⟩|⟨i,rfl,_⟩ <;> rfl
  refine⟨_,rfl,a,_,_,_,rfl,rfl,h1,rfl,rfl,_,rfl,kW (by decide) ⟨_,rfl,a,_,_,_,rfl,rfl,h1,rfl,rfl,_,rfl,qP (by decide) ⟨_,rfl,a,_,_,_,rfl,rfl,h1,rfl,_,rfl,a,_,_,_,rfl,rfl,h1,rfl,_,rfl,b,sl,k,S,rfl,hk.sub,(by omega),hf.sub,h2,hlx,hg,fun H' g=>?_⟩⟩⟩;refine⟨_,_,rfl,rfl,.inl ⟨by have:=hf.2.1;omega,by have:=hf.2.1;omega⟩,?_⟩;have q':=q H' g;rw[show vSz (Kd.many n k) (tabs S)=n*vSz k (tabs S) from rfl,Int.natCast_mul]at q';exact q'
 | @pick a l is h1 h2 =>
  have hs:=hf.1;have hs4:=hf.2.1;have hne:is≠[]:=fun z=>by rw[z]at hs;exact absurd hs (by decide)
  have hr3 : 3<=r:=by
   cases is with
   |nil=>exact absurd rfl hne
   |cons i _=>have:=hk i (qy ..);omega
  obtain⟨r,rfl⟩:=back (by omega);have zl:(is.map fun n:Nat=>V.int n).length=is.length:=ε _;refine⟨_,rfl,a,_,_,_,rfl,rfl,h1,rfl,rfl,_,rfl,kW (by decide) ⟨_,rfl,a,_,_,_,rfl,rfl,h1,rfl,rfl,_,rfl,kW (by decide) ⟨_,rfl,a,_,_,_,rfl,rfl,h1,rfl,rfl,_,rfl,qP (by decide) ⟨_,rfl,a,_,_,_,rfl,rfl,h1,rfl,l,rfl,⟨_,h2⟩,xN (xs:=is.map fun n:Nat=>V.int n) (fun j ys H'=>jG H H'/\ys=((is.take j).map fun i=>V.int (vSz (.nest i) (tabs S)))) ⟨jG.refl _,rfl⟩ (fun j ys H' _ z=>⟨z.1.seq h2,by rw[z.2,ε,rh];exact uz _ _⟩) (kP (by omega)) (fun j x ys H' hx z=>?_) (fun ys H' z p hp=>?_)⟩⟩⟩⟩
  ·obtain⟨g,rfl⟩:=z;obtain⟨i,hi,rfl⟩:=mT hx;have him:=ψ hi;refine⟨_,rfl,qA,fun t ht=>?_⟩;clear 1 t H3 g3 k3 ht;exact⟨_,rfl,t,sl,.nest i,S,rfl,(by have:=hk i him;show 2*i+2<=r;omega),sd _,hf.2.2.2 i him,.nest (SqT.of k3),hlx.same (g.trans g3),hg,fun H4 g4=>⟨⟨(g.trans g3).trans g4,(qY hi).symm⟩,_,rfl⟩⟩
  ·obtain⟨g,rfl⟩:=z;have g2:=vD hp (.lst ((is.take (is.map fun n:Nat=>V.int n).length).map fun i=>V.int (vSz (.nest i) (tabs S))));have kp:upd H' p (.lst ((is.take (is.map fun n:Nat=>V.int n).length).map fun i=>V.int (vSz (.nest i) (tabs S)))) p=some (.lst (((is.map fun i=>vSz (.nest i) (tabs S)).map fun n:Nat=>(n:Int)).map V.int)):=by
    rw[jL,zl,qQ,sx,sx];rfl
   have q':=q _ (g.trans g2);refine⟨p,(is.map fun i=>vSz (.nest i) (tabs S)).map fun n:Nat=>(n:Int),rfl,SqL.of kp,(by simpa using hne),fun m h5 h6=>?_⟩;rw[aBi h5 h6];refine⟨_,_,rfl,rfl,?_⟩;rw[show vSz (Kd.pick is) (tabs S)=1+xE (is.map fun i=>vSz (.nest i) (tabs S)) from rfl,yw]at q';exact q'
 | @nest a i h1 =>
  have hi:i<S.length:=hf;have hr2 : 2*i+2<=r:=hk;obtain⟨r,rfl⟩:=back (by omega);obtain⟨as,s,l,ps,m1,m2,m3,m4,m5⟩:=hlx.at hi;have hS:S[i]?=some S[i]:=θ hi;have hfit:=hg.fit i _ hS;have htab:=gK hS fun f hf=>(hfit f hf).1.below;have zl:(ps.map V.ref).length=S[i].2.length:=by rw[ε];exact m5.len
  refine⟨_,rfl,a,_,_,_,rfl,rfl,h1,rfl,rfl,_,rfl,kW (by decide) ⟨_,rfl,a,_,_,_,rfl,rfl,h1,rfl,rfl,_,rfl,kW (by decide) ⟨_,rfl,a,_,_,_,rfl,rfl,h1,rfl,rfl,_,rfl,kW (by decide) ⟨_,rfl,_,rfl,a,_,_,_,rfl,rfl,h1,rfl,sl,_,_,_,rfl,rfl,m1,lR m2,s,_,_,_,rfl,rfl,m3,rfl,l,rfl,⟨_,m4⟩,dO (xs:=ps.map V.ref) (fun j ys H'=>jG H H'/\ys=((S[i].2.take j).map fun f=>V.int (vSz f.2 (tabs S)))) ⟨jG.refl _,rfl⟩ (fun j ys H' _ z=>⟨z.1.seq m4,by rw[z.2,ε,rh];exact uz _ _⟩) (kP (by have:=hg.few i _ hS;omega)) (fun j x ys H' os ho hx z=>?_) (fun ys H' z p hp=>?_)⟩⟩⟩⟩
  ·obtain⟨g,rfl⟩:=z;obtain⟨o1,o2,rfl⟩:=tW ho;obtain⟨u,hu,rfl⟩:=qJ hx;obtain⟨nm',kd',kk,hfs,ht,hko⟩:=m5.get hu;have hm:=hfit _ (ψ hfs);exact⟨u,_,rfl,g.tp ht,rfl,_,_,rfl,_,_,rfl,rfl,_,rfl,_,rfl,kk,sl,kd',S,rfl,hm.1.rk.mono (by omega),(by have:=kd'.lv_le;omega),hm.1.mono (wk hi),hko.same g,hlx.same g,hg,fun H2 g2=>⟨⟨g.trans g2,(qY hfs).symm⟩,[_,_],rfl,rfl⟩⟩
  ·obtain⟨g,rfl⟩:=z;have g2:=vD hp (.lst ((S[i].2.take (ps.map V.ref).length).map fun f=>V.int (vSz f.2 (tabs S))));have kp:upd H' p (.lst ((S[i].2.take (ps.map V.ref).length).map fun f=>V.int (vSz f.2 (tabs S)))) p=some (.lst (((S[i].2.map fun f=>vSz f.2 (tabs S)).map fun n:Nat=>(n:Int)).map V.int)):=by
    rw[jL,zl,qQ,sx,sx];rfl
   have q':=q _ (g.trans g2);refine⟨p,(S[i].2.map fun f=>vSz f.2 (tabs S)).map fun n:Nat=>(n:Int),rfl,SqL.of kp,?_⟩;rw[sumI];rw[show vSz (.nest i) (tabs S)=(S[i].2.map fun f=>vSz f.2 (tabs S)).sum from htab.1]at q';exact q'
theorem rB{k r:Nat}(F:Fun K "_law_depth" "_law_depth" cE f fd){gc:Addr}{fj:sq}(bg:Df K mg "_law_depth" gc fj ["_law_kind_here","_law_shapes_here"])(gf:jI P w K mg base CX0 k gc fj ["_law_kind_here","_law_shapes_here"] (pD K vDp r)):jI P w K mg base CX0 (k+2) f fd ["_law_kind_here","_law_shapes_here"] (pD K vDp (r+1)):=by
 w_cond pH;obtain⟨a,sl,kd,S,rfl,hk,hv,hf,hlk,hlx,hg,q⟩:=h;refine⟨_,(jC (kS (kJ qV (jU kO (pv 0) jD (fun _ _=>rfl)) jF (kH _)) (jE (jP jD)) jY) (jC (kS (kJ qV (jU kO (pv 0) jD (fun _ _=>rfl)) jF (kH _)) (jE (jP (jJ gf hr rfl bg.m bg.k bg.b .nil jQ (jA (jU kO (pv 0) jD (fun _ _=>rfl)) (jA (pv 1) jB))))) jY) (jC (kS (kJ qV (jU kO (pv 0) jD (fun _ _=>rfl)) jF (kH _)) (jE (jP (jR (yR rfl) rfl M.max boot_max (jA (qI ["_law_at"] ["_law_shapes_here"] [1] rfl (qL (jU kO (pv 0) jD (fun _ _=>rfl))) rfl ⟨rfl,trivial⟩ ⟨⟨rfl,rfl,rfl,_,rfl⟩,trivial⟩ (fun _ _ _ _=>(jV (i:=0) (show sw (["_law_at","_law_shapes_here"]:List Str) from by decide +kernel) rfl (sy rfl))) (fun _ _ _ _=>qG) (fun _ _ _ _=>(jJ gf hr rfl bg.m bg.k bg.b .nil jQ (jA (jT (jA jF (jA (pv 0) jB))) (jA (pv 1) jB))))) jB)))) jY) (jE (jP (jN qE jD (jR (yR rfl) rfl M.max boot_max (jA (qI ["_law_name","_law_inner"] ["_law_shapes_here"] [1] rfl (qL (jU kO (jU jZ (pv 1) (jU kO (pv 0) jD (fun _ _=>rfl)) (fun _ _=>rfl)) jD (fun _ _=>rfl))) rfl ⟨rfl,trivial⟩ ⟨⟨rfl,rfl,rfl,_,rfl⟩,trivial⟩ (fun _ _ _ _=>(dF (K:=K) (n:=2) rfl rfl (kL (jV (i:=0) (show sw (["_law_name","_law_inner","_law_shapes_here"]:List Str) from by decide +kernel) rfl (sy rfl)) (kL (jV (i:=1) (show sw (["_law_name","_law_inner","_law_shapes_here"]:List Str) from by decide +kernel) rfl (sy rfl)) vL)))) (fun _ _ _ _=>qG) (fun _ _ _ _=>(jJ gf hr rfl bg.m bg.k bg.b .nil jQ (jA (pv 1) (jA (pv 2) jB))))) jB)))))))),?_⟩;have back : 1<=r->∃r',r=r'+1:=fun h=>⟨r-1,by omega⟩;cases id hlk with
 | @num a w h1=>exact⟨_,rfl,a,_,_,_,rfl,rfl,h1,rfl,rfl,_,rfl,qP (by decide) (q _ (jG.refl _))⟩
 | @many a b n k h1 h2 =>
  have hv' : 1<=r:=hv;obtain⟨r,rfl⟩:=back hv';have hlv:k.lv=0:=by rcases hf.2.2 with⟨w,rfl,_⟩|⟨i,rfl,_⟩ <;> rfl
  refine⟨_,rfl,a,_,_,_,rfl,rfl,h1,rfl,rfl,_,rfl,kW (by decide) ⟨_,rfl,a,_,_,_,rfl,rfl,h1,rfl,rfl,_,rfl,qP (by decide) ⟨_,rfl,a,_,_,_,rfl,rfl,h1,rfl,_,rfl,b,sl,k,S,rfl,hk.sub,(by omega),hf.sub,h2,hlx,hg,fun H' g=>?_⟩⟩⟩;exact q H' g
 | @pick a l is h1 h2 =>
  have hs:=hf.1;have hs4:=hf.2.1;have hne:is≠[]:=fun z=>by rw[z]at hs;exact absurd hs (by decide)
  have hr3 : 3<=r:=by
   cases is with
   |nil=>exact absurd rfl hne
   |cons i _=>have:=hk i (qy ..);omega
  obtain⟨r,rfl⟩:=back (by omega);have zl:(is.map fun n:Nat=>V.int n).length=is.length:=ε _;refine⟨_,rfl,a,_,_,_,rfl,rfl,h1,rfl,rfl,_,rfl,kW (by decide) ⟨_,rfl,a,_,_,_,rfl,rfl,h1,rfl,rfl,_,rfl,kW (by decide) ⟨_,rfl,a,_,_,_,rfl,rfl,h1,rfl,rfl,_,rfl,qP (by decide) ⟨_,rfl,a,_,_,_,rfl,rfl,h1,rfl,l,rfl,⟨_,h2⟩,xN (xs:=is.map fun n:Nat=>V.int n) (fun j ys H'=>jG H H'/\ys=((is.take j).map fun i=>V.int (vDp (.nest i) (tabs S)))) ⟨jG.refl _,rfl⟩ (fun j ys H' _ z=>⟨z.1.seq h2,by rw[z.2,ε,rh];exact uz _ _⟩) (kP (by omega)) (fun j x ys H' hx z=>?_) (fun ys H' z p hp=>?_)⟩⟩⟩⟩
  ·obtain⟨g,rfl⟩:=z;obtain⟨i,hi,rfl⟩:=mT hx;have him:=ψ hi;refine⟨_,rfl,qA,fun t ht=>?_⟩;clear 1 t H3 g3 k3 ht;exact⟨_,rfl,t,sl,.nest i,S,rfl,(by have:=hk i him;show 2*i+2<=r;omega),sd _,hf.2.2.2 i him,.nest (SqT.of k3),hlx.same (g.trans g3),hg,fun H4 g4=>⟨⟨(g.trans g3).trans g4,(qY hi).symm⟩,_,rfl⟩⟩
  ·obtain⟨g,rfl⟩:=z;have g2:=vD hp (.lst ((is.take (is.map fun n:Nat=>V.int n).length).map fun i=>V.int (vDp (.nest i) (tabs S))));have kp:upd H' p (.lst ((is.take (is.map fun n:Nat=>V.int n).length).map fun i=>V.int (vDp (.nest i) (tabs S)))) p=some (.lst (((is.map fun i=>vDp (.nest i) (tabs S)).map fun n:Nat=>(n:Int)).map V.int)):=by
    rw[jL,zl,qQ,sx,sx];rfl
   have q':=q _ (g.trans g2);refine⟨p,(is.map fun i=>vDp (.nest i) (tabs S)).map fun n:Nat=>(n:Int),rfl,SqL.of kp,(by simpa using hne),fun m h5 h6=>?_⟩;rw[aBi h5 h6];exact q'
 | @nest a i h1 =>
  have hi:i<S.length:=hf;have hr2 : 2*i+2<=r:=hk;obtain⟨r,rfl⟩:=back (by omega);obtain⟨as,s,l,ps,m1,m2,m3,m4,m5⟩:=hlx.at hi;have hS:S[i]?=some S[i]:=θ hi;have hfit:=hg.fit i _ hS;have htab:=gK hS fun f hf=>(hfit f hf).1.below;have zl:(ps.map V.ref).length=S[i].2.length:=by rw[ε];exact m5.len
  refine⟨_,rfl,a,_,_,_,rfl,rfl,h1,rfl,rfl,_,rfl,kW (by decide) ⟨_,rfl,a,_,_,_,rfl,rfl,h1,rfl,rfl,_,rfl,kW (by decide) ⟨_,rfl,a,_,_,_,rfl,rfl,h1,rfl,rfl,_,rfl,kW (by decide) ⟨_,rfl,_,rfl,a,_,_,_,rfl,rfl,h1,rfl,sl,_,_,_,rfl,rfl,m1,lR m2,s,_,_,_,rfl,rfl,m3,rfl,l,rfl,⟨_,m4⟩,dO (xs:=ps.map V.ref) (fun j ys H'=>jG H H'/\ys=((S[i].2.take j).map fun f=>V.int (vDp f.2 (tabs S)))) ⟨jG.refl _,rfl⟩ (fun j ys H' _ z=>⟨z.1.seq m4,by rw[z.2,ε,rh];exact uz _ _⟩) (kP (by have:=hg.few i _ hS;omega)) (fun j x ys H' os ho hx z=>?_) (fun ys H' z p hp=>?_)⟩⟩⟩⟩
  ·obtain⟨g,rfl⟩:=z;obtain⟨o1,o2,rfl⟩:=tW ho;obtain⟨u,hu,rfl⟩:=qJ hx;obtain⟨nm',kd',kk,hfs,ht,hko⟩:=m5.get hu;have hm:=hfit _ (ψ hfs);exact⟨u,_,rfl,g.tp ht,rfl,_,_,rfl,_,_,rfl,rfl,_,rfl,_,rfl,kk,sl,kd',S,rfl,hm.1.rk.mono (by omega),(by have:=kd'.lv_le;omega),hm.1.mono (wk hi),hko.same g,hlx.same g,hg,fun H2 g2=>⟨⟨g.trans g2,(qY hfs).symm⟩,[_,_],rfl,rfl⟩⟩
  ·obtain⟨g,rfl⟩:=z;have g2:=vD hp (.lst ((S[i].2.take (ps.map V.ref).length).map fun f=>V.int (vDp f.2 (tabs S))));have kp:upd H' p (.lst ((S[i].2.take (ps.map V.ref).length).map fun f=>V.int (vDp f.2 (tabs S)))) p=some (.lst (((S[i].2.map fun f=>vDp f.2 (tabs S)).map fun n:Nat=>(n:Int)).map V.int)):=by
    rw[jL,zl,qQ,sx,sx];rfl
   have q':=q _ (g.trans g2);refine⟨p,(S[i].2.map fun f=>vDp f.2 (tabs S)).map fun n:Nat=>(n:Int),rfl,SqL.of kp,(by simpa using hg.ne i _ hS),fun m h5 h6=>?_⟩;rw[aBi h5 h6];refine⟨_,_,rfl,rfl,?_⟩;rw[show vDp (.nest i) (tabs S)=1+xE (S[i].2.map fun f=>vDp f.2 (tabs S)) from htab.2.1,yw]at q';exact q'
theorem oX{k r:Nat}(F:Fun K "_law_units" "_law_units" cH f fd){gi:Addr}{fk:sq}(bv:Df K mg "_law_units" gi fk ["_law_kind_here","_law_shapes_here","_law_path"])(io:jI P w K mg base CX0 k gi fk ["_law_kind_here","_law_shapes_here","_law_path"] (spLU K r)){dj:Addr}{cw:sq}(bc:Df K mg "_law_size" dj cw ["_law_kind_here","_law_shapes_here"])(dw:jI P w K mg base CX0 k dj cw ["_law_kind_here","_law_shapes_here"] (pD K vSz (r+1))){lw:Addr}{ky:sq}(bx:Df K mg "_law_joined" lw ky ["_law_path","_law_step"])(jf:jI P w K mg base CX0 k lw ky ["_law_path","_law_step"] spLJ):jI P w K mg base CX0 (k+2) f fd ["_law_kind_here","_law_shapes_here","_law_path"] (spLU K (r+1)):=by
 w_cond vJ;obtain⟨a,sl,p,kd,S,rfl,hp,hk,hv,hf,hlk,hlx,hg,q⟩:=h;refine⟨_,(jC (kS (kJ qV (jU kO (pv 0) jD (fun _ _=>rfl)) jF (kH _)) (jE (jP (kN (jA (jT (jA (pv 2) (jA (jU kO (pv 0) jD (fun _ _=>rfl)) (jA jF jB)))) jB)))) jY) (jC (kS (kJ qV (jU kO (pv 0) jD (fun _ _=>rfl)) jF (kH _)) (jE (jP (kN (jA (jT (jA (jJ jf hr rfl bx.m bx.k bx.b .nil jQ (jA (pv 2) (jA jF jB))) (jA jD (jA jF jB)))) (jA (jT (jA (pv 2) (jA (jN oS (jJ dw hr rfl bc.m bc.k bc.b .nil jQ (jA (pv 0) (jA (pv 1) jB))) jD) (jA jF jB)))) jB))))) jY) (jC (kI (i:=3) vJ.nd rfl (by walk_at"o") (kN jB)) (jC (kS (kJ qV (jU kO (pv 0) jD (fun _ _=>rfl)) jF (kH _)) (jE (xB vg rfl (vF rfl M.range (jA (jU kO (pv 0) jD (fun _ _=>rfl)) jB)) (jV (i:=4) vJ.nd rfl (sy rfl)) (jE (kI (i:=3) vJ.nd rfl (by walk_at"o") (jN gR (pv 3) (jJ io hr rfl bv.m bv.k bv.b .nil jQ (jA (jU kO (pv 0) jD (fun _ _=>rfl)) (jA (pv 1) (jA (jJ jf hr rfl bx.m bx.k bx.b .nil jQ (jA (pv 2) (jA (qX bD rfl M.str boot_str (jA (pv 4) jB)) jB))) jB))))))))) (jE (xB vg rfl (qL (jU kO (jU jZ (pv 1) (jU kO (pv 0) jD (fun _ _=>rfl)) (fun _ _=>rfl)) jD (fun _ _=>rfl))) (zL rfl (kL (jV (i:=5) vJ.nd rfl (sy rfl)) (kL (jV (i:=6) vJ.nd rfl (sy rfl)) vL))) (jE (kI (i:=3) vJ.nd rfl (by walk_at"o") (jN gR (pv 3) (jJ io hr rfl bv.m bv.k bv.b .nil jQ (jA (pv 6) (jA (pv 1) (jA (jJ jf hr rfl bx.m bx.k bx.b .nil jQ (jA (pv 2) (jA (pv 5) jB))) jB)))))))))) (jE (jP (pv 3))))))),?_⟩;have back : 1<=r->∃r',r=r'+1:=fun h=>⟨r-1,by omega⟩;have bd:=Kd.size_bd hg.sz (by decide) hf;have lens:((∃i,kd=.nest i)\/∃n q,kd=.many n q)->∀j,(((kd.parts S).take j).flatMap fun f=>un f.2 S (pj p f.1)).length<=6000:=fun hF j=>by
  have h1:(un kd S p).length<=_:=(hg.kd hf).2 p;rw[Kd.parts_un hg hf hF]at h1
  conv at h1=>lhs;rw[←yf j (kd.parts S)]
  rw[wq,ζ]at h1;omega
 have pjl:∀y:Str,y.length<=6->(pj p y).length<=p.length+7:=fun y hy=>by
  have e1:(δ ".").length=1:=rfl;unfold pj
  split
  ·omega
  ·rw[rp,rp];omega
 cases id hlk with
 | @num a w h1 =>
  refine⟨_,rfl,a,_,_,_,rfl,rfl,h1,rfl,rfl,_,rfl,qP (by decide) ⟨_,rfl,_,rfl,a,_,_,_,rfl,rfl,h1,rfl,cI,fun t ht=>?_⟩⟩;generalize e1:upd H t _=H1;obtain⟨g1,k1⟩:=kM e1 ht;refine⟨bI,fun l hl=>?_⟩;clear 1 l H2 g2 k2 hl;exact q l H2 (g1.trans g2) (g1.free hl) ⟨[t],k2,.cons (g2.tp (SqT.of k1)) .nil⟩
 | @pick a l is h1 h2 =>
  refine⟨_,rfl,a,_,_,_,rfl,rfl,h1,rfl,rfl,_,rfl,kW (by decide) ⟨_,rfl,a,_,_,_,rfl,rfl,h1,rfl,rfl,_,rfl,qP (by decide) ⟨_,rfl,p,_,rfl,(by omega),(by decide),(by decide),cI,fun t1 ht1=>?_⟩⟩⟩;generalize e1:upd H t1 _=H1;obtain⟨g1,k1⟩:=kM e1 ht1;refine⟨_,rfl,_,rfl,_,rfl,a,sl,.pick is,S,rfl,hk,hv,hf,hlk.same g1,hlx.same g1,hg,fun H2 g2=>⟨_,_,rfl,rfl,cI,fun t2 ht2=>?_⟩⟩;clear 1 t2 H3 g3 k3 ht2;refine⟨qA,fun lf hl=>?_⟩;clear 1 lf H4 g4 k4 hl;have ez:((vSz (Kd.pick is) (tabs S):Nat):Int)-1=((xE (is.map fun i=>(tabs S).sz.getD i 0):Nat):Int):=by
   rw[show vSz (Kd.pick is) (tabs S)=1+xE (is.map fun i=>(tabs S).sz.getD i 0) from rfl];omega
  have k3':H3 t2=some (.tup [.str p,.int ((vSz (Kd.pick is) (tabs S):Nat)-1),.str (δ "pick")]):=k3;rw[ez]at k3';exact q lf H4 (((g1.trans g2).trans g3).trans g4) (((g1.trans g2).trans g3).free hl) ⟨[t1,t2],k4,.cons (((g2.trans g3).trans g4).tp (SqT.of k1)) (.cons (g4.tp (SqT.of k3')) .nil)⟩
 | @many a b n k h1 h2 =>
  have hv' : 1<=r:=hv;obtain⟨r,rfl⟩:=back hv';have hn6:n<=6:=hf.2.1;have hlv:k.lv=0:=by rcases hf.2.2 with⟨w,rfl,_⟩|⟨i,rfl,_⟩ <;> rfl
  refine⟨_,rfl,a,_,_,_,rfl,rfl,h1,rfl,rfl,_,rfl,kW (by decide) ⟨_,rfl,a,_,_,_,rfl,rfl,h1,rfl,rfl,_,rfl,kW (by decide) ⟨mH,fun l0 hl0=>?_⟩⟩⟩;generalize e1:upd H l0 _=H1;obtain⟨g1,k1⟩:=kM e1 hl0;refine⟨_,rfl,a,_,_,_,rfl,rfl,g1.tp h1,rfl,rfl,_,rfl,qP (by decide) ⟨_,rfl,a,_,_,_,rfl,rfl,g1.tp h1,rfl,n,rfl,by omega,by omega,cU (n:=n) (fun j σ H'=>∃(o4 o5 o6:Option V) (lf:Addr),σ = [some (.ref a),some (.ref sl),some (.str p),some (.ref lf),o4,o5,o6]/\jG H H'/\H lf=none/\UL K H' lf ((((Kd.many n k).parts S).take j).flatMap fun f=>un f.2 S (pj p f.1))) ⟨_,_,_,l0,rfl,g1,hl0,[],k1,.nil⟩ (fun j σ H' hj z=>?_) (fun σ H' z=>?_)⟩⟩
  ·obtain⟨o4,o5,o6,lf,rfl,g,hlf,us,ku,ur⟩:=z;have hps:((Kd.many n k).parts S)[j]?=some (δ (toString j),k):=by
    show((tw n).map _)[j]?=_;rw[sv,List.getElem?_range hj];rfl
   obtain⟨p1,p2,p3,p4⟩:=Kd.parts_ok hg hf hk (ψ hps);refine⟨_,rfl,_,rfl,a,_,_,_,rfl,rfl,g.tp h1,rfl,_,rfl,_,rfl,_,rfl,_,rfl,Nat.lt_trans (eJ (by omega)) (by decide),p,δ (toString ((0:Int)+(j:Nat))),rfl,by omega,?_,?_,b,sl,pj p (δ (toString ((0:Int)+(j:Nat)))),k,S,rfl,?_,p1,by omega,p2,h2.same g,hlx.same g,hg,fun l3 H3 g3 hl3 u3=>?_⟩
   ·rw[xq];exact sg p4 (by decide)
   ·rw[xq];exact p3
   ·rw[xq];have:=pjl (δ (toString j)) p4;show(pj p (δ (toString j))).length+_<=_;omega
   rw[xq]at u3;obtain⟨us3,k3,ur3⟩:=u3;have ku3:=g3 _ _ ku;have h6:=lens (.inr ⟨_,_,rfl⟩) (j+1);rw[cT hps,ζ,←ur.len,show(un k S (pj p (δ (toString j)))).length=us3.length from ur3.len.symm]at h6;refine⟨lf,l3,_,_,rfl,rfl,ku3,k3,(by rw[qx,ε,ε];omega),fun l4 hl4=>?_⟩;clear 1 l4 H4 g4 k4 hl4;refine⟨_,_,_,l4,rfl,(g.trans g3).trans g4,(g.trans g3).free hl4,us++us3,by rw[ν];exact k4,?_⟩;rw[cT hps];exact(ur.same (g3.trans g4)).app (ur3.same g4)
  ·obtain⟨o4,o5,o6,lf,rfl,g,hlf,u⟩:=z;refine⟨_,rfl,q lf H' g hlf ?_⟩;rw[Kd.parts_un hg hf (.inr ⟨_,_,rfl⟩)];rw[vt (by show((tw n).map _).length<=n;rw[ε,wb];exact μ _)]at u;exact u
 | @nest a i h1 =>
  have hi:i<S.length:=hf;have hr2 : 2*i+2<=r:=hk;obtain⟨r,rfl⟩:=back (by omega);obtain⟨as,s,l,ps,m1,m2,m3,m4,m5⟩:=hlx.at hi;have hS:S[i]?=some S[i]:=θ hi;have ep:(Kd.nest i).parts S=S[i].2:=by show(S.getD i _).2=_;rw[Θ,hS];rfl
  refine⟨_,rfl,a,_,_,_,rfl,rfl,h1,rfl,rfl,_,rfl,kW (by decide) ⟨_,rfl,a,_,_,_,rfl,rfl,h1,rfl,rfl,_,rfl,kW (by decide) ⟨mH,fun l0 hl0=>?_⟩⟩⟩;generalize e1:upd H l0 _=H1;obtain⟨g1,k1⟩:=kM e1 hl0;refine⟨_,rfl,a,_,_,_,rfl,rfl,g1.tp h1,rfl,rfl,_,rfl,kW (by decide) ⟨_,rfl,_,rfl,a,_,_,_,rfl,rfl,g1.tp h1,rfl,sl,_,_,_,rfl,rfl,g1.seq m1,lR m2,s,_,_,_,rfl,rfl,g1.tp m3,rfl,l,rfl,⟨_,g1.seq m4⟩,xF (xs:=ps.map V.ref) (fun j σ H'=>∃(o4 o5 o6:Option V) (lf:Addr),σ = [some (.ref a),some (.ref sl),some (.str p),some (.ref lf),o4,o5,o6]/\jG H H'/\H lf=none/\UL K H' lf ((((Kd.nest i).parts S).take j).flatMap fun f=>un f.2 S (pj p f.1))) ⟨_,_,_,l0,rfl,g1,hl0,[],k1,.nil⟩ (fun j σ H' _ z=>?_) (fun j x σ H' hx z=>?_) (fun σ H' z=>?_)⟩⟩
  ·obtain⟨o4,o5,o6,lf,rfl,g,_⟩:=z;exact g.seq m4
  ·obtain⟨o4,o5,o6,lf,rfl,g,hlf,us,ku,ur⟩:=z;obtain⟨t,ht,rfl⟩:=qJ hx;obtain⟨nm',kd',kk,hfs,htt,hko⟩:=m5.get ht;have hps:((Kd.nest i).parts S)[j]?=some (nm',kd'):=by rw[ep];exact hfs
   obtain⟨p1,p2,p3,p4⟩:=Kd.parts_ok hg hf hk (ψ hps);have p4':nm'.length<=6:=p4;have:=pjl nm' p4';refine⟨t,_,rfl,g.tp htt,rfl,_,_,rfl,_,_,rfl,rfl,_,rfl,_,rfl,_,rfl,_,rfl,_,rfl,p,nm',rfl,by omega,by omega,p3,kk,sl,pj p nm',kd',S,rfl,by omega,p1,(by have:=kd'.lv_le;omega),p2,hko.same g,hlx.same g,hg,fun l3 H3 g3 hl3 zq=>?_⟩;obtain⟨us3,k3,ur3⟩:=zq;have ku3:=g3 _ _ ku;have h6:=lens (.inl ⟨_,rfl⟩) (j+1);rw[cT hps,ζ,←ur.len,←ur3.len]at h6;refine⟨lf,l3,_,_,rfl,rfl,ku3,k3,(by rw[qx,ε,ε];omega),fun l4 hl4=>?_⟩;clear 1 l4 H4 g4 k4 hl4;refine⟨_,_,_,l4,rfl,(g.trans g3).trans g4,(g.trans g3).free hl4,us++us3,by rw[ν];exact k4,?_⟩;rw[cT hps];exact(ur.same (g3.trans g4)).app (ur3.same g4)
  ·obtain⟨o4,o5,o6,lf,rfl,g,hlf,u⟩:=z;refine⟨_,rfl,q lf H' g hlf ?_⟩;rw[Kd.parts_un hg hf (.inl ⟨_,rfl⟩)];rw[vt (by rw[ep,ε,m5.len];exact μ _)]at u;exact u
theorem tJ{r:Nat}(F:Fun K "_law_fits" "_law_fits" dN f fd)(bc:Df K mg "_law_size" dj cw ["_law_kind_here","_law_shapes_here"])(dw:jI P w K mg base CX0 k dj cw ["_law_kind_here","_law_shapes_here"] (pD K vSz (r+1)))(bv:Df K mg "_law_units" gi fk ["_law_kind_here","_law_shapes_here","_law_path"])(io:jI P w K mg base CX0 k gi fk ["_law_kind_here","_law_shapes_here","_law_path"] (spLU K (r+1)))(bg:Df K mg "_law_depth" gc fj ["_law_kind_here","_law_shapes_here"])(gf:jI P w K mg base CX0 k gc fj ["_law_kind_here","_law_shapes_here"] (pD K vDp (r+1))):jI P w K mg base CX0 (k+2) f fd ["_law_shapes_here"] (aCm K r):=by
 w_cond hU;obtain⟨sl,S,n,rfl,hn,hlx,hg,hr1,h8,q⟩:=h;refine⟨_,(jC (kI (i:=1) hU.nd rfl (by walk_at"o") (jT (jA jF (jA (jN oS (jR jX rfl M.len si (jA (pv 0) jB)) jD) jB)))) (jC (kS (PW.pt (oF (kJ dI (jJ dw hr rfl bc.m bc.k bc.b .nil jQ (jA (pv 1) (jA (pv 0) jB))) jD (kH _)) (fU (kJ dI (jR jX rfl M.len si (jA (jJ io hr rfl bv.m bv.k bv.b .nil jQ (jA (pv 1) (jA (pv 0) (jA jF jB)))) jB)) jD (kH _))))) (jE (jP fG)) jY) (jE (jP (qW mC (jJ gf hr rfl bg.m bg.k bg.b .nil jQ (jA (pv 1) (jA (pv 0) jB))) jD (kH _)))))),?_⟩;obtain⟨as,ha,hW⟩:=id hlx;have hal:((as.map V.ref).length:Int)-1=((n:Nat):Int):=by rw[ε,hW.len,hn];omega
 refine⟨_,rfl,sl,_,rfl,.inl ha,_,_,rfl,rfl,qA,fun t ht=>?_⟩;clear 1 t H1 g1 k0 ht;have k1:H1 t=some (.tup [.str (δ "shape"),.int (((as.map V.ref).length:Int)-1)]):=k0;rw[hal]at k1;have hnS:(Kd.nest n).Fit S.length:=by show n<S.length;omega
 have lk:LK K H1 t (.nest n):=.nest (SqT.of k1);refine⟨_,rfl,_,rfl,t,sl,.nest n,S,rfl,hr1,sd _,hnS,lk,hlx.same g1,hg,fun H2 g2=>⟨_,_,rfl,rfl,_,rfl,vS (fun c=>qP rfl (q false H2 (g1.trans g2) (fun z=>by cases z))) (fun c=>?_)⟩⟩;refine⟨_,rfl,_,rfl,t,sl,Str.empty,.nest n,S,rfl,(by show 0+8*r<=200;omega),hr1,sd _,hnS,lk.same g2,hlx.same (g1.trans g2),hg,fun l H3 g3 hl ⟨us,ku,ur⟩=>⟨l,_,rfl,.inl (SqL.of ku),_,_,rfl,rfl,_,rfl,vS (fun c2=>q false H3 ((g1.trans g2).trans g3) (fun z=>by cases z)) (fun c2=>?_)⟩⟩;refine⟨_,rfl,_,rfl,t,sl,.nest n,S,rfl,hr1,sd _,hnS,lk.same (g2.trans g3),hlx.same ((g1.trans g2).trans g3),hg,fun H4 g4=>⟨_,_,rfl,rfl,?_⟩⟩;refine q _ H4 (((g1.trans g2).trans g3).trans g4) fun c3=>?_;have c1':¬ (64:Int)<((vSz (Kd.nest n) (tabs S):Nat):Int):=fun z=>c (decide_eq_true z);have c2':¬ (40:Int)<(((us.map V.ref).length:Nat):Int):=fun z=>c2 (decide_eq_true z);have c3':((vDp (Kd.nest n) (tabs S):Nat):Int)<=4:=of_decide_eq_true c3;rw[ε,ur.len]at c2';exact⟨by show vSz (Kd.nest n) (tabs S)<=64;omega,by omega,by show vDp (Kd.nest n) (tabs S)<=4;omega⟩
theorem rJ{k:Nat}(F:Fun K "_law_kind" "_law_kind" eI f fd){be:Addr}{az:sq}(af:Df K mg "_law_take" be az ["_law_box_here","_law_many"])(aw:jI P w K mg base CX0 k be az ["_law_box_here","_law_many"] dR):jI P w K mg base CX0 (k+2) f fd ["_law_box_here","_law_known"] (aHg K):=by
 w_cond zI;obtain⟨p,n,xs,rfl,hn8,hs,hpx,hal,q⟩:=h;refine⟨_,(jC (kI (i:=2) zI.nd rfl (by walk_at"o") (jJ aw hr rfl af.m af.k af.b .nil jQ (jA (pv 0) (jA jD jB)))) (jC (kI (i:=3) zI.nd rfl (by walk_at"o") (jN qE jD (jJ aw hr rfl af.m af.k af.b .nil jQ (jA (pv 0) (jA jD jB))))) (jC (kS (PW.pt (oF (kJ aDn (pv 2) jD (kH _)) (fU (kJ qV (pv 1) jD (kH _))))) (jE (jP (jU jZ (kN (jA (jT (jA jF (jA (pv 3) jB))) (jA (jT (jA jF (jA (jN qE jD (jJ aw hr rfl af.m af.k af.b .nil jQ (jA (pv 0) (jA jD jB)))) (jA (jT (jA jF (jA (pv 3) jB))) jB)))) jB))) (qX hZ rfl M.int boot_int (jA (qW qV (pv 2) jD (kH _)) jB)) (fun _ _=>rfl)))) jY) (jC (kI (i:=4) zI.nd rfl (by walk_at"o") (jJ aw hr rfl af.m af.k af.b .nil jQ (jA (pv 0) (jA (pv 1) jB)))) (jC (kS (kJ aDn (pv 2) jD (kH _)) (jE (jP (jT (jA jF (jA (pv 4) jB))))) jY) (jC (kS (kJ qV (pv 2) jD (kH _)) (jE (jP (jT (jA jF (jA (jN qE jD (jJ aw hr rfl af.m af.k af.b .nil jQ (jA (pv 0) (jA jD jB)))) (jA (jT (jA jF (jA (pv 4) jB))) jB)))))) jY) (jC (kS (kJ qV (pv 1) jD (kH _)) (jE (jP (jT (jA jF (jA (pv 3) jB))))) jY) (jE (jP (jT (jA jF (jA (qI ["_law_k"] ["_law_known","_law_at"] [1,4] rfl (vF rfl M.range (jA (jR (nY rfl) rfl M.min boot_min (jA (pv 1) (jA (jN qE jD (jJ aw hr rfl af.m af.k af.b .nil jQ (jA (pv 0) (jA jD jB)))) jB))) jB)) rfl ⟨rfl,⟨rfl,trivial⟩⟩ ⟨⟨rfl,rfl,rfl,_,rfl⟩,⟨⟨rfl,rfl,rfl,_,rfl⟩,trivial⟩⟩ (fun _ _ _ _=>(jV (i:=0) (show sw (["_law_k","_law_known","_law_at"]:List Str) from by decide +kernel) rfl (sy rfl))) (fun _ _ _ _=>qG) (fun _ _ _ _=>(jN zF (jN qE (pv 2) (pv 0)) (pv 1)))) jB)))))))))))),?_⟩;refine⟨_,rfl,p,8,rfl,by decide,by decide,hs,fun v1 H1 hv1 d1=>⟨_,rfl,p,4,rfl,by decide,by decide,d1.1,fun v2 H2 hv2 d2=>⟨_,_,rfl,rfl,?_⟩⟩⟩;have dd:=d1.trans d2;have al2:=Al.drawn hal dd;have ew:(1:Int)+(v2:Nat)=((1+v2:Nat):Int):=by omega
 have tup:∀{H0 H1:Hp}{t:Addr}{o:HO},Al xs H0->H0 t=none->upd H0 t o=H1->Al xs H1/\jG H0 H1/\offs xs H1 t=some o:=fun al ht e=>by
  obtain⟨g,k⟩:=kM e ht;exact⟨al.same g,g,yO (al.new ht) k⟩
 dsimp only[dL];refine joinC (decide (v1<3\/n=0)) (H':=H2) ?_ (fun Q' hQ=>?_)
 ·by_cases hc:v1<3\/n=0
  ·refine qP (decide_eq_true hc) ⟨_,rfl,qA,fun t1 ht1=>?_⟩;generalize e3:upd H2 t1 _=H3;obtain⟨al3,g3,k3⟩:=tup al2 ht1 e3;refine⟨_,rfl,p,6,rfl,by decide,by decide,jG.st3 g3 d2.1,fun v3 H4 hv3 d4=>⟨_,_,rfl,rfl,_,rfl,qA,fun t2 ht2=>?_⟩⟩;have al4:=Al.drawn al3 d4;have k34:=d4.offs hpx _ _ k3;generalize e5:upd H4 t2 _=H5;obtain⟨al5,g5,k5⟩:=tup al4 ht2 e5;refine⟨cI,fun t3 ht3=>?_⟩;generalize e6:upd H5 t3 _=H6;obtain⟨al6,g6,k6⟩:=tup al5 ht3 e6;refine⟨qA,fun l hl=>?_⟩;clear 1 l H7 g7 k7 hl;have D7:Drawn p H H7:=(((dd.keep g3).trans d4).keep ((g5.trans g6).trans g7));have s57:jG (offs xs H5) (offs xs H7):=qD (g6.trans g7);have s67:jG (offs xs H6) (offs xs H7):=qD g7;have s47:jG (offs xs H4) (offs xs H7):=qD ((g5.trans g6).trans g7);rw[ew]at k34 k5;have e3':(1:Int)+(v3:Nat)=((1+v3:Nat):Int):=by omega
   dsimp only at k6;rw[e3']at k6
   by_cases h2:v1=2
   ·refine⟨_,rfl,rfl,_,rfl,l,_,_,.ref t3,rfl,rfl,SqL.of k7,(by rw[if_pos (by rw[h2];decide)];rfl),q t3 (.many (1+v3) (.num (1+v2))) H7 D7 ⟨by omega,by omega,.inl ⟨1+v2,rfl,by omega,by omega⟩⟩ (.many (SqT.of (s67 _ _ k6)) (.num (SqT.of (s57 _ _ k5))))⟩
   ·refine⟨_,rfl,rfl,_,rfl,l,_,_,.ref t1,rfl,rfl,SqL.of k7,(by rw[if_neg (by simp;omega)];rfl),q t1 (.num (1+v2)) H7 D7 ⟨by omega,by omega⟩ (.num (SqT.of (s47 _ _ k34)))⟩
  ·have hv3 : 3<=v1:=by omega
   have hn0 : 0<n:=by omega
   refine kW (by rw[decide_eq_false hc];decide) ⟨_,rfl,_,rfl,p,n,rfl,by omega,by omega,dd.1,fun v3 H3 hv3' d3=>?_⟩;have d23:=dd.trans d3;have al3:=Al.drawn al2 d3;refine⟨_,rfl,_,_,rfl,rfl,_,rfl,vS (fun c=>?_) (fun c=>?_)⟩
   ·refine⟨_,rfl,qA,fun t ht=>?_⟩;generalize e4:upd H3 t _=H4;obtain⟨al4,g4,k4⟩:=tup al3 ht e4;exact q t (.nest v3) H4 (d23.keep g4) (by show v3<n;omega) (.nest (SqT.of k4))
   ·refine⟨_,rfl,rfl,_,rfl,vS (fun c=>?_) (fun c=>?_)⟩
    ·refine⟨_,rfl,p,6,rfl,by decide,by decide,d3.1,fun v4 H4 hv4 d4=>⟨_,_,rfl,rfl,_,rfl,qA,fun t2 ht2=>?_⟩⟩;have al4:=Al.drawn al3 d4;generalize e5:upd H4 t2 _=H5;obtain⟨al5,g5,k5⟩:=tup al4 ht2 e5;refine⟨cI,fun t3 ht3=>?_⟩;generalize e6:upd H5 t3 _=H6;obtain⟨al6,g6,k6⟩:=tup al5 ht3 e6;have e4':(1:Int)+(v4:Nat)=((1+v4:Nat):Int):=by omega
     dsimp only at k6;rw[e4']at k6;exact q t3 (.many (1+v4) (.nest v3)) H6 ((d23.trans d4).keep (g5.trans g6)) ⟨by omega,by omega,.inr ⟨v3,rfl,by omega⟩⟩ (.many (SqT.of k6) (.nest (SqT.of (qD g6 _ _ k5))))
    ·refine⟨_,rfl,rfl,_,rfl,vS (fun c=>?_) (fun c=>?_)⟩
     ·refine⟨_,rfl,qA,fun t ht=>?_⟩;generalize e4:upd H3 t _=H4;obtain⟨al4,g4,k4⟩:=tup al3 ht e4;rw[ew]at k4;exact q t (.num (1+v2)) H4 (d23.keep g4) ⟨by omega,by omega⟩ (.num (SqT.of k4))
     ·have hn1:n≠1:=fun z=>c (by rw[z];decide);refine⟨_,rfl,_,rfl,p,3,rfl,by decide,by decide,d3.1,fun v4 H4 hv4 d4=>⟨_,_,rfl,rfl,_,_,rfl,?_⟩⟩;have al4:=Al.drawn al3 d4;obtain⟨m,hm,hm2,hm4,hmn⟩ : ∃m:Nat,(if (2:Int)+(v4:Nat)<(n:Nat) then (2:Int)+(v4:Nat) else (n:Nat))=(m:Nat)/\2<=m/\m<=4/\m<=n:=by
       by_cases z:(2:Int)+(v4:Nat)<(n:Nat)
       ·exact⟨2+v4,by rw[if_pos z];omega,by omega,by omega,by omega⟩
       ·exact⟨n,by rw[if_neg z],by omega,by omega,μ _⟩
      refine⟨_,rfl,(by rw[hm];omega),(by rw[hm];omega),?_⟩;rw[hm];refine xL (n:=m) (fun j ys H'=>H'=H4/\ys=((tw j).map fun k=>(v3+k) % n).map fun i:Nat=>V.int i) ⟨rfl,rfl⟩ (fun j ys H' _ z=>by rw[z.2,ε,ε,wb];exact μ _) (kP (by omega)) (fun j ys H' hj z=>?_) (fun ys H' z l hl=>?_)
      ·obtain⟨rfl,rfl⟩:=z;refine⟨_,rfl,_,rfl,_,_,rfl,rfl,_,rfl,_,_,rfl,rfl,(by show(0:Int)<(n:Nat);omega),⟨rfl,?_⟩,_,rfl⟩;rw[yh,ν,ν]
       congr 1
       show[V.int (((v3:Nat)+(0+(j:Nat))) % (n:Nat))]=[V.int (((v3+j) % n:Nat):Int)]
       congr 2
       rw[xq,←yw]
       first|exact(Int.natCast_emod _ _).symm|exact(Int.ofNat_emod _ _).symm|rfl
      ·obtain⟨rfl,rfl⟩:=z;generalize e5:upd H' l _=H5;obtain⟨al5,g5,k5⟩:=tup al4 hl e5;refine⟨qA,fun t ht=>?_⟩;generalize e6:upd H5 t _=H6;obtain⟨al6,g6,k6⟩:=tup al5 ht e6;refine q t (.pick ((tw m).map fun k=>(v3+k) % n)) H6 ((d23.trans d4).keep (g5.trans g6)) ⟨by rw[ε,wb];exact hm2,by rw[ε,wb];exact hm4,aBm hmn,fun i hi=>?_⟩ (.pick (SqT.of k6) (SqL.of (qD g6 _ _ k5)));obtain⟨k,_,rfl⟩:=rm.mp hi;exact Nat.mod_lt _ hn0
 ·refine⟨_,rfl,_,_,rfl,rfl,_,rfl,vS (fun c=>?_) (fun c=>?_)⟩
  ·have c':(v1:Int)<3:=of_decide_eq_true c;rw[decide_eq_true (show v1<3\/n=0 from .inl (by omega))]at hQ;exact hQ
  ·have c':¬ (v1:Int)<3:=fun z=>c (decide_eq_true z);refine⟨_,rfl,rfl,_,rfl,?_⟩;rw[show decide (V.int (n:Nat)=V.int 0)=decide (v1<3\/n=0) by
    by_cases z:n=0
    ·rw[decide_eq_true (show v1<3\/n=0 from .inr z),z];decide
    ·rw[decide_eq_false (show ¬ (v1<3\/n=0) by omega),decide_eq_false];intro e;injection e with e;omega]
   exact hQ
theorem gQ{k r:Nat}(F:Fun K "_law_kind_text" "_law_kind_text" yL f fd){dm:Addr}{dc:sq}(bz:Df K mg "_law_kind_text" dm dc ["_law_kind_here","_law_shapes_here"])(gs:jI P w K mg base CX0 k dm dc ["_law_kind_here","_law_shapes_here"] (spKT K r)):jI P w K mg base CX0 (k+2) f fd ["_law_kind_here","_law_shapes_here"] (spKT K (r+1)):=by
 w_cond gO;obtain⟨a,sl,kd,S,rfl,hlv,hf,hn,hlk,hlx,q⟩:=h;refine⟨_,(jC (kS (kJ qV (jU kO (pv 0) jD (fun _ _=>rfl)) jF (kH _)) (jE (jP (jN jS jF (qX bD rfl M.str boot_str (jA (jU kO (pv 0) jD (fun _ _=>rfl)) jB))))) jY) (jC (kS (kJ qV (jU kO (pv 0) jD (fun _ _=>rfl)) jF (kH _)) (jE (jP (jN jS (jN jS (jN jS jF (qX bD rfl M.str boot_str (jA (jU kO (pv 0) jD (fun _ _=>rfl)) jB))) jF) (jJ gs hr rfl bz.m bz.k bz.b .nil jQ (jA (jU kO (pv 0) jD (fun _ _=>rfl)) (jA (pv 1) jB)))))) jY) (jC (kS (kJ qV (jU kO (pv 0) jD (fun _ _=>rfl)) jF (kH _)) (jE (jP (qK sr ul uo vW jF (jA (jN gR (kN (jA jF jB)) (qI ["_law_at"] ["_law_shapes_here"] [1] rfl (qL (jU kO (pv 0) jD (fun _ _=>rfl))) rfl ⟨rfl,trivial⟩ ⟨⟨rfl,rfl,rfl,_,rfl⟩,trivial⟩ (fun _ _ _ _=>(jV (i:=0) (show sw (["_law_at","_law_shapes_here"]:List Str) from by decide +kernel) rfl (sy rfl))) (fun _ _ _ _=>qG) (fun _ _ _ _=>(jU (aAg K rfl) (jU (lO K rfl) (pv 1) (pv 0) (fun _ _=>rfl)) jD (fun _ _=>rfl))))) jB)))) jY) (jE (jP (jU kO (jU jZ (pv 1) (jU kO (pv 0) jD (fun _ _=>rfl)) (fun _ _=>rfl)) jD (fun _ _=>rfl))))))),?_⟩;have lg:∀i:Nat,i<=9->(((i:Nat):Int)).natAbs.log2<1920:=fun i hi=>Nat.lt_trans (eJ (by omega)) (by decide);have jc:∀(x:Str) (ys:List Str),ys≠[]->π L2.spS (x::ys)=x++L2.spS++π L2.spS ys:=fun x ys h=>aF h;obtain⟨w6,w5⟩:=fV hn hf;cases id hlk with
 | @num a w h1 =>
  have hw:w<=4:=hf.2;have d2:=(dig (w:=w) (by omega)).2.1;refine⟨_,rfl,a,_,_,_,rfl,rfl,h1,rfl,rfl,_,rfl,qP (by decide) ⟨_,rfl,a,_,_,_,rfl,rfl,h1,rfl,_,rfl,lg w (by omega),_,_,rfl,rfl,(by show 4+(δ (toString ((w:Nat):Int))).length<=ρ;rw[d2];decide),?_⟩⟩;have q':=q H (jG.refl _);rw[show(Kd.num w).words (kR S)=[δ "num",δ (toString ((w:Nat):Int))] from rfl,jc _ _ (by simp)]at q';exact q'
 | @many a b n k h1 h2 =>
  have hn6:n<=6:=hf.2.1;have d2:=(dig (w:=n) (by omega)).2.1;have hlk0:k.lv=0:=by rcases hf.2.2 with⟨w,rfl,_⟩|⟨i,rfl,_⟩ <;> rfl
  have kl:(π L2.spS (k.words (kR S))).length<=100:=by
   obtain⟨v6,v5⟩:=fV hn hf.sub;have h3:(π L2.spS (k.words (kR S))).length<=_:=aM (c:=32) (m:=6) v6;omega
  refine⟨_,rfl,a,_,_,_,rfl,rfl,h1,rfl,rfl,_,rfl,kW (by decide) ⟨_,rfl,a,_,_,_,rfl,rfl,h1,rfl,rfl,_,rfl,qP (by decide) ⟨_,rfl,a,_,_,_,rfl,rfl,h1,rfl,_,rfl,lg n (by omega),_,_,rfl,rfl,(by show 4+(δ (toString ((n:Nat):Int))).length<=ρ;rw[d2];decide),_,_,rfl,rfl,(by rw[qx,rp];show 4+(δ (toString ((n:Nat):Int))).length+1<=_;omega),_,rfl,a,_,_,_,rfl,rfl,h1,rfl,_,rfl,b,sl,k,S,rfl,(by rw[hlk0];have : 1<r+1:=hlv;omega),hf.sub,hn,h2,hlx,fun H' g=>⟨_,_,rfl,rfl,(by rw[qx,rp,rp];show 4+(δ (toString ((n:Nat):Int))).length+1+_<=_;omega),?_⟩⟩⟩⟩;have q':=q H' g;rw[show(Kd.many n k).words (kR S)=δ "row" :: δ (toString ((n:Nat):Int))::k.words (kR S) from rfl,jc _ _ (by simp),jc _ _ (Kd.words_ne _ _)]at q';rw[zr,zr];rw[zr,zr,←zr (δ "row")]at q';exact q'
 | @pick a l is h1 h2 =>
  have hs4:=hf.2.1;have zl:(is.map fun n:Nat=>V.int n).length=is.length:=ε _;refine⟨_,rfl,a,_,_,_,rfl,rfl,h1,rfl,rfl,_,rfl,kW (by decide) ⟨_,rfl,a,_,_,_,rfl,rfl,h1,rfl,rfl,_,rfl,kW (by decide) ⟨_,rfl,a,_,_,_,rfl,rfl,h1,rfl,rfl,_,rfl,qP (by decide) ⟨rfl,bI,fun l1 hl1=>?_⟩⟩⟩⟩;clear 1 l1 H1 g1 k1 hl1;refine⟨_,rfl,a,_,_,_,rfl,rfl,g1.tp h1,rfl,l,rfl,⟨_,g1.seq h2⟩,xN (xs:=is.map fun n:Nat=>V.int n) (fun j ys H'=>H'=H1/\ys=((is.take j).map (kR S)).map V.str) ⟨rfl,rfl⟩ (fun j ys H' _ z=>⟨by rw[z.1];exact g1.seq h2,by rw[z.2,ε,ε,rh];exact uz _ _⟩) (kP (by omega)) (fun j x ys H' hx z=>?_) (fun ys H' z p hp=>?_)⟩
  ·obtain⟨rfl,rfl⟩:=z;obtain⟨i,hi,rfl⟩:=mT hx;have hiS:=hf.2.2.2 i (ψ hi);obtain⟨as,s,l',ps,m1,m2,m3,m4,m5⟩:=hlx.at hiS;refine⟨_,rfl,_,rfl,sl,_,_,_,rfl,rfl,g1.seq m1,lR m2,s,_,_,_,rfl,rfl,g1.tp m3,rfl,⟨rfl,?_⟩,_,rfl⟩;rw[qY hi,ν,vV (θ hiS)];rfl
  ·obtain⟨rfl,rfl⟩:=z;rw[zl,qQ];clear 1 p H2 g2 k2 hp;refine⟨l1,p,_,_,rfl,rfl,g2 _ _ k1,k2,(by rw[qx,ε,ε];simp;omega),fun l3 hl3=>?_⟩;clear 1 l3 H3 g3 k3 hl3;refine⟨_,l3,δ "pick" :: is.map (kR S),rfl,rfl,SqL.of k3,?_,q H3 ((g1.trans g2).trans g3)⟩;have hsum:((δ "pick" :: is.map (kR S)).map (·.length)).sum<=(δ "pick" :: is.map (kR S)).length*6:=bR w6;have hl5:(δ "pick" :: is.map (kR S)).length<=5:=w5;have h1l:(δ " ").length=1:=rfl;rw[h1l];omega
 | @nest a i h1 =>
  obtain⟨as,s,l',ps,m1,m2,m3,m4,m5⟩:=hlx.at hf;have q':=q H (jG.refl _);rw[show π L2.spS ((Kd.nest i).words (kR S))=kR S i from rfl,vV (θ hf)]at q';exact⟨_,rfl,a,_,_,_,rfl,rfl,h1,rfl,rfl,_,rfl,kW (by decide) ⟨_,rfl,a,_,_,_,rfl,rfl,h1,rfl,rfl,_,rfl,kW (by decide) ⟨_,rfl,a,_,_,_,rfl,rfl,h1,rfl,rfl,_,rfl,kW (by decide) ⟨_,rfl,_,rfl,a,_,_,_,rfl,rfl,h1,rfl,sl,_,_,_,rfl,rfl,m1,lR m2,s,_,_,_,rfl,rfl,m3,rfl,q'⟩⟩⟩⟩
theorem sN{k:Nat}(F:Fun K "_law_text" "_law_text" eH f fd){dm:Addr}{dc:sq}(bz:Df K mg "_law_kind_text" dm dc ["_law_kind_here","_law_shapes_here"])(gs:jI P w K mg base CX0 k dm dc ["_law_kind_here","_law_shapes_here"] (spKT K 2)):jI P w K mg base CX0 (k+2) f fd ["_law_shapes_here"] (spTx K):=by
 w_cond xO;obtain⟨sl,S,rfl,hlx,hW,hne,q⟩:=h;refine⟨_,(jC (kI (i:=1) xO.nd rfl (by walk_at"o") (kN jB)) (jC (xB vg rfl (qL (pv 0)) (zL rfl (kL (jV (i:=2) xO.nd rfl (sy rfl)) (kL (jV (i:=3) xO.nd rfl (sy rfl)) vL))) (jC (kU (qK qw rb rc kY (pv 1) (jA (jN jS jF (pv 2)) jB))) (jE (xB vg rfl (qL (pv 3)) (zL rfl (kL (jV (i:=4) xO.nd rfl (sy rfl)) (kL (jV (i:=5) xO.nd rfl (sy rfl)) vL))) (jE (kU (qK qw rb rc kY (pv 1) (jA (jN jS (jN jS (pv 4) jF) (jJ gs hr rfl bz.m bz.k bz.b .nil jQ (jA (pv 5) (jA (pv 0) jB)))) jB)))))))) (jE (jP (qK sr ul uo vW jF (jA (pv 1) jB)))))),?_⟩;obtain⟨as,ha,hLW⟩:=id hlx;obtain⟨h30,hrow,_⟩:=lN hW hne;have hn:=wJ hW.nm;have jc:∀(x:Str) (ys:List Str),ys≠[]->π L2.spS (x::ys)=x++L2.spS++π L2.spS ys:=fun x ys h=>aF h;refine⟨mH,fun ll hll=>?_⟩;clear 1 ll H1 g1 k1 hll;have zl:(as.map V.ref).length=S.length:=by rw[ε];exact hLW.len
 have few:∀A:List Itm,(∃B,kF S=A++B)->A.length<=30:=fun A ⟨B,e⟩=>by rw[e,ζ]at h30;omega
 refine⟨_,rfl,sl,rfl,⟨_,g1.seq ha⟩,xF (xs:=as.map V.ref) (fun i σ H'=>∃o2 o3 o4 o5,σ = [some (.ref sl),some (.ref ll),o2,o3,o4,o5]/\But ll H1 H'/\H' ll=some (.lst (((kF (S.take i)).map (qH S)).map V.str))) ⟨_,_,_,_,rfl,But.refl,k1⟩ (fun i σ H' _ z=>?_) (fun i x σ H' hx z=>?_) (fun σ H' z=>?_)⟩
 ·obtain⟨o2,o3,o4,o5,rfl,g,_⟩:=z;exact(But.from g1 hll g).seq ha
 ·obtain⟨o2,o3,o4,o5,rfl,g,kl⟩:=z;obtain⟨s,hs,rfl⟩:=qJ hx;obtain⟨sh,hS,l,ps,m1,m2,m3⟩:=hLW.get hs;have hsS:=ψ hS;have hi:i<S.length:=(η.mp hS).1;have gH:=But.from g1 hll g;have eS:kF S=kF (S.take i)++(bO sh++kF (S.drop (i+1))):=by
   conv=>lhs;rw[(sU hS).1]
   rw[zD];rfl
  have hnm:=hW.nm sh hsS;have hsl:=(qR hnm).2;have l1:=few (kF (S.take i)) ⟨_,eS⟩;refine⟨s,_,rfl,gH.tp m1,rfl,_,_,rfl,_,_,rfl,rfl,_,rfl,.inl ⟨rfl,_,SqL.of kl⟩,_,rfl,_,_,rfl,rfl,(by show 6+sh.1.length<=ρ;rw[qx];omega),ll,_,_,rfl,rfl,kl,(by rw[ε,ε];exact wd l1 (by decide)),?_⟩;clear 0 ll H2 g2 k2;have gg2:=g.trans g2;have er:(δ "shape " ++ sh.1:Str)=qH S (.sh sh.1):=by
   show _=π L2.spS [δ "shape",sh.1];rw[jc _ _ (by simp)];rfl
  have k2':H2 ll=some (.lst (((kF (S.take i)++(.sh sh.1::(sh.2.take 0).map fun f=>Itm.fd f.1 f.2)).map (qH S)).map V.str)):=by
   rw[k2,ν,ν];show some (HO.lst (_++[V.str (δ "shape " ++ sh.1)]))=_;rw[er];rfl
  refine⟨_,rfl,l,rfl,⟨_,(But.from g1 hll gg2).seq m2⟩,xF (xs:=ps.map V.ref) (fun j σ H3=>∃o4 o5,σ = [some (.ref sl),some (.ref ll),some (.str sh.1),some (.ref l),o4,o5]/\But ll H1 H3/\H3 ll=some (.lst (((kF (S.take i)++(.sh sh.1::(sh.2.take j).map fun f=>Itm.fd f.1 f.2)).map (qH S)).map V.str))) ⟨_,_,rfl,gg2,k2'⟩ (fun j σ H3 _ z=>?_) (fun j x σ H3 hx z=>?_) (fun σ H3 z=>?_)⟩
  ·obtain⟨o4,o5,rfl,g3,_⟩:=z;exact(But.from g1 hll g3).seq m2
  ·obtain⟨o4,o5,rfl,g3,kl3⟩:=z;obtain⟨t,ht,rfl⟩:=qJ hx;obtain⟨nm',kd',kk,hfs,htt,hko⟩:=m3.get ht;have hfm:=ψ hfs;have hfit:kd'.Fit S.length:=(hW.good.fit i sh hS _ hfm).1.mono (wk hi);have hfn:=(qR (hW.fnm sh hsS _ hfm)).2;have hfn':nm'.length<=6:=hfn;have gH3:=But.from g1 hll g3;have hit:Itm.fd nm' kd'∈kF S:=by
    rw[eS];refine rq _ (sm _ (rg _ ?_));exact rm.mpr ⟨_,hfm,rfl⟩
   have r100:(π L2.spS (nm'::kd'.words (kR S))).length<=100:=(hrow _ hit).1;rw[jc _ _ (Kd.words_ne _ _),rp,rp]at r100;refine⟨t,_,rfl,gH3.tp htt,rfl,_,_,rfl,_,_,rfl,rfl,_,rfl,.inl ⟨rfl,_,SqL.of kl3⟩,_,rfl,_,_,rfl,rfl,(by show nm'.length+1<=ρ;rw[qx];omega),_,rfl,_,rfl,kk,sl,kd',S,rfl,(by have:=kd'.lv_le;omega),hfit,hn,hko.same gH3,hlx.same gH3,fun H4 g4=>⟨_,_,rfl,rfl,(by rw[qx,rp];show nm'.length+1+_<=_;have:L2.spS.length=1:=rfl;omega),?_⟩⟩;have kl4:=g4 _ _ kl3;have l2:(kF (S.take i)++(.sh sh.1::(sh.2.take j).map fun f=>Itm.fd f.1 f.2)).length<=30:=few _ ⟨((sh.2.drop j).map fun f=>Itm.fd f.1 f.2)++kF (S.drop (i+1)),by
    rw[eS];unfold bO
    conv=>lhs;rw[←yf j sh.2]
    rw[ν];simp only[ug,zp]⟩
   refine⟨ll,_,_,rfl,rfl,kl4,(by rw[ε,ε];exact wd l2 (by decide)),?_⟩;clear 0 ll H5 g5 k5;refine⟨_,_,rfl,(g3.trans (But.of g4)).trans g5,?_⟩;rw[k5,qY hfs,←zp,←ug,ν (l₂:=[Itm.fd nm' kd']),ν (l₂:=List.map (qH S) [Itm.fd nm' kd'])];have er2:(nm'++δ " " ++ π L2.spS (kd'.words (kR S)):Str)=qH S (.fd nm' kd'):=by
    show _=π L2.spS (nm'::kd'.words (kR S));rw[jc _ _ (Kd.words_ne _ _)];rfl
   show some (HO.lst (_++[V.str (nm'++δ " " ++ π L2.spS (kd'.words (kR S)))]))=_;rw[er2];rfl
  ·obtain⟨o4,o5,rfl,g3,kl3⟩:=z;refine⟨_,_,_,_,rfl,g3,?_⟩;rw[kl3,ε,m3.len,qQ];have e6:S.take (i+1)=S.take i++[sh]:=by rw[vz,hS];rfl
   rw[e6,zD,show kF [sh]=bO sh from xm ..];rfl
 ·obtain⟨o2,o3,o4,o5,rfl,g,kl⟩:=z;rw[zl,qQ]at kl;refine⟨rfl,_,rfl,_,ll,(kF S).map (qH S),rfl,rfl,SqL.of kl,?_,?_⟩
  ·have hsum:(((kF S).map (qH S)).map (·.length)).sum<=((kF S).map (qH S)).length*100:=bR fun w hw=>by
    obtain⟨it,hit,rfl⟩:=rm.mp hw;exact(hrow it hit).1
   have h1l:(δ "\n").length=1:=rfl;rw[ε]at hsum;rw[h1l,ε];omega
  ·have q':=q H' (But.from g1 hll g);rw[tH]at q';exact q'
theorem oV(F:Fun K "_law_names" "_law_names" cG f fd)(af:Df K mg "_law_take" be az ["_law_box_here","_law_many"])(aw:jI P w K mg base CX0 k be az ["_law_box_here","_law_many"] dR):jI P w K mg base CX0 (k+2) f fd ["_law_box_here"] (aHj K):=by
 w_cond xP;obtain⟨p,rfl,hs,q⟩:=h;refine⟨_,(PSx.h (aO (pF (kI (i:=1) xP.nd rfl (by walk_at"o") (jJ aw hr rfl af.m af.k af.b .nil jQ (jA (pv 0) (jA jD jB))))) (aO (pF (kI (i:=2) xP.nd rfl (by walk_at"o") (jJ aw hr rfl af.m af.k af.b .nil jQ (jA (pv 0) (jA jD jB))))) (aO (aAo (kJ qV (pv 1) jD (kH _)) (aO (aBh (i:=3) xP.nd rfl (Or.inr rfl) (aFz (vN (xJ jF) (vN (xJ jF) (vN (xJ jF) (vN (xJ jF) (vN (xJ jF) (vN (xJ jF) (vN (xJ jF) (vN (xJ jF) (vN (xJ jF) (vN (xJ jF) (vN (xJ jF) (vN (xJ jF) aGk kZ) kZ) kZ) kZ) kZ) kZ) kZ) kZ) kZ) kZ) kZ) kZ))) (oO (mE (xJ (qI ["_law_k"] ["_law_words","_law_at"] [3,2] rfl (vF rfl M.range (jA jD jB)) rfl ⟨rfl,⟨rfl,trivial⟩⟩ ⟨⟨rfl,rfl,rfl,_,rfl⟩,⟨⟨rfl,rfl,rfl,_,rfl⟩,trivial⟩⟩ (fun _ _ _ _=>(jV (i:=0) (show sw (["_law_k","_law_words","_law_at"]:List Str) from by decide +kernel) rfl (sy rfl))) (fun _ _ _ _=>qG) (fun _ _ _ _=>(jN jS (jU (lO K rfl) (pv 1) (jN zF (jN qE (pv 2) (pv 0)) jD) (fun _ _=>rfl)) jF))))))) jY) (aO (aAo (kJ qV (pv 1) jD (kH _)) (aO (pF (kI (i:=4) xP.nd rfl (by walk_at"o") (qK sr ul uo vW jF (jA (qI ["_law_k"] ["_law_box_here"] [0] rfl (vF rfl M.range (jA (jJ aw hr rfl af.m af.k af.b .nil jQ (jA (pv 0) (jA jD jB))) jB)) rfl ⟨rfl,trivial⟩ ⟨⟨rfl,rfl,rfl,_,rfl⟩,trivial⟩ (fun _ _ _ _=>(jV (i:=0) (show sw (["_law_k","_law_box_here"]:List Str) from by decide +kernel) rfl (sy rfl))) (fun _ _ _ _=>qG) (fun _ _ _ _=>(jU wB jF (jJ aw hr rfl af.m af.k af.b .nil jQ (jA (pv 1) (jA jD jB))) (fun _ _=>rfl)))) jB)))) (oO (mE (xJ (qI ["_law_k"] ["_law_tail","_law_at"] [4,2] rfl (vF rfl M.range (jA jD jB)) rfl ⟨rfl,⟨rfl,trivial⟩⟩ ⟨⟨rfl,rfl,rfl,_,rfl⟩,⟨⟨rfl,rfl,rfl,_,rfl⟩,trivial⟩⟩ (fun _ _ _ _=>(jV (i:=0) (show sw (["_law_k","_law_tail","_law_at"]:List Str) from by decide +kernel) rfl (sy rfl))) (fun _ _ _ _=>qG) (fun _ _ _ _=>(jN jS (jN jS (jU wB jF (jN zF (jN qE (pv 2) (pv 0)) jD) (fun _ _=>rfl)) (pv 1)) jF))))))) jY) (oO (mE (xJ (jN gR (qI ["_law_k"] ["_law_at"] [2] rfl (vF rfl M.range (jA jD jB)) rfl ⟨rfl,trivial⟩ ⟨⟨rfl,rfl,rfl,_,rfl⟩,trivial⟩ (fun _ _ _ _=>(jV (i:=0) (show sw (["_law_k","_law_at"]:List Str) from by decide +kernel) rfl (sy rfl))) (fun _ _ _ _=>qG) (fun _ _ _ _=>(vA aAk jF vQ (vR (jN qE jD (jN zF (jN qE (pv 1) (pv 0)) jD)))))) (kN (jA jF (jA jF (jA jF (jA jF (jA jF (jA jF jB kZ) kZ) kZ) kZ) kZ) kZ))))))))))),?_⟩;refine⟨_,rfl,p,3,rfl,by decide,by decide,hs,fun v1 H1 hv1 d1=>⟨_,rfl,p,12,rfl,by decide,by decide,d1.1,fun v2 H2 hv2 d2=>?_⟩⟩;have dd:=d1.trans d2;have h12:v2<12:=by omega
 refine⟨_,rfl,rfl,_,rfl,vS (fun c=>?_) (fun c=>?_)⟩
 ·refine⟨(by show 12<=ρ;decide),fun l0 hl0=>?_⟩;clear 1 l0 H3 g3 k3 hl0;have k3':H3 l0=some (.lst (w0L.map V.str)):=k3;refine⟨12,rfl,by decide,by decide,xL (n:=12) (fun j ys H'=>H'=H3/\ys=((tw j).map fun k=>(w0L.getD ((v2+k) % 12) Str.empty)++δ "q").map V.str) ⟨rfl,rfl⟩ (fun j ys H' _ z=>by rw[z.2,ε,ε,wb];exact μ _) (by decide) (fun j ys H' hj z=>?_) (fun ys H' z l hl=>?_)⟩
  ·obtain⟨rfl,rfl⟩:=z;have hlt:(v2+j) % 12<w0L.length:=Nat.mod_lt _ (by decide);have hw:w0L[(v2+j) % 12]?=some (w0L.getD ((v2+j) % 12) Str.empty):=by rw[Θ,θ hlt];rfl
   have hlen:∀i:Fin 12,(w0L.getD i.val Str.empty).length<=5:=by decide +kernel
   have hl5:=hlen ⟨(v2+j) % 12,hlt⟩;refine⟨_,rfl,_,rfl,_,rfl,_,_,rfl,rfl,_,_,rfl,rfl,(by show(0:Int)<12;decide),l0,_,_,_,rfl,rfl,SqL.of k3',(by rw[show(((v2:Nat):Int)+((0:Int)+(j:Nat))) % 12=(((v2+j) % 12:Nat):Int) from modc (n:=12)];exact cP hw),_,_,rfl,rfl,(by rw[qx];have:(δ "q").length=1:=rfl;have h5:(w0L.getD ((v2+j) % 12) Str.empty).length<=5:=hl5;omega),⟨rfl,?_⟩,_,rfl⟩;rw[yh,ν,ν];rfl
  ·obtain⟨rfl,rfl⟩:=z;clear 1 l H4 g4 k4 hl;exact q l (nm0 v2) H4 (dd.keep (g3.trans g4)) (dd.free (g3.free hl)) k4 (aIa h12) (nm0_c h12)
 ·refine⟨_,rfl,rfl,_,rfl,vS (fun c=>?_) (fun c=>?_)⟩
  ·refine⟨rfl,_,rfl,p,5,rfl,by decide,by decide,d2.1,fun v3 H3 hv3 d3=>⟨v3,rfl,by omega,by omega,xL (n:=v3) (fun j ys H'=>Drawn p H3 H'/\∃cs:List Nat,ys=cs.map (fun c=>V.str ⟨#[c]⟩)/\cs.length=j/\∀c∈cs,97<=c/\c<=122) ⟨Drawn.refl d3.1,[],rfl,rfl,fun c hc=>by cases hc⟩ (fun j ys H' _ z=>?_) (kP (by omega)) (fun j ys H' hj z=>?_) (fun ys H' z l hl=>?_)⟩⟩
   ·obtain⟨_,cs,rfl,hcl,_⟩:=z;rw[ε];omega
   ·obtain⟨d4,cs,rfl,hcl,hcs⟩:=z;refine⟨_,rfl,p,13,rfl,by decide,by decide,d4.1,fun v5 H5 hv5 d5=>?_⟩;have hz:∀i:Fin 13,∃c,(δ "abdeilmnorstu").cps.toList[i.val]?=some c/\97<=c/\c<=122:=fun i=>by
     have:∀i:Fin 13,97<=(δ "abdeilmnorstu").cps.toList.getD i.val 0/\(δ "abdeilmnorstu").cps.toList.getD i.val 0<=122:=by decide +kernel
     have hl13:i.val<(δ "abdeilmnorstu").cps.toList.length:=ω i.isLt (by decide);have e:(δ "abdeilmnorstu").cps.toList[i.val]?=some ((δ "abdeilmnorstu").cps.toList.getD i.val 0):=by rw[Θ,θ hl13];rfl
     exact⟨_,e,this i⟩
    obtain⟨c',hc1,hc2⟩:=hz ⟨v5,by omega⟩;refine⟨_,_,c',rfl,rfl,by decide,yP hc1,⟨d4.trans d5,cs++[c'],by rw[ν];rfl,by rw[ζ,hcl];rfl,fun x hx=>?_⟩,_,rfl⟩;rcases rn.mp hx with hx|hx
    ·exact hcs x hx
    ·rw[τ.mp hx];exact hc2
   ·obtain⟨d4,cs,rfl,hcl,hcs⟩:=z;clear 1 l H5 g5 k5 hl;have hcl4:cs.length<=4:=by omega
    have dd5:=(dd.trans (d3.trans d4)).keep g5;have k5':H5 l=some (.lst ((cs.map fun c=>(⟨#[c]⟩ : Str)).map V.str)):=by rw[k5,sx];rfl
    refine⟨_,l,cs.map fun c=>⟨#[c]⟩,rfl,rfl,SqL.of k5',?_,?_⟩
    ·rw[sx,ε];have:(cs.map ((fun x:Str=>x.length)∘fun c=>(⟨#[c]⟩ : Str))).sum<=cs.length*1:=bR fun c hc=>μ _;have h0:(δ "").length=0:=rfl;rw[h0];omega
    ·have tc:=rV cs;generalize π (δ "") (cs.map fun c=>(⟨#[c]⟩ : Str))=tl at tc;have htl:tl.length=cs.length:=by rw[←tc];exact(wn).symm
     refine⟨12,rfl,by decide,by decide,xL (n:=12) (fun j ys H'=>H'=H5/\ys=((tw j).map fun k=>(⟨#[c1 v2 k]⟩ : Str)++tl++δ "x").map V.str) ⟨rfl,rfl⟩ (fun j ys H' _ z=>by rw[z.2,ε,ε,wb];exact μ _) (by decide) (fun j ys H' hj z=>?_) (fun ys H' z l hl=>?_)⟩
     ·obtain⟨rfl,rfl⟩:=z;have hlt:(v2+j) % 12<c1L.cps.toList.length:=ω (Nat.mod_lt _ (by decide)) (by decide);have hw:c1L.cps.toList[(v2+j) % 12]?=some (c1 v2 j):=by unfold c1;rw[Θ,θ hlt];rfl
      refine⟨_,rfl,_,rfl,_,_,rfl,rfl,_,_,rfl,rfl,(by show(0:Int)<12;decide),_,_,c1 v2 j,rfl,rfl,by decide,(by rw[show(((v2:Nat):Int)+((0:Int)+(j:Nat))) % 12=(((v2+j) % 12:Nat):Int) from modc (n:=12)];exact yP hw),_,rfl,_,_,rfl,rfl,(by show 1+tl.length<=ρ;rw[qx];omega),_,_,rfl,rfl,(by rw[qx,rp];show 1+tl.length+1<=_;omega),⟨rfl,?_⟩,_,rfl⟩;rw[yh,ν,ν];rfl
     ·obtain⟨rfl,rfl⟩:=z;clear 1 l H6 g6 k6 hl;exact q l (nm1 tl v2) H6 (dd5.keep g6) (dd5.free hl) k6 (aJe h12 (by omega) (by rw[tc];exact hcs)) nm1_c
  ·refine⟨6,rfl,by decide,by decide,xL (n:=6) (fun j ys H'=>H'=H2/\ys=((tw j).map fun k=>Txt.slice (δ "zyxwvu") none (some (1+(((v2+k) % 6:Nat):Int)))).map V.str) ⟨rfl,rfl⟩ (fun j ys H' _ z=>by rw[z.2,ε,ε,wb];exact μ _) (by decide) (fun j ys H' hj z=>?_) (fun ys H' z l hl=>?_)⟩
   ·obtain⟨rfl,rfl⟩:=z;refine⟨_,rfl,_,rfl,_,_,rfl,rfl,_,_,rfl,rfl,(by show(0:Int)<6;decide),_,_,rfl,rfl,_,rfl,_,rfl,by decide,⟨rfl,?_⟩,_,rfl⟩;rw[yh,ν,ν,show(((v2:Nat):Int)+((0:Int)+(j:Nat))) % 6=(((v2+j) % 6:Nat):Int) from modc (n:=6)];rfl
   ·obtain⟨rfl,rfl⟩:=z;clear 1 l H3 g3 k3 hl;refine⟨(by show 6<=ρ;decide),fun l2 hl2=>?_⟩;clear 1 l2 H4 g4 k4 hl2;refine⟨l,l2,_,_,rfl,rfl,g4 _ _ k3,k4,(by rw[ε,ε,wb];show 6+6<=ρ;decide),fun l3 hl3=>?_⟩;clear 1 l3 H5 g5 k5 hl3;refine q l3 (nm2 v2) H5 (dd.keep ((g3.trans g4).trans g5)) (dd.free ((g3.trans g4).free hl3)) ?_ (aHr h12) (nm2_c h12);rw[k5];unfold nm2;rw[ν];rfl
theorem nJ(F:Fun K "_law_shapes" "_law_shapes" aX f fd)(jv:Df K mg "_law_names" mw ly ["_law_box_here"])(qf:jI P w K mg base CX0 k mw ly ["_law_box_here"] (aHj K))(af:Df K mg "_law_take" be az ["_law_box_here","_law_many"])(aw:jI P w K mg base CX0 k be az ["_law_box_here","_law_many"] dR)(kg:Df K mg "_law_kind" nu mx ["_law_box_here","_law_known"])(qj:jI P w K mg base CX0 k nu mx ["_law_box_here","_law_known"] (aHg K))(kh:Df K mg "_law_fits" nv my ["_law_shapes_here"])(qk:jI P w K mg base CX0 k nv my ["_law_shapes_here"] (aCm K r)):jI P w K mg base CX0 (k+2) f fd ["_law_box_here","_law_most"] (spSh K r):=by
 w_cond qO;obtain⟨p,rfl,hs,hr12,h8,q⟩:=h;refine⟨_,(jC (kI (i:=2) qO.nd rfl (by walk_at"o") (jJ qf hr rfl jv.m jv.k jv.b .nil jQ (jA (pv 0) jB))) (jC (kI (i:=3) qO.nd rfl (by walk_at"o") (jJ aw hr rfl af.m af.k af.b .nil jQ (jA (pv 0) (jA jD jB)))) (jC (kI (i:=4) qO.nd rfl (by walk_at"o") (kN jB)) (jC (xB vg rfl (vF rfl M.range (jA (jN qE jD (jJ aw hr rfl af.m af.k af.b .nil jQ (jA (pv 0) (jA (pv 1) jB)))) jB)) (jV (i:=5) qO.nd rfl (sy rfl)) (jC (kI (i:=6) qO.nd rfl (by walk_at"o") (kN jB)) (jC (xB vg rfl (vF rfl M.range (jA (jN qE jD (jJ aw hr rfl af.m af.k af.b .nil jQ (jA (pv 0) (jA jD jB)))) jB)) (jV (i:=7) qO.nd rfl (sy rfl)) (jC (kI (i:=8) qO.nd rfl (by walk_at"o") (jT (jA (jU jZ (pv 2) (jN zF (jN qE (jN qE (pv 3) (jN aT (pv 7) jD)) (pv 5)) jD) (fun _ _=>rfl)) (jA (jJ qj hr rfl kg.m kg.k kg.b .nil jQ (jA (pv 0) (jA (pv 5) jB))) jB)))) (jE (kS (xM (jJ qk hr rfl kh.m kh.k kh.b .nil jQ (jA (jN gR (pv 4) (kN (jA (jT (jA (jU jZ (pv 2) (pv 5) (fun _ _=>rfl)) (jA (jN gR (pv 6) (kN (jA (pv 8) jB))) jB))) jB))) jB))) (jE (kU (qK qw rb rc kY (pv 6) (jA (pv 8) jB)))) jY)))) (jC (kS (kJ (aCi hr.units) (pv 6) (kN jB) (kH _)) (jE (kI (i:=6) qO.nd rfl (by walk_at"o") (kN (jA (jT (jA (jU jZ (pv 2) (pv 3) (fun _ _=>rfl)) (jA (jT (jA jF (jA (jN qE jD (jJ aw hr rfl af.m af.k af.b .nil jQ (jA (pv 0) (jA jD jB)))) jB))) jB))) jB)))) jY) (jE (kU (qK qw rb rc kY (pv 4) (jA (jT (jA (jU jZ (pv 2) (pv 5) (fun _ _=>rfl)) (jA (pv 6) jB))) jB)))))))) (jE (jP (pv 4))))))),?_⟩;refine⟨_,rfl,p,rfl,hs,fun nl ns H1 d1 hnl knl ⟨hn12,hnd,hnb⟩ hnc=>⟨_,rfl,p,12,rfl,by decide,by decide,d1.1,fun v2 H2 hv2 d2=>⟨mH,fun sl hsl=>?_⟩⟩⟩;have nnp:nl≠p:=aDs hs hnl;have knl2:=d2.2 nl _ nnp knl;clear 1 sl H3 g3 k3 hsl;have nsp:sl≠p:=aDs d2.1 hsl;have nns:nl≠sl:=jK knl2 hsl;have hslH:H sl=none:=(d1.trans d2).free hsl;have nsAt:∀i,i<12->ns[i]?=some (ns.getD i Str.empty):=fun i hi=>by rw[Θ,θ (by omega)];rfl
 have nsB:∀i,i<12->jM (ns.getD i Str.empty)=true:=fun i hi=>hnb _ (ψ (nsAt i hi));have nsI:∀i j,i<12->j<12->ns.getD i Str.empty=ns.getD j Str.empty->i=j:=fun i j hi hj e=>by
  have hp:=zt.mp hnd;have ei:=η.mp (nsAt i hi);have ej:=η.mp (nsAt j hj);obtain⟨ai,bi⟩:=ei;obtain⟨aj,bj⟩:=ej;rcases Nat.lt_trichotomy i j with hl|hl|hl
  ·exact absurd (by rw[bi,bj];exact e) (hp i j ai aj hl)
  ·exact hl
  ·exact absurd (by rw[bi,bj];exact e.symm) (hp j i aj ai hl)
 refine⟨_,rfl,_,rfl,p,4,rfl,by decide,by decide,jG.st3 g3 d2.1,fun v3 H4 hv3 d4=>⟨_,_,rfl,rfl,_,rfl,(by omega),(by omega),?_⟩⟩;have D4:Drawn p H H4:=((d1.trans d2).keep g3).trans d4;have knl4:=d4.2 nl _ nnp (g3 _ _ knl2);have ksl4:=d4.2 sl _ nsp k3;rw[show((1:Int)+(v3:Nat)).toNat=1+v3 by omega];refine cU (n:=1+v3) (fun i σ H'=>∃(o5 o6 o7 o8:Option V) (as:List Addr) (S:List Shp),σ = [some (.ref p),some (.int 4),some (.ref nl),some (.int v2),some (.ref sl),o5,o6,o7,o8]/\St3 H' p/\(∀b o,b≠p->b≠sl->H4 b=some o->H' b=some o)/\H' sl=some (.lst (as.map V.ref))/\LW K (offs [p,sl] H') as S/\S.length=i/\S.map (·.1)=ns.take i/\Wel S/\Cln S) ⟨_,_,_,_,[],[],rfl,d4.1,fun _ _ _ _ e=>e,ksl4,.nil,rfl,rfl,Wel.nil,fun s hs=>by cases hs⟩ (fun i σ H' hi z=>?_) (fun σ H' z=>?_)
 ·obtain⟨o5,o6,o7,o8,as,S,rfl,st,fr,ksl,hLW,hSl,hSn,hWS,hCl⟩:=z;rw[xq];have hi5:i<5:=by omega
  have knl':=fr nl _ nnp nns knl4;refine⟨mH,fun fl hfl=>?_⟩;clear 1 fl H5 g5 k5 hfl;have nfp:fl≠p:=aDs st hfl;have nfs:fl≠sl:=va (jK ksl hfl);have nfn:fl≠nl:=va (jK knl' hfl);refine⟨_,rfl,p,5,rfl,by decide,by decide,jG.st3 g5 st,fun v4 H6 hv4 d6=>⟨_,_,rfl,rfl,_,rfl,(by omega),(by omega),?_⟩⟩;have kfl6:=d6.2 fl _ nfp k5;have knl6:=d6.2 nl _ nnp (g5 _ _ knl');have ksl6:=d6.2 sl _ nsp (g5 _ _ ksl);have hsame6:jG (offs [p,sl] H') (offs [p,sl,fl] H6):=fun b o e=>by
   have hb:b∉[p,sl]:=fun z=>by unfold offs at e;rw[if_pos z]at e;cases e
   have e':H' b=some o:=xW _ _ e;have hbf:b≠fl:=jK e' hfl;have hbp:b≠p:=fun z=>hb (by rw[z];simp);refine yO (fun z=>?_) (d6.2 b o hbp (g5 _ _ e'));simp only[ξ,Δ,or_false]at z hb;rcases z with z|z|z
   ·exact hb (.inl z)
   ·exact hb (.inr z)
   ·exact hbf z
  have hLW6:=hLW.same hsame6;rw[show((1:Int)+(v4:Nat)).toNat=1+v4 by omega];have nmi:=nsB i (by omega);have nmN:ns.getD i Str.empty∉S.map (·.1):=fun z=>by
   rw[hSn]at z;obtain⟨j,hj⟩:=tq.mp z;have hji:j<i:=by have:=(η.mp hj).1;rw[rh]at this;omega
   rw[vd hji,nsAt j (by omega)]at hj;have:=nsI j i (by omega) (by omega) (ux hj);omega
  refine cU (n:=1+v4) (fun j σ H7=>∃(o7 o8:Option V) (ps:List Addr) (fs:List (Str×Kd)),σ = [some (.ref p),some (.int 4),some (.ref nl),some (.int v2),some (.ref sl),some (.int i),some (.ref fl),o7,o8]/\St3 H7 p/\(∀b o,b≠p->b≠fl->H6 b=some o->H7 b=some o)/\H7 fl=some (.lst (ps.map V.ref))/\LF K (offs [p,sl,fl] H7) ps fs/\fs.length<=j/\(∀g∈fs,(g.2.Fit S.length/\jM g.1=true)/\∃m,m<j/\g.1=ns.getD ((v2+m*5+i) % 12) Str.empty)/\(fs.map (·.1)).Nodup/\(fs≠[]->sQ (S++[(ns.getD i Str.empty,fs)]) S.length)) ⟨_,_,[],[],rfl,d6.1,fun _ _ _ _ e=>e,kfl6,.nil,μ _,(fun g hg=>by cases hg),Ax,fun z=>absurd rfl z⟩ (fun j σ H7 hj z=>?_) (fun σ H7 z=>?_)
  ·obtain⟨o7,o8,ps,fs,rfl,st7,fr7,kfl7,hLF,hfl7,hfs,hfn,hsm⟩:=z;rw[xq];have knl7:=fr7 nl _ nnp (va nfn) knl6;have ksl7:=fr7 sl _ nsp (va nfs) ksl6;have em:(((v2:Nat):Int)+((j:Nat):Int)*5+((i:Nat):Int)) % 12=(((v2+j*5+i) % 12:Nat):Int):=by omega
   have hm12:(v2+j*5+i) % 12<12:=Nat.mod_lt _ (by decide);have al7:Al [p,sl,fl] H7:=fun b hb=>by
    simp only[ξ,Δ,or_false]at hb;rcases hb with rfl|rfl|rfl
    ·exact iA st7
    ·exact⟨_,ksl7⟩
    ·exact⟨_,kfl7⟩
   refine⟨_,rfl,_,rfl,_,rfl,_,_,rfl,rfl,.inl ⟨by omega,by omega⟩,_,_,rfl,rfl,_,rfl,_,_,rfl,rfl,_,_,rfl,rfl,(by show(0:Int)<12;decide),nl,_,_,_,rfl,rfl,SqL.of knl7,(by rw[em];exact cP (nsAt _ hm12)),_,rfl,_,rfl,p,i,[p,sl,fl],rfl,by omega,st7,by simp,al7,fun a kd H8 d8 hfit lk=>?_⟩;rw[←hSl]at hfit;have al8:=Al.drawn al7 d8;refine⟨qA,fun t ht=>?_⟩;clear 1 t H9 g9 k9 ht;have al9:=al8.same g9;have kt:offs [p,sl,fl] H9 t=_:=yO (al8.new ht) k9;have s79:jG (offs [p,sl,fl] H7) (offs [p,sl,fl] H9):=(d8.offs (by simp)).trans (qD g9);have knl9:=g9 _ _ (d8.2 nl _ nnp knl7);have ksl9:=g9 _ _ (d8.2 sl _ nsp ksl7);have kfl9:=g9 _ _ (d8.2 fl _ nfp kfl7);have lk9:=lk.same (qD g9);have hLF9:=(hLF.same s79).snoc (SqT.of kt) lk9;have s69:jG (offs [p,sl,fl] H6) (offs [p,sl,fl] H9):=aH fun b o hb e=>by
    simp only[ξ,Δ,or_false,not_or]at hb;exact g9 _ _ (d8.2 b o hb.1 (fr7 b o hb.1 hb.2.2 e))
   have hLW9:=hLW6.same s69;have hpl:ps.length=fs.length:=hLF.len;have hal:=hLW.len;refine⟨_,rfl,_,rfl,_,rfl,nl,_,_,_,rfl,rfl,SqL.of knl9,cP (nsAt i (by omega)),_,rfl,_,rfl,bI,fun u1 hu1=>?_⟩;clear 1 u1 HA gA kA hu1;refine⟨fl,u1,_,_,rfl,rfl,gA _ _ kfl9,kA,(by rw[qx,ε];simp;omega),fun u2 hu2=>?_⟩;clear 1 u2 HB gB kB hu2;refine⟨qA,fun u3 hu3=>?_⟩;clear 1 u3 HC gC kC hu3;refine⟨bI,fun u4 hu4=>?_⟩;clear 1 u4 HD gD kD hu4;have g9D:=((gA.trans gB).trans gC).trans gD;refine⟨sl,u4,_,_,rfl,rfl,g9D _ _ ksl9,kD,(by rw[qx,ε];simp;omega),fun u5 hu5=>?_⟩;clear 1 u5 HE gE kE hu5;have g9E:=g9D.trans gE;have sE:jG (offs [p,sl,fl] H9) HE:=xW.trans g9E;have kB':HB u2=some (.lst ((ps++[t]).map V.ref)):=by rw[kB,ν];rfl
   have lsE:LS K HE u3 (ns.getD i Str.empty,fs++[(ns.getD ((v2+j*5+i) % 12) Str.empty,kd)]):=⟨u2,ps++[t],(gD.trans gE).tp (SqT.of kC),SqL.of ((gC.trans (gD.trans gE)) _ _ kB'),hLF9.same sE⟩;have lxE:LX K HE u5 (S++[(ns.getD i Str.empty,fs++[(ns.getD ((v2+j*5+i) % 12) Str.empty,kd)])]):=⟨as++[u3],SqL.of (by rw[kE,ν];rfl),(hLW9.same sE).snoc lsE⟩;have hfs':∀f∈fs,f.2.Fit S.length/\jM f.1=true:=fun f hf=>(hfs f hf).1;have hnew:=nsB _ hm12;have hgd:=aAr (nm:=ns.getD i Str.empty) hWS hsm (by omega) hfs' (f:=(ns.getD ((v2+j*5+i) % 12) Str.empty,kd)) hfit hnew;refine⟨u5,_,S.length,rfl,(by rw[ζ];rfl),lxE,hgd,(by omega),h8,fun b HF gF hb=>⟨_,rfl,?_⟩⟩;have g9F:=g9E.trans gF;have kflF:=g9F _ _ kfl9;have frF:∀b o,b≠p->b≠fl->H6 b=some o->HF b=some o:=fun b o h1 h2 e=>g9F _ _ (g9 _ _ (d8.2 b o h1 (fr7 b o h1 h2 e)));have stF:St3 HF p:=jG.st3 (g9.trans g9F) d8.1;cases b with
   |false =>
    refine kW (by decide) ⟨_,_,ps,fs,rfl,stF,frF,kflF,(hLF.same s79).same (qD g9F),by omega,fun g hg=>?_,hfn,hsm⟩;obtain⟨a1,m,hm,e⟩:=hfs g hg;exact⟨a1,m,by omega,e⟩
   |true =>
    refine qP rfl ⟨_,rfl,.inl ⟨rfl,_,SqL.of kflF⟩,_,rfl,fl,_,_,rfl,rfl,kflF,(by rw[ε];exact wd (show ps.length<=5 by omega) (by decide)),?_⟩;clear 0 fl HG gG kG;have sFG:jG (offs [p,sl,fl] HF) (offs [p,sl,fl] HG):=aH fun b o hb e=>by
     simp only[ξ,Δ,or_false,not_or]at hb;exact gG b o hb.2.2 e
    have hnin:ns.getD ((v2+j*5+i) % 12) Str.empty∉fs.map (·.1):=fun z=>by
     obtain⟨g,hg,eg⟩:=rm.mp z;obtain⟨_,m,hm,e⟩:=hfs g hg;rw[e]at eg;have:=nsI _ _ (Nat.mod_lt _ (by decide)) hm12 eg;omega
    obtain⟨x3,y3,z3,est⟩:=stF;refine⟨_,_,ps++[t],fs++[(ns.getD ((v2+j*5+i) % 12) Str.empty,kd)],rfl,⟨x3,y3,z3,gG p _ (va nfp) est⟩,fun b o h1 h2 e=>gG b o h2 (frF b o h1 h2 e),by rw[kG,ν];rfl,(hLF9.same (qD g9F)).same sFG,by rw[ζ,uk];omega,fun g hg=>?_,?_,fun _=>hb rfl⟩
    ·rcases rn.mp hg with hg|hg
     ·obtain⟨a1,m,hm,e⟩:=hfs g hg;exact⟨a1,m,by omega,e⟩
     ·rw[τ.mp hg];exact⟨⟨hfit,hnew⟩,j,by omega,rfl⟩
    ·rw[ν,wm];refine⟨hfn,ui _ _,fun a ha b hb e=>hnin ?_⟩;rw[←show b=ns.getD ((v2+j*5+i) % 12) Str.empty from τ.mp hb,←e];exact ha
  ·obtain⟨o7,o8,ps,fs,rfl,st7,fr7,kfl7,hLF,hfl7,hfs,hfn,hsm⟩:=z;have knl7:=fr7 nl _ nnp (va nfn) knl6;have ksl7:=fr7 sl _ nsp (va nfs) ksl6;have s67:jG (offs [p,sl,fl] H6) (offs [p,sl,fl] H7):=aH fun b o hb e=>by
    simp only[ξ,Δ,or_false,not_or]at hb;exact fr7 b o hb.1 hb.2.2 e
   have sub:jG (offs [p,sl,fl] H7) (offs [p,sl] H7):=sW fun b hb=>by
    simp only[ξ,Δ,or_false]at hb ⊢;rcases hb with hb|hb
    ·exact .inl hb
    ·exact .inr (.inl hb)
   have hLW7:=(hLW6.same s67).same sub;have fr47:∀b o,b≠p->b≠sl->H' b=some o->H7 b=some o:=fun b o h1 h2 e=>fr7 b o h1 (jK e hfl) (d6.2 b o h1 (g5 _ _ e));dsimp only;refine aHb (fun σ' H8=>∃(o7 o8:Option V) (fl':Addr) (ps':List Addr) (fs':List (Str×Kd)),σ'=[some (.ref p),some (.int 4),some (.ref nl),some (.int v2),some (.ref sl),some (.int i),some (.ref fl'),o7,o8]/\St3 H8 p/\(∀b o,b≠p->b≠sl->H' b=some o->H8 b=some o)/\H8 sl=some (.lst (as.map V.ref))/\SqL K (offs [p,sl] H8) fl' (ps'.map V.ref)/\LF K (offs [p,sl] H8) ps' fs'/\LW K (offs [p,sl] H8) as S/\Wel (S++[(ns.getD i Str.empty,fs')])/\∀f∈fs',f.1∉bdN) (fun σ' H8 z=>?_) (fun nx hnx=>?_)
   ·obtain⟨o7,o8,fl',ps',fs',rfl,st8,fr8,ksl8,kfl8,hLF8,hLW8,hW8,hc8⟩:=z;have knl8:=fr8 nl _ nnp nns knl';refine⟨_,rfl,.inl ⟨rfl,_,SqL.of ksl8⟩,_,rfl,_,rfl,nl,_,_,_,rfl,rfl,SqL.of knl8,cP (nsAt i (by omega)),_,rfl,qA,fun t ht=>?_⟩;clear 1 t H9 g9 k9 ht;have al8:Al [p,sl] H8:=fun b hb=>by
     simp only[ξ,Δ,or_false]at hb;rcases hb with rfl|rfl
     ·exact iA st8
     ·exact⟨_,ksl8⟩
    have kt:offs [p,sl] H9 t=_:=yO (al8.new ht) k9;have s89:jG (offs [p,sl] H8) (offs [p,sl] H9):=qD g9;have hls:LS K (offs [p,sl] H9) t (ns.getD i Str.empty,fs'):=⟨fl',ps',SqT.of kt,s89.seq kfl8,hLF8.same s89⟩;have ksl9:=g9 _ _ ksl8;refine⟨sl,_,_,rfl,rfl,ksl9,(by rw[ε,hLW.len];exact wd (show S.length<=5 by omega) (by decide)),?_⟩;clear 0 sl HA gA kA;have s9A:jG (offs [p,sl] H9) (offs [p,sl] HA):=aH fun b o hb e=>by
     simp only[ξ,Δ,or_false,not_or]at hb;exact gA b o hb.2 e
    obtain⟨x3,y3,z3,est⟩:=jG.st3 g9 st8;refine⟨_,_,_,_,as++[t],_,rfl,⟨x3,y3,z3,gA p _ (va nsp) est⟩,fun b o h1 h2 e=>gA b o h2 (g9 _ _ (fr8 b o h1 h2 (fr b o h1 h2 e))),by rw[kA,ν];rfl,((hLW8.same s89).snoc hls).same s9A,by rw[ζ,hSl];rfl,?_,hW8,hCl.snoc (hnc _ (ψ (nsAt i (by omega)))) hc8⟩;rw[ν,hSn,vz,nsAt i (by omega)];rfl
   ·refine⟨_,rfl,mH,fun e he=>?_⟩;clear 1 e H8 g8 k8 he;have st8:=jG.st3 g8 st7;refine⟨fl,e,_,rfl,rfl,SqL.of (g8 _ _ kfl7),SqL.of k8,_,rfl,vS (fun c=>?_) (fun c=>?_)⟩
    ·refine⟨_,rfl,_,rfl,nl,_,_,_,rfl,rfl,SqL.of (g8 _ _ knl7),cP (nsAt v2 (by omega)),_,rfl,p,4,rfl,by decide,by decide,st8,fun v5 H9 hv5 d9=>⟨_,_,rfl,rfl,qA,fun t1 ht1=>?_⟩⟩;have al9:Al [p,sl] H9:=fun b hb=>by
      simp only[ξ,Δ,or_false]at hb;rcases hb with rfl|rfl
      ·exact iA d9.1
      ·exact⟨_,d9.2 _ _ nsp (g8 _ _ ksl7)⟩
     clear 1 t1 HA gA kA ht1;refine⟨qA,fun t2 ht2=>?_⟩;clear 1 t2 HB gB kB ht2;refine⟨bI,fun l1 hl1=>?_⟩;clear 1 l1 HC gC kC hl1;have alA:=al9.same gA;have alB:=alA.same gB;have k1:offs [p,sl] HA t1=_:=yO (al9.new ht1) kA;have k2:offs [p,sl] HB t2=_:=yO (alA.new ht2) kB;have k3:offs [p,sl] HC l1=_:=yO (alB.new hl1) kC;dsimp only at k1;rw[show(1:Int)+(v5:Nat)=((1+v5:Nat):Int) by omega]at k1;have sAC:jG (offs [p,sl] HA) (offs [p,sl] HC):=qD (gB.trans gC);have sBC:jG (offs [p,sl] HB) (offs [p,sl] HC):=qD gC;have s7C:jG (offs [p,sl] H7) (offs [p,sl] HC):=(qD g8).trans ((d9.offs (by simp)).trans (qD ((gA.trans gB).trans gC)));have g9C:=(gA.trans gB).trans gC;have hs4:S.length<=4:=by omega
     refine hnx _ _ ⟨_,_,l1,[t2],[(ns.getD v2 Str.empty,Kd.num (1+v5))],rfl,jG.st3 g9C d9.1,fun b o h1 h2 e=>g9C _ _ (d9.2 b o h1 (g8 _ _ (fr47 b o h1 h2 e))),g9C _ _ (d9.2 _ _ nsp (g8 _ _ ksl7)),SqL.of k3,.cons (SqT.of (sBC _ _ k2)) (.num (SqT.of (sAC _ _ k1))) .nil,hLW7.same s7C,hWS.snoc nmi nmN hs4 (by simp) (by show 1<=5;decide) (fun f hf=>?_) (ui _ _) (aEf (by omega)),fun f hf=>by rw[τ.mp hf];exact hnc _ (ψ (nsAt v2 (by omega)))⟩;rw[τ.mp hf];exact⟨⟨by omega,by omega⟩,nsB v2 (by omega)⟩
    ·have hps:ps≠[]:=fun z=>c (by rw[z];rfl);have hfsne:fs≠[]:=fun z=>hps (uh.mp (by rw[hLF.len,z];rfl));have hflo:offs [p,sl] H8 fl=_:=yO (by simp only[ξ,Δ,or_false,not_or];exact⟨nfp,nfs⟩) (g8 _ _ kfl7);exact hnx _ _ ⟨_,_,fl,ps,fs,rfl,st8,fun b o h1 h2 e=>g8 _ _ (fr47 b o h1 h2 e),g8 _ _ ksl7,SqL.of hflo,(hLF.same sub).same (qD g8),hLW7.same (qD g8),hWS.snoc nmi nmN (by omega) hfsne (by omega) (fun f hf=>(hfs f hf).1) hfn (hsm hfsne),fun f hf=>by obtain⟨_,m,_,e⟩:=hfs f hf;rw[e];exact hnc _ (ψ (nsAt _ (Nat.mod_lt _ (by decide))))⟩
 ·obtain⟨o5,o6,o7,o8,as,S,rfl,st,fr,ksl,hLW,hSl,hSn,hWS,hCl⟩:=z;have fD:Drawn p H H':=⟨st,fun b o h e=>by
   have hb:b≠sl:=jK e hslH;exact fr b o h hb (D4.2 b o h e)⟩
  exact⟨_,rfl,q sl S H' fD hslH ⟨as,SqL.of (yO (by simpa using nsp) ksl),hLW.same (sW fun b hb=>by simp only[ξ,Δ,or_false]at hb ⊢;exact .inl hb)⟩ hWS (fun z=>by rw[z]at hSl;simp at hSl;omega) hCl⟩
theorem eL{k:Nat}(F:Fun K "__init__" "RoomError.__init__" xT f fd):jI P w K mg base CX0 (k+2) f fd ["self","words"] (aEj K):=by
 w_cond fA;obtain⟨e,v,C',R,fI,dx,rfl,he,cx,q⟩:=h;refine⟨_,(jE (kU (aCw VI (iU (v:=.ty "ValueError") rfl M.ValueError (show yi "ValueError" = some (.type "ValueError") from by decide +kernel) rfl) (jA (pv 0) (jA (pv 1) jB))))),?_⟩;exact⟨_,rfl,_,rfl,e,v,C',R,fI,dx,rfl,he,cx,q⟩
theorem fM(F:Fun K "__init__" "NoShapes.__init__" yH f fd)(br:DfI K ay ["self","words"])(bt:jI P w K mg base CX0 k fRE ay ["self","words"] (aEj K)):jI P w K mg base (CXE P w) (k+2) f fd ["self","line"] (iD ah ["line"]):=by
 w_cond gI
 ·obtain⟨e,xs,rfl,hl,_⟩:=h;exact congrArg (·+1) hl
 obtain⟨e,xs,rfl,hl,he,q⟩:=h;refine⟨_,(jC (kU (eK tRE.i (qC (v:=.ref cRE) rfl tRE.m rfl) bt hr br.b .nil jQ (jA (pv 0) (jA jF jB)))) (jE (dC (pv 0) (pv 1) rfl))),?_⟩
 match xs,hl,q with
 |[x0],_,q =>
  refine⟨_,rfl,e,_,ah,cRE,au,none,rfl,he,ar.c,?_⟩;refine⟨_,rfl,_,rfl,e,ah,cRE,au,rfl,ar.c,ar.n _ (by simp),.inl ⟨he,fun dx hd=>?_⟩⟩;have F1:=Fl.first (CN:=ah) (f:="line") (y:=x0) he hd;exact q dx _ F1
theorem iP(F:Fun K "__init__" "TooMuch.__init__" yW f fd)(br:DfI K ay ["self","words"])(bt:jI P w K mg base CX0 k fRE ay ["self","words"] (aEj K)):jI P w K mg base (CXE P w) (k+2) f fd ["self","line"] (iD ap ["line"]):=by
 w_cond iG
 ·obtain⟨e,xs,rfl,hl,_⟩:=h;exact congrArg (·+1) hl
 obtain⟨e,xs,rfl,hl,he,q⟩:=h;refine⟨_,(jC (kU (eK tRE.i (qC (v:=.ref cRE) rfl tRE.m rfl) bt hr br.b .nil jQ (jA (pv 0) (jA jF jB)))) (jE (dC (pv 0) (pv 1) rfl))),?_⟩
 match xs,hl,q with
 |[x0],_,q =>
  refine⟨_,rfl,e,_,ap,cRE,ci,none,rfl,he,ck.c,?_⟩;refine⟨_,rfl,_,rfl,e,ap,cRE,ci,rfl,ck.c,ck.n _ (by simp),.inl ⟨he,fun dx hd=>?_⟩⟩;have F1:=Fl.first (CN:=ap) (f:="line") (y:=x0) he hd;exact q dx _ F1
theorem cB(F:Fun K "__init__" "UnknownShape.__init__" xA f fd)(br:DfI K ay ["self","words"])(bt:jI P w K mg base CX0 k fRE ay ["self","words"] (aEj K)):jI P w K mg base (CXE P w) (k+2) f fd ["self","line","name"] (iD aa ["line","name"]):=by
 w_cond cL
 ·obtain⟨e,xs,rfl,hl,_⟩:=h;exact congrArg (·+1) hl
 obtain⟨e,xs,rfl,hl,he,q⟩:=h;refine⟨_,(jC (kU (eK tRE.i (qC (v:=.ref cRE) rfl tRE.m rfl) bt hr br.b .nil jQ (jA (pv 0) (jA jF jB)))) (jC (dC (pv 0) (pv 1) rfl) (jE (dC (pv 0) (pv 2) rfl)))),?_⟩
 match xs,hl,q with
 |[x0,x1],_,q =>
  refine⟨_,rfl,e,_,aa,cRE,ao,none,rfl,he,ak.c,?_⟩;refine⟨_,rfl,_,rfl,e,aa,cRE,ao,rfl,ak.c,ak.n _ (by simp),.inl ⟨he,fun dx hd=>?_⟩⟩;have F1:=Fl.first (CN:=aa) (f:="line") (y:=x0) he hd;refine⟨_,rfl,_,rfl,e,aa,cRE,ao,rfl,ak.c,ak.n _ (by simp),.inr ⟨dx,_,F1.ae,F1.ad,(by simp),?_⟩⟩;have F2:=F1.next (fs':=[("line",x0),("name",x1)]);exact q dx _ F2
theorem dM(F:Fun K "__init__" "NamedTwice.__init__" xQ f fd)(br:DfI K ay ["self","words"])(bt:jI P w K mg base CX0 k fRE ay ["self","words"] (aEj K)):jI P w K mg base (CXE P w) (k+2) f fd ["self","line","name"] (iD ac ["line","name"]):=by
 w_cond dS
 ·obtain⟨e,xs,rfl,hl,_⟩:=h;exact congrArg (·+1) hl
 obtain⟨e,xs,rfl,hl,he,q⟩:=h;refine⟨_,(jC (kU (eK tRE.i (qC (v:=.ref cRE) rfl tRE.m rfl) bt hr br.b .nil jQ (jA (pv 0) (jA jF jB)))) (jC (dC (pv 0) (pv 1) rfl) (jE (dC (pv 0) (pv 2) rfl)))),?_⟩
 match xs,hl,q with
 |[x0,x1],_,q =>
  refine⟨_,rfl,e,_,ac,cRE,aq,none,rfl,he,am.c,?_⟩;refine⟨_,rfl,_,rfl,e,ac,cRE,aq,rfl,am.c,am.n _ (by simp),.inl ⟨he,fun dx hd=>?_⟩⟩;have F1:=Fl.first (CN:=ac) (f:="line") (y:=x0) he hd;refine⟨_,rfl,_,rfl,e,ac,cRE,aq,rfl,am.c,am.n _ (by simp),.inr ⟨dx,_,F1.ae,F1.ad,(by simp),?_⟩⟩;have F2:=F1.next (fs':=[("line",x0),("name",x1)]);exact q dx _ F2
theorem rA(F:Fun K "is_single" "is_single" cR f fd)(dn:Df K mg "number_in" gj fq ["text","low","high"])(jw:jI P w K mg base CX0 k gj fq ["text","low","high"] (dP K))(bb:Df K mg "is_name" bq bh ["thing"])(de:jI P w K mg base CX0 k bq bh ["thing"] (aI K)):jI P w K mg base CX0 (k+2) f fd ["words"] (aHc K):=by
 w_cond pY;obtain⟨a,ws,rfl,hw,hne,q⟩:=h;refine⟨_,(jC (kS (kJ qV (jU jZ (pv 0) jD (fun _ _=>rfl)) jF (kH _)) (jE (jP (yJ (qW qV (jR jX rfl M.len si (jA (pv 0) jB)) jD (kH _)) (zO (qW pE (jJ jw hr rfl dn.m dn.k dn.b .nil jQ (jA (jU jZ (pv 0) jD (fun _ _=>rfl)) (jA jD (jA (qC (v:=.int 4) rfl C.MOST_WIDTH ⟨_,rfl⟩) jB)))) bH (kH _)))))) jY) (jE (jP (yJ (qW qV (jR jX rfl M.len si (jA (pv 0) jB)) jD (kH _)) (zO (jJ de hr rfl bb.m bb.k bb.b .nil jQ (jA (jU jZ (pv 0) jD (fun _ _=>rfl)) jB))))))),?_⟩
 match ws,hw,hne,q with
 |[],_,hne,_=>exact absurd rfl hne
 |[w],hw,_,q =>
  refine⟨_,rfl,a,_,_,_,rfl,rfl,hw.l,rfl,rfl,_,rfl,vS (fun c=>?_) (fun c=>?_)⟩
  ·exact⟨_,rfl,a,_,rfl,.inl hw.l,rfl,_,rfl,kW (by simp) (qq (q _ (jG.refl _)) (if_pos (by simpa using c)))⟩
  ·exact⟨_,rfl,a,_,rfl,.inl hw.l,rfl,_,rfl,qP (by simp) ⟨_,rfl,a,_,_,_,rfl,rfl,hw.l,rfl,.str w,rfl,.inl ⟨w,rfl,hw.s w (by simp),fun H1 g1=>qq (q H1 g1) (if_neg (by simpa using c))⟩⟩⟩
 |[w,x],hw,_,q =>
  refine⟨_,rfl,a,_,_,_,rfl,rfl,hw.l,rfl,rfl,_,rfl,vS (fun c=>?_) (fun c=>?_)⟩
  ·exact⟨_,rfl,a,_,rfl,.inl hw.l,rfl,_,rfl,qP (by simp) ⟨_,rfl,a,_,_,_,rfl,rfl,hw.l,rfl,.str x,1,4,rfl,.inl ⟨x,rfl,hw.s x (by simp),fun H1 g1=>⟨rfl,qq (q H1 g1) ((if_pos (by simpa using c)).trans (lI _))⟩⟩⟩⟩
  ·exact⟨_,rfl,a,_,rfl,.inl hw.l,rfl,_,rfl,kW (by simp) (qq (q _ (jG.refl _)) (if_neg (by simpa using c)))⟩
 |w::x::y::r,hw,_,q =>
  have hl:SqL K H a (V.str w::V.str x::V.str y::r.map V.str):=hw.l;refine⟨_,rfl,a,_,_,_,rfl,rfl,hl,at0,rfl,_,rfl,vS (fun c=>?_) (fun c=>?_)⟩
  ·exact⟨_,rfl,a,_,rfl,.inl hl,rfl,_,rfl,kW (by simp;omega) (q _ (jG.refl _))⟩
  ·exact⟨_,rfl,a,_,rfl,.inl hl,rfl,_,rfl,kW (by simp;omega) (q _ (jG.refl _))⟩
theorem uX(F:Fun K "is_kind" "is_kind" fO f fd)(dn:Df K mg "number_in" gj fq ["text","low","high"])(jw:jI P w K mg base CX0 k gj fq ["text","low","high"] (dP K))(fb:Df K mg "is_single" mz lz ["words"])(ng:jI P w K mg base CX0 k mz lz ["words"] (aHc K))(bb:Df K mg "is_name" bq bh ["thing"])(de:jI P w K mg base CX0 k bq bh ["thing"] (aI K)):jI P w K mg base CX0 (k+2) f fd ["words"] (aGs K):=by
 w_cond uM;obtain⟨a,ws,rfl,hw,hne,q⟩:=h;refine⟨_,(jC (kS (kJ qV (jU jZ (pv 0) jD (fun _ _=>rfl)) jF (kH _)) (jE (jP (yJ (qW dI (jR jX rfl M.len si (jA (pv 0) jB)) jD (kH _)) (yJ (qW pE (jJ jw hr rfl dn.m dn.k dn.b .nil jQ (jA (jU jZ (pv 0) jD (fun _ _=>rfl)) (jA jD (jA (qC (v:=.int 6) rfl C.MOST_COUNT ⟨_,rfl⟩) jB)))) bH (kH _)) (zO (jJ ng hr rfl fb.m fb.k fb.b .nil jQ (jA (vA xH (pv 0) (vR jD) vQ) jB))))))) jY) (jC (kS (kJ qV (jU jZ (pv 0) jD (fun _ _=>rfl)) jF (kH _)) (jE (jP (yJ (aCo mC mC (qC (v:=.int 2) rfl C.LEAST_PICKED ⟨_,rfl⟩) (jN oS (jR jX rfl M.len si (jA (pv 0) jB)) jD) (qC (v:=.int 4) rfl C.MOST_PICKED ⟨_,rfl⟩)) (zO (jR (tP rfl) rfl M.all boot_all (jA (qI ["word"] [] [] rfl (qL (vA xH (pv 0) (vR jD) vQ)) rfl trivial trivial (fun _ _ _ _=>(jV (i:=0) (show sw (["word"]:List Str) from by decide +kernel) rfl (sy rfl))) (fun _ _ _ _=>qG) (fun _ _ _ _=>(jJ de hr rfl bb.m bb.k bb.b .nil jQ (jA (pv 0) jB)))) jB)))))) jY) (jE (jP (jJ ng hr rfl fb.m fb.k fb.b .nil jQ (jA (pv 0) jB)))))),?_⟩
 match ws,hw,hne,q with
 |[],_,hne,_=>exact absurd rfl hne
 |w::r,hw,hne,q =>
  have hl:SqL K H a (V.str w::r.map V.str):=hw.l;refine⟨_,rfl,a,_,_,_,rfl,rfl,hl,at0,rfl,_,rfl,vS (fun c=>?_) (fun c=>?_)⟩
  ·have hc:w=δ "row":=by simpa using c
   match r,hw,hne,q,hl with
   |[],hw,_,q,hl=>exact⟨_,rfl,a,_,rfl,.inl hl,_,_,rfl,rfl,_,rfl,kW (by simp) (qq (q _ (jG.refl _)) (if_pos hc))⟩
   |[x],hw,_,q,hl=>exact⟨_,rfl,a,_,rfl,.inl hl,_,_,rfl,rfl,_,rfl,kW (by simp) (qq (q _ (jG.refl _)) (if_pos hc))⟩
   |x::y::z,hw,_,q,hl =>
    have hl':SqL K H a (V.str w::V.str x::(y::z).map V.str):=hl;refine⟨_,rfl,a,_,rfl,.inl hl,_,_,rfl,rfl,_,rfl,qP (by simp;omega) ⟨_,rfl,a,_,_,_,rfl,rfl,hl',at1,.str x,1,6,rfl,.inl ⟨x,rfl,hw.s x (by simp),fun H1 g1=>⟨rfl,_,rfl,vS (fun c2=>?_) (fun c2=>?_)⟩⟩⟩⟩
    ·refine⟨_,rfl,_,rfl,a,_,rfl,g1.seq hl',fun p hp=>?_⟩;rw[aGx];clear 1 p H2 g2 k2 hp;refine⟨p,y::z,rfl,⟨SqL.of k2,fun v hv=>hw.s v (rg _ (rg _ hv)),by have:=hw.n;simp only[υ]at this ⊢;omega⟩,(fun z=>by cases z),fun H3 g3=>qq (q H3 ((g1.trans g2).trans g3)) ?_⟩;refine(if_pos hc).trans ?_;show((vK (aY x) 1 6).isSome&&eZ (y::z))=_;rw[lI,c2,wg]
    ·refine qq (q H1 g1) ((if_pos hc).trans ?_);show((vK (aY x) 1 6).isSome&&eZ (y::z))=_;rw[lI,xb.mpr c2,vp]
  ·have hc:¬ w=δ "row":=by simpa using c
   refine⟨_,rfl,a,_,_,_,rfl,rfl,hl,at0,rfl,_,rfl,vS (fun c=>?_) (fun c=>?_)⟩
   ·have hp:w=δ "pick":=by simpa using c
    have hq:yN (w::r)=(decide (2<=r.length)&&(decide (r.length<=4)&&r.all jM)):=(if_neg hc).trans (if_pos hp);have zl:(r.map V.str).length=r.length:=ε _;refine⟨_,rfl,a,_,rfl,.inl hl,_,_,rfl,rfl,_,_,rfl,rfl,_,rfl,vS (fun c1=>?_) (fun c1=>?_)⟩
    ·have h2 : 2<=r.length:=by have:=of_decide_eq_true c1;rw[υ,zl]at this;omega
     rw[decide_eq_true h2,wg]at hq;refine⟨_,_,rfl,rfl,_,rfl,vS (fun c3=>?_) (fun c3=>?_)⟩
     ·have h4:r.length<=4:=by have:=of_decide_eq_true c3;rw[υ,zl]at this;omega
      rw[decide_eq_true h4,wg]at hq;refine⟨_,rfl,_,rfl,a,_,rfl,hl,fun p hp=>?_⟩;rw[rS];clear 1 p H2 g2 k2 hp;refine⟨p,rfl,⟨_,SqL.of k2⟩,xN (xs:=r.map V.str) (fun j ys H'=>jG H2 H'/\ys=((r.take j).map jM).map V.bl) ⟨jG.refl _,rfl⟩ (fun j ys H' _ z=>⟨z.1.seq (SqL.of k2),by rw[z.2,ε,ε,rh];exact uz _ _⟩) (kP (by omega)) (fun j x ys H' hx z=>?_) (fun ys H' z p hp=>?_)⟩
      ·obtain⟨g,rfl⟩:=z;obtain⟨y,hy,rfl⟩:=aN hx;refine⟨_,rfl,.str y,rfl,.inl ⟨_,rfl,hw.s y (rg _ (ψ hy)),fun H3 g3=>⟨⟨g.trans g3,?_⟩,_,rfl⟩⟩⟩;rw[qY hy,ν];rfl
      ·obtain⟨g,rfl⟩:=z;have g3:=vD hp (.lst (((r.take (r.map V.str).length).map jM).map V.bl));refine⟨p,_,rfl,SqL.of jL,?_⟩;refine qq (q _ ((g2.trans g).trans g3)) (hq.trans ?_);rw[zl,wu,List.all_map];rfl
     ·have h4:¬ r.length<=4:=fun z=>c3 (decide_eq_true (by rw[υ,zl];omega));rw[decide_eq_false h4,vp]at hq;exact qq (q _ (jG.refl _)) hq
    ·have h2:¬ 2<=r.length:=fun z=>c1 (decide_eq_true (by rw[υ,zl];omega));rw[decide_eq_false h2,vp]at hq;exact⟨_,rfl,kW (by decide) (qq (q _ (jG.refl _)) hq)⟩
   ·have hp:¬ w=δ "pick":=by simpa using c
    exact⟨_,rfl,a,w::r,rfl,hw,hne,fun H1 g1=>qq (q H1 g1) ((if_neg hc).trans (if_neg hp))⟩
theorem fX(F:Fun K "is_field_line" "is_field_line" yG f fd)(bb:Df K mg "is_name" bq bh ["thing"])(de:jI P w K mg base CX0 k bq bh ["thing"] (aI K))(md:Df K mg "is_kind" oq ny ["words"])(qp:jI P w K mg base CX0 k oq ny ["words"] (aGs K)):jI P w K mg base CX0 (k+2) f fd ["words"] (aHd K):=by
 w_cond fQ;obtain⟨a,ws,rfl,hw,q⟩:=h;refine⟨_,(jE (jP (yJ (qW dI (jR jX rfl M.len si (jA (pv 0) jB)) jD (kH _)) (yJ (jJ de hr rfl bb.m bb.k bb.b .nil jQ (jA (jU jZ (pv 0) jD (fun _ _=>rfl)) jB)) (zO (jJ qp hr rfl md.m md.k md.b .nil jQ (jA (vA xH (pv 0) (vR jD) vQ) jB))))))),?_⟩
 match ws,hw,q with
 |[],hw,q=>exact⟨_,rfl,a,_,rfl,.inl hw.l,_,_,rfl,rfl,_,rfl,kW (by decide) (q _ (jG.refl _))⟩
 |[x],hw,q=>exact⟨_,rfl,a,_,rfl,.inl hw.l,_,_,rfl,rfl,_,rfl,kW (by simp) (q _ (jG.refl _))⟩
 |f::w::r,hw,q =>
  have hl:SqL K H a (V.str f::(w::r).map V.str):=hw.l;refine⟨_,rfl,a,_,rfl,.inl hl,_,_,rfl,rfl,_,rfl,qP (by simp;omega) ⟨_,rfl,a,_,_,_,rfl,rfl,hl,at0,.str f,rfl,.inl ⟨f,rfl,hw.s f (by simp),fun H1 g1=>⟨_,rfl,vS (fun c=>?_) (fun c=>?_)⟩⟩⟩⟩
  ·refine⟨_,rfl,_,rfl,a,_,rfl,g1.seq hl,fun p hp=>?_⟩;rw[rS];clear 1 p H2 g2 k2 hp;refine⟨p,w::r,rfl,⟨SqL.of k2,fun v hv=>hw.s v (rg _ hv),by have:=hw.n;simp only[υ]at this ⊢;omega⟩,(fun z=>by cases z),fun H3 g3=>qq (q H3 ((g1.trans g2).trans g3)) ?_⟩;show(jM f&&yN (w::r))=_;rw[c,wg]
  ·refine qq (q H1 g1) ?_;show(jM f&&yN (w::r))=_;rw[xb.mpr c,vp]
theorem iK(F:Fun K "shapes_named" "shapes_named" yY f fd)(bb:Df K mg "is_name" bq bh ["thing"])(de:jI P w K mg base CX0 k bq bh ["thing"] (aI K)):jI P w K mg base CX0 (k+2) f fd ["words"] (sO K):=by
 w_cond iH;obtain⟨a,w,ws,rfl,hw,q⟩:=h;refine⟨_,(jE (jP (qI ["word"] [] [] rfl (qL (vA xH (pv 0) (vR jD) vQ)) rfl trivial trivial (fun _ _ _ _=>(jV (i:=0) (show sw (["word"]:List Str) from by decide +kernel) rfl (sy rfl))) (fun _ _ _ _=>(wV (xM (jJ de hr rfl bb.m bb.k bb.b .nil jQ (jA (pv 0) jB))))) (fun _ _ _ _=>(pv 0))))),?_⟩;have hl:SqL K H a (V.str w::ws.map V.str):=hw.l;have hn:=hw.n;rw[υ]at hn;refine⟨_,rfl,_,rfl,a,_,rfl,hl,fun p hp=>?_⟩;rw[rS];clear 1 p H2 g2 k2 hp;refine⟨p,rfl,⟨_,SqL.of k2⟩,xN (xs:=ws.map V.str) (fun j ys H'=>jG H2 H'/\ys=((ws.take j).filter jM).map V.str) ⟨jG.refl _,rfl⟩ (fun j ys H' hj z=>⟨z.1.seq (SqL.of k2),?_⟩) (kP (by rw[ε];omega)) (fun j x ys H' hx z=>?_) (fun ys H' z l hl=>?_)⟩
 ·rw[z.2,ε];refine sg (List.length_filter_le ..) ?_;rw[rh];exact uz _ _
 ·obtain⟨g,rfl⟩:=z;obtain⟨y,hy,rfl⟩:=aN hx;have hy6:=hw.s y (rg _ (ψ hy));refine⟨_,rfl,.str y,rfl,.inl ⟨_,rfl,hy6,fun H3 g3=>⟨_,rfl,vS (fun c=>⟨_,rfl,⟨g.trans g3,?_⟩,_,rfl⟩) (fun c=>⟨⟨g.trans g3,?_⟩,_,rfl⟩)⟩⟩⟩
  ·rw[oJ hy,if_pos c,ν];rfl
  ·rw[oJ hy,if_neg c,uy]
 ·obtain⟨g,rfl⟩:=z;clear 1 l H3 g3 k3 hl;rw[ε,wu]at k3;exact q l H3 ((g2.trans g).trans g3) ((g2.trans g).free hl) k3
theorem eU(F:Fun K "need_new_shape" "need_new_shape" xV f fd)(cr:DfI K bo ["self","line"])(cu:jI P w K mg base (CXE P w) k au bo ["self","line"] (iD ah ["line"]))(dq:DfI K cq ["self","line","name"])(dr:jI P w K mg base (CXE P w) k aq cq ["self","line","name"] (iD ac ["line","name"]))(ig:DfI K di ["self","line"])(ii:jI P w K mg base (CXE P w) k ci di ["self","line"] (iD ap ["line"])):jI P w K mg base (CXE P w) (k+2) f fd ["told","line","name"] (aCp (Cl5.mk Va Vb Vc Vd Ve) ah ac K):=by
 w_cond eN;obtain⟨tl,x,nm,sa,T,rfl,hl,hw,hlen,hc⟩:=h;refine⟨_,(jC (kS (PW.pt (wM (cD (pv 0) (fun _=>rfl)) (pR (yM (cD (vB (jU jZ (pv 0) (bY zE jD) (fun _ _=>rfl)) rfl) (fun _=>rfl)))))) (jE (xG ar.c cu hr0 rfl ar.m cr.b .nil xY (jA (pv 1) jB))) jY) (jC (kS (kJ fR (pv 2) (qI ["shape"] [] [] rfl (qL (pv 0)) rfl trivial trivial (fun _ _ _ _=>(jV (i:=0) (show sw (["shape"]:List Str) from by decide +kernel) rfl (sy rfl))) (fun _ _ _ _=>qG) (fun _ _ _ _=>(oZ (K:=K) rfl (pv 0) rfl))) (by with_unfolding_all rfl)) (jE (xG am.c dr hr0 rfl am.m dq.b .nil xY (jA (pv 1) (jA (pv 2) jB)))) jY) (jE (kS (kJ qV (jR jX rfl M.len si (jA (pv 0) jB)) (qC (v:=.int 8) rfl C.MOST_SHAPES ⟨_,rfl⟩) (kH _)) (jE (xG ck.c ii hr0 rfl ck.m ig.b .nil xY (jA (pv 1) jB))) jY)))),?_⟩;rcases hc with⟨T0,s,rfl,hs0,qF⟩|⟨hne,hc⟩
 ·obtain⟨sa0,z,rfl⟩:=sC (show sa≠[] from fun e=>by have:=hw.1;rw[e,ζ]at this;simp at this);obtain⟨hw0,dx,t,ps,k1,k2,k3⟩:=hw.init;have hps:ps=[]:=uh.mp (by rw[k3.len,hs0];rfl);subst hps;exact⟨_,rfl,true,.inl ⟨_,SqL.of hl,by simp⟩,qP rfl ⟨_,rfl,_,rfl,tl,_,_,_,rfl,rfl,SqL.of hl,vP _ _,z,Ve,_,_,_,rfl,k1,Ue.cl,Ue.na _ (by decide),rfl,false,.inr (.inl ⟨_,k2,rfl⟩),qP (by decide) ⟨ud,_,rfl,(by show 1<=1000;decide),fun e he=>⟨e,[_],rfl,rfl,jL,fun dx H1 F=>⟨rfl,e,some dx,rfl,F.ae,(by obtain⟨g9,he9,x9⟩:=zU (jG.refl _) he F;exact qF e _ g9 he9 x9)⟩⟩⟩⟩⟩
 have zl:(sa.map V.ref).length=T.length:=by rw[ε];exact hw.1
 refine aHb (fun σ' H'=>σ'=[some (.ref tl),some x,some (.str nm)]/\H'=H) (fun σ' H' z=>?_) (fun nx hnx=>?_)
 ·obtain⟨rfl,rfl⟩:=z;refine⟨_,rfl,_,rfl,tl,rfl,⟨_,SqL.of hl⟩,xN (xs:=sa.map V.ref) (fun j ys H2=>H2=H'/\ys=((T.take j).map (·.1)).map V.str) ⟨rfl,rfl⟩ (fun j ys H2 _ z=>⟨by rw[z.1];exact SqL.of hl,by rw[z.2,ε,ε,rh];exact uz _ _⟩) (kP (by omega)) (fun j x ys H2 hx z=>?_) (fun ys H2 z p hp=>?_)⟩
  ·obtain⟨rfl,rfl⟩:=z;obtain⟨s,hs,rfl⟩:=qJ hx;obtain⟨sh,hS,dx,t,ps,k1,_⟩:=hw.at hs;refine⟨_,rfl,s,Ve,_,_,_,rfl,k1,Ue.cl,Ue.na _ (by decide),rfl,⟨rfl,?_⟩,_,rfl⟩;rw[qY hS,ν];rfl
  ·obtain⟨rfl,rfl⟩:=z;clear 1 p H3 g3 k3 hp;refine⟨p,_,rfl,.inl (SqL.of k3),rfl,cV _,_,rfl,?_⟩;rw[if_neg (by decide),eM,zl,qQ];rcases hc with⟨hnm,qT⟩|⟨hnm,q⟩
   ·exact qP (decide_eq_true hnm) ⟨ud,_,rfl,_,rfl,(by show 2<=1000;decide),fun e he=>⟨e,[_,_],rfl,rfl,jL,fun dx H1 F=>⟨rfl,e,some dx,rfl,F.ae,(by obtain⟨g9,he9,x9⟩:=zU (g3) he F;exact qT e _ g9 he9 x9)⟩⟩⟩
   ·exact kW (by rw[decide_eq_false hnm];decide) ⟨_,rfl,tl,_,rfl,.inl (SqL.of (g3 _ _ hl)),rfl,_,rfl,kW (by rw[zl];simp;omega) (q H3 g3)⟩
 ·rcases AI sa with rfl|⟨sa0,z,rfl⟩
  ·exact⟨_,rfl,false,.inl ⟨_,SqL.of hl,rfl⟩,kW (by decide) (kW (by decide) (hnx _ _ ⟨rfl,rfl⟩))⟩
  ·rw[AJ]at *;obtain⟨s,hS,so⟩:=hw.at (i:=sa0.length) (a:=z) (by rw[Γ (μ _),vc];rfl);obtain⟨dx,t,ps,k1,k2,k3⟩:=so;have hp:ps≠[]:=fun e=>hne s (ψ hS) (uh.mp (by rw[←k3.len,e];rfl));exact⟨_,rfl,true,.inl ⟨_,SqL.of hl,by simp⟩,qP rfl ⟨_,rfl,_,rfl,tl,_,_,_,rfl,rfl,SqL.of hl,vP _ _,z,Ve,_,_,_,rfl,k1,Ue.cl,Ue.na _ (by decide),rfl,true,.inr (.inl ⟨_,k2,by cases ps with|nil=>exact absurd rfl hp|cons _ _=>rfl⟩),kW (by decide) (hnx _ _ ⟨rfl,rfl⟩)⟩⟩
theorem mX{k:Nat}(F:Fun K "need_field" "need_field" bB f fd){jp:Addr}{jg:sq}(gu:Df K mg "is_field_line" jp jg ["words"])(nz:jI P w K mg base CX0 k jp jg ["words"] (aHd K)){kb:Addr}{jq:sq}(ij:Df K mg "shapes_named" kb jq ["words"])(om:jI P w K mg base CX0 k kb jq ["words"] (sO K)){dv:Addr}{dh:sq}(cj:Df K mg "whole_shapes" dv dh ["told"])(ie:jI P w K mg base CX0 k dv dh ["told"] (spWh (Cl5.mk Va Vb Vc Vd Ve) K)){bo:sq}(cr:DfI K bo ["self","line"])(cu:jI P w K mg base (CXE P w) k au bo ["self","line"] (iD ah ["line"])){cq:sq}(dq:DfI K cq ["self","line","name"])(dr:jI P w K mg base (CXE P w) k aq cq ["self","line","name"] (iD ac ["line","name"])){gv:sq}(lm:DfI K gv ["self","line","name"])(lp:jI P w K mg base (CXE P w) k ao gv ["self","line","name"] (iD aa ["line","name"])):jI P w K mg base (CXE P w) (k+2) f fd ["told","line","words"] (aGo (Cl5.mk Va Vb Vc Vd Ve) ah ac aa K):=by
 w_cond xD;obtain⟨tl,a,x,sa,T,ws,k,y,rfl,hl,hw,hws,hs100,hnd,hlen,hb,q0,q1,q2,q3⟩:=h;refine⟨_,(jC (kS (PW.pt (oF (yM (cD (pv 0) (fun _=>rfl))) (fU (yM (xM (jJ nz hr rfl gu.m gu.k gu.b .nil jQ (jA (pv 2) jB))))))) (jE (xG ar.c cu hr0 rfl ar.m cr.b .nil xY (jA (pv 1) jB))) jY) (jC (kS (kJ fR (jU jZ (pv 2) jD (fun _ _=>rfl)) (qI ["name","kind"] [] [] rfl (mJ (vB (jU jZ (pv 0) (bY zE jD) (fun _ _=>rfl)) rfl)) rfl trivial trivial (fun _ _ _ _=>(dF (K:=K) (n:=2) rfl rfl (kL (jV (i:=0) (show sw (["name","kind"]:List Str) from by decide +kernel) rfl (sy rfl)) (kL (jV (i:=1) (show sw (["name","kind"]:List Str) from by decide +kernel) rfl (sy rfl)) vL)))) (fun _ _ _ _=>qG) (fun _ _ _ _=>(pv 0))) (by with_unfolding_all rfl)) (jE (xG am.c dr hr0 rfl am.m dq.b .nil xY (jA (pv 1) (jA (jU jZ (pv 2) jD (fun _ _=>rfl)) jB)))) jY) (jC (kI (i:=3) xD.nd rfl (by walk_at"o") (jJ om hr rfl ij.m ij.k ij.b .nil jQ (jA (pv 2) jB))) (jC (xB ownE rfl (aAc rfl M.enumerate (jA (pv 3) jB)) (zL rfl (kL (jV (i:=4) xD.nd rfl (sy rfl)) (kL (jV (i:=5) xD.nd rfl (sy rfl)) vL))) (jE (kS (kJ fR (pv 5) (vA xH (pv 3) vQ (vR (pv 4))) (by with_unfolding_all rfl)) (jE (xG am.c dr hr0 rfl am.m dq.b .nil xY (jA (pv 1) (jA (pv 5) jB)))) jY))) (jE (xB ownE rfl (qL (pv 3)) (jV (i:=5) xD.nd rfl (sy rfl)) (jE (kS (aJj (aBs hr.units1 (pv 5) (jJ ie hr rfl cj.m cj.k cj.b .nil jQ (jA (pv 0) jB)))) (jE (xG ak.c lp hr0 rfl ak.m lm.b .nil xY (jA (pv 1) (jA (pv 5) jB)))) jY)))))))),?_⟩
 by_cases hT:T=[]
 ·subst hT;have hsa:sa=[]:=uh.mp (by rw[hw.1];rfl);subst hsa;have hk:k=0:=by
   rcases hb with⟨_,hk⟩|⟨T0,s,f,r,e,_⟩
   ·exact hk
   ·exact absurd e (by simp)
  exact⟨_,rfl,false,.inl ⟨_,SqL.of hl,rfl⟩,qP (by decide) ⟨ud,_,rfl,(by show 1<=1000;decide),fun e he=>⟨e,[_],rfl,rfl,jL,fun dx H1 F=>⟨rfl,e,some dx,rfl,F.ae,(by obtain⟨g9,he9,x9⟩:=zU (jG.refl _) he F;exact q0 hk e _ g9 he9 x9)⟩⟩⟩⟩
 obtain⟨T0,s,rfl⟩:=sC hT;obtain⟨sa0,z,rfl⟩:=sC (show sa≠[] from fun e=>by have:=hw.1;rw[e,ζ]at this;simp at this);obtain⟨hw0,dx,t,ps,k1,k2,k3⟩:=hw.init;have zl:(ps.map V.ref).length=s.2.length:=by rw[ε];exact k3.len
 have hs1:s.2.length<=100:=hs100 s (by simp);have hnd0:(T0.map (·.1)).Nodup:=by rw[ν,wm]at hnd;exact hnd.1
 have hlen0:T0.length<=100:=by rw[ζ]at hlen;omega
 refine⟨_,rfl,true,.inl ⟨_,SqL.of hl,by simp⟩,kW (by decide) ⟨_,rfl,a,ws,rfl,hws,fun H1 g1=>⟨_,rfl,?_⟩⟩⟩
 by_cases hfl:lE ws=true
 ·rcases hb with⟨hb|hb,_⟩|⟨T0',s',fn,r,e,rfl,_,hcs⟩
  ·exact absurd hb hT
  ·rw[hfl]at hb;cases hb
  obtain⟨rfl,es⟩:=List.append_inj' e rfl;cases es;refine kW (by rw[hfl];decide) ?_;have hwl:SqL K H1 a (V.str fn::r.map V.str):=g1.seq hws.l;refine⟨_,rfl,a,_,_,_,rfl,rfl,hwl,at0,_,rfl,_,rfl,tl,_,_,_,rfl,rfl,SqL.of (g1 _ _ hl),vP _ _,z,Ve,_,_,_,rfl,(g1 _ _ k1),Ue.cl,Ue.na _ (by decide),rfl,t,rfl,⟨_,g1.tp k2⟩,cS (xs:=ps.map V.ref) (fun j ys H2=>H2=H1/\ys=((s.2.take j).map (·.1)).map V.str) ⟨rfl,rfl⟩ (fun j ys H2 _ z=>⟨by rw[z.1];exact g1.tp k2,by rw[z.2,ε,ε,rh];exact uz _ _⟩) (kP (by omega)) (fun j x ys H2 os ho hx z=>?_) (fun ys H2 z p hp=>?_)⟩
  ·obtain⟨rfl,rfl⟩:=z;obtain⟨o1,o2,rfl⟩:=tW ho;obtain⟨u,hu,rfl⟩:=qJ hx;obtain⟨nm',kd',kk,hfs,hq,hko⟩:=k3.get hu;refine⟨u,_,rfl,g1.tp hq,rfl,_,_,rfl,_,_,rfl,rfl,_,rfl,⟨rfl,?_⟩,[_,_],rfl,rfl⟩;rw[qY hfs,ν];rfl
  obtain⟨e',rfl⟩:=z;subst e';clear 1 p H3 g3 k4 hp;refine⟨p,_,rfl,.inl (SqL.of k4),rfl,cV _,_,rfl,?_⟩;rw[if_neg (by decide),eM,zl,qQ]
  by_cases hnew:fn∈s.2.map (·.1)
  ·rcases hcs with⟨_,hk,rfl⟩|⟨h,_⟩|⟨h,_⟩|⟨h,_⟩
   ·exact qP (decide_eq_true hnew) ⟨ud,_,rfl,_,rfl,a,_,_,_,rfl,rfl,g3.seq hwl,at0,(by show 2<=1000;decide),fun e he=>⟨e,[_,_],rfl,rfl,jL,fun dx H1 F=>⟨rfl,e,some dx,rfl,F.ae,(by obtain⟨g9,he9,x9⟩:=zU (g1.trans g3) he F;exact q1 hk e _ g9 he9 x9)⟩⟩⟩
   ·exact absurd hnew h
   ·exact absurd hnew h
   ·exact absurd hnew h
  have hr1:r.length<=1000:=by have:=hws.n;rw[υ]at this;omega
  have hn1:(r.filter jM).length<=1000:=sg (List.length_filter_le ..) hr1;refine kW (by rw[decide_eq_false hnew];decide) ⟨_,rfl,a,fn,r,rfl,hws.same (g1.trans g3),fun l H4 g4 hl4 k5=>?_⟩;have hcs':=hcs.resolve_left fun h=>hnew h.1;clear hcs;generalize r.filter jM=nd at *;have g14:=(g1.trans g3).trans g4;have zn:(nd.map V.str).length=nd.length:=ε _;refine⟨_,rfl,l,_,rfl,SqL.of k5,sM (xs:=nd.map V.str) (fun i σ H'=>∃o4 o5,σ = [some (.ref tl),some x,some (.ref a),some (.ref l),o4,o5]/\jG H4 H'/\∀i0,nd[i0]?=some y->y∈nd.take i0->k=1->i<=i0) ⟨_,_,rfl,jG.refl _,fun _ _ _ _=>sd _⟩ (fun i σ H' _ z=>?_) (fun i v σ H' p hx z hp=>?_) (fun σ H' z=>?_)⟩
  ·obtain⟨o4,o5,rfl,g,_⟩:=z;exact g.seq (SqL.of k5)
  ·obtain⟨o4,o5,rfl,g,hI⟩:=z;obtain⟨u,hu,rfl⟩:=aN hx;have g5:=vD hp (.tup [.int (i:Int),.str u]);have k6:upd H' p (.tup [.int (i:Int),.str u]) p=_:=jL;generalize upd H' p (.tup [.int (i:Int),.str u])=H5 at g5 k6;refine⟨p,_,rfl,SqT.of k6,rfl,_,_,rfl,_,_,rfl,rfl,_,rfl,_,rfl,_,rfl,_,rfl,l,_,rfl,(g.trans g5).seq (SqL.of k5),fun p2 hp2=>?_⟩;rw[cutB];clear 1 p2 H6 g6 k7 hp2;rw[←List.map_take]at k7;refine⟨p2,_,rfl,.inl (SqL.of k7),rfl,cV _,_,rfl,?_⟩;rw[if_neg (by decide),eM]
   by_cases hm:u∈nd.take i
   ·rcases hcs' with⟨_,i0,h1,h2,h3,hk⟩|⟨_,hn,_⟩|⟨_,hn,_⟩
    ·have hle:=hI i0 h1 h3 hk;have hii:i=i0:=by
      rcases Aj hle with h|h
      ·exact absurd hm (fJ h2 h hu)
      ·exact h
     subst hii;rw[hu]at h1;cases h1;exact qP (decide_eq_true hm) ⟨ud,_,rfl,_,rfl,(by show 2<=1000;decide),fun e he=>⟨e,[_,_],rfl,rfl,jL,fun dx H1 F=>⟨rfl,e,some dx,rfl,F.ae,(by obtain⟨g9,he9,x9⟩:=zU ((g14.trans g).trans (g5.trans g6)) he F;exact q1 hk e _ g9 he9 x9)⟩⟩⟩
    ·exact absurd hm (fJ (n:=nd.length) (by rw[wu];exact hn) (η.mp hu).1 hu)
    ·exact absurd hm (fJ (n:=nd.length) (by rw[wu];exact hn) (η.mp hu).1 hu)
   ·refine kW (by rw[decide_eq_false hm];decide) ⟨_,_,rfl,(g.trans g5).trans g6,fun i0 h1 h3 hk=>?_⟩;have hle:=hI i0 h1 h3 hk;rcases Aj hle with h|h
    ·exact h
    ·subst h;rw[hu]at h1;cases h1;exact absurd h3 hm
  ·obtain⟨o4,o5,rfl,g,hI⟩:=z;rw[zn]at hI;have hcs2:nd.Nodup/\((∃i,nd[i]?=some y/\(∀z∈nd.take i,z∈T0.map (·.1))/\y∉T0.map (·.1)/\k=2)\/((∀z∈nd,z∈T0.map (·.1))/\k=3)):=by
    rcases hcs' with⟨_,i0,h1,h2,h3,hk⟩|⟨_,hn,h⟩|⟨_,hn,h⟩
    ·have:=hI i0 h1 h3 hk;have:=(η.mp h1).1;omega
    ·exact⟨hn,.inl h⟩
    ·exact⟨hn,.inr h⟩
   obtain⟨_,hcs2⟩:=hcs2;refine⟨_,rfl,l,rfl,⟨_,g.seq (SqL.of k5)⟩,xF (xs:=nd.map V.str) (fun i σ H'=>∃o4 o5,σ = [some (.ref tl),some x,some (.ref a),some (.ref l),o4,o5]/\jG H4 H'/\∀i0,nd[i0]?=some y->y∉T0.map (·.1)->k=2->i<=i0) ⟨_,_,rfl,g,fun _ _ _ _=>sd _⟩ (fun i σ H' _ z=>?_) (fun i v σ H' hx z=>?_) (fun σ H' z=>?_)⟩
   ·obtain⟨o4,o5,rfl,g,_⟩:=z;exact g.seq (SqL.of k5)
   ·obtain⟨o4,o5,rfl,g,hJ⟩:=z;obtain⟨u,hu,rfl⟩:=aN hx
    by_cases hm:u∈T0.map (·.1)
    ·obtain⟨s',hs',es'⟩:=rm.mp hm;obtain⟨j,hj⟩:=tq.mp hs';have hjl:=(η.mp hj).1;have hsa:sa0[j]?=some (sa0[j]'(by rw[hw0.1];exact hjl)):=θ _;have hv:=aCt hnd0 hj hsa;rw[es']at hv;refine⟨_,rfl,_,rfl,tl,z,sa0,T0,s,rfl,(g14.trans g) _ _ hl,hw.same (g14.trans g),hnd0,hlen0,fun d H5 g5 hd k6=>⟨d,_,rfl,gL.k (k:=yp u) k6,_,rfl,?_⟩⟩;rw[hv];refine kW (by simp) ⟨_,_,rfl,g.trans g5,fun i0 h1 h3 hk=>?_⟩;rcases Aj (hJ i0 h1 h3 hk) with h|h
     ·exact h
     ·subst h;rw[hu]at h1;cases h1;exact absurd hm h3
    ·refine⟨_,rfl,_,rfl,tl,z,sa0,T0,s,rfl,(g14.trans g) _ _ hl,hw.same (g14.trans g),hnd0,hlen0,fun d H5 g5 hd k6=>⟨d,_,rfl,gL.k (k:=yp u) k6,_,rfl,?_⟩⟩;rw[dk_no hm];rcases hcs2 with⟨i0,h1,h2,h3,hk⟩|⟨h,_⟩
     ·have hii:i=i0:=by
       rcases Aj (hJ i0 h1 h3 hk) with h|h
       ·exact absurd (h2 u (aCz h hu)) hm
       ·exact h
      subst hii;rw[hu]at h1;cases h1;exact qP (by simp) ⟨ud,_,rfl,_,rfl,(by show 2<=1000;decide),fun e he=>⟨e,[_,_],rfl,rfl,jL,fun dx H1 F=>⟨rfl,e,some dx,rfl,F.ae,(by obtain⟨g9,he9,x9⟩:=zU ((g14.trans g).trans g5) he F;exact q2 hk e _ g9 he9 x9)⟩⟩⟩
     ·exact absurd (h u (ψ hu)) hm
   ·obtain⟨o4,o5,rfl,g,hJ⟩:=z;rw[zn]at hJ;rcases hcs2 with⟨i0,h1,h2,h3,hk⟩|⟨_,hk⟩
    ·have:=hJ i0 h1 h3 hk;have:=(η.mp h1).1;omega
    ·exact q3 hk H' (g14.trans g)
 ·have hk:k=0:=by
   rcases hb with⟨_,hk⟩|⟨_,_,_,_,_,_,h1,_⟩
   ·exact hk
   ·exact absurd h1 hfl
  exact qP (by rw[xb.mpr hfl];decide) ⟨ud,_,rfl,(by show 1<=1000;decide),fun e he=>⟨e,[_],rfl,rfl,jL,fun dx H1 F=>⟨rfl,e,some dx,rfl,F.ae,(by obtain⟨g9,he9,x9⟩:=zU (g1) he F;exact q0 hk e _ g9 he9 x9)⟩⟩⟩
theorem lM{k r:Nat}(F:Fun K "read_shapes" "read_shapes" zN f fd){jr:Addr}{jh:sq}(gw:Df K mg "is_shape_line" jr jh ["words"])(oa:jI P w K mg base CX0 k jr jh ["words"] (aGt K)){ji:Addr}{iz:sq}(gp:Df K mg "need_new_shape" ji iz ["told","line","name"])(nr:jI P w K mg base (CXE P w) k ji iz ["told","line","name"] (aCp (Cl5.mk Va Vb Vc Vd Ve) ah ac K)){eo:sq}(jd:DfI K eo ["self","name","fields"])(je:jI P w K mg base CX0 k cIz eo ["self","name","fields"] (aEc (Cl5.mk Va Vb Vc Vd Ve) K)){mh:Addr}{kz:sq}(jj:Df K mg "need_field" mh kz ["told","line","words"])(ph:jI P w K mg base (CXE P w) k mh kz ["told","line","words"] (aGo (Cl5.mk Va Vb Vc Vd Ve) ah ac aa K)){mi:Addr}{lb:sq}(jk:Df K mg "with_field" mi lb ["told","line","words"])(pk:jI P w K mg base (CXE P w) k mi lb ["told","line","words"] (spWF (Cl5.mk Va Vb Vc Vd Ve) K r)){kc:sq}(oz:DfI K kc ["self","shapes"])(pd:jI P w K mg base CX0 k cIw kc ["self","shapes"] (spIT K Vf "shapes")){bo:sq}(cr:DfI K bo ["self","line"])(cu:jI P w K mg base (CXE P w) k au bo ["self","line"] (iD ah ["line"])):jI P w K mg base (CXE P w) (k+2) f fd ["text"] (aHa (Cl5.mk Va Vb Vc Vd Ve) Vf ah ac aa K r):=by
 w_cond vE
 ·rcases h with⟨x,rfl,_⟩|⟨S,j,tail,rfl,_⟩ <;> rfl
 have h0:=h;refine⟨_,(jC (kS (yM (xM (jR (vT.or lG oC) rfl M.isinstance wc (jA (pv 0) (jA (iU (v:=.ty "str") rfl M.str boot_str rfl) jB))))) (jE (xG ar.c cu hr0 rfl ar.m cr.b .nil xY (jA jD jB))) jY) (jC (kI (i:=1) vE.nd rfl (by walk_at"o") (qK sr AE AF fN (pv 0) (jA jF jB))) (jC (kI (i:=2) vE.nd rfl (by walk_at"o") (kN jB)) (jC (xB ownE rfl (aAc rfl M.enumerate (jA (pv 1) jB)) (zL rfl (kL (jV (i:=3) vE.nd rfl (sy rfl)) (kL (jV (i:=4) vE.nd rfl (sy rfl)) vL))) (jC (kI (i:=5) vE.nd rfl (by walk_at"o") (qK sr AE AF fN (pv 4) (jA jF jB))) (jE (kS (xM (jJ oa hr rfl gw.m gw.k gw.b .nil jQ (jA (pv 5) jB))) (jC (kU (jJ nr hr rfl gp.m gp.k gp.b .nil (aCc fun _ _ _ z=>z) (jA (pv 2) (jA (pv 3) (jA (jU jZ (pv 5) jD (fun _ _=>rfl)) jB))))) (jE (kU (qK qw rb rc kY (pv 2) (jA (zG Ue.ma je hr0 rfl Ue.m jd.b .nil jQ (jA (jU jZ (pv 5) jD (fun _ _=>rfl)) (jA (kN jB) jB))) jB))))) (jC (kU (jJ ph hr rfl jj.m jj.k jj.b .nil (aCc fun _ _ _ z=>z) (jA (pv 2) (jA (pv 3) (jA (pv 5) jB))))) (jE (uS (jJ pk hr rfl jk.m jk.k jk.b .nil (aCc fun _ _ _ z=>z) (jA (pv 2) (jA (pv 3) (jA (pv 5) jB)))) (uP (pv 2) (bY zE jD) set_list)))))))) (jC (kS (yM (cD (vB (jU jZ (pv 2) (bY zE jD) (fun _ _=>rfl)) rfl) (fun _=>rfl))) (jE (xG ar.c cu hr0 rfl ar.m cr.b .nil xY (jA (jR jX rfl M.len si (jA (pv 1) jB)) jB))) jY) (jE (jP (zG Uf.ma pd hr0 rfl Uf.m oz.b .nil jQ (jA (pv 2) jB))))))))),?_⟩;rcases h0 with⟨x,rfl,⟨t,ht,hns⟩,qN⟩|⟨S,j,tail,rfl,hW,hne,hj,hr12,h8,h60,htail,hc⟩
 ·rcases ht with ht|⟨rfl,p,kvs,rfl,hp⟩
  ·exact⟨_,rfl,.inl ⟨x,_,t,rfl,by decide,ht,_,rfl,qP (by rw[isa3 hns];rfl) ⟨ud,(by show 1<=1000;decide),fun e he=>⟨e,[_],rfl,rfl,jL,fun dx H1 F=>⟨rfl,e,some dx,rfl,F.ae,(by obtain⟨g9,he9,x9⟩:=zU (jG.refl _) he F;exact qN e _ g9 he9 x9)⟩⟩⟩⟩⟩
  ·exact⟨_,rfl,.inr ⟨p,_,kvs,rfl,by decide,hp,_,rfl,qP (by decide) ⟨ud,(by show 1<=1000;decide),fun e he=>⟨e,[_],rfl,rfl,jL,fun dx H1 F=>⟨rfl,e,some dx,rfl,F.ae,(by obtain⟨g9,he9,x9⟩:=zU (jG.refl _) he F;exact qN e _ g9 he9 x9)⟩⟩⟩⟩⟩
 obtain⟨h30,hrow,_,_⟩:=lN hW hne;have hok:=iT hW;have hitn:=zK hne;have hz0:vH S j tail≠[]:=fun e=>by
  unfold vH at e;obtain⟨e1,e2⟩:=List.append_eq_nil_iff.mp e;rcases hc with⟨_,ej,_⟩|⟨k,n,y,hb,_⟩
  ·have:=congrArg List.length e1;rw[rh,ε]at this;simp only[List.length_nil]at this;omega
  ·rcases hb with⟨bw,rest,e3,_⟩|⟨_,_,nm,rest,e3,_⟩
   ·rw[e3]at e2;cases e2
   ·rw[e3]at e2;cases e2
 obtain⟨htl,hsp⟩:=aCr hW hne hz0 h60 htail;refine⟨_,rfl,.inl ⟨_,_,"str",rfl,by decide,rfl,_,rfl,kW (by decide) ⟨_,rfl,rfl,_,_,rfl,rfl,rfl,(by rw[qx];omega),fun p hp=>?_⟩⟩⟩;rw[show vw (π nlS (vH S j tail)) (δ "\n")=_ from hsp];generalize e1:upd H p _=H1;obtain⟨g1,k1⟩:=kM e1 hp;refine⟨mH,fun tl hq=>?_⟩;generalize e2:upd H1 tl _=H2;obtain⟨g2,k2⟩:=kM e2 hq;have hq0:H tl=none:=g1.free hq;have npt:p≠tl:=jK k1 hq;have k12:=g2 _ _ k1;have htk:(((kF S).map (qH S)).take j).length=j:=by rw[rh,ε];omega
 have zl:((vH S j tail).map V.str).length=j+tail.length:=by unfold vH;rw[ε,ζ,htk]
 have hlen:=hW.len;refine⟨_,rfl,p,_,rfl,SqL.of k12,sM (xs:=(vH S j tail).map V.str) (fun i σ H'=>∃(o3 o4 o5:Option V) (sa:List Addr) (T:List Shp),σ = [some (.str (π nlS (vH S j tail))),some (.ref p),some (.ref tl),o3,o4,o5]/\But tl H2 H'/\H' tl=some (.lst (sa.map V.ref))/\SW (Cl5.mk Va Vb Vc Vd Ve) K H' sa T/\((i<=j/\aA S i T)\/∃nm rest T1,i=j+1/\tail=π spS [δ "shape",nm]::rest/\T=T1++[(nm,[])]/\T1.length<=5/\(rest=[]\/∃nm2 rest2,rest=π spS [δ "shape",nm2]::rest2/\jM nm2=true)/\Rz ah H E [("line",.int ((j+1:Nat):Int))])) ⟨_,_,_,[],[],rfl,But.refl,k2,SW.nil,.inl ⟨sd _,aA.start S⟩⟩ (fun i σ H' _ z=>?_) (fun i x σ H' p2 hx z hp2=>?_) (fun σ H' z=>?_)⟩
 ·obtain⟨o3,o4,o5,sa,T,rfl,g,_⟩:=z;exact SqL.of (g _ _ npt k12)
 ·obtain⟨o3,o4,o5,sa,T,rfl,g,kl,hw,hst⟩:=z;have gH:jG H H':=But.from (g1.trans g2) hq0 g;obtain⟨row,hrw,rfl⟩:=aN hx;unfold vH at hrw;rcases hst with⟨hij,hst⟩|⟨nm,rest,T1,hi,ht1,rfl,hT5,hrest,qz⟩
  case inr =>
   subst hi;rw[Γ (by rw[htk];omega),htk,show j+1-j=1 by omega,ht1]at hrw;rcases hrest with rfl|⟨nm2,rest2,rfl,hn2⟩
   ·cases hrw
   cases hrw;have hbw:∀w∈[δ "shape",nm2],32∉w.cps.toList/\w.length<=100:=fun w hw=>by
    rcases ξ.mp hw with rfl|hw
    ·decide +kernel
    ·rw[τ.mp hw];exact⟨(xZ hn2).1,by have:=(qR hn2).2;omega⟩
   have hjl:(π spS [δ "shape",nm2]).length<=100:=(htail _ (by rw[ht1];simp)).2;generalize e3:upd H' p2 _=H3;obtain⟨g3,k3⟩:=kM e3 hp2;refine⟨p2,_,rfl,SqT.of k3,rfl,_,_,rfl,_,_,rfl,rfl,_,rfl,rfl,_,_,rfl,rfl,rfl,(by rw[qx];show(π L2.spS ([δ "shape",nm2])).length+2<=_;omega),fun wa hwa=>?_⟩;rw[show vw (π spS [δ "shape",nm2]) (δ " ")=[δ "shape",nm2] from xX (c:=32) (by simp) fun w hw=>(hbw w hw).1];clear 1 wa H4 g4 k4 hwa;have g34:=g3.trans g4;refine⟨_,rfl,wa,[δ "shape",nm2],rfl,⟨SqL.of k4,fun w hw=>by have:=(hbw w hw).2;omega,by show 2<=_;decide⟩,fun H5 g5=>⟨_,rfl,?_⟩⟩;have g35:=g34.trans g5;have kl5:=g35 _ _ kl;have hw5:=hw.same g35;have kw5:=g5 _ _ k4;have gH5:=gH.trans g35;have hws:SqL K H5 wa [V.str (δ "shape"),V.str nm2]:=SqL.of kw5;exact qP (by show(decide (δ "shape" = δ "shape")&&jM nm2)=true;rw[hn2];decide) ⟨_,rfl,_,rfl,_,rfl,wa,_,_,_,rfl,rfl,hws,rfl,tl,_,nm2,sa,_,rfl,kl5,hw5,(by rw[ζ,uk];omega),.inl ⟨T1,(nm,[]),rfl,rfl,qz.from gH5⟩⟩
  obtain⟨hTn,hT5,hTf⟩:=aCx hst hW
  by_cases hin:¬ i<j
  ·have hi:i=j:=by omega
   subst hi;rw[Γ (by rw[htk];exact μ _),htk,vc]at hrw;rcases hc with⟨rfl,_⟩|⟨k,n,y,hb,qz⟩
   ·cases hrw
   rcases hb with⟨bw,rest,rfl,⟨hb0,hb100,hbw⟩,rfl,hbad⟩|⟨rfl,rfl,nm,rest,rfl,hnm,hT,hrest⟩
   ·cases hrw;have hjl:(π spS bw).length<=100:=(htail _ (qy ..)).2;generalize e3:upd H' p2 _=H3;obtain⟨g3,k3⟩:=kM e3 hp2;refine⟨p2,_,rfl,SqT.of k3,rfl,_,_,rfl,_,_,rfl,rfl,_,rfl,rfl,_,_,rfl,rfl,rfl,(by rw[qx];show(π L2.spS (bw)).length+2<=_;omega),fun wa hwa=>?_⟩;rw[show vw (π spS bw) (δ " ")=bw from xX (c:=32) hb0 fun w hw=>(hbw w hw).1];clear 1 wa H4 g4 k4 hwa;have g34:=g3.trans g4;refine⟨_,rfl,wa,bw,rfl,⟨SqL.of k4,fun w hw=>by have:=(hbw w hw).2;omega,by omega⟩,fun H5 g5=>⟨_,rfl,?_⟩⟩;have g35:=g34.trans g5;have kl5:=g35 _ _ kl;have hw5:=hw.same g35;have kw5:=g5 _ _ k4;have gH5:=gH.trans g35;rcases hbad T hst with⟨nm,rfl,hnm,hbd⟩|⟨hsh,hk3,hfb⟩
    ·have hws:SqL K H5 wa [V.str (δ "shape"),V.str nm]:=SqL.of kw5;refine qP (by show(decide (δ "shape" = δ "shape")&&jM nm)=true;rw[hnm];decide) ⟨_,rfl,_,rfl,_,rfl,wa,_,_,_,rfl,rfl,hws,rfl,tl,_,nm,sa,T,rfl,kl5,hw5,by omega,?_⟩;rcases hbd with⟨rfl,T0,s,e,hs⟩|⟨rfl,rfl,hall,hin⟩
     ·exact .inl ⟨T0,s,e,hs,(qz.1 rfl).from gH5⟩
     ·exact .inr ⟨hall,.inl ⟨hin,(qz.2.1 rfl).from gH5⟩⟩
    ·exact kW (by rw[hsh];decide) ⟨_,rfl,_,rfl,_,rfl,tl,wa,_,sa,T,bw,k,y,rfl,kl5,hw5,⟨SqL.of kw5,fun w hw=>by have:=(hbw w hw).2;omega,by omega⟩,fun s hs=>by have:=hTf s hs;omega,hTn,by omega,hfb,fun e=>(qz.1 e).from gH5,fun e=>(qz.2.1 e).from gH5,fun e=>(qz.2.2 e).from gH5,fun e=>by omega⟩
   ·cases hrw;obtain⟨hall,hno⟩:=hT T hst;have hbw:∀w∈[δ "shape",nm],32∉w.cps.toList/\w.length<=100:=fun w hw=>by
     rcases ξ.mp hw with rfl|hw
     ·decide +kernel
     ·rw[τ.mp hw];exact⟨(xZ hnm).1,by have:=(qR hnm).2;omega⟩
    have hjl:(π spS [δ "shape",nm]).length<=100:=(htail _ (qy ..)).2;generalize e3:upd H' p2 _=H3;obtain⟨g3,k3⟩:=kM e3 hp2;refine⟨p2,_,rfl,SqT.of k3,rfl,_,_,rfl,_,_,rfl,rfl,_,rfl,rfl,_,_,rfl,rfl,rfl,(by rw[qx];show(π L2.spS ([δ "shape",nm])).length+2<=_;omega),fun wa hwa=>?_⟩;rw[show vw (π spS [δ "shape",nm]) (δ " ")=[δ "shape",nm] from xX (c:=32) (by simp) fun w hw=>(hbw w hw).1];clear 1 wa H4 g4 k4 hwa;have g34:=g3.trans g4;refine⟨_,rfl,wa,[δ "shape",nm],rfl,⟨SqL.of k4,fun w hw=>by have:=(hbw w hw).2;omega,by show 2<=_;decide⟩,fun H5 g5=>⟨_,rfl,?_⟩⟩;have g35:=g34.trans g5;have kl5:=g35 _ _ kl;have hw5:=hw.same g35;have kw5:=g5 _ _ k4;have gH5:=gH.trans g35;have hws:SqL K H5 wa [V.str (δ "shape"),V.str nm]:=SqL.of kw5;refine qP (by show(decide (δ "shape" = δ "shape")&&jM nm)=true;rw[hnm];decide) ⟨_,rfl,_,rfl,_,rfl,wa,_,_,_,rfl,rfl,hws,rfl,tl,_,nm,sa,T,rfl,kl5,hw5,by omega,.inr ⟨hall,.inr ⟨hno,fun H6 g6=>?_⟩⟩⟩;have kl6:=g6 _ _ kl5;refine⟨_,rfl,.inl ⟨rfl,_,SqL.of kl6⟩,_,rfl,wa,_,_,_,rfl,rfl,g6.seq hws,rfl,mH,fun el hel=>?_⟩;clear 1 el H7 g7 k7 hel;refine fun y dy hy hdy _=>⟨y,dy,el,nm,[],[],sa,H7,rfl,jL,fF hy hdy,hy,.inl (SqL.of k7),.nil,by decide,fun t ps' H8 g8 k8 st fo=>⟨rfl,?_⟩⟩;have g58:=(g6.trans g7).trans g8;have kl8:=g58 _ _ kl5;have hsl:=hw.1;refine⟨tl,_,_,rfl,rfl,kl8,(by rw[ε];exact wd (show sa.length<=8 by omega) (by decide)),?_⟩;clear 0 tl H9 g9 k9;exact⟨_,_,_,sa++[y],_,rfl,(g.trans (But.of (g35.trans g58))).trans g9,by rw[ν];exact k9,((hw5.same g58).snoc (s:=(nm,[])) ⟨dy,t,ps',k8,st,fo⟩).but g9 kl8,.inr ⟨nm,rest,T,rfl,rfl,rfl,hT5,hrest,qz.1 rfl⟩⟩
  have hin:=Decidable.not_not.mp hin;have hin':i<(kF S).length:=by omega
  rw[rf (by rw[htk];exact hin),vd hin,sv]at hrw;have eit:(kF S)[i]?=some (kF S)[i]:=θ hin';generalize (kF S)[i]=it at eit;rw[eit]at hrw;cases hrw;have hit:=ψ eit;obtain⟨r100,rsp⟩:=hrow it hit;obtain⟨ok1,ok2,ok3⟩:=hok it hit;obtain⟨S1,s,S2,eS,hnx⟩:=hst.next hin';generalize e3:upd H' p2 _=H3;obtain⟨g3,k3⟩:=kM e3 hp2;refine⟨p2,_,rfl,SqT.of k3,rfl,_,_,rfl,_,_,rfl,rfl,_,rfl,rfl,_,_,rfl,rfl,rfl,(by rw[qx];show(π L2.spS (it.line (kR S))).length+2<=_;omega),fun wa hwa=>?_⟩;rw[show vw (qH S it) (δ " ")=it.line (kR S) from rsp];clear 1 wa H4 g4 k4 hwa;have g34:=g3.trans g4;refine⟨_,rfl,wa,it.line (kR S),rfl,⟨SqL.of k4,fun w hw=>by have:=(ok1 w hw).2;omega,by omega⟩,fun H5 g5=>⟨_,rfl,?_⟩⟩;have g35:=g34.trans g5;have kl5:=g35 _ _ kl;have hw5:=hw.same g35;have kw5:=g5 _ _ k4;have gH5:=gH.trans g35;have hsS:s∈S:=by rw[eS];exact rq _ (qy ..)
  have hS1:∀t∈S1,t∈S:=fun t ht=>by rw[eS];exact sm _ ht
  have hnd1:(S1.map (·.1)).Nodup/\s.1∉S1.map (·.1):=by
   have:=hW.nd;rw[eS,ν,wm]at this;exact⟨this.1,fun z=>this.2.2 _ z _ (qy ..) rfl⟩
  have hl1:S1.length<5:=by rw[eS,ζ,υ]at hlen;omega
  rcases hnx with⟨ei,rfl,hst2⟩|⟨f1,n,kd,f2,ef,ei,rfl,hst2⟩
  ·rw[eit]at ei;cases ei;have hnm:=hW.nm s hsS;have hws:SqL K H5 wa [V.str (δ "shape"),V.str s.1]:=SqL.of kw5;refine qP (by show(decide (δ "shape" = δ "shape")&&jM s.1)=true;rw[hnm];decide) ⟨_,rfl,_,rfl,_,rfl,wa,_,_,_,rfl,rfl,hws,rfl,tl,_,s.1,sa,T,rfl,kl5,hw5,(by omega),.inr ⟨fun t ht=>?_,.inr ⟨hnd1.2,fun H6 g6=>?_⟩⟩⟩
   ·obtain⟨j',hj'⟩:=tq.mp ht;exact hW.good.ne j' t (by rw[eS,rf (η.mp hj').1];exact hj')
   have kl6:=g6 _ _ kl5;refine⟨_,rfl,.inl ⟨rfl,_,SqL.of kl6⟩,_,rfl,wa,_,_,_,rfl,rfl,g6.seq hws,rfl,mH,fun el hel=>?_⟩;clear 1 el H7 g7 k7 hel;refine fun y dy hy hdy _=>⟨y,dy,el,s.1,[],[],sa,H7,rfl,jL,fF hy hdy,hy,.inl (SqL.of k7),.nil,by decide,fun t ps' H8 g8 k8 st fo=>⟨rfl,?_⟩⟩;have g58:=(g6.trans g7).trans g8;have kl8:=g58 _ _ kl5;have hsl:=hw.1;refine⟨tl,_,_,rfl,rfl,kl8,(by rw[ε];exact wd (show sa.length<=8 by omega) (by decide)),?_⟩;clear 0 tl H9 g9 k9;exact⟨_,_,_,sa++[y],_,rfl,(g.trans (But.of (g35.trans g58))).trans g9,by rw[ν];exact k9,((hw5.same g58).snoc (s:=(s.1,[])) ⟨dy,t,ps',k8,st,fo⟩).but g9 kl8,.inl ⟨by omega,hst2⟩⟩
  ·rw[eit]at ei;cases ei;obtain⟨sa0,z,rfl⟩:=oP hw.1;have hfm:(n,kd)∈s.2:=by rw[ef];exact rq _ (qy ..)
   have hnm:=hW.fnm s hsS _ hfm;have hi1:S[S1.length]?=some s:=by rw[eS,Γ (μ _),vc];rfl
   have hfit:=(hW.good.fit _ _ hi1 _ hfm).1;have hns:NOk (kR S1) S1.length:=wJ fun t ht=>hW.nm t (hS1 t ht);have ew:kd.words (kR S)=kd.words (kR S1):=hG (fun j hj=>by rw[eS];exact aEt hj) hfit.below;have hws:SqL K H5 wa ((n::kd.words (kR S1)).map V.str):=by rw[←ew];exact SqL.of kw5
   have hwd:Wds K H5 wa (n::kd.words (kR S1)):=by
    rw[←ew];exact⟨SqL.of kw5,fun w hw=>by have:=(ok1 w hw).2;omega,by have:(n::kd.words (kR S)).length<=6:=ok2;omega⟩
   obtain⟨pg,pb,p5⟩:=hW.pre (f1:=f1++[(n,kd)]) (f2:=f2) eS (by rw[ef,ug];rfl) (by simp);rw[ζ,uk]at p5;have hfn:n∉f1.map (·.1):=fun z=>by
    have:=hW.fnd s hsS;rw[ef,ν,wm]at this;exact this.2.2 _ z _ (qy ..) rfl
   refine kW (by rw[show fE ((Itm.fd n kd).line (kR S))=false from wP hnm];decide) ⟨_,rfl,_,rfl,_,rfl,tl,wa,_,sa0++[z],S1++[(s.1,f1)],_,3,Str.empty,rfl,kl5,hw5,hwd,fun t ht=>by have:=hTf t ht;omega,hTn,by omega,uE hns hnd1.1 hnm hfit hfn,(fun e=>by cases e),(fun e=>by cases e),(fun e=>by cases e),fun _ H6 g6=>?_⟩;refine⟨_,rfl,_,rfl,_,rfl,tl,wa,z,_,sa0,S1,(s.1,f1),n,kd,rfl,g6 _ _ kl5,hw5.same g6,g6.seq hws,hfit,hns,hnd1.1,by omega,by omega,h8,(by show f1.length<=50;omega),pg,pb,fun y H7 g7 so=>?_⟩;have g57:=g6.trans g7;have kl7:=g57 _ _ kl5;refine⟨_,rfl,_,rfl,tl,_,_,_,rfl,rfl,kl7,aDo _ _,?_⟩;rw[aDm];clear 0 tl H9 g9 k9;exact⟨_,_,_,sa0++[y],_,rfl,(g.trans (But.of (g35.trans g57))).trans g9,k9,((hw5.init.1.same g57).snoc so).but g9 kl7,.inl ⟨by omega,hst2⟩⟩
 ·obtain⟨o3,o4,o5,sa,T,rfl,g,kl,hw,hst⟩:=z;rw[zl]at hst;have gH:jG H H':=But.from (g1.trans g2) hq0 g;have kp:=g _ _ npt k12;rcases hst with⟨hij,hst⟩|⟨nm,rest,T1,hi,ht1,rfl,hT5,hrest,qz⟩
  case inr =>
   have hr0:rest=[]:=uh.mp (by rw[ht1,υ]at hi;omega);subst hr0;obtain⟨sa0,z,rfl⟩:=oP hw.1;obtain⟨hw0,dx,t,ps,m1,m2,m3⟩:=hw.init;have hps:ps=[]:=uh.mp m3.len;subst hps;have hz1:((vH S j tail).map V.str).length=j+1:=by rw[zl,hi]
   refine⟨_,rfl,_,rfl,tl,_,_,_,rfl,rfl,SqL.of kl,vP _ _,z,Ve,_,_,_,rfl,m1,Ue.cl,Ue.na _ (by decide),rfl,false,.inr (.inl ⟨_,m2,rfl⟩),qP (by decide) ⟨ud,_,rfl,p,_,rfl,.inl (SqL.of kp),(by show 1<=1000;decide),fun e he=>⟨e,[_],rfl,rfl,jL,fun dx H1 F=>⟨rfl,e,some dx,rfl,F.ae,?_⟩⟩⟩⟩;obtain⟨g9,he9,x9⟩:=zU gH he F;rw[hz1]at x9;exact qz e _ g9 he9 x9
  have ht0:tail=[]:=uh.mp (by omega);subst ht0;rcases hc with⟨_,ej,q⟩|⟨k,n,y,hb,_⟩
  case inr =>
   rcases hb with⟨bw,rest,e,_⟩|⟨_,_,nm,rest,e,_⟩
   ·cases e
   ·cases e
  rw[ej]at hst;have eT:=hst.done;subst eT;rcases AI T with rfl|⟨T0,s,rfl⟩
  ·exact absurd rfl hne
  ·rw[AJ]at *;obtain⟨sa0,z,rfl⟩:=oP hw.1;obtain⟨hw0,dx,t,ps,m1,m2,m3⟩:=hw.init;have hs:=hW.good.ne T0.length s (by rw[Γ (μ _),vc];rfl);have hps:ps≠[]:=fun e=>hs (uh.mp (by rw[←m3.len,e];rfl));refine⟨_,rfl,_,rfl,tl,_,_,_,rfl,rfl,SqL.of kl,vP _ _,z,Ve,_,_,_,rfl,m1,Ue.cl,Ue.na _ (by decide),rfl,true,.inr (.inl ⟨_,m2,by cases ps with|nil=>exact absurd rfl hps|cons _ _=>rfl⟩),kW (by decide) ⟨_,rfl,?_⟩⟩;exact fun y dy hy hdy _=>⟨y,dy,tl,_,H',rfl,jL,fF hy hdy,hy,SqL.of kl,fun t H3 g3 k3 k4=>⟨rfl,q y dy t _ H3 (gH.trans g3) k3 k4 (hw.same g3)⟩⟩
theorem rO{r:Nat}(hR : 12<=r/\8*r<=200)(F:Fun K "_law_told" "_law_told" eF f fd)(iy:Df K mg "read_shapes" lc ke ["text"])(pe:jI P w K mg base (CXE P w) k lc ke ["text"] (aHa (Cl5.mk Va Vb Vc Vd Ve) Vf ah ac aa K r))(XN:XN4 K ah ac aa ap):jI P w K mg base CX0 (k+2) f fd ["_law_thing"] (aEn K):=by
 w_cond vI;obtain⟨x,rfl,hc⟩:=h;refine⟨_,(jC (kI (i:=1) vI.nd rfl (by walk_at"o") bH) (jC (aJf (i:=2) rfl rfl rfl rfl tRE.m tRE.x vI.nd rfl rfl (fun _ _ _=>(jE (kU (aCe pe hr rfl iy.m iy.k iy.b .nil passT (jA (pv 0) jB))))) (fun _=>(jC (kI (i:=1) vI.nd rfl (by walk_at"o") (jT (jA jF jB))) (jC (kI (i:=3) vI.nd rfl (by walk_at"o") (kN (jA (jR (zA (K:=K) rfl) rfl M.isinstance wc (jA (pv 2) (jA (qC (v:=.ref ah) rfl ar.m rfl) jB))) (jA (jR (zA (K:=K) rfl) rfl M.isinstance wc (jA (pv 2) (jA (qC (v:=.ref ac) rfl am.m rfl) jB))) (jA (jR (zA (K:=K) rfl) rfl M.isinstance wc (jA (pv 2) (jA (qC (v:=.ref aa) rfl ak.m rfl) jB))) jB))))) (jE (kS (PW.pt (wM (kJ qV (aIq (K:=K) rfl qw PySem.F.slot_list_count PySem.F.type_list_count (aBp (K:=K) rfl) (pv 3) (jA fG jB)) jD (kH _)) (pR (yM (xM (jR (zA (K:=K) rfl) rfl M.isinstance wc (jA (pv 2) (jA (qC (v:=.ref ap) rfl ck.m rfl) jB)))))))) (jC (kS (xM (jR (zA (K:=K) rfl) rfl M.isinstance wc (jA (pv 2) (jA (qC (v:=.ref ah) rfl ar.m rfl) jB)))) (jE (kI (i:=1) vI.nd rfl (by walk_at"o") (jT (jA jF (jA (cC (K:=K) rfl (pv 2) rfl) jB))))) jY) (jC (kS (xM (jR (zA (K:=K) rfl) rfl M.isinstance wc (jA (pv 2) (jA (qC (v:=.ref ac) rfl am.m rfl) jB)))) (jE (kI (i:=1) vI.nd rfl (by walk_at"o") (jT (jA jF (jA (cC (K:=K) rfl (pv 2) rfl) (jA (cC (K:=K) rfl (pv 2) rfl) jB)))))) jY) (jE (kS (xM (jR (zA (K:=K) rfl) rfl M.isinstance wc (jA (pv 2) (jA (qC (v:=.ref aa) rfl ak.m rfl) jB)))) (jE (kI (i:=1) vI.nd rfl (by walk_at"o") (jT (jA jF (jA (cC (K:=K) rfl (pv 2) rfl) (jA (cC (K:=K) rfl (pv 2) rfl) jB)))))) jY)))) jY)))))) (jE (jP (pv 1))))),?_⟩;refine⟨fun σ=>σ = [some x,some .non,none,none],fun v _ H'=>∃e CN fs k n y,v=.ref e/\jG H H'/\XAt CN H' e fs/\KnG ah ac aa k n y CN fs/\∀t H'',jG H H''->SqT K H'' t (eE k n y)->Q (.ref t) H'',?_,fun σ' e H' hS hW'=>?_⟩
 ·refine⟨_,rfl,rfl,?_⟩;rcases hc with⟨S,rfl,hW,hne,q⟩|⟨t,ht,hns,q⟩|⟨tx,k,n,y,S,j,tail,rfl,hf,q⟩
  ·refine .inr ⟨S,(kF S).length,[],(by rw[aBg];rfl),hW,hne,μ _,hR.1,hR.2,sd _,(fun x h=>by cases h),.inl ⟨rfl,rfl,fun a' dx t sa H' g _ _ _=>⟨_,rfl,q H' g⟩⟩⟩
  ·exact .inl ⟨x,rfl,⟨t,ht,hns⟩,fun e' H' g he hx=>⟨e',_,_,0,0,Str.empty,rfl,g,hx,.inl ⟨rfl,rfl,rfl⟩,q⟩⟩
  ·refine .inr ⟨S,j,tail,congrArg (fun z=>[V.str z]) hf.e,hf.w,hf.ne,hf.jl,hR.1,hR.2,hf.l,hf.t,.inr ⟨k,n,y,hf.b,fun ek e' H' g he hx=>⟨e',_,_,k,n,y,rfl,g,hx,.inl ⟨ek,rfl,rfl⟩,q⟩,fun ek e' H' g he hx=>⟨e',_,_,k,n,y,rfl,g,hx,.inr (.inl ⟨ek,rfl,rfl⟩),q⟩,fun ek e' H' g he hx=>⟨e',_,_,k,n,y,rfl,g,hx,.inr (.inr ⟨ek,rfl,rfl⟩),q⟩⟩⟩
 ·subst hS;obtain⟨e2,CN,fs,k,n,y,ee,g,hx,hk,q⟩:=hW';cases ee;obtain⟨dx',hE,hX⟩:=hx;rcases hk with⟨rfl,rfl,rfl⟩|⟨rfl,rfl,rfl⟩|⟨rfl,rfl,rfl⟩
  ·refine⟨ah,some dx',_,hE,ar.x,(by simp),?_⟩;refine⟨bI,fun p0 hp0=>?_⟩;clear 1 p0 H0 g0 k0 hp0;have hE0:=g0 _ _ hE;have hX0:=g0 _ _ hX;refine⟨_,rfl,e,ah,ah,_,true,rfl,⟨dx',cRE,au,.inl hE0,hX0,ar.c⟩,.inl ⟨rfl,rfl⟩,_,rfl,e,ah,ac,_,false,rfl,⟨dx',cRE,au,.inl hE0,hX0,ar.c⟩,.inr ⟨XN.ft,rfl⟩,_,rfl,e,ah,aa,_,false,rfl,⟨dx',cRE,au,.inl hE0,hX0,ar.c⟩,.inr ⟨XN.fu,rfl⟩,cI,fun kl hkl=>?_⟩;clear 1 kl H8 g8 k8 hkl;have hE8:=g8 _ _ hE0;have hX8:=g8 _ _ hX0;refine⟨_,rfl,.inl ⟨rfl,_,SqL.of k8⟩,kl,[true,false,false],true,rfl,rfl,SqL.of k8,rfl,_,rfl,qP rfl ⟨_,rfl,e,ah,ap,_,false,rfl,⟨dx',cRE,au,.inl hE8,hX8,ar.c⟩,.inr ⟨XN.fm,rfl⟩,_,rfl,qP rfl ?_⟩⟩;refine⟨_,rfl,e,ah,ah,_,true,rfl,⟨dx',cRE,au,.inl hE8,hX8,ar.c⟩,.inl ⟨rfl,rfl⟩,_,rfl,qP rfl ⟨_,rfl,e,ah,cRE,au,dx',_,_,rfl,.inl hE8,hX8,ar.c,ar.n _ (by simp),rfl,qA,fun p1 hp1=>?_⟩⟩;clear 1 p1 H1 g1 k1 hp1;have hE1:=g1 _ _ hE8;have hX1:=g1 _ _ hX8;refine⟨_,rfl,e,ah,ac,_,false,rfl,⟨dx',cRE,au,.inl hE1,hX1,ar.c⟩,.inr ⟨XN.ft,rfl⟩,_,rfl,kW (by decide) ?_⟩;refine⟨_,rfl,e,ah,aa,_,false,rfl,⟨dx',cRE,au,.inl hE1,hX1,ar.c⟩,.inr ⟨XN.fu,rfl⟩,_,rfl,kW (by decide) ?_⟩;exact⟨_,rfl,q p1 H1 (((g.trans g0).trans g8).trans g1) (SqT.of k1)⟩
  ·refine⟨ac,some dx',_,hE,am.x,(by simp),?_⟩;refine⟨bI,fun p0 hp0=>?_⟩;clear 1 p0 H0 g0 k0 hp0;have hE0:=g0 _ _ hE;have hX0:=g0 _ _ hX;refine⟨_,rfl,e,ac,ah,_,false,rfl,⟨dx',cRE,aq,.inl hE0,hX0,am.c⟩,.inr ⟨XN.tf,rfl⟩,_,rfl,e,ac,ac,_,true,rfl,⟨dx',cRE,aq,.inl hE0,hX0,am.c⟩,.inl ⟨rfl,rfl⟩,_,rfl,e,ac,aa,_,false,rfl,⟨dx',cRE,aq,.inl hE0,hX0,am.c⟩,.inr ⟨XN.tu,rfl⟩,cI,fun kl hkl=>?_⟩;clear 1 kl H8 g8 k8 hkl;have hE8:=g8 _ _ hE0;have hX8:=g8 _ _ hX0;refine⟨_,rfl,.inl ⟨rfl,_,SqL.of k8⟩,kl,[false,true,false],true,rfl,rfl,SqL.of k8,rfl,_,rfl,qP rfl ⟨_,rfl,e,ac,ap,_,false,rfl,⟨dx',cRE,aq,.inl hE8,hX8,am.c⟩,.inr ⟨XN.tm,rfl⟩,_,rfl,qP rfl ?_⟩⟩;refine⟨_,rfl,e,ac,ah,_,false,rfl,⟨dx',cRE,aq,.inl hE8,hX8,am.c⟩,.inr ⟨XN.tf,rfl⟩,_,rfl,kW (by decide) ?_⟩;refine⟨_,rfl,e,ac,ac,_,true,rfl,⟨dx',cRE,aq,.inl hE8,hX8,am.c⟩,.inl ⟨rfl,rfl⟩,_,rfl,qP rfl ⟨_,rfl,e,ac,cRE,aq,dx',_,_,rfl,.inl hE8,hX8,am.c,am.n _ (by simp),rfl,_,rfl,e,ac,cRE,aq,dx',_,_,rfl,.inl hE8,hX8,am.c,am.n _ (by simp),rfl,cI,fun p1 hp1=>?_⟩⟩;clear 1 p1 H1 g1 k1 hp1;have hE1:=g1 _ _ hE8;have hX1:=g1 _ _ hX8;refine⟨_,rfl,e,ac,aa,_,false,rfl,⟨dx',cRE,aq,.inl hE1,hX1,am.c⟩,.inr ⟨XN.tu,rfl⟩,_,rfl,kW (by decide) ?_⟩;exact⟨_,rfl,q p1 H1 (((g.trans g0).trans g8).trans g1) (SqT.of k1)⟩
  ·refine⟨aa,some dx',_,hE,ak.x,(by simp),?_⟩;refine⟨bI,fun p0 hp0=>?_⟩;clear 1 p0 H0 g0 k0 hp0;have hE0:=g0 _ _ hE;have hX0:=g0 _ _ hX;refine⟨_,rfl,e,aa,ah,_,false,rfl,⟨dx',cRE,ao,.inl hE0,hX0,ak.c⟩,.inr ⟨XN.uf,rfl⟩,_,rfl,e,aa,ac,_,false,rfl,⟨dx',cRE,ao,.inl hE0,hX0,ak.c⟩,.inr ⟨XN.ut,rfl⟩,_,rfl,e,aa,aa,_,true,rfl,⟨dx',cRE,ao,.inl hE0,hX0,ak.c⟩,.inl ⟨rfl,rfl⟩,cI,fun kl hkl=>?_⟩;clear 1 kl H8 g8 k8 hkl;have hE8:=g8 _ _ hE0;have hX8:=g8 _ _ hX0;refine⟨_,rfl,.inl ⟨rfl,_,SqL.of k8⟩,kl,[false,false,true],true,rfl,rfl,SqL.of k8,rfl,_,rfl,qP rfl ⟨_,rfl,e,aa,ap,_,false,rfl,⟨dx',cRE,ao,.inl hE8,hX8,ak.c⟩,.inr ⟨XN.um,rfl⟩,_,rfl,qP rfl ?_⟩⟩;refine⟨_,rfl,e,aa,ah,_,false,rfl,⟨dx',cRE,ao,.inl hE8,hX8,ak.c⟩,.inr ⟨XN.uf,rfl⟩,_,rfl,kW (by decide) ?_⟩;refine⟨_,rfl,e,aa,ac,_,false,rfl,⟨dx',cRE,ao,.inl hE8,hX8,ak.c⟩,.inr ⟨XN.ut,rfl⟩,_,rfl,kW (by decide) ?_⟩;refine⟨_,rfl,e,aa,aa,_,true,rfl,⟨dx',cRE,ao,.inl hE8,hX8,ak.c⟩,.inl ⟨rfl,rfl⟩,_,rfl,qP rfl ⟨_,rfl,e,aa,cRE,ao,dx',_,_,rfl,.inl hE8,hX8,ak.c,ak.n _ (by simp),rfl,_,rfl,e,aa,cRE,ao,dx',_,_,rfl,.inl hE8,hX8,ak.c,ak.n _ (by simp),rfl,cI,fun p1 hp1=>?_⟩⟩;clear 1 p1 H1 g1 k1 hp1;have hE1:=g1 _ _ hE8;have hX1:=g1 _ _ hX8;exact⟨_,rfl,q p1 H1 (((g.trans g0).trans g8).trans g1) (SqT.of k1)⟩
theorem aAv{k:Nat}(F:Fun K "_law_is" "_law_is" lD f fd):jI P w K mg base CX0 (k+2) f fd ["_law_told_here","_law_due"] (aHe K):=by
 w_cond aAw;obtain⟨t,d,k,n,y,rfl,ht,hd,q⟩:=h;refine⟨_,(jE (jP (yJ (qW (aHv hr.units) (pv 0) (pv 1) (kH _)) (zO (aJc (jR lG rfl M.isinstance wc (jA (jU kO (pv 0) jD (fun _ _=>rfl)) (jA (iU (v:=.ty "bool") rfl M.bool boot_bool rfl) jB)))))))),?_⟩;obtain⟨f1,f2⟩:=aDy (k:=k) (n:=n) (y:=y);exact⟨_,rfl,_,rfl,t,d,_,_,rfl,rfl,ht,hd,rfl,aIj f1,_,rfl,qP rfl ⟨_,rfl,t,_,_,_,rfl,rfl,ht,f2,.int _,_,"int",rfl,by decide,rfl,_,rfl,q⟩⟩
theorem iN(F:Fun K "_law_bad_line" "_law_bad_line" vU f fd)(af:Df K mg "_law_take" be az ["_law_box_here","_law_many"])(aw:jI P w K mg base CX0 k be az ["_law_box_here","_law_many"] dR):jI P w K mg base CX0 (k+2) f fd ["_law_box_here"] aGm:=by
 w_cond qS;obtain⟨p,rfl,hst,q⟩:=h;obtain⟨e0,p0,q0,r0,e1,p1,q1,r1,n1,b1,e2,p2,q2,r2,n2,b2,e3,p3,q3,r3,n3,b3,e4,p4,q4,r4,n4,b4,e5,p5,q5,r5,n5,b5,rest,hb,hrest,s0,s1,s2,s3,s4,s5⟩:=aDh;rw[hb];refine⟨_,(jC (kI (i:=1) qS.nd rfl (by walk_at"o") (kN (aW s0))) (jC (kI (i:=1) qS.nd rfl (by walk_at"o") (jN vM (pv 1) (kN (aW s1)))) (jC (kI (i:=1) qS.nd rfl (by walk_at"o") (jN vM (pv 1) (kN (aW s2)))) (jC (kI (i:=1) qS.nd rfl (by walk_at"o") (jN vM (pv 1) (kN (aW s3)))) (jC (kI (i:=1) qS.nd rfl (by walk_at"o") (jN vM (pv 1) (kN (aW s4)))) (jC (kI (i:=1) qS.nd rfl (by walk_at"o") (jN vM (pv 1) (kN (aW s5)))) (by rw[hrest];exact jE (jP (jU jZ (pv 1) (jJ aw hr rfl af.m af.k af.b .nil jQ (jA (pv 0) (jA (jR jX rfl M.len si (jA (pv 1) jB)) jB))) (fun _ _=>rfl)))))))))),?_⟩;refine⟨(by show 11<=ρ;decide),fun a0 ha0=>?_⟩;generalize e0:upd H a0 _=H0;obtain⟨g0,k0⟩:=kM e0 ha0;refine⟨_,rfl,(by show 6<=ρ;decide),fun b1 hb1=>?_⟩;clear 1 b1 B1 gb1 kb1 hb1;refine⟨a0,b1,_,_,rfl,rfl,SqL.of (gb1 _ _ k0),SqL.of kb1,(by show 11+6<=ρ;decide),fun a1 ha1=>?_⟩;generalize e1:upd B1 a1 _=H1;obtain⟨g1',k1⟩:=kM e1 ha1;have g1:=(g0.trans gb1).trans g1';refine⟨_,rfl,(by show 7<=ρ;decide),fun b2 hb2=>?_⟩;clear 1 b2 B2 gb2 kb2 hb2;refine⟨a1,b2,_,_,rfl,rfl,SqL.of (gb2 _ _ k1),SqL.of kb2,(by show 17+7<=ρ;decide),fun a2 ha2=>?_⟩;generalize e2:upd B2 a2 _=H2;obtain⟨g2',k2⟩:=kM e2 ha2;have g2:=(g1.trans gb2).trans g2';refine⟨_,rfl,(by show 8<=ρ;decide),fun b3 hb3=>?_⟩;clear 1 b3 B3 gb3 kb3 hb3;refine⟨a2,b3,_,_,rfl,rfl,SqL.of (gb3 _ _ k2),SqL.of kb3,(by show 24+8<=ρ;decide),fun a3 ha3=>?_⟩;generalize e3:upd B3 a3 _=H3;obtain⟨g3',k3⟩:=kM e3 ha3;have g3:=(g2.trans gb3).trans g3';refine⟨_,rfl,(by show 6<=ρ;decide),fun b4 hb4=>?_⟩;clear 1 b4 B4 gb4 kb4 hb4;refine⟨a3,b4,_,_,rfl,rfl,SqL.of (gb4 _ _ k3),SqL.of kb4,(by show 32+6<=ρ;decide),fun a4 ha4=>?_⟩;generalize e4:upd B4 a4 _=H4;obtain⟨g4',k4⟩:=kM e4 ha4;have g4:=(g3.trans gb4).trans g4';refine⟨_,rfl,(by show 7<=ρ;decide),fun b5 hb5=>?_⟩;clear 1 b5 B5 gb5 kb5 hb5;refine⟨a4,b5,_,_,rfl,rfl,SqL.of (gb5 _ _ k4),SqL.of kb5,(by show 38+7<=ρ;decide),fun a5 ha5=>?_⟩;generalize e5:upd B5 a5 _=H5;obtain⟨g5',k5⟩:=kM e5 ha5;have g5:=(g4.trans gb5).trans g5';have kk:H5 a5=some (.lst (bdT.map V.str)):=k5;refine⟨_,rfl,_,rfl,_,rfl,a5,_,rfl,.inl (SqL.of kk),p,45,rfl,by decide,by decide,jG.st3 g5 hst,fun v H6 hv d6=>?_⟩;have hn:a5≠p:=fun z=>by obtain⟨o,e⟩:=iA (jG.st3 ((g4.trans gb5)) hst);rw[←z,ha5]at e;cases e
 exact⟨a5,_,_,_,rfl,rfl,SqL.of (d6.2 a5 _ hn kk),cP (bd_at ⟨v,by omega⟩),q v H6 (by omega) (((Drawn.refl hst).keep g5).trans d6)⟩
theorem nQ{k:Nat}(F:Fun K "_law_put_in" "_law_put_in" bK f fd):jI P w K mg base CX0 (k+2) f fd ["_law_lines","_law_at","_law_more"] (aCj K):=by
 w_cond mW;obtain⟨a,b,n,xs,ys,rfl,ha,hb,hn,hx,hy,hs,q⟩:=h;refine⟨_,(jE (jP (qK sr ul uo vW jF (jA (jN vM (jN vM (vA xH (pv 0) vQ (vR (pv 1))) (pv 2)) (vA xH (pv 0) (vR (pv 1)) vQ)) jB)))),?_⟩;refine⟨rfl,_,rfl,_,rfl,_,rfl,a,_,rfl,ha,fun p hp=>?_⟩;rw[cutB,←List.map_take];clear 1 p H1 g1 k1 hp;refine⟨_,rfl,p,b,_,_,rfl,rfl,SqL.of k1,g1.seq hb,(by rw[ε,ε,rh,qx];omega),fun p2 hp2=>?_⟩;clear 1 p2 H2 g2 k2 hp2;refine⟨_,rfl,_,rfl,_,rfl,a,_,rfl,g2.seq (g1.seq ha),fun p3 hp3=>?_⟩;rw[cutA,←List.map_drop];clear 1 p3 H3 g3 k3 hp3;refine⟨p2,p3,_,_,rfl,rfl,SqL.of (g3 _ _ k2),SqL.of k3,(by rw[ζ,ε,ε,ε,rh,xu,qx];omega),fun p4 hp4=>?_⟩;clear 1 p4 H4 g4 k4 hp4;rw[←ν,←ν]at k4;refine⟨_,p4,xs.take n++ys++xs.drop n,rfl,rfl,SqL.of k4,?_,q H4 (((g1.trans g2).trans g3).trans g4)⟩;have h1:((xs.take n++ys++xs.drop n).map (·.length)).sum<=(xs.take n++ys++xs.drop n).length*100:=bR fun x hx=>hs x (by
  simp only[rn]at hx;rcases hx with (hx|hx)|hx
  ·exact sm _ (List.mem_of_mem_take hx)
  ·exact rq _ hx
  ·exact sm _ (zk hx))
 have h2:(xs.take n++ys++xs.drop n).length<=300:=by rw[ζ,ζ,rh,xu];omega
 show _+_*1<=_;omega
theorem dG{k:Nat}(F:Fun K "_law_field_faults" "_law_field_faults" xK f fd){be:Addr}{az:sq}(af:Df K mg "_law_take" be az ["_law_box_here","_law_many"])(aw:jI P w K mg base CX0 k be az ["_law_box_here","_law_many"] dR):jI P w K mg base CX0 (k+2) f fd ["_law_box_here","_law_shapes_here"] (spFF K):=by
 w_cond kT;obtain⟨p,sl,S,rfl,hst,lx,hW,hne,hC,q⟩:=h;refine⟨_,(jC (kI (i:=2) kT.nd rfl (by walk_at"o") (jU kO (jU jZ (pv 1) (bY zE jD) (fun _ _=>rfl)) jD (fun _ _=>rfl))) (jC (kI (i:=3) kT.nd rfl (by walk_at"o") (jU kO (jU jZ (jU kO (jU jZ (pv 1) (bY zE jD) (fun _ _=>rfl)) jD (fun _ _=>rfl)) (jJ aw hr rfl af.m af.k af.b .nil jQ (jA (pv 0) (jA (jR jX rfl M.len si (jA (jU kO (jU jZ (pv 1) (bY zE jD) (fun _ _=>rfl)) jD (fun _ _=>rfl)) jB)) jB))) (fun _ _=>rfl)) jD (fun _ _=>rfl))) (jC (wN (i:=4) ["_law_shape"] [] [] kT.nd rfl rfl rfl (qL (vA xH (pv 1) vQ (vR (bY zE jD)))) rfl trivial trivial (fun _ _ _ _=>(jV (i:=0) (show sw (["_law_shape"]:List Str) from by decide +kernel) rfl (sy rfl))) (fun _ _ _ _=>qG) (fun _ _ _ _=>(jU (aAg K rfl) (pv 0) jD (fun _ _=>rfl)))) (jC (kI (i:=5) kT.nd rfl (by walk_at"o") jF) (jC (kI (i:=6) kT.nd rfl (by walk_at"o") (kN (jA (jT (jA (jN jS (pv 3) jF) (jA (jT (jA jF (jA (pv 3) jB))) jB))) (jA (jT (jA (jN jS (pv 3) jF) (jA (jT (jA jF (jA (pv 3) jB))) jB))) jB)))) (jC (kU (qK qw rb rc kY (pv 6) (jA (jT (jA (jN jS (pv 5) jF) (jA (jT (jA jF (jA jF jB))) jB))) jB))) (jC (kI (i:=6) kT.nd rfl (by walk_at"o") (jN vM (pv 6) (kN (jA (jT (jA (jN jS (jN jS (pv 5) jF) (pv 2)) (jA (jT (jA jF (jA (pv 2) jB))) jB))) (jA (jT (jA (jN jS (jN jS (pv 5) jF) (pv 2)) (jA (jT (jA jF (jA (pv 2) jB))) jB))) jB))))) (jC (kU (qK qw rb rc kY (pv 6) (jA (jT (jA (jN jS (pv 5) jF) (jA (jT (jA jF (jA jF jB))) jB))) jB))) (jC (kU (qK qw rb rc kY (pv 6) (jA (jT (jA (jN jS (jN jS (jN jS (pv 5) jF) (pv 2)) jF) (jA (jT (jA jF (jA (pv 2) jB))) jB))) jB))) (jC (kU (qK qw rb rc kY (pv 6) (jA (jT (jA (jN jS (pv 3) jF) (jA (jT (jA jF (jA (pv 3) jB))) jB))) jB))) (jC (kS (kJ (aDu hr.units) (pv 4) (kN jB) (kH _)) (jC (kI (i:=7) kT.nd rfl (by walk_at"o") (jU jZ (pv 4) (jJ aw hr rfl af.m af.k af.b .nil jQ (jA (pv 0) (jA (jR jX rfl M.len si (jA (pv 4) jB)) jB))) (fun _ _=>rfl))) (jC (kU (qK qw rb rc kY (pv 6) (jA (jT (jA (jN jS (jN jS (jN jS (pv 5) jF) (pv 7)) jF) (jA (jT (jA jF (jA jF jB))) jB))) jB))) (jC (kU (qK qw rb rc kY (pv 6) (jA (jT (jA (jN jS (jN jS (jN jS (jN jS (pv 5) jF) (pv 7)) jF) (pv 7)) (jA (jT (jA jF (jA (pv 7) jB))) jB))) jB))) (jE (kU (qK qw rb rc kY (pv 6) (jA (jT (jA (jN jS (jN jS (jN jS (jN jS (pv 5) jF) (pv 7)) jF) (pv 7)) (jA (jT (jA jF (jA (pv 7) jB))) jB))) jB))))))) jY) (jE (jP (pv 6)))))))))))))),?_⟩;obtain⟨T0,s,rfl⟩:=sC hne;obtain⟨as,ha,hLW⟩:=lx;have hal:=hLW.len;obtain⟨as0,z,rfl⟩:=sC (show as≠[] from fun e=>by rw[e,ζ]at hal;simp at hal);have hal0:as0.length=T0.length:=by rw[ζ,ζ]at hal;simpa using hal
 obtain⟨s',hs',l,ps,m1,m2,m3⟩:=hLW.get (i:=T0.length) (a:=z) (by rw[←hal0,Γ (μ _),vc];rfl);rw[Γ (μ _),vc]at hs';cases hs';have o0:jG (offs [p] H) H:=xW;have hf5:s.2.length<=5:=(hW.bd T0.length s (by rw[Γ (μ _),vc];rfl)).2.2.2;have hlen:=hW.len;rw[ζ]at hlen;have hpl:=m3.len;have hs0 : 0<s.2.length:=List.length_pos_iff.mpr (lX hW s (by simp));have hnm:jM s.1=true:=hW.nm s (by simp);have hnl:=(qR hnm).2;have hdn:s.1∉T0.map (·.1):=by
  have:=hW.nd;rw[ν,wm]at this;exact fun z=>this.2.2 _ z _ (qy ..) rfl
 refine⟨_,rfl,_,rfl,sl,_,_,_,rfl,rfl,o0.seq ha,vP _ _,z,_,_,_,rfl,rfl,o0.tp m1,rfl,?_⟩;refine⟨_,rfl,_,rfl,sl,_,_,_,rfl,rfl,o0.seq ha,vP _ _,z,_,_,_,rfl,rfl,o0.tp m1,rfl,_,rfl,_,rfl,_,rfl,sl,_,_,_,rfl,rfl,o0.seq ha,vP _ _,z,_,_,_,rfl,rfl,o0.tp m1,rfl,l,_,rfl,.inl (o0.seq m2),p,_,rfl,(by rw[ε];omega),(by rw[ε];omega),hst,fun v H1 hv d1=>?_⟩;rw[ε]at hv;have o1:jG (offs [p] H) H1:=(d1.offs (by simp)).trans xW;obtain⟨u,hu⟩ : ∃u,ps[v]?=some u:=⟨_,θ (by omega)⟩;obtain⟨f',kd,kk,hfs,hq,_⟩:=m3.get hu;have hfm:(f',kd)∈s.2:=ψ hfs;have hfn:jM f'=true:=hW.fnm s (by simp) _ hfm;have hfi:f'∈s.2.map (·.1):=rm.mpr ⟨_,hfm,rfl⟩;have hfl:=(qR hfn).2;refine⟨l,_,_,_,rfl,rfl,o1.seq m2,yP (by rw[sv,hu];rfl),u,_,_,_,rfl,rfl,o1.tp hq,rfl,?_⟩;refine⟨_,rfl,_,rfl,_,rfl,sl,_,rfl,o1.seq ha,fun q1 hq1=>?_⟩;rw[cutC];clear 1 q1 H2 g2 k2 hq1;have o2:=o1.trans g2;refine⟨q1,rfl,⟨_,SqL.of k2⟩,xN (xs:=as0.map V.ref) (fun j ys G=>G=H2/\ys=((T0.take j).map (·.1)).map V.str) ⟨rfl,rfl⟩ (fun j ys G _ z=>⟨by rw[z.1];exact SqL.of k2,by rw[z.2,ε,ε,rh];exact uz _ _⟩) (kP (by rw[ε];omega)) (fun j x ys G hx z=>?_) (fun ys G z kn hkn=>?_)⟩
 ·obtain⟨rfl,rfl⟩:=z;obtain⟨a,haj,rfl⟩:=qJ hx;have hjl:=(η.mp haj).1;obtain⟨t,ht,l',ps',n1,_,_⟩:=hLW.get (i:=j) (a:=a) (by rw[rf hjl];exact haj);rw[rf (by omega)]at ht;refine⟨_,rfl,a,_,_,_,rfl,rfl,o2.tp n1,rfl,⟨rfl,?_⟩,_,rfl⟩;rw[qY ht,ν];rfl
 obtain⟨e',rfl⟩:=z;subst e';clear 1 kn H3 g3 k3 hkn;rw[ε,hal0,wu]at k3;refine⟨_,rfl,_,_,rfl,rfl,qU (by(try simp only[rp]);have:(δ " num 1").length=6:=rfl;  omega),_,rfl,qA,fun t1 ht1=>?_⟩;clear 1 t1 A1 gA1 kA1 ht1;refine⟨qA,fun u1 hu1=>?_⟩;clear 1 u1 B1 gB1 kB1 hu1;refine⟨_,rfl,_,_,rfl,rfl,qU (by(try simp only[rp]);have:(δ " nosh").length=5:=rfl;  omega),_,rfl,qA,fun t2 ht2=>?_⟩;clear 1 t2 A2 gA2 kA2 ht2;refine⟨qA,fun u2 hu2=>?_⟩;clear 1 u2 B2 gB2 kB2 hu2;refine⟨qA,fun fl hfl0=>?_⟩;clear 1 fl C2 gC2 kC2 hfl0;have kC:C2 fl=some (.lst (([u1,u2]:List Addr).map V.ref)):=kC2;have F2:∀a∈([u1,u2]:List Addr),Fq K C2 (T0++[s]) a:=aB (us:=[u1]) (aB (us:=[]) (fun a ha=>by cases ha) (cQ (k:=1) (gC2 _ _ (gB2 _ _ (gA2 _ _ kB1))) (gC2 _ _ (gB2 _ _ (gA2 _ _ (gB1 _ _ kA1)))) (lx1 _) (fq1 hfn hfi) (.inl rfl) hfn (by simp) (fun w hw=>by simp only[ξ,Δ,or_false]at hw;rcases hw with rfl|rfl;exact .inr (by simp);exact .inr (by simp)))) (cQ (k:=1) (gC2 _ _ kB2) (gC2 _ _ (gB2 _ _ kA2)) (lx2 _) (fq2 hfn hfi) (.inl rfl) hfn (by simp) (fun w hw=>by simp only[ξ,Δ,or_false]at hw;subst hw;exact .inl kQ.2.2.2.2.2.1));refine⟨_,rfl,.inl ⟨rfl,_,SqL.of kC⟩,_,rfl,_,_,rfl,rfl,qU (by decide +kernel),qA,fun t3 ht3=>?_⟩;clear 1 t3 A3 gA3 kA3 ht3;refine⟨qA,fun u3 hu3=>?_⟩;clear 1 u3 B3 gB3 kB3 hu3;refine⟨fl,_,_,rfl,rfl,gB3 _ _ (gA3 _ _ kC),(by show 2<ρ;decide),?_⟩;generalize ec3:upd B3 fl _=C3;obtain⟨gC3,kC3'⟩:=vY ec3;have kC3:C3 fl=some (.lst (([u1,u2,u3]:List Addr).map V.ref)):=kC3';have F3:∀a∈([u1,u2,u3]:List Addr),Fq K C3 (T0++[s]) a:=aB (us:=[u1,u2]) (fun a ha=>((F2 a ha).same (gA3.trans gB3)).but gC3 (gB3 _ _ (gA3 _ _ kC))) ((cQ (k:=2) (kB3) (gB3 _ _ kA3) (lx2 _) (fq3 hC) (.inr rfl) kQ.2.2.2.2.2.2.2 (by simp) (fun w hw=>by simp only[ξ,Δ,or_false]at hw;subst hw;exact .inl kQ.2.2.2.2.2.1)).but gC3 (gB3 _ _ (gA3 _ _ kC)));refine⟨_,rfl,_,rfl,_,_,rfl,rfl,qU (by decide +kernel),_,rfl,_,_,rfl,rfl,qU (by(try simp only[rp]);have:(δ "hzhzh").length=5:=rfl;have:(δ " ").length=1:=rfl;  omega),_,rfl,qA,fun t4 ht4=>?_⟩;clear 1 t4 A4 gA4 kA4 ht4;refine⟨qA,fun u4 hu4=>?_⟩;clear 1 u4 B4 gB4 kB4 hu4;refine⟨_,rfl,_,_,rfl,rfl,qU (by decide +kernel),_,rfl,_,_,rfl,rfl,qU (by(try simp only[rp]);have:(δ "hzhzh").length=5:=rfl;have:(δ " row 2 ").length=7:=rfl;  omega),_,rfl,qA,fun t5 ht5=>?_⟩;clear 1 t5 A5 gA5 kA5 ht5;refine⟨qA,fun u5 hu5=>?_⟩;clear 1 u5 B5 gB5 kB5 hu5;refine⟨qA,fun bl hbl=>?_⟩;clear 1 bl D5 gD5 kD5 hbl;have g35:=(((gA4.trans gB4).trans gA5).trans gB5).trans gD5;refine⟨fl,bl,_,_,rfl,rfl,SqL.of (g35 _ _ kC3),SqL.of kD5,(by show 3+2<=ρ;decide),fun f2 hf2=>?_⟩;clear 1 f2 C5 gC5 kC5 hf2;have kC5':C5 f2=some (.lst (([u1,u2,u3,u4,u5]:List Addr).map V.ref)):=kC5;have F5:∀a∈([u1,u2,u3,u4,u5]:List Addr),Fq K C5 (T0++[s]) a:=aB (us:=[u1,u2,u3,u4]) (aB (us:=[u1,u2,u3]) (fun a ha=>(F3 a ha).same (g35.trans gC5)) (cQ (k:=2) (gC5 _ _ (gD5 _ _ (gB5 _ _ (gA5 _ _ kB4)))) (gC5 _ _ (gD5 _ _ (gB5 _ _ (gA5 _ _ (gB4 _ _ kA4))))) (lx4 _) (fq4 hC hnm hdn) (.inr rfl) kQ.2.2.2.2.2.2.2 (by simp) (fun w hw=>by simp only[ξ,Δ,or_false]at hw;subst hw;exact .inl hnm))) (cQ (k:=2) (gC5 _ _ (gD5 _ _ kB5)) (gC5 _ _ (gD5 _ _ (gB5 _ _ kA5))) (lx5 _) (fq5 hC hnm hdn) (.inr rfl) kQ.2.2.2.2.2.2.2 (by simp) (fun w hw=>by simp only[ξ,Δ,or_false]at hw;rcases hw with rfl|rfl|rfl;exact .inr (by simp);exact .inr (by simp);exact .inl hnm));refine⟨_,rfl,.inl ⟨rfl,_,SqL.of kC5'⟩,_,rfl,_,_,rfl,rfl,qU (by decide +kernel),qA,fun t6 ht6=>?_⟩;clear 1 t6 A6 gA6 kA6 ht6;refine⟨qA,fun u6 hu6=>?_⟩;clear 1 u6 B6 gB6 kB6 hu6;refine⟨f2,_,_,rfl,rfl,gB6 _ _ (gA6 _ _ kC5'),(by show 5<ρ;decide),?_⟩;generalize ec6:upd B6 f2 _=C6;obtain⟨gC6,kC6'⟩:=vY ec6;have kC6:C6 f2=some (.lst (([u1,u2,u3,u4,u5,u6]:List Addr).map V.ref)):=kC6';have F6:∀a∈([u1,u2,u3,u4,u5,u6]:List Addr),Fq K C6 (T0++[s]) a:=aB (us:=[u1,u2,u3,u4,u5]) (fun a ha=>((F5 a ha).same (gA6.trans gB6)).but gC6 (gB6 _ _ (gA6 _ _ kC5'))) ((cQ (k:=1) (kB6) (gB6 _ _ kA6) (lx6) (fq6 hC) (.inl rfl) kQ.2.2.2.2.2.2.2 (by simp) (fun w hw=>by simp only[ξ,Δ,or_false]at hw;rcases hw with rfl|rfl|rfl|rfl;exact .inr (by simp);exact .inl kQ.2.2.2.2.2.1;exact .inl kQ.2.2.2.2.2.2.1;exact .inl kQ.2.2.2.2.2.1)).but gC6 (gB6 _ _ (gA6 _ _ kC5')));refine⟨_,rfl,.inl ⟨rfl,_,SqL.of kC6⟩,_,rfl,_,_,rfl,rfl,qU (by decide +kernel),_,rfl,_,_,rfl,rfl,qU (by(try simp only[rp]);have:(δ "hzhzh").length=5:=rfl;have:(δ " pick ").length=6:=rfl;  omega),_,_,rfl,rfl,qU (by(try simp only[rp]);have:(δ "hzhzh").length=5:=rfl;have:(δ " pick ").length=6:=rfl;have:(δ " nosh").length=5:=rfl;  omega),_,rfl,qA,fun t7 ht7=>?_⟩;clear 1 t7 A7 gA7 kA7 ht7;refine⟨qA,fun u7 hu7=>?_⟩;clear 1 u7 B7 gB7 kB7 hu7;refine⟨f2,_,_,rfl,rfl,gB7 _ _ (gA7 _ _ kC6),(by show 6<ρ;decide),?_⟩;generalize ec7:upd B7 f2 _=C7;obtain⟨gC7,kC7'⟩:=vY ec7;have kC7:C7 f2=some (.lst (([u1,u2,u3,u4,u5,u6,u7]:List Addr).map V.ref)):=kC7';have F7:∀a∈([u1,u2,u3,u4,u5,u6,u7]:List Addr),Fq K C7 (T0++[s]) a:=aB (us:=[u1,u2,u3,u4,u5,u6]) (fun a ha=>((F6 a ha).same (gA7.trans gB7)).but gC7 (gB7 _ _ (gA7 _ _ kC6))) ((cQ (k:=2) (kB7) (gB7 _ _ kA7) (lx7 _) (fq7 hC hnm hdn) (.inr rfl) kQ.2.2.2.2.2.2.2 (by simp) (fun w hw=>by simp only[ξ,Δ,or_false]at hw;rcases hw with rfl|rfl|rfl;exact .inr (by simp);exact .inl hnm;exact .inl kQ.2.2.2.2.2.1)).but gC7 (gB7 _ _ (gA7 _ _ kC6)));refine⟨_,rfl,.inl ⟨rfl,_,SqL.of kC7⟩,_,rfl,_,_,rfl,rfl,qU (by(try simp only[rp]);have:(δ " pick nosh nosh").length=15:=rfl;  omega),_,rfl,qA,fun t8 ht8=>?_⟩;clear 1 t8 A8 gA8 kA8 ht8;refine⟨qA,fun u8 hu8=>?_⟩;clear 1 u8 B8 gB8 kB8 hu8;refine⟨f2,_,_,rfl,rfl,gB8 _ _ (gA8 _ _ kC7),(by show 7<ρ;decide),?_⟩;generalize ec8:upd B8 f2 _=C8;obtain⟨gC8,kC8'⟩:=vY ec8;have kC8:C8 f2=some (.lst (([u1,u2,u3,u4,u5,u6,u7,u8]:List Addr).map V.ref)):=kC8';have F8:∀a∈([u1,u2,u3,u4,u5,u6,u7,u8]:List Addr),Fq K C8 (T0++[s]) a:=aB (us:=[u1,u2,u3,u4,u5,u6,u7]) (fun a ha=>((F7 a ha).same (gA8.trans gB8)).but gC8 (gB8 _ _ (gA8 _ _ kC7))) ((cQ (k:=1) (kB8) (gB8 _ _ kA8) (lx8 _) (fq8 hfn hfi) (.inl rfl) hfn (by simp) (fun w hw=>by simp only[ξ,Δ,or_false]at hw;rcases hw with rfl|rfl|rfl;exact .inr (by simp);exact .inl kQ.2.2.2.2.2.1;exact .inl kQ.2.2.2.2.2.1)).but gC8 (gB8 _ _ (gA8 _ _ kC7)));have s2:jG H3 C2:=(((gA1.trans gB1).trans gA2).trans gB2).trans gC2;have hflH:H3 fl=none:=(((gA1.trans gB1).trans gA2).trans gB2).free hfl0;have s3:jG H3 C3:=But.from (s2.trans (gA3.trans gB3)) hflH gC3;have hf2H3:H3 f2=none:=(s3.trans g35).free hf2;have s5:jG H3 C5:=s3.trans (g35.trans gC5);have s6:jG H3 C6:=But.from (s5.trans (gA6.trans gB6)) hf2H3 gC6;have s7:jG H3 C7:=But.from (s6.trans (gA7.trans gB7)) hf2H3 gC7;have s8:jG H3 C8:=But.from (s7.trans (gA8.trans gB8)) hf2H3 gC8;have D3:Drawn p H H3:=d1.keep (g2.trans g3);have hf2H:H f2=none:=D3.free hf2H3;have hf2p:f2≠p:=fun z=>by obtain⟨o,e⟩:=iA D3.1;rw[←z,hf2H3]at e;cases e
 have hknp:kn≠p:=fun z=>by obtain⟨o,e⟩:=iA (jG.st3 g2 d1.1);rw[←z,hkn]at e;cases e
 dsimp only;refine⟨_,rfl,mH,fun e0 he0=>?_⟩;clear 1 e0 G0 gG0 kG0 he0;have D0:Drawn p H G0:=D3.keep (s8.trans gG0);have knG:=gG0 _ _ (s8 _ _ k3);refine⟨kn,e0,_,rfl,rfl,SqL.of knG,SqL.of kG0,_,rfl,vS (fun c=>?_) (fun c=>?_)⟩
 ·have hT0 : 0<T0.length:=by
   cases T0 with
   |nil=>exact absurd c (by decide)
   |cons _ _=>simp
  refine⟨_,rfl,_,rfl,_,rfl,kn,_,rfl,.inl (SqL.of knG),p,_,rfl,(by rw[ε,ε];omega),(by rw[ε,ε];omega),D0.1,fun v2 G1 hv2 d2=>?_⟩;rw[ε,ε]at hv2;obtain⟨one,hone⟩ : ∃one,(T0.map (·.1))[v2]?=some one:=⟨_,θ (by rw[ε];omega)⟩;have hom:one∈T0.map (·.1):=ψ hone;have hon:jM one=true:=by
   obtain⟨t',ht',rfl⟩:=rm.mp hom;exact hW.nm t' (sm _ ht')
  have hol:=(qR hon).2;refine⟨kn,_,_,_,rfl,rfl,SqL.of (d2.2 kn _ hknp knG),cP hone,?_⟩;have kG1:G1 f2=some (.lst (([u1,u2,u3,u4,u5,u6,u7,u8]:List Addr).map V.ref)):=d2.2 f2 _ hf2p (gG0 _ _ kC8);have FG1:∀a∈([u1,u2,u3,u4,u5,u6,u7,u8]:List Addr),Fq K G1 (T0++[s]) a:=fun a ha=>((F8 a ha).same gG0).drawn d2 D0.1;have DG1:=D0.trans d2;refine⟨_,rfl,.inl ⟨rfl,_,SqL.of kG1⟩,_,rfl,_,_,rfl,rfl,qU (by decide +kernel),_,rfl,_,_,rfl,rfl,qU (by(try simp only[rp]);have:(δ "hzhzh").length=5:=rfl;have:(δ " pick ").length=6:=rfl;  omega),_,_,rfl,rfl,qU (by(try simp only[rp]);have:(δ "hzhzh").length=5:=rfl;have:(δ " pick ").length=6:=rfl;have:(δ " nosh other").length=11:=rfl;  omega),qA,fun t9 ht9=>?_⟩;clear 1 t9 A9 gA9 kA9 ht9;refine⟨qA,fun u9 hu9=>?_⟩;clear 1 u9 B9 gB9 kB9 hu9;refine⟨f2,_,_,rfl,rfl,gB9 _ _ (gA9 _ _ kG1),(by show 8<ρ;decide),?_⟩;generalize ec9:upd B9 f2 _=C9;obtain⟨gC9,kC9'⟩:=vY ec9;have kC9:C9 f2=some (.lst (([u1,u2,u3,u4,u5,u6,u7,u8,u9]:List Addr).map V.ref)):=kC9';have F9:∀a∈([u1,u2,u3,u4,u5,u6,u7,u8,u9]:List Addr),Fq K C9 (T0++[s]) a:=aB (us:=[u1,u2,u3,u4,u5,u6,u7,u8]) (fun a ha=>((FG1 a ha).same (gA9.trans gB9)).but gC9 (gB9 _ _ (gA9 _ _ kG1))) ((cQ (k:=2) (kB9) (gB9 _ _ kA9) (lx9 _) (fq9 hC hon hom) (.inr rfl) kQ.2.2.2.2.2.2.2 (by simp) (fun w hw=>by simp only[ξ,Δ,or_false]at hw;rcases hw with rfl|rfl|rfl|rfl;exact .inr (by simp);exact .inl hon;exact .inl kQ.2.2.2.2.2.1;exact .inl kQ.2.2.2.2.2.2.1)).but gC9 (gB9 _ _ (gA9 _ _ kG1)));refine⟨_,rfl,.inl ⟨rfl,_,SqL.of kC9⟩,_,rfl,_,_,rfl,rfl,qU (by decide +kernel),_,rfl,_,_,rfl,rfl,qU (by(try simp only[rp]);have:(δ "hzhzh").length=5:=rfl;have:(δ " pick ").length=6:=rfl;  omega),_,_,rfl,rfl,qU (by(try simp only[rp]);have:(δ "hzhzh").length=5:=rfl;have:(δ " pick ").length=6:=rfl;have:(δ " ").length=1:=rfl;  omega),_,rfl,_,_,rfl,rfl,qU (by(try simp only[rp]);have:(δ "hzhzh").length=5:=rfl;have:(δ " pick ").length=6:=rfl;have:(δ " ").length=1:=rfl;  omega),_,rfl,qA,fun tA htA=>?_⟩;clear 1 tA AA gAA kAA htA;refine⟨qA,fun uA huA=>?_⟩;clear 1 uA BA gBA kBA huA;refine⟨f2,_,_,rfl,rfl,gBA _ _ (gAA _ _ kC9),(by show 9<ρ;decide),?_⟩;generalize ecA:upd BA f2 _=CA;obtain⟨gCA,kCA'⟩:=vY ecA;have kCA:CA f2=some (.lst (([u1,u2,u3,u4,u5,u6,u7,u8,u9,uA]:List Addr).map V.ref)):=kCA';have FA:∀a∈([u1,u2,u3,u4,u5,u6,u7,u8,u9,uA]:List Addr),Fq K CA (T0++[s]) a:=aB (us:=[u1,u2,u3,u4,u5,u6,u7,u8,u9]) (fun a ha=>((F9 a ha).same (gAA.trans gBA)).but gCA (gBA _ _ (gAA _ _ kC9))) ((cQ (k:=1) (kBA) (gBA _ _ kAA) (lxA _) (fqA hC hon) (.inl rfl) kQ.2.2.2.2.2.2.2 (by simp) (fun w hw=>by simp only[ξ,Δ,or_false]at hw;rcases hw with rfl|rfl|rfl;exact .inr (by simp);exact .inl hon;exact .inl hon)).but gCA (gBA _ _ (gAA _ _ kC9)));refine⟨_,rfl,.inl ⟨rfl,_,SqL.of kCA⟩,_,rfl,_,_,rfl,rfl,qU (by decide +kernel),_,rfl,_,_,rfl,rfl,qU (by(try simp only[rp]);have:(δ "hzhzh").length=5:=rfl;have:(δ " pick other ").length=12:=rfl;  omega),_,_,rfl,rfl,qU (by(try simp only[rp]);have:(δ "hzhzh").length=5:=rfl;have:(δ " pick other ").length=12:=rfl;have:(δ " ").length=1:=rfl;  omega),_,rfl,_,_,rfl,rfl,qU (by(try simp only[rp]);have:(δ "hzhzh").length=5:=rfl;have:(δ " pick other ").length=12:=rfl;have:(δ " ").length=1:=rfl;  omega),_,rfl,qA,fun tB htB=>?_⟩;clear 1 tB AB gAB kAB htB;refine⟨qA,fun uB huB=>?_⟩;clear 1 uB BB gBB kBB huB;refine⟨f2,_,_,rfl,rfl,gBB _ _ (gAB _ _ kCA),(by show 10<ρ;decide),?_⟩;generalize ecB:upd BB f2 _=CB;obtain⟨gCB,kCB'⟩:=vY ecB;have kCB:CB f2=some (.lst (([u1,u2,u3,u4,u5,u6,u7,u8,u9,uA,uB]:List Addr).map V.ref)):=kCB';have FB:∀a∈([u1,u2,u3,u4,u5,u6,u7,u8,u9,uA,uB]:List Addr),Fq K CB (T0++[s]) a:=aB (us:=[u1,u2,u3,u4,u5,u6,u7,u8,u9,uA]) (fun a ha=>((FA a ha).same (gAB.trans gBB)).but gCB (gBB _ _ (gAB _ _ kCA))) ((cQ (k:=1) (kBB) (gBB _ _ kAB) (lxB _) (fqB hC hon hom) (.inl rfl) kQ.2.2.2.2.2.2.2 (by simp) (fun w hw=>by simp only[ξ,Δ,or_false]at hw;rcases hw with rfl|rfl|rfl|rfl;exact .inr (by simp);exact .inl kQ.2.2.2.2.2.2.1;exact .inl hon;exact .inl hon)).but gCB (gBB _ _ (gAB _ _ kCA)));have D9:=(DG1.keep (gA9.trans gB9)).but gC9 hf2H hf2p;have DA:=(D9.keep (gAA.trans gBA)).but gCA hf2H hf2p;have DB:=(DA.keep (gAB.trans gBB)).but gCB hf2H hf2p;exact⟨_,rfl,q f2 _ CB DB hf2H kCB FB (by simp)⟩
 ·exact⟨_,rfl,q f2 _ G0 D0 hf2H (gG0 _ _ kC8) (fun a ha=>(F8 a ha).same gG0) (by simp)⟩
theorem nE(F:Fun K "_law_places" "_law_places" aS f fd)(bf:Df K mg "_law_put_in" fv et ["_law_lines","_law_at","_law_more"])(fw:jI P w K mg base CX0 k fv et ["_law_lines","_law_at","_law_more"] (aCj K)):jI P w K mg base CX0 (k+2) f fd ["_law_shapes_here","_law_lines"] (spPl K):=by
 w_cond vO;obtain⟨sl,ll,S,rfl,lx,hll,hW,hne,hC,q⟩:=h;refine⟨_,(jC (wN (i:=2) ["_law_at"] ["_law_lines"] [1] vO.nd rfl rfl rfl (vF rfl M.range (jA (jR jX rfl M.len si (jA (pv 1) jB)) jB)) rfl ⟨rfl,trivial⟩ ⟨⟨rfl,rfl,rfl,_,rfl⟩,trivial⟩ (fun _ _ _ _=>(jV (i:=0) (show sw (["_law_at","_law_lines"]:List Str) from by decide +kernel) rfl (sy rfl))) (fun _ _ _ _=>(wV (kJ qV (vA aAk (jU (lO K rfl) (pv 1) (pv 0) (fun _ _=>rfl)) vQ (vR jD)) jF (kH _)))) (fun _ _ _ _=>(pv 0))) (jC (kI (i:=3) vO.nd rfl (by walk_at"o") (kN (jA (jT (jA (jJ fw hr rfl bf.m bf.k bf.b .nil jQ (jA (pv 1) (jA jD (jA (kN (jA jF jB)) jB)))) (jA (jT (jA jF (jA jD jB))) jB))) jB))) (jC (kU (qK qw rb rc kY (pv 3) (jA (jT (jA (qK sr ul uo vW jF (jA (jN vM (pv 1) (kN (jA jF jB))) jB)) (jA (jT (jA jF (jA (jN qE (jR jX rfl M.len si (jA (pv 1) jB)) jD) jB))) jB))) jB))) (jC (xB vg rfl (qL (pv 2)) (jV (i:=4) vO.nd rfl (sy rfl)) (jE (kU (qK qw rb rc kY (pv 3) (jA (jT (jA (jJ fw hr rfl bf.m bf.k bf.b .nil jQ (jA (pv 1) (jA (pv 4) (jA (kN (jA jF jB)) jB)))) (jA (jT (jA jF (jA (jN qE (pv 4) jD) jB))) jB))) jB))))) (jC (xB vg rfl (qL (pv 0)) (zL rfl (kL (jV (i:=5) vO.nd rfl (sy rfl)) (kL (jV (i:=6) vO.nd rfl (sy rfl)) vL))) (jC (kU (qK qw rb rc kY (pv 3) (jA (jT (jA (qK sr ul uo vW jF (jA (jN vM (pv 1) (kN (jA (jN jS jF (pv 5)) (jA jF jB)))) jB)) (jA (jT (jA jF (jA (jR jX rfl M.len si (jA (pv 1) jB)) (jA (pv 5) jB)))) jB))) jB))) (jE (kU (qK qw rb rc kY (pv 3) (jA (jT (jA (qK sr ul uo vW jF (jA (jN vM (pv 1) (kN (jA jF (jA (jN jS jF (pv 5)) jB)))) jB)) (jA (jT (jA jF (jA (jN qE (jR jX rfl M.len si (jA (pv 1) jB)) jD) jB))) jB))) jB)))))) (jC (kU (qK qw rb rc kY (pv 3) (jA (jT (jA (jJ fw hr rfl bf.m bf.k bf.b .nil jQ (jA (pv 1) (jA jD (jA (kN (jA jF jB)) jB)))) (jA (jT (jA jF (jA jD jB))) jB))) jB))) (jE (jP (pv 3))))))))),?_⟩;obtain⟨r30,rfine⟩:=yS hW hne;obtain⟨as,ha,hLW⟩:=id lx;have hl30:(kF S).length<=30:=by rw[ε]at r30;exact r30
 have hrl:(((kF S).map (qH S)).map V.str).length=(kF S).length:=by rw[ε,ε]
 have hpos:=zK hne;have zl:(as.map V.ref).length=S.length:=by rw[ε];exact hLW.len
 have h8:=hW.len;refine⟨_,rfl,ll,_,rfl,.inl hll,_,rfl,(by rw[hrl];omega),(by rw[hrl];omega),xL (fun j ys G=>G=H/\∃js:List Nat,ys=js.map (fun i:Nat=>V.int i)/\js.length<=j/\∀i∈js,∃nm,(kF S)[i]?=some (.sh nm)) ⟨rfl,[],rfl,μ _,fun i hi=>by cases hi⟩ (fun j ys G _ z=>by obtain⟨_,js,rfl,h,_⟩:=z;rw[ε];exact h) (kP (by rw[Aw,hrl];omega)) (fun j ys G hj z=>?_) (fun ys G z hp hhp=>?_)⟩
 ·obtain⟨rfl,js,rfl,hjl,hjs⟩:=z;rw[Aw,hrl]at hj;obtain⟨x,hx⟩ : ∃x,((kF S).map (qH S))[j]?=some x:=⟨_,θ (by rw[ε];exact hj)⟩;rw[xq];refine⟨_,rfl,_,rfl,ll,_,_,_,rfl,rfl,hll,cP hx,_,rfl,x,rfl,sg (rfine x (ψ hx)).2 (by decide),rfl,_,rfl,vS (fun c=>?_) (fun c=>?_)⟩
  ·refine⟨_,rfl,⟨rfl,js++[j],by rw[ν];rfl,by rw[ζ];show _+1<=_;omega,fun i hi=>?_⟩,_,rfl⟩;rcases rn.mp hi with hi|hi
   ·exact hjs i hi
   ·rw[τ.mp hi];refine aFg hW hx ?_;exact V.str.inj (of_decide_eq_true c)
  ·exact⟨⟨rfl,js,rfl,by omega,hjs⟩,_,rfl⟩
 obtain⟨eG,js,rfl,hjl,hjs⟩:=z;rw[eG]at hhp ⊢;clear eG;rw[Aw,hrl]at hjl;clear 1 hp H1 gH1 kH1 hhp;have sH1:=gH1;refine⟨_,rfl,bI,fun b1 hb1=>?_⟩;clear 1 b1 L1 gL1 kL1 hb1;refine⟨ll,b1,0,(kF S).map (qH S),[δ "hzhzh num 1"],rfl,(sH1.trans gL1).seq hll,SqL.of kL1,sd _,(by rw[ε];omega),by decide,(fun x hx=>by rcases rn.mp hx with hx|hx;exact(rfine x hx).2;rw[τ.mp hx];exact yA.1.2),fun P1 gP1=>?_⟩;have sP1:=(sH1.trans gL1).trans gP1;refine⟨qA,fun t1 ht1=>?_⟩;clear 1 t1 A1 gA1 kA1 ht1;refine⟨qA,fun u1 hu1=>?_⟩;clear 1 u1 B1 gB1 kB1 hu1;refine⟨bI,fun fl hfl=>?_⟩;clear 1 fl C1 gC1 kC1 hfl;have sH:jG H B1:=(sP1.trans gA1).trans gB1;have hflH:H fl=none:=sH.free hfl;have kHp:B1 hp=some (.lst (js.map fun i:Nat=>V.int i)):=(((gL1.trans gP1).trans gA1).trans gB1) _ _ kH1;have nhp:hp≠fl:=fun z=>by rw[z,hfl]at kHp;cases kHp
 have F1:FL K B1 C1 fl [u1]:=⟨But.of gC1,kC1,aB (us:=[]) (fun a ha=>by cases ha) ⟨_,t1,0,0,Str.empty,S,0,_,gC1 _ _ kB1,sI (gC1 _ _ (gB1 _ _ kA1)) rfl,tE hW hne⟩⟩;have sC1:jG H C1:=sH.trans gC1;refine⟨_,rfl,.inl ⟨rfl,_,SqL.of F1.2.1⟩,rfl,_,rfl,bI,fun b2 hb2=>?_⟩;clear 1 b2 L2 gL2 kL2 hb2;refine⟨ll,b2,_,([δ "shape hzhzh"]:List Str).map V.str,rfl,rfl,(sC1.trans gL2).seq hll,SqL.of kL2,(by rw[hrl,qx];show _+1<=_;omega),fun c2 hc2=>?_⟩;clear 1 c2 P2 gP2 kP2 hc2;have sP2:=(sC1.trans gL2).trans gP2;rw[←ν]at kP2;refine⟨_,c2,(kF S).map (qH S)++[δ "shape hzhzh"],rfl,rfl,SqL.of kP2,jbd (fun x hx=>by rcases rn.mp hx with hx|hx;exact(rfine x hx).2; (rw[τ.mp hx];exact yA.2.2.2.2.1.2)) (by rw[ζ,ε];show _+1<=_;omega),?_⟩;refine⟨_,rfl,ll,_,rfl,.inl (sP2.seq hll),_,_,rfl,rfl,qA,fun t2 ht2=>?_⟩;clear 1 t2 A2 gA2 kA2 ht2;refine⟨qA,fun u2 hu2=>?_⟩;clear 1 u2 B2 gB2 kB2 hu2;have F2:=(F1.same (((gL2.trans gP2).trans gA2).trans gB2)).app kB2 (gB2 _ _ kA2 |> fun z=>sI z (by rw[hrl];rfl)) (sY hW hne hC (rest:=[]) (.inl rfl) (by decide) (fun x hx=>by cases hx));refine⟨fl,_,_,rfl,rfl,(F1.same (((gL2.trans gP2).trans gA2).trans gB2)).2.1,(by rw[ε,qx];show 1<_;omega),?_⟩;generalize ec2:upd B2 fl _=C2 at F2 ⊢;have sC2:jG H C2:=But.from sH hflH F2.1;refine⟨_,rfl,hp,rfl,⟨_,SqL.of (F2.1 _ _ nhp kHp)⟩,xF (xs:=js.map fun i:Nat=>V.int i) (fun i σ G=>∃o4 o5 o6 us,σ = [some (.ref sl),some (.ref ll),some (.ref hp),some (.ref fl),o4,o5,o6]/\FL K B1 G fl us/\us.length<=2+i) ⟨_,_,_,_,rfl,F2,μ _⟩ (fun i σ G _ z=>?_) (fun i x σ W1 hx z=>?_) (fun σ W2 z=>?_)⟩
 ·obtain⟨o4,o5,o6,us,rfl,Fz,_⟩:=z;exact SqL.of (Fz.1 _ _ nhp kHp)
 ·obtain⟨o4,o5,o6,us,rfl,Fz,hus⟩:=z;rw[sv]at hx;obtain⟨j,hj,rfl⟩:=yr.mp hx;have hi:=(η.mp hj).1;obtain⟨nm,hit⟩:=hjs j (ψ hj);have hjn:=(η.mp hit).1;have sW1:jG H W1:=But.from sH hflH Fz.1;refine⟨_,rfl,.inl ⟨rfl,_,SqL.of Fz.2.1⟩,_,rfl,_,rfl,bI,fun b3 hb3=>?_⟩;clear 1 b3 L3 gL3 kL3 hb3;refine⟨ll,b3,j,(kF S).map (qH S),[δ "shape hzhzh"],rfl,(sW1.trans gL3).seq hll,SqL.of kL3,(by rw[ε];omega),(by rw[ε];omega),by decide,(fun x hx=>by rcases rn.mp hx with hx|hx;exact(rfine x hx).2;rw[τ.mp hx];exact yA.2.2.2.2.1.2),fun P3 gP3=>?_⟩;have sP3:=(sW1.trans gL3).trans gP3;refine⟨_,rfl,_,_,rfl,rfl,qA,fun t3 ht3=>?_⟩;clear 1 t3 A3 gA3 kA3 ht3;refine⟨qA,fun u3 hu3=>?_⟩;clear 1 u3 B3 gB3 kB3 hu3;have F3:=(Fz.same (((gL3.trans gP3).trans gA3).trans gB3)).app kB3 (gB3 _ _ kA3 |> fun z=>sI z rfl) (tZ hW hne hC hit);refine⟨fl,_,_,rfl,rfl,(Fz.same (((gL3.trans gP3).trans gA3).trans gB3)).2.1,(by rw[ε,qx];omega),?_⟩;generalize ec3:upd B3 fl _=C3 at F3 ⊢;have sC3:jG H C3:=But.from sH hflH F3.1;exact⟨_,_,_,_,rfl,F3,by rw[ζ];show _+1<=_;omega⟩
 obtain⟨o4,o5,o6,us2,rfl,Fz2,hus2⟩:=z;rw[ε]at hus2;have sW2:jG H W2:=But.from sH hflH Fz2.1;refine⟨_,rfl,sl,rfl,⟨_,sW2.seq ha⟩,xF (xs:=as.map V.ref) (fun i σ G=>∃o4 o5 o6 us,σ = [some (.ref sl),some (.ref ll),some (.ref hp),some (.ref fl),o4,o5,o6]/\FL K B1 G fl us/\us.length<=2+js.length+2*i) ⟨_,_,_,_,rfl,Fz2,hus2⟩ (fun i σ G _ z=>?_) (fun i x σ W3 hx z=>?_) (fun σ W4 z=>?_)⟩
 ·obtain⟨o4,o5,o6,us,rfl,Fz,_⟩:=z;exact(But.from sH hflH Fz.1).seq ha
 ·obtain⟨o4,o5,o6,us,rfl,Fz,hus⟩:=z;obtain⟨a,haj,rfl⟩:=qJ hx;obtain⟨t,ht,l',ps',n1,_,_⟩:=hLW.get haj;have htm:=ψ ht;have hi:i<S.length:=(η.mp ht).1;have htn:jM t.1=true:=hW.nm t htm;have htl:=(qR htn).2;have sW3:jG H W3:=But.from sH hflH Fz.1;have hsl:(δ "shape " ++ t.1).length<=100/\10∉(δ "shape " ++ t.1).cps.toList:=by rw[wG];exact⟨(pT htn).1.2,(pT htn).1.1⟩
  refine⟨a,_,rfl,sW3.tp n1,rfl,_,_,rfl,_,_,rfl,rfl,?_⟩;refine⟨_,rfl,.inl ⟨rfl,_,SqL.of Fz.2.1⟩,rfl,_,rfl,_,rfl,_,_,rfl,rfl,(by show 6+t.1.length<=ρ;rw[qx];omega),qA,fun b4 hb4=>?_⟩;clear 1 b4 L4 gL4 kL4 hb4;refine⟨ll,b4,_,([δ "shape " ++ t.1,δ "hzhzh num 1"]:List Str).map V.str,rfl,rfl,(sW3.trans gL4).seq hll,SqL.of kL4,(by rw[hrl,qx];show _+2<=_;omega),fun c4 hc4=>?_⟩;clear 1 c4 P4 gP4 kP4 hc4;have sP4:=(sW3.trans gL4).trans gP4;rw[←ν]at kP4;refine⟨_,c4,(kF S).map (qH S)++[δ "shape " ++ t.1,δ "hzhzh num 1"],rfl,rfl,SqL.of kP4,jbd (fun x hx=>by rcases rn.mp hx with hx|hx;exact(rfine x hx).2; (simp only[ξ,Δ,or_false]at hx;rcases hx with rfl|rfl;exact hsl.1;exact yA.1.2)) (by rw[ζ,ε];show _+2<=_;omega),?_⟩;refine⟨_,rfl,ll,_,rfl,.inl (sP4.seq hll),_,rfl,cI,fun t4 ht4=>?_⟩;clear 1 t4 A4 gA4 kA4 ht4;refine⟨qA,fun u4 hu4=>?_⟩;clear 1 u4 B4 gB4 kB4 hu4;have F4:=(Fz.same (((gL4.trans gP4).trans gA4).trans gB4)).app kB4 (gB4 _ _ kA4 |> fun z=>due1 (k:=1) z (.inl rfl) (by rw[hrl])) ((by have:=sF (rest:=[δ "hzhzh num 1"]) hW hne (rm.mpr ⟨t,htm,rfl⟩) (by decide) (fun x hx=>by rw[τ.mp hx];exact yA.1);rw[←wG]at this;exact this));refine⟨fl,_,_,rfl,rfl,(Fz.same (((gL4.trans gP4).trans gA4).trans gB4)).2.1,(by rw[ε,qx];omega),?_⟩;generalize ec4:upd B4 fl _=C4 at F4 ⊢;have sC4:jG H C4:=But.from sH hflH F4.1;refine⟨_,rfl,.inl ⟨rfl,_,SqL.of F4.2.1⟩,rfl,_,rfl,_,rfl,_,_,rfl,rfl,(by show 6+t.1.length<=ρ;rw[qx];omega),qA,fun b5 hb5=>?_⟩;clear 1 b5 L5 gL5 kL5 hb5;refine⟨ll,b5,_,([δ "shape hzhzh",δ "shape " ++ t.1]:List Str).map V.str,rfl,rfl,(sC4.trans gL5).seq hll,SqL.of kL5,(by rw[hrl,qx];show _+2<=_;omega),fun c5 hc5=>?_⟩;clear 1 c5 P5 gP5 kP5 hc5;have sP5:=(sC4.trans gL5).trans gP5;rw[←ν]at kP5;refine⟨_,c5,(kF S).map (qH S)++[δ "shape hzhzh",δ "shape " ++ t.1],rfl,rfl,SqL.of kP5,jbd (fun x hx=>by rcases rn.mp hx with hx|hx;exact(rfine x hx).2; (simp only[ξ,Δ,or_false]at hx;rcases hx with rfl|rfl;exact yA.2.2.2.2.1.2;exact hsl.1)) (by rw[ζ,ε];show _+2<=_;omega),?_⟩;refine⟨_,rfl,ll,_,rfl,.inl (sP5.seq hll),_,_,rfl,rfl,qA,fun t5 ht5=>?_⟩;clear 1 t5 A5 gA5 kA5 ht5;refine⟨qA,fun u5 hu5=>?_⟩;clear 1 u5 B5 gB5 kB5 hu5;have F5:=(F4.same (((gL5.trans gP5).trans gA5).trans gB5)).app kB5 (gB5 _ _ kA5 |> fun z=>sI z (by rw[hrl];rfl)) (sY hW hne hC (rest:=[δ "shape " ++ t.1]) (.inr ⟨t.1,[],by rw[wG],htn⟩) (by show 1<=59;decide) (fun x hx=>by rw[τ.mp hx];exact⟨hsl.2,hsl.1⟩));refine⟨fl,_,_,rfl,rfl,(F4.same (((gL5.trans gP5).trans gA5).trans gB5)).2.1,(by rw[ε,qx];rw[ζ];show _+1<_;omega),?_⟩;generalize ec5:upd B5 fl _=C5 at F5 ⊢;have sC5:jG H C5:=But.from sH hflH F5.1;exact⟨_,_,_,_,rfl,F5,by rw[ζ,ζ];show _+1+1<=_;omega⟩
 obtain⟨o4,o5,o6,us3,rfl,Fz3,hus3⟩:=z;rw[zl]at hus3;have sW4:jG H W4:=But.from sH hflH Fz3.1;refine⟨_,rfl,.inl ⟨rfl,_,SqL.of Fz3.2.1⟩,_,rfl,bI,fun b6 hb6=>?_⟩;clear 1 b6 L6 gL6 kL6 hb6;refine⟨ll,b6,1,(kF S).map (qH S),[δ "shape hzhzh"],rfl,(sW4.trans gL6).seq hll,SqL.of kL6,(by rw[ε];omega),(by rw[ε];omega),by decide,(fun x hx=>by rcases rn.mp hx with hx|hx;exact(rfine x hx).2;rw[τ.mp hx];exact yA.2.2.2.2.1.2),fun P6 gP6=>?_⟩;have sP6:=(sW4.trans gL6).trans gP6;refine⟨qA,fun t6 ht6=>?_⟩;clear 1 t6 A6 gA6 kA6 ht6;refine⟨qA,fun u6 hu6=>?_⟩;clear 1 u6 B6 gB6 kB6 hu6;have F6:=(Fz3.same (((gL6.trans gP6).trans gA6).trans gB6)).app kB6 (gB6 _ _ kA6 |> fun z=>sI z rfl) (aBv hW hne);refine⟨fl,_,_,rfl,rfl,(Fz3.same (((gL6.trans gP6).trans gA6).trans gB6)).2.1,(by rw[ε,qx];omega),?_⟩;generalize ec6:upd B6 fl _=C6 at F6 ⊢;have sC6:jG H C6:=But.from sH hflH F6.1;exact⟨_,rfl,q fl _ C6 sC6 hflH F6.2.1 F6.2.2 (by rw[ζ];show _+1<=_;omega)⟩
theorem pB(F:Fun K "_law_right" "_law_right" cO f fd)(dz:Df K mg "_law_text" gx gk ["_law_shapes_here"])(ki:jI P w K mg base CX0 k gx gk ["_law_shapes_here"] (spTx K))(af:Df K mg "_law_take" be az ["_law_box_here","_law_many"])(aw:jI P w K mg base CX0 k be az ["_law_box_here","_law_many"] dR)(ik:Df K mg "_law_bad_line" kf jt ["_law_box_here"])(oo:jI P w K mg base CX0 k kf jt ["_law_box_here"] aGm)(bf:Df K mg "_law_put_in" fv et ["_law_lines","_law_at","_law_more"])(fw:jI P w K mg base CX0 k fv et ["_law_lines","_law_at","_law_more"] (aCj K))(jm:Df K mg "_law_places" mj lh ["_law_shapes_here","_law_lines"])(pq:jI P w K mg base CX0 k mj lh ["_law_shapes_here","_law_lines"] (spPl K))(fz:Df K mg "_law_field_faults" ir ic ["_law_box_here","_law_shapes_here"])(ml:jI P w K mg base CX0 k ir ic ["_law_box_here","_law_shapes_here"] (spFF K))(bp:Df K mg "_law_told" gz gm ["_law_thing"])(ia:jI P w K mg base CX0 k gz gm ["_law_thing"] (aEn K))(il:Df K mg "_law_is" pw ot ["_law_told_here","_law_due"])(px:jI P w K mg base CX0 k pw ot ["_law_told_here","_law_due"] (aHe K)):jI P w K mg base CX0 (k+2) f fd ["_law_box_here","_law_shapes_here"] (aHi K):=by
 w_cond qM;obtain⟨p,sl,S,rfl,hst,lx,hW,hne,hC,q⟩:=h;refine⟨_,(jC (kI (i:=2) qM.nd rfl (by walk_at"o") (qK sr AE AF fN (jJ ki hr rfl dz.m dz.k dz.b .nil jQ (jA (pv 1) jB)) (jA jF jB))) (jC (kI (i:=3) qM.nd rfl (by walk_at"o") (jJ aw hr rfl af.m af.k af.b .nil jQ (jA (pv 0) (jA (jN qE (jR jX rfl M.len si (jA (pv 2) jB)) jD) jB)))) (jC (kI (i:=4) qM.nd rfl (by walk_at"o") (jJ oo hr rfl ik.m ik.k ik.b .nil jQ (jA (pv 0) jB))) (jC (kI (i:=5) qM.nd rfl (by walk_at"o") (jN vM (kN (jA (jT (jA (jJ fw hr rfl bf.m bf.k bf.b .nil jQ (jA (pv 2) (jA (pv 3) (jA (kN (jA (pv 4) jB)) jB)))) (jA (jT (jA jF (jA (pv 3) jB))) jB))) jB)) (jJ pq hr rfl jm.m jm.k jm.b .nil jQ (jA (pv 1) (jA (pv 2) jB))))) (jC (xB vg rfl (qL (jJ ml hr rfl fz.m fz.k fz.b .nil jQ (jA (pv 0) (jA (pv 1) jB)))) (zL rfl (kL (jV (i:=6) qM.nd rfl (sy rfl)) (kL (jV (i:=7) qM.nd rfl (sy rfl)) vL))) (jC (kU (qK qw rb rc kY (pv 5) (jA (jT (jA (qK sr ul uo vW jF (jA (jN vM (pv 2) (kN (jA (pv 6) jB))) jB)) (jA (jT (jA (jU kO (pv 7) jD (fun _ _=>rfl)) (jA (jR jX rfl M.len si (jA (pv 2) jB)) (jA (jU kO (pv 7) jD (fun _ _=>rfl)) jB)))) jB))) jB))) (jC (kU (qK qw rb rc kY (pv 5) (jA (jT (jA (qK sr ul uo vW jF (jA (jN vM (pv 2) (kN (jA (pv 6) (jA (pv 4) jB)))) jB)) (jA (jT (jA (jU kO (pv 7) jD (fun _ _=>rfl)) (jA (jR jX rfl M.len si (jA (pv 2) jB)) (jA (jU kO (pv 7) jD (fun _ _=>rfl)) jB)))) jB))) jB))) (jE (kU (qK qw rb rc kY (pv 5) (jA (jT (jA (qK sr ul uo vW jF (jA (jN vM (pv 2) (kN (jA (pv 4) (jA (pv 6) jB)))) jB)) (jA (jT (jA jF (jA (jR jX rfl M.len si (jA (pv 2) jB)) jB))) jB))) jB))))))) (jC (xB vg rfl (qL (pv 5)) (zL rfl (kL (jV (i:=8) qM.nd rfl (sy rfl)) (kL (jV (i:=7) qM.nd rfl (sy rfl)) vL))) (jE (kS (yM (xM (jJ px hr rfl il.m il.k il.b .nil jQ (jA (jJ ia hr rfl bp.m bp.k bp.b .nil jQ (jA (pv 8) jB)) (jA (pv 7) jB))))) (jE (jP fG)) jY))) (jC (xB vg rfl (qL (kN (jA bH (jA jD (jA fG (jA (kN (jA jF (jA jF jB))) (jA (jT (jA jF jB)) (jA aDb (jA jF jB kZ) aGg) aDd) aFc) kZ) kZ) kZ))) (jV (i:=9) qM.nd rfl (sy rfl)) (jE (kS (yM (xM (jJ px hr rfl il.m il.k il.b .nil jQ (jA (jJ ia hr rfl bp.m bp.k bp.b .nil jQ (jA (pv 9) jB)) (jA (jT (jA jF (jA jD jB))) jB))))) (jE (jP fG)) jY))) (jE (jP (qW aJh (jJ ia hr rfl bp.m bp.k bp.b .nil jQ (jA (qK sr ul uo vW jF (jA (pv 2) jB)) jB)) bH (kH _))))))))))),?_⟩;obtain⟨h30,_,h4k,hsp⟩:=lN hW hne;obtain⟨r30,rfine⟩:=yS hW hne;have hrl:(((kF S).map (qH S)).map V.str).length=(kF S).length:=by rw[ε,ε]
 have hpos:=zK hne;refine⟨_,rfl,sl,S,rfl,lx.same xW,hW,hne,fun H1 g1=>⟨rfl,_,_,rfl,rfl,rfl,(by rw[qx];omega),fun ll hll=>?_⟩⟩;clear 1 ll H2 g2 k2 hll;have k2':H2 ll=some (.lst (((kF S).map (qH S)).map V.str)):=by rw[k2];exact congrArg (fun z:List Str=>some (HO.lst (z.map V.str))) hsp
 have s2:=g1.trans g2;have nlp:ll≠p:=fun z=>by obtain⟨o,e⟩:=iA (jG.st3 g1 hst);rw[←z,hll]at e;cases e
 refine⟨_,rfl,_,rfl,ll,_,rfl,.inl (SqL.of k2'),_,_,rfl,rfl,p,_,rfl,(by rw[hrl];omega),(by rw[hrl];omega),jG.st3 s2 hst,fun v H3 hv d3=>?_⟩;rw[hrl]at hv;have D3:Drawn p H H3:=((Drawn.refl hst).keep s2).trans d3;have k3:=d3.2 ll _ nlp k2';refine⟨_,rfl,p,rfl,D3.1,fun ib H4 hib d4=>?_⟩;have D4:=D3.trans d4;have k4:=d4.2 ll _ nlp k3;have hbd : 10∉(bdT.getD ib Str.empty).cps.toList/\(bdT.getD ib Str.empty).length<=100:=(aAl ⟨ib,hib⟩).2.2.2.2;refine⟨_,rfl,_,rfl,_,rfl,bI,fun b0 hb0=>?_⟩;clear 1 b0 L0 gL0 kL0 hb0;refine⟨ll,b0,v,(kF S).map (qH S),[bdT.getD ib Str.empty],rfl,SqL.of (gL0 _ _ k4),SqL.of kL0,(by rw[ε];omega),(by rw[ε];omega),by show 1<=100;decide,(fun x hx=>by rcases rn.mp hx with hx|hx;exact(rfine x hx).2;rw[τ.mp hx];exact hbd.2),fun P0 gP0=>?_⟩;refine⟨_,rfl,qA,fun t0 ht0=>?_⟩;clear 1 t0 A0 gA0 kA0 ht0;refine⟨qA,fun u0 hu0=>?_⟩;clear 1 u0 B0 gB0 kB0 hu0;refine⟨bI,fun a0 ha0=>?_⟩;clear 1 a0 C0 gC0 kC0 ha0;have g40:=(((gL0.trans gP0).trans gA0).trans gB0).trans gC0;have D0:Drawn p H C0:=D4.keep g40;have o0:jG (offs [p] H) C0:=(D0.offs (by simp)).trans xW;refine⟨_,rfl,_,rfl,sl,ll,S,rfl,lx.same o0,SqL.of (g40 _ _ k4),hW,hne,hC,fun l2 ps H5 g5 hl2 kl2 hF hps=>?_⟩;refine⟨a0,l2,_,_,rfl,rfl,SqL.of (g5 _ _ kC0),SqL.of kl2,(by rw[ε,qx];show 1+_<=_;omega),fun fl hfl=>?_⟩;clear 1 fl H6 gH6 kH6 hfl;have D5:Drawn p H H5:=D0.keep g5;have D6:Drawn p H H6:=D5.keep gH6;have hflH:H fl=none:=D5.free hfl;have nfp:fl≠p:=fun z=>by obtain⟨o,e⟩:=iA D5.1;rw[←z,hfl]at e;cases e
 have kll5:=g5 _ _ (g40 _ _ k4);have kll6:=gH6 _ _ kll5;have nll:ll≠fl:=jK kll5 hfl;have kfl6:H6 fl=some (.lst ((u0::ps).map V.ref)):=kH6;have Fp6:∀a∈u0::ps,Fp K H6 a:=fun a ha=>by
  rcases ξ.mp ha with rfl|ha
  ·exact⟨_,t0,0,v,Str.empty,S,v,_,gH6 _ _ (g5 _ _ (gC0 _ _ kB0)),sI (gH6 _ _ (g5 _ _ (gC0 _ _ (gB0 _ _ kA0)))) rfl,aBn hW hne (by omega) hib⟩
  ·exact(hF a ha).same gH6
 refine⟨_,rfl,_,rfl,p,sl,S,rfl,D6.1,lx.same (D6.offs (by simp)),hW,hne,hC,fun ql qs E0 dE hql kql hFq hqs=>?_⟩;have DE:Drawn p H E0:=D6.trans dE;have kfE:=dE.2 fl _ nfp kfl6;have klE:=dE.2 ll _ nlp kll6;have FE:FL K E0 E0 fl (u0::ps):=⟨But.refl,kfE,fun a ha=>(Fp6 a ha).drawn dE D6.1⟩;have nql:ql≠fl:=fun z=>by rw[z,kfl6]at hql;cases hql
 refine⟨ql,rfl,⟨_,SqL.of kql⟩,xF (xs:=qs.map V.ref) (fun i σ G=>∃o6 o7 o8 o9 us,σ = [some (.ref p),some (.ref sl),some (.ref ll),some (.int v),some (.str (bdT.getD ib Str.empty)),some (.ref fl),o6,o7,o8,o9]/\FL K E0 G fl us/\us.length<=61+3*i) ⟨_,_,_,_,_,rfl,FE,by rw[υ];omega⟩ (fun i σ G _ z=>?_) (fun i x σ W1 hx z=>?_) (fun σ Y z=>?_)⟩
 ·obtain⟨o6,o7,o8,o9,us,rfl,Fz,_⟩:=z;exact SqL.of (Fz.1 _ _ nql kql)
 ·obtain⟨o6,o7,o8,o9,us,rfl,Fz,hus⟩:=z;obtain⟨a,haj,rfl⟩:=qJ hx;have hi:i<qs.length:=(η.mp haj).1;obtain⟨b,k,y,bw,h1,h2,hLo,hln,hsh,hfb,hk⟩:=hFq a (ψ haj);have hk3:k<3:=by omega
  have klW:=Fz.1 _ _ nll klE;have h2W:=cW Fz.1 kfE h2;have h1W:=Fz.1 a _ (fun e=>by rw[e,kfE]at h1;cases h1) h1;refine⟨a,_,rfl,SqT.of h1W,rfl,_,_,rfl,_,_,rfl,rfl,?_⟩;refine⟨_,rfl,.inl ⟨rfl,_,SqL.of Fz.2.1⟩,rfl,_,rfl,_,rfl,bI,fun b1 hb1=>?_⟩;clear 1 b1 L1 gL1 kL1 hb1;refine⟨ll,b1,_,([π spS bw]:List Str).map V.str,rfl,rfl,SqL.of (gL1 _ _ klW),SqL.of kL1,(by rw[hrl,qx];show _+1<=_;omega),fun c1 hc1=>?_⟩;clear 1 c1 P1 gP1 kP1 hc1;rw[←ν]at kP1;refine⟨_,c1,(kF S).map (qH S)++[π spS bw],rfl,rfl,SqL.of kP1,jbd (fun x hx=>by rcases rn.mp hx with hx|hx;exact(rfine x hx).2; (rw[τ.mp hx];exact hln.2)) (by rw[ζ,ε];show _+1<=_;omega),?_⟩;refine⟨_,rfl,b,_,_,_,rfl,rfl,(gL1.trans gP1).tp h2W,rfl,_,rfl,ll,_,rfl,.inl (SqL.of (gP1 _ _ (gL1 _ _ klW))),_,rfl,b,_,_,_,rfl,rfl,(gL1.trans gP1).tp h2W,rfl,cI,fun t1 ht1=>?_⟩;clear 1 t1 A1 gA1 kA1 ht1;refine⟨qA,fun u1 hu1=>?_⟩;clear 1 u1 B1 gB1 kB1 hu1;have F1:=(Fz.same (((gL1.trans gP1).trans gA1).trans gB1)).app kB1 (gB1 _ _ kA1 |> fun z=>due1 z hk (by rw[hrl])) (dD hW hne hLo (rest:=[]) (by decide) (fun x hx=>by rw[τ.mp hx];exact hln) (.inr ⟨hsh,hk3,hfb⟩));refine⟨fl,_,_,rfl,rfl,(Fz.same (((gL1.trans gP1).trans gA1).trans gB1)).2.1,(by rw[ε,qx];omega),?_⟩;generalize ec1:upd B1 fl _=C1 at F1 ⊢;have kl1:=F1.1 _ _ nll klE;have h21:=cW F1.1 kfE h2;refine⟨_,rfl,.inl ⟨rfl,_,SqL.of F1.2.1⟩,rfl,_,rfl,_,rfl,_,rfl,qA,fun b2 hb2=>?_⟩;clear 1 b2 L2 gL2 kL2 hb2;refine⟨ll,b2,_,([π spS bw,bdT.getD ib Str.empty]:List Str).map V.str,rfl,rfl,SqL.of (gL2 _ _ kl1),SqL.of kL2,(by rw[hrl,qx];show _+2<=_;omega),fun c2 hc2=>?_⟩;clear 1 c2 P2 gP2 kP2 hc2;rw[←ν]at kP2;refine⟨_,c2,(kF S).map (qH S)++[π spS bw,bdT.getD ib Str.empty],rfl,rfl,SqL.of kP2,jbd (fun x hx=>by rcases rn.mp hx with hx|hx;exact(rfine x hx).2; (simp only[ξ,Δ,or_false]at hx;rcases hx with rfl|rfl;exact hln.2;exact hbd.2)) (by rw[ζ,ε];show _+2<=_;omega),?_⟩;refine⟨_,rfl,b,_,_,_,rfl,rfl,(gL2.trans gP2).tp h21,rfl,_,rfl,ll,_,rfl,.inl (SqL.of (gP2 _ _ (gL2 _ _ kl1))),_,rfl,b,_,_,_,rfl,rfl,(gL2.trans gP2).tp h21,rfl,cI,fun t2 ht2=>?_⟩;clear 1 t2 A2 gA2 kA2 ht2;refine⟨qA,fun u2 hu2=>?_⟩;clear 1 u2 B2 gB2 kB2 hu2;have F2:=(F1.same (((gL2.trans gP2).trans gA2).trans gB2)).app kB2 (gB2 _ _ kA2 |> fun z=>due1 z hk (by rw[hrl])) (dD hW hne hLo (rest:=[bdT.getD ib Str.empty]) (by show 1<=59;decide) (fun x hx=>by simp only[ξ,Δ,or_false]at hx;rcases hx with rfl|rfl;exact hln;exact hbd) (.inr ⟨hsh,hk3,hfb⟩));refine⟨fl,_,_,rfl,rfl,(F1.same (((gL2.trans gP2).trans gA2).trans gB2)).2.1,(by rw[ε,qx];rw[ζ];show _+1<_;omega),?_⟩;generalize ec2:upd B2 fl _=C2 at F2 ⊢;have kl2':=F2.1 _ _ nll klE;have h22:=cW F2.1 kfE h2;refine⟨_,rfl,.inl ⟨rfl,_,SqL.of F2.2.1⟩,rfl,_,rfl,_,rfl,_,rfl,qA,fun b3 hb3=>?_⟩;clear 1 b3 L3 gL3 kL3 hb3;refine⟨ll,b3,_,([bdT.getD ib Str.empty,π spS bw]:List Str).map V.str,rfl,rfl,SqL.of (gL3 _ _ kl2'),SqL.of kL3,(by rw[hrl,qx];show _+2<=_;omega),fun c3 hc3=>?_⟩;clear 1 c3 P3 gP3 kP3 hc3;rw[←ν]at kP3;refine⟨_,c3,(kF S).map (qH S)++[bdT.getD ib Str.empty,π spS bw],rfl,rfl,SqL.of kP3,jbd (fun x hx=>by rcases rn.mp hx with hx|hx;exact(rfine x hx).2; (simp only[ξ,Δ,or_false]at hx;rcases hx with rfl|rfl;exact hbd.2;exact hln.2)) (by rw[ζ,ε];show _+2<=_;omega),?_⟩;refine⟨_,rfl,ll,_,rfl,.inl (SqL.of (gP3 _ _ (gL3 _ _ kl2'))),qA,fun t3 ht3=>?_⟩;clear 1 t3 A3 gA3 kA3 ht3;refine⟨qA,fun u3 hu3=>?_⟩;clear 1 u3 B3 gB3 kB3 hu3;have F3:=(F2.same (((gL3.trans gP3).trans gA3).trans gB3)).app kB3 (gB3 _ _ kA3 |> fun z=>sI z (by rw[hrl])) (aEm (rest:=[π spS bw]) hW hne hib (by show 1<=59;decide) (fun x hx=>by rw[τ.mp hx];exact hln));refine⟨fl,_,_,rfl,rfl,(F2.same (((gL3.trans gP3).trans gA3).trans gB3)).2.1,(by rw[ε,qx];rw[ζ,ζ];show _+1+1<_;omega),?_⟩;generalize ec3:upd B3 fl _=C3 at F3 ⊢;have kl3:=F3.1 _ _ nll klE;have h23:=cW F3.1 kfE h2;exact⟨_,_,_,_,_,rfl,F3,by rw[ζ,ζ,ζ];show _+1+1+1<=_;omega⟩
 obtain⟨o6,o7,o8,o9,us,rfl,Fy,hus⟩:=z;have DY:Drawn p H Y:=DE.but Fy.1 hflH nfp;refine⟨_,rfl,fl,rfl,⟨_,SqL.of Fy.2.1⟩,xF (xs:=us.map V.ref) (fun i σ G=>∃o6 o7 o8 o9,σ = [some (.ref p),some (.ref sl),some (.ref ll),some (.int v),some (.str (bdT.getD ib Str.empty)),some (.ref fl),o6,o7,o8,o9]/\jG Y G) ⟨_,_,_,_,rfl,jG.refl _⟩ (fun i σ G _ z=>?_) (fun i x σ G hx z=>?_) (fun σ Z0 z=>?_)⟩
 ·obtain⟨o6,o7,o8,o9,rfl,g⟩:=z;exact SqL.of (g _ _ Fy.2.1)
 ·obtain⟨o6,o7,o8,o9,rfl,g⟩:=z;obtain⟨a,haj,rfl⟩:=qJ hx;obtain⟨tx,b,k,n,y,S',j,tail,m1,m2,m3⟩:=(Fy.2.2 a (ψ haj)).same g;exact⟨a,_,rfl,SqT.of m1,rfl,_,_,rfl,_,_,rfl,rfl,_,rfl,.str tx,rfl,.inr (.inr ⟨tx,k,n,y,S',j,tail,rfl,m3,fun t' G1 g1 ht'=>⟨_,rfl,t',b,k,n,y,rfl,ht',g1.tp m2,_,rfl,kW (by decide) ⟨_,_,_,_,rfl,g.trans g1⟩⟩⟩)⟩
 obtain⟨o6,o7,o8,o9,rfl,gZ⟩:=z;refine⟨qA,fun la hla=>?_⟩;clear 1 la Z1 gZ1 kZ1 hla;refine⟨bI,fun ta hta=>?_⟩;clear 1 ta Z2 gZ2 kZ2 hta;intro da hda;clear 1 da Z3 gZ3 kZ3 hda;refine⟨(by show 7<=ρ;decide),fun xl hxl=>?_⟩;clear 1 xl Z4 gZ4 kZ4 hxl;have gYZ:=(((gZ.trans gZ1).trans gZ2).trans gZ3).trans gZ4;have hty:∀x∈[V.non,.int 5,.bl true,.ref la,.ref ta,.ref da,.str (δ "")],(∃t,tyA K x Z4 t/\t ≠ "str")\/x=.str (δ ""):=fun x hx=>by
  simp only[ξ,Δ,or_false]at hx;rcases hx with rfl|rfl|rfl|rfl|rfl|rfl|rfl
  ·exact .inl ⟨"NoneType",.inl rfl,by decide⟩
  ·exact .inl ⟨"int",.inl rfl,by decide⟩
  ·exact .inl ⟨"bool",.inl rfl,by decide⟩
  ·exact .inl ⟨"list",.inl (.inl ⟨rfl,_,SqL.of (gZ4 _ _ (gZ3 _ _ (gZ2 _ _ kZ1)))⟩),by decide⟩
  ·exact .inl ⟨"tuple",.inl (.inr ⟨rfl,_,SqT.of (gZ4 _ _ (gZ3 _ _ kZ2))⟩),by decide⟩
  ·exact .inl ⟨"dict",.inr ⟨rfl,da,_,rfl,gZ4 _ _ kZ3⟩,by decide⟩
  ·exact .inr rfl
 refine⟨xl,rfl,⟨_,SqL.of kZ4⟩,xF (xs:=[V.non,.int 5,.bl true,.ref la,.ref ta,.ref da,.str (δ "")]) (fun i σ G=>∃o6 o7 o8 o9,σ = [some (.ref p),some (.ref sl),some (.ref ll),some (.int v),some (.str (bdT.getD ib Str.empty)),some (.ref fl),o6,o7,o8,o9]/\jG Z4 G) ⟨_,_,_,_,rfl,jG.refl _⟩ (fun i σ G _ z=>?_) (fun i x σ G hx z=>?_) (fun σ G z=>?_)⟩
 ·obtain⟨o6,o7,o8,o9,rfl,g⟩:=z;exact SqL.of (g _ _ kZ4)
 ·obtain⟨o6,o7,o8,o9,rfl,g⟩:=z;have fin:∀(t':Addr) (G1:Hp),jG G G1->SqT K G1 t' (eE 0 0 Str.empty)->∀t2,G1 t2=none->∃(t d:Addr) (k n:Nat) (y:Str),[V.ref t',V.ref t2]=[.ref t,.ref d]/\SqT K (upd G1 t2 (.tup [.str (δ "none"),.int 0])) t (eE k n y)/\SqT K (upd G1 t2 (.tup [.str (δ "none"),.int 0])) d (eE k n y)/\jG Z4 (upd G1 t2 (.tup [.str (δ "none"),.int 0])):=fun t' G1 g1 ht' t2 ht2=>by
   generalize e:upd G1 t2 _=G2;obtain⟨g2,k2⟩:=kM e ht2;exact⟨t',t2,0,0,Str.empty,rfl,g2.tp ht',sI k2 rfl,(g.trans g1).trans g2⟩
  refine⟨_,rfl,x,rfl,?_⟩;rcases hty x (ψ hx) with⟨t,ht,hns⟩|rfl
  ·refine .inr (.inl ⟨t,jG.tyA g ht,hns,fun t' G1 g1 ht'=>⟨qA,fun t2 ht2=>?_⟩⟩);obtain⟨ta',d',k',n',y',e',s1,s2,s3⟩:=fin t' G1 g1 ht' t2 ht2;exact⟨ta',d',k',n',y',e',s1,s2,_,rfl,kW (by decide) ⟨_,_,_,_,rfl,s3⟩⟩
  ·refine .inr (.inr ⟨_,0,0,Str.empty,S,0,_,rfl,uK hW hne,fun t' G1 g1 ht'=>⟨qA,fun t2 ht2=>?_⟩⟩);obtain⟨ta',d',k',n',y',e',s1,s2,s3⟩:=fin t' G1 g1 ht' t2 ht2;exact⟨ta',d',k',n',y',e',s1,s2,_,rfl,kW (by decide) ⟨_,_,_,_,rfl,s3⟩⟩
 obtain⟨o6,o7,o8,o9,rfl,g⟩:=z;have gYG:=gYZ.trans g;have klG:=gYG _ _ (Fy.1 _ _ nll klE);exact⟨rfl,_,rfl,_,ll,(kF S).map (qH S),rfl,rfl,SqL.of klG,jbd (fun x hx=>(rfine x hx).2) (by omega),_,rfl,.inl ⟨S,rfl,hW,hne,fun G1 g1=>⟨rfl,q G1 ((DY.keep gYG).keep g1)⟩⟩⟩
theorem aHl{k r:Nat}(hR : 12<=r/\8*r<=200)(F:Fun K "law" "law" aEl f fd){og:Addr}{nh:sq}(kj:Df K mg "_law_cell" og nh ["_law_script","_law_k"])(qm:jI P w K mg base CX0 k og nh ["_law_script","_law_k"] (aCg K)){ou:Addr}{oh:sq}(mm:Df K mg "_law_box" ou oh ["_law_cell_here"])(qr:jI P w K mg base CX0 k ou oh ["_law_cell_here"] aGr){mn:Addr}{li:sq}(jo:Df K mg "_law_shapes" mn li ["_law_box_here","_law_most"])(pz:jI P w K mg base CX0 k mn li ["_law_box_here","_law_most"] (spSh K r)){gx:Addr}{gk:sq}(dz:Df K mg "_law_text" gx gk ["_law_shapes_here"])(ki:jI P w K mg base CX0 k gx gk ["_law_shapes_here"] (spTx K)){gz:Addr}{gm:sq}(bp:Df K mg "_law_told" gz gm ["_law_thing"])(ia:jI P w K mg base CX0 k gz gm ["_law_thing"] (aEn K)){nj:Addr}{mq:sq}(jx:Df K mg "_law_right" nj mq ["_law_box_here","_law_shapes_here"])(qg:jI P w K mg base CX0 k nj mq ["_law_box_here","_law_shapes_here"] (aHi K)):jI P w K mg base CX0 (k+2) f fd ["_law_script"] (aAd K):=by
 w_cond oQ;obtain⟨a,ns,rfl,hS,hlen,q⟩:=h;refine⟨_,(jC (xB vg rfl (vF rfl M.range (jA (jR (nX rfl) rfl M.max boot_max (jA jD (jA (jR (nY rfl) rfl M.min boot_min (jA (jR jX rfl M.len si (jA (pv 0) jB)) (jA jD jB))) jB))) jB)) (jV (i:=1) oQ.nd rfl (sy rfl)) (jC (kI (i:=2) oQ.nd rfl (by walk_at"o") (jJ qr hr rfl mm.m mm.k mm.b .nil jQ (jA (jJ qm hr rfl kj.m kj.k kj.b .nil jQ (jA (pv 0) (jA (pv 1) jB))) jB))) (jC (kI (i:=3) oQ.nd rfl (by walk_at"o") (jJ pz hr rfl jo.m jo.k jo.b .nil jQ (jA (pv 2) (jA jD jB)))) (jE (kS (PW.pt (oF (kJ pE (jJ ia hr rfl bp.m bp.k bp.b .nil jQ (jA (jJ ki hr rfl dz.m dz.k dz.b .nil jQ (jA (pv 3) jB)) jB)) bH (kH _)) (fU (yM (xM (jJ qg hr rfl jx.m jx.k jx.b .nil jQ (jA (pv 2) (jA (pv 3) jB)))))))) (jE (jP fG)) jY))))) (jE (jP fG))),?_⟩;have hl:(ns.map V.int).length=ns.length:=ε _;refine⟨_,rfl,a,_,rfl,.inl hS,_,_,rfl,_,_,rfl,_,rfl,?_,?_,?_⟩
 ·rw[hl];split <;> split <;> omega
 ·rw[hl];split <;> split <;> omega
 refine cU (fun i σ H'=>∃o1 o2 o3,σ = [some (.ref a),o1,o2,o3]/\jG H H') ⟨_,_,_,rfl,jG.refl _⟩ (fun i σ H' hi z=>?_) (fun σ H' z=>?_)
 ·obtain⟨o1,o2,o3,rfl,g⟩:=z;have hi15:i<15:=by
   refine ω hi ?_;rw[hl];split <;> split <;> omega
  refine⟨_,rfl,_,rfl,a,ns,_,rfl,g.seq hS,by omega,by omega,fun v=>⟨v,rfl,fun p H1 hp d1=>?_⟩⟩;refine⟨_,rfl,p,rfl,d1.1,hR.1,hR.2,fun l S H2 d2 hl2 lx hW hne hC=>?_⟩;refine⟨_,rfl,l,S,rfl,lx.same xW,hW,hne,fun H3 g3=>⟨_,rfl,.inl ⟨S,congrArg V.str (tH S),hW,hne,fun H4 g4=>⟨rfl,_,rfl,kW (by decide) ?_⟩⟩⟩⟩;have g34:=g3.trans g4;refine⟨_,rfl,_,rfl,p,l,S,rfl,jG.st3 g34 d2.1,lx.same (qD g34),hW,hne,hC,fun H5 d5=>⟨_,rfl,kW (by decide) ⟨_,_,_,rfl,g.trans ((d1.trans ((d2.keep g34).trans d5)).same hp)⟩⟩⟩
 ·exact q H'
end
end K12
namespace K12
open PySem L2 PyProof.Rows
set_option hygiene false in
local macro_rules | `(tactic| walk_at"b1") => `(tactic| exact fun _ _ _ _ _ _ us hl => by obtain ⟨a0, rfl⟩ := ls1 hl;rfl)
set_option hygiene false in
local macro_rules | `(tactic| walk_at"b2") => `(tactic| exact fun _ _ _ _ _ _ us hl => by obtain ⟨a0, a1, rfl⟩ := ls2 hl;rfl)
set_option hygiene false in
local macro_rules | `(tactic| walk_at"b3") => `(tactic| exact fun _ _ _ _ _ _ us hl => by obtain ⟨a0, a1, a2, rfl⟩ := ls3 hl;rfl)
theorem ls1{us:List Value}(h:us.length=1):∃a0,us=[a0]:=by
 cases us with
 |nil=>cases h
 |cons a0 us =>
  cases us with
  |nil=>exact⟨a0,rfl⟩
  |cons _ us=>simp only[υ]at h;omega
theorem ls2{us:List Value}(h:us.length=2):∃a0 a1,us=[a0,a1]:=by
 cases us with
 |nil=>cases h
 |cons a0 us =>
  cases us with
  |nil=>cases h
  |cons a1 us =>
   cases us with
   |nil=>exact⟨a0,a1,rfl⟩
   |cons _ us=>simp only[υ]at h;omega
theorem ls3{us:List Value}(h:us.length=3):∃a0 a1 a2,us=[a0,a1,a2]:=by
 cases us with
 |nil=>cases h
 |cons a0 us =>
  cases us with
  |nil=>cases h
  |cons a1 us =>
   cases us with
   |nil=>cases h
   |cons a2 us =>
    cases us with
    |nil=>exact⟨a0,a1,a2,rfl⟩
    |cons _ us=>simp only[υ]at h;omega
theorem mO{K:Ξ}{k:Nat}(h:jI P w K mg base CX j f fd ps sp)(hk:j<=k:=by decide):jI P w K mg base CX k f fd ps sp:=jI.mono h hk
structure FG (K:Ξ) (n:Str) (s:Stmt) (f:Addr):Prop where
 a:nsIn K Ψ n=some (some (.ref f))
 l:∃fd,Fun K n n s f fd
structure FM (K:Ξ) (C:Addr) (n q:Str) (s:Stmt) (f:Addr):Prop where
 a:uv K (.ref C) n=some (some (.ref f))
 i:isFn K (.ref f)=true
 l:∃fd,Fun K n q s f fd
structure CK (K:Ξ) (n:Str) (C:Addr) (as:List Str):Prop where
 g:nsIn K Ψ n=some (some (.ref C))
 c:Cls K C
 m:PySem.W.makesIn K C=true
 k:keepIn K (.ref C)=true
 n:∀a∈as,zC K C a
section
variable {K:Ξ}{h:vn}{mg:Str->Option Value}{n q:Str}{s:Stmt}{f C:Addr}{as:List Str}
theorem FG.o(X:K.In h)(G:h.Ns Ψ mg)(A:FG K n s f)(ps:List Str)(b:∀(kV doc pm:Value) (an:Option Addr) (cdv ct:Value) (us:List Value),us.length=ps.length->bindArgs (fnOf n n (aQ s) (xR s) (jH s) .none kV doc pm an cdv ct) ⟨us,[]⟩=pure (ps.zip us)):∃fd,Fun K n n s f fd/\Df K mg n f fd ps:=A.l.elim fun fd F=>⟨fd,F,mg_of X G A.a,F.kp,F.binds b⟩
theorem FM.o(A:FM K C n q s f)(ps:List Str)(b:∀(kV doc pm:Value) (an:Option Addr) (cdv ct:Value) (us:List Value),us.length=ps.length->bindArgs (fnOf n q (aQ s) (xR s) (jH s) .none kV doc pm an cdv ct) ⟨us,[]⟩=pure (ps.zip us)):∃fd,Fun K n q s f fd/\DfM K C n f fd ps:=A.l.elim fun fd F=>⟨fd,F,⟨A.a,A.i,F.kp⟩,F.binds b⟩
theorem FM.j(A:FM K C n q s f)(ps:List Str)(b:∀(kV doc pm:Value) (an:Option Addr) (cdv ct:Value) (us:List Value),us.length=ps.length->bindArgs (fnOf n q (aQ s) (xR s) (jH s) .none kV doc pm an cdv ct) ⟨us,[]⟩=pure (ps.zip us)):∃fd,Fun K n q s f fd/\DfI K fd ps:=A.l.elim fun fd F=>⟨fd,F,⟨F.binds b⟩⟩
theorem CK.o(X:K.In h)(G:h.Ns Ψ mg)(A:CK K n C as)(I:FM K C "__init__" q s f):uZ K mg n C f as:=⟨mg_of X G A.g,A.c,⟨A.m,I.a,I.i,A.k⟩,A.n⟩
theorem na0:∀a∈([]:List Str),zC K C a:=fun _ h=>nomatch h
theorem na1(h:uv K (.ref C) n=some none)(r:∀a∈as,zC K C a):∀a∈n::as,zC K C a:=fun a m=>(ξ.mp m).elim (fun e=>e▸h) (r a)
end
theorem all_mk{l:PySem.W.OpenLaw}{K:Ξ}{mg:Str->Option Value}(X:K.In h)(G:h.Ns Ψ mg)(hfa:mg "law" = some (.ref fa)){odt:Option Addr}{slt:Array (Option Value)}
 (cNum:CK K "Num" Va ["width"])
 (cNested:CK K "Nested" Vb ["shape"])
 (cMany:CK K "Many" Vc ["count","kind"])
 (cPick:CK K "Pick" Vd ["shapes"])
 (cShape:CK K "Shape" Ve ["name","fields"])
 (cShapes:CK K "Shapes" Vf ["shapes"])
  (g_RoomError:nsIn K Ψ "RoomError" = some (some (.ref cRE)))
  (g_NamedTwice:nsIn K Ψ "NamedTwice" = some (some (.ref ac)))
  (g_NoShapes:nsIn K Ψ "NoShapes" = some (some (.ref ah)))
  (g_TooMuch:nsIn K Ψ "TooMuch" = some (some (.ref ap)))
  (g_UnknownShape:nsIn K Ψ "UnknownShape" = some (some (.ref aa)))
 (a0:FM K cRE "__init__" "RoomError.__init__" xT f0)
 (a1:FM K ah "__init__" "NoShapes.__init__" yH f1)
 (a2:FM K aa "__init__" "UnknownShape.__init__" xA f2)
 (a3:FM K ac "__init__" "NamedTwice.__init__" xQ f3)
 (a4:FM K ap "__init__" "TooMuch.__init__" yW f4)
 (a5:FG K "is_name" gJ f5)
 (a6:FG K "is_text_of" bJ f6)
 (a7:FG K "number_in" cF f7)
 (a8:FG K "joined" lF f8)
 (a9:FM K Vb "units_at" "Kind.units_at" yE f9)
 (a10:FM K Va "__init__" "Num.__init__" dW f10)
 (a11:FM K Va "size" "Num.size" eA f11)
 (a12:FM K Va "depth" "Num.depth" bZ f12)
 (a13:FM K Va "units_at" "Num.units_at" yX f13)
 (a14:FM K Vb "__init__" "Nested.__init__" zQ f14)
 (a15:FM K Vb "size" "Nested.size" zV f15)
 (a16:FM K Vb "depth" "Nested.depth" yV f16)
 (a17:FM K Vb "parted" "Nested.parted" yF f17)
 (a18:FM K Vc "__init__" "Many.__init__" cM f18)
 (a19:FM K Vc "size" "Many.size" bX f19)
 (a20:FM K Vc "depth" "Many.depth" bG f20)
 (a21:FM K Vc "parted" "Many.parted" zP f21)
 (a22:FM K Vd "__init__" "Pick.__init__" bT f22)
 (a23:FM K Vd "size" "Pick.size" cJ f23)
 (a24:FM K Vd "greatest" "Pick.greatest" yI f24)
 (a25:FM K Vd "depth" "Pick.depth" aZ f25)
 (a26:FM K Vd "units_at" "Pick.units_at" yD f26)
 (a27:FM K Ve "__init__" "Shape.__init__" bA f27)
 (a28:FM K Ve "size" "Shape.size" aV f28)
 (a29:FM K Ve "depth" "Shape.depth" zS f29)
 (a30:FM K Ve "units" "Shape.units" zT f30)
 (a31:FM K Vf "__init__" "Shapes.__init__" zM f31)
 (a32:FG K "read_shapes" zN f32)
 (a33:FG K "is_shape_line" yC f33)
 (a34:FG K "is_field_line" yG f34)
 (a35:FG K "is_kind" fO f35)
 (a36:FG K "is_single" cR f36)
 (a37:FG K "need_new_shape" xV f37)
 (a38:FG K "need_field" bB f38)
 (a39:FG K "shapes_named" yY f39)
 (a40:FG K "whole_shapes" zB f40)
 (a41:FG K "with_field" bF f41)
 (a42:FG K "kind_in" gN f42)
 (a43:FG K "is_too_much" zR f43)
 (a44:FG K "_law_cell" eB f44)
 (a45:FG K "_law_box" gP f45)
 (a46:FG K "_law_take" eC f46)
 (a47:FG K "_law_names" cG f47)
 (a48:FG K "_law_size" dZ f48)
 (a49:FG K "_law_units" cH f49)
 (a50:FG K "_law_joined" aR f50)
 (a51:FG K "_law_depth" cE f51)
 (a52:FG K "_law_kind" eI f52)
 (a53:FG K "_law_fits" dN f53)
 (a54:FG K "_law_shapes" aX f54)
 (a55:FG K "_law_kind_text" yL f55)
 (a56:FG K "_law_text" eH f56)
 (a57:FG K "_law_told" eF f57)
 (a58:FG K "_law_is" lD f58)
 (a59:FG K "_law_bad_line" vU f59)
 (a60:FG K "_law_put_in" bK f60)
 (a61:FG K "_law_field_faults" xK f61)
 (a62:FG K "_law_places" aS f62)
 (a63:FG K "_law_right" cO f63)
 (a64:FG K "law" aEl f64)
  (xo_RoomError:K.lookup cRE=some (dY xn0 xq0 cRE xN0 xb0 VB true xl0 xs0 xa0 xc0 xd0 x00 x10 x20 x30 x50))
  (xk_RoomError:keepIn K (.ref cRE)=true)
  (xr:PySem.W.readsIn K cRE (.type "type")=true)
  (xf:PySem.W.findCls K (.ref cRE) (.type "type") "__init__" = some (.val (.ref f0)))
  (xp:Az K (.ref cRE) "__getattribute__" = some (some (.builtin "type.__getattribute__")))
  (xo_NamedTwice:K.lookup ac=some (dY xn1 xq1 ac xN1 xb1 (.ref cRE::VB) true xl1 xs1 xa1 xc1 xd1 x01 x11 x21 x31 x51))
  (xk_NamedTwice:keepIn K (.ref ac)=true)
  (xn_NamedTwice:Ay K xN1=true)
  (xi_NamedTwice:nsIn K xN1 "__init__" = some (some (.ref f3)))
  (xs_NamedTwice:uv K (.ref ac) "__setattr__" = some (some (.builtin "object.__setattr__")))
  (xg_NamedTwice:uv K (.ref ac) "__getattribute__" = some (some (.builtin "BaseException.__getattribute__")))
  (xh_NamedTwice:uv K (.ref ac) "__getattr__" = some none)
  (n_NamedTwice_line:uv K (.ref ac) "line" = some none)
  (n_NamedTwice_name:uv K (.ref ac) "name" = some none)
  (xo_NoShapes:K.lookup ah=some (dY xn2 xq2 ah xN2 xb2 (.ref cRE::VB) true xl2 xs2 xa2 xc2 xd2 x02 x12 x22 x32 x52))
  (xk_NoShapes:keepIn K (.ref ah)=true)
  (xn_NoShapes:Ay K xN2=true)
  (xi_NoShapes:nsIn K xN2 "__init__" = some (some (.ref f1)))
  (xs_NoShapes:uv K (.ref ah) "__setattr__" = some (some (.builtin "object.__setattr__")))
  (xg_NoShapes:uv K (.ref ah) "__getattribute__" = some (some (.builtin "BaseException.__getattribute__")))
  (xh_NoShapes:uv K (.ref ah) "__getattr__" = some none)
  (n_NoShapes_line:uv K (.ref ah) "line" = some none)
  (xo_TooMuch:K.lookup ap=some (dY xn3 xq3 ap xN3 xb3 (.ref cRE::VB) true xl3 xs3 xa3 xc3 xd3 x03 x13 x23 x33 x53))
  (xk_TooMuch:keepIn K (.ref ap)=true)
  (xn_TooMuch:Ay K xN3=true)
  (xi_TooMuch:nsIn K xN3 "__init__" = some (some (.ref f4)))
  (xs_TooMuch:uv K (.ref ap) "__setattr__" = some (some (.builtin "object.__setattr__")))
  (xg_TooMuch:uv K (.ref ap) "__getattribute__" = some (some (.builtin "BaseException.__getattribute__")))
  (xh_TooMuch:uv K (.ref ap) "__getattr__" = some none)
  (n_TooMuch_line:uv K (.ref ap) "line" = some none)
  (xo_UnknownShape:K.lookup aa=some (dY xn4 xq4 aa xN4 xb4 (.ref cRE::VB) true xl4 xs4 xa4 xc4 xd4 x04 x14 x24 x34 x54))
  (xk_UnknownShape:keepIn K (.ref aa)=true)
  (xn_UnknownShape:Ay K xN4=true)
  (xi_UnknownShape:nsIn K xN4 "__init__" = some (some (.ref f2)))
  (xs_UnknownShape:uv K (.ref aa) "__setattr__" = some (some (.builtin "object.__setattr__")))
  (xg_UnknownShape:uv K (.ref aa) "__getattribute__" = some (some (.builtin "BaseException.__getattribute__")))
  (xh_UnknownShape:uv K (.ref aa) "__getattr__" = some none)
  (n_UnknownShape_line:uv K (.ref aa) "line" = some none)
  (n_UnknownShape_name:uv K (.ref aa) "name" = some none)
  (vi1:uv K (.type "type") "__getattribute__" = some (some (.builtin "type.__getattribute__")))
  (vi2:PySem.W.subIn K (.type "type") (.type "type")=some true)
  (vi3:PySem.W.findCls K (.type "ValueError") (.type "type") "__init__" = some (.val (.builtin "ValueError.__init__")))
  (z0:nsIn K Ψ "range" = some none)
  (z1:nsIn K Ψ "len" = some none)
  (z2:nsIn K Ψ "isinstance" = some none)
  (z3:nsIn K Ψ "int" = some none)
  (z4:nsIn K Ψ "bool" = some none)
  (z5:nsIn K Ψ "list" = some none)
  (z6:nsIn K Ψ "all" = some none)
  (z7:nsIn K Ψ "max" = some none)
  (z8:nsIn K Ψ "min" = some none)
  (z9:nsIn K Ψ "reversed" = some none)
  (z10:nsIn K Ψ "tuple" = some none)
  (z11:nsIn K Ψ "divmod" = some none)
  (z12:nsIn K Ψ "str" = some none)
  (z13:nsIn K Ψ "sum" = some none)
  (z14:nsIn K Ψ "zip" = some none)
  (z15:nsIn K Ψ "enumerate" = some none)
  (z16:nsIn K Ψ "dict" = some none)
  (z17:nsIn K Ψ "ValueError" = some none)
  (z18:nsIn K Ψ "repr" = some none)
  (v1:nsIn K Ψ "SMALL_LETTERS" = some (some (.str "abcdefghijklmnopqrstuvwxyz" t1)))(v2:nsIn K Ψ "FIGURES" = some (some (.str "0123456789" t2)))(v3:nsIn K Ψ "MOST_LETTERS" = some (some (.int 6 t3)))(v4:nsIn K Ψ "MOST_FIGURES" = some (some (.int 10 t4)))(v5:nsIn K Ψ "MOST_SHAPES" = some (some (.int 8 t5)))(v6:nsIn K Ψ "MOST_FIELDS" = some (some (.int 6 t6)))(v7:nsIn K Ψ "MOST_CELLS" = some (some (.int 64 t7)))(v8:nsIn K Ψ "MOST_UNITS" = some (some (.int 40 t8)))(v9:nsIn K Ψ "MOST_DEPTH" = some (some (.int 4 t9)))(v10:nsIn K Ψ "MOST_WIDTH" = some (some (.int 4 t10)))(v11:nsIn K Ψ "MOST_COUNT" = some (some (.int 6 t11)))(v12:nsIn K Ψ "LEAST_PICKED" = some (some (.int 2 t12)))(v13:nsIn K Ψ "MOST_PICKED" = some (some (.int 4 t13)))
  (w1:nsIn K Ψ "OWN_WORDS" = some (some (.ref ts)))(w2:K.lookup ts=some ⟨.type "tuple",odt,.seq #[.str "shape" u0,.str "num" u1,.str "row" u2,.str "pick" u3,.str "tag" u4,.str "room" u5,.str "things" u6,.str "part" u7,.str "tags" u8,.str "put" u9,.str "take" u10,.str "many" u11,.str "look" u12,.str "which" u13,.str "store" u14,.str "choose" u15,.str "copy" u16,.str "each" u17,.str "span" u18,.str "if" u19,.str "else" u20,.str "end" u21,.str "out" u22] nt,slt⟩)
  (w3:uv K (.ref Vc) "units_at" = some (some (.ref f9)))
  (q1:Az K (.builtin "object.__class__") "__get__" = some (some (.builtin "getset_descriptor.__get__")))(q2:PySem.W.takesIn K (.builtin "object.__class__")=some true)
  (qaf:uv K (.ref ah) "__class__" = some (some (.builtin "object.__class__")))(qbf:wz K ah (.type "object")=some true)
  (qat:uv K (.ref ac) "__class__" = some (some (.builtin "object.__class__")))(qbt:wz K ac (.type "object")=some true)
  (qau:uv K (.ref aa) "__class__" = some (some (.builtin "object.__class__")))(qbu:wz K aa (.type "object")=some true)
  (qam:uv K (.ref ap) "__class__" = some (some (.builtin "object.__class__")))(qbm:wz K ap (.type "object")=some true)
  (qnmf:uu K ap ah=true)
  (qnmu:uu K ap aa=true)
  (qnmt:uu K ap ac=true)
  (qnfm:uu K ah ap=true)
  (qnfu:uu K ah aa=true)
  (qnft:uu K ah ac=true)
  (qnum:uu K aa ap=true)
  (qnuf:uu K aa ah=true)
  (qnut:uu K aa ac=true)
  (qntm:uu K ac ap=true)
  (qntf:uu K ac ah=true)
  (qntu:uu K ac aa=true):
  ∃fd:sq,(∀(s:ο) (v:Value),BindsTo s fd ⟨[v],[]⟩ [("_law_script",v)])/\∀base:vn,K.In base->base.Ns Ψ mg->jI l.prog w K mg base CX0 90 fa fd ["_law_script"] (aAd K):=by
 have e:=hfa.symm.trans (mg_of X G a64.a);cases e;obtain⟨d64,F64⟩:=a64.l;obtain⟨d0,F0,D0⟩:=a0.j ["self","words"] (by walk_at"b2");obtain⟨d1,F1,D1⟩:=a1.j ["self","line"] (by walk_at"b2");obtain⟨d2,F2,D2⟩:=a2.j ["self","line","name"] (by walk_at"b3");obtain⟨d3,F3,D3⟩:=a3.j ["self","line","name"] (by walk_at"b3");obtain⟨d4,F4,D4⟩:=a4.j ["self","line"] (by walk_at"b2");obtain⟨d5,F5,D5⟩:=a5.o X G ["thing"] (by walk_at"b1");obtain⟨d6,F6,D6⟩:=a6.o X G ["thing","signs","most"] (by walk_at"b3");obtain⟨d7,F7,D7⟩:=a7.o X G ["text","low","high"] (by walk_at"b3");obtain⟨d8,F8,D8⟩:=a8.o X G ["path","step"] (by walk_at"b2");obtain⟨d9,F9,D9⟩:=a9.o ["self","path"] (by walk_at"b2");obtain⟨d10,F10,D10⟩:=a10.j ["self","width"] (by walk_at"b2");obtain⟨d11,F11,D11⟩:=a11.o ["self"] (by walk_at"b1");obtain⟨d12,F12,D12⟩:=a12.o ["self"] (by walk_at"b1");obtain⟨d13,F13,D13⟩:=a13.o ["self","path"] (by walk_at"b2");obtain⟨d14,F14,D14⟩:=a14.j ["self","shape"] (by walk_at"b2");obtain⟨d15,F15,D15⟩:=a15.o ["self"] (by walk_at"b1");obtain⟨d16,F16,D16⟩:=a16.o ["self"] (by walk_at"b1");obtain⟨d17,F17,D17⟩:=a17.o ["self"] (by walk_at"b1");obtain⟨d18,F18,D18⟩:=a18.j ["self","count","kind"] (by walk_at"b3");obtain⟨d19,F19,D19⟩:=a19.o ["self"] (by walk_at"b1");obtain⟨d20,F20,D20⟩:=a20.o ["self"] (by walk_at"b1");obtain⟨d21,F21,D21⟩:=a21.o ["self"] (by walk_at"b1");obtain⟨d22,F22,D22⟩:=a22.j ["self","shapes"] (by walk_at"b2");obtain⟨d23,F23,D23⟩:=a23.o ["self"] (by walk_at"b1");obtain⟨d24,F24,D24⟩:=a24.o ["self"] (by walk_at"b1");obtain⟨d25,F25,D25⟩:=a25.o ["self"] (by walk_at"b1");obtain⟨d26,F26,D26⟩:=a26.o ["self","path"] (by walk_at"b2");obtain⟨d27,F27,D27⟩:=a27.j ["self","name","fields"] (by walk_at"b3");obtain⟨d28,F28,D28⟩:=a28.o ["self"] (by walk_at"b1");obtain⟨d29,F29,D29⟩:=a29.o ["self"] (by walk_at"b1");obtain⟨d30,F30,D30⟩:=a30.o ["self"] (by walk_at"b1");obtain⟨d31,F31,D31⟩:=a31.j ["self","shapes"] (by walk_at"b2");obtain⟨d32,F32,D32⟩:=a32.o X G ["text"] (by walk_at"b1");obtain⟨d33,F33,D33⟩:=a33.o X G ["words"] (by walk_at"b1");obtain⟨d34,F34,D34⟩:=a34.o X G ["words"] (by walk_at"b1");obtain⟨d35,F35,D35⟩:=a35.o X G ["words"] (by walk_at"b1");obtain⟨d36,F36,D36⟩:=a36.o X G ["words"] (by walk_at"b1");obtain⟨d37,F37,D37⟩:=a37.o X G ["told","line","name"] (by walk_at"b3");obtain⟨d38,F38,D38⟩:=a38.o X G ["told","line","words"] (by walk_at"b3");obtain⟨d39,F39,D39⟩:=a39.o X G ["words"] (by walk_at"b1");obtain⟨d40,F40,D40⟩:=a40.o X G ["told"] (by walk_at"b1");obtain⟨d41,F41,D41⟩:=a41.o X G ["told","line","words"] (by walk_at"b3");obtain⟨d42,F42,D42⟩:=a42.o X G ["words","shapes"] (by walk_at"b2");obtain⟨d43,F43,D43⟩:=a43.o X G ["shape"] (by walk_at"b1");obtain⟨d44,F44,D44⟩:=a44.o X G ["_law_script","_law_k"] (by walk_at"b2");obtain⟨d45,F45,D45⟩:=a45.o X G ["_law_cell_here"] (by walk_at"b1");obtain⟨d46,F46,D46⟩:=a46.o X G ["_law_box_here","_law_many"] (by walk_at"b2");obtain⟨d47,F47,D47⟩:=a47.o X G ["_law_box_here"] (by walk_at"b1");obtain⟨d48,F48,D48⟩:=a48.o X G ["_law_kind_here","_law_shapes_here"] (by walk_at"b2");obtain⟨d49,F49,D49⟩:=a49.o X G ["_law_kind_here","_law_shapes_here","_law_path"] (by walk_at"b3");obtain⟨d50,F50,D50⟩:=a50.o X G ["_law_path","_law_step"] (by walk_at"b2");obtain⟨d51,F51,D51⟩:=a51.o X G ["_law_kind_here","_law_shapes_here"] (by walk_at"b2");obtain⟨d52,F52,D52⟩:=a52.o X G ["_law_box_here","_law_known"] (by walk_at"b2");obtain⟨d53,F53,D53⟩:=a53.o X G ["_law_shapes_here"] (by walk_at"b1");obtain⟨d54,F54,D54⟩:=a54.o X G ["_law_box_here","_law_most"] (by walk_at"b2");obtain⟨d55,F55,D55⟩:=a55.o X G ["_law_kind_here","_law_shapes_here"] (by walk_at"b2");obtain⟨d56,F56,D56⟩:=a56.o X G ["_law_shapes_here"] (by walk_at"b1");obtain⟨d57,F57,D57⟩:=a57.o X G ["_law_thing"] (by walk_at"b1");obtain⟨d58,F58,D58⟩:=a58.o X G ["_law_told_here","_law_due"] (by walk_at"b2");obtain⟨d59,F59,D59⟩:=a59.o X G ["_law_box_here"] (by walk_at"b1");obtain⟨d60,F60,D60⟩:=a60.o X G ["_law_lines","_law_at","_law_more"] (by walk_at"b3");obtain⟨d61,F61,D61⟩:=a61.o X G ["_law_box_here","_law_shapes_here"] (by walk_at"b2");obtain⟨d62,F62,D62⟩:=a62.o X G ["_law_shapes_here","_law_lines"] (by walk_at"b2");obtain⟨d63,F63,D63⟩:=a63.o X G ["_law_box_here","_law_shapes_here"] (by walk_at"b2");have Ua:=cNum.o X G a10;have Ub:=cNested.o X G a14;have Uc:=cMany.o X G a18;have Ud:=cPick.o X G a22;have Ue:=cShape.o X G a27;have Uf:=cShapes.o X G a31;have tRE:TXB K mg cRE f0:=⟨mg_of X G g_RoomError,⟨xr,xf,xp,F0.kp⟩,⟨⟨_,_,_,_,_,_,_,_,_,_,_,_,_,_,_,_,xo_RoomError⟩,rfl⟩⟩;have VI:aEv K:=⟨vi1,vi2,vi3⟩;have am:TX K mg "NamedTwice" ac cRE f3 ["line","name"]:=⟨mg_of X G g_NamedTwice,⟨⟨_,_,_,_,_,_,_,_,_,_,_,_,_,_,xo_NamedTwice,xn_NamedTwice,xi_NamedTwice⟩,a3.i,xk_NamedTwice,xs_NamedTwice,xg_NamedTwice,xh_NamedTwice⟩,⟨⟨_,_,_,_,_,_,_,_,_,_,_,_,_,_,_,_,xo_NamedTwice⟩,rfl⟩,fun a ha=>by
   simp only[ξ,Δ,or_false]at ha;rcases ha with rfl|rfl
   ·exact n_NamedTwice_line
   ·exact n_NamedTwice_name⟩
 have ar:TX K mg "NoShapes" ah cRE f1 ["line"]:=⟨mg_of X G g_NoShapes,⟨⟨_,_,_,_,_,_,_,_,_,_,_,_,_,_,xo_NoShapes,xn_NoShapes,xi_NoShapes⟩,a1.i,xk_NoShapes,xs_NoShapes,xg_NoShapes,xh_NoShapes⟩,⟨⟨_,_,_,_,_,_,_,_,_,_,_,_,_,_,_,_,xo_NoShapes⟩,rfl⟩,fun a ha=>by
   rw[τ.mp ha];exact n_NoShapes_line⟩
 have ck:TX K mg "TooMuch" ap cRE f4 ["line"]:=⟨mg_of X G g_TooMuch,⟨⟨_,_,_,_,_,_,_,_,_,_,_,_,_,_,xo_TooMuch,xn_TooMuch,xi_TooMuch⟩,a4.i,xk_TooMuch,xs_TooMuch,xg_TooMuch,xh_TooMuch⟩,⟨⟨_,_,_,_,_,_,_,_,_,_,_,_,_,_,_,_,xo_TooMuch⟩,rfl⟩,fun a ha=>by
   rw[τ.mp ha];exact n_TooMuch_line⟩
 have ak:TX K mg "UnknownShape" aa cRE f2 ["line","name"]:=⟨mg_of X G g_UnknownShape,⟨⟨_,_,_,_,_,_,_,_,_,_,_,_,_,_,xo_UnknownShape,xn_UnknownShape,xi_UnknownShape⟩,a2.i,xk_UnknownShape,xs_UnknownShape,xg_UnknownShape,xh_UnknownShape⟩,⟨⟨_,_,_,_,_,_,_,_,_,_,_,_,_,_,_,_,xo_UnknownShape⟩,rfl⟩,fun a ha=>by
   simp only[ξ,Δ,or_false]at ha;rcases ha with rfl|rfl
   ·exact n_UnknownShape_line
   ·exact n_UnknownShape_name⟩
 have M:Blt mg:=⟨vk X G z0,vk X G z1,vk X G z2,vk X G z3,vk X G z4,vk X G z5,vk X G z6,vk X G z7,vk X G z8,vk X G z9,vk X G z10,vk X G z11,vk X G z12,vk X G z13,vk X G z14,vk X G z15,vk X G z16,vk X G z17,vk X G z18⟩;have C:Cst K mg t1 t2 t3 t4 t5 t6 t7 t8 t9 t10 t11 t12 t13 ts:=⟨mg_of X G v1,mg_of X G v2,mg_of X G v3,mg_of X G v4,mg_of X G v5,mg_of X G v6,mg_of X G v7,mg_of X G v8,mg_of X G v9,mg_of X G v10,mg_of X G v11,mg_of X G v12,mg_of X G v13,mg_of X G w1,fun H=>.inr ⟨_,_,_,w2,rfl,rfl,(by show 23<=ρ;decide),(.cons ⟨_,rfl⟩ (.cons ⟨_,rfl⟩ (.cons ⟨_,rfl⟩ (.cons ⟨_,rfl⟩ (.cons ⟨_,rfl⟩ (.cons ⟨_,rfl⟩ (.cons ⟨_,rfl⟩ (.cons ⟨_,rfl⟩ (.cons ⟨_,rfl⟩ (.cons ⟨_,rfl⟩ (.cons ⟨_,rfl⟩ (.cons ⟨_,rfl⟩ (.cons ⟨_,rfl⟩ (.cons ⟨_,rfl⟩ (.cons ⟨_,rfl⟩ (.cons ⟨_,rfl⟩ (.cons ⟨_,rfl⟩ (.cons ⟨_,rfl⟩ (.cons ⟨_,rfl⟩ (.cons ⟨_,rfl⟩ (.cons ⟨_,rfl⟩ (.cons ⟨_,rfl⟩ (.cons ⟨_,rfl⟩ .nil)))))))))))))))))))))))⟩⟩;have XN:XN4 K ah ac aa ap:=⟨⟨qam,q1,q2,qbm,qnmf⟩,⟨qam,q1,q2,qbm,qnmu⟩,⟨qam,q1,q2,qbm,qnmt⟩,⟨qaf,q1,q2,qbf,qnfm⟩,⟨qaf,q1,q2,qbf,qnfu⟩,⟨qaf,q1,q2,qbf,qnft⟩,⟨qau,q1,q2,qbu,qnum⟩,⟨qau,q1,q2,qbu,qnuf⟩,⟨qau,q1,q2,qbu,qnut⟩,⟨qat,q1,q2,qbt,qntm⟩,⟨qat,q1,q2,qbt,qntf⟩,⟨qat,q1,q2,qbt,qntu⟩⟩;have Z:=ZZ.mk M C Ua Ub Uc Ud Ue Uf tRE VI am ar ck ak;refine⟨d64,fun s v=>(F64.ex.elim fun _ ⟨_,_,_,_,_,_,_,_,e,_⟩=>e▸.of_eq rfl),fun base _ _=>?_⟩;have G6:=(nK l.prog w base (k:=0) Z F6 );have G5:=(wD l.prog w base (k:=2) Z F5 D6 (mO G6));have G7:=(pA l.prog w base (k:=2) Z F7 D6 (mO G6));have G8:=(aBc l.prog w base (k:=0) Z F8 );have G45:=(uG l.prog w base (k:=0) Z F45 );have G46:=(tF l.prog w base (k:=0) Z F46 );have G44:=(tO l.prog w base (k:=0) Z F44 );have G33:=(gU l.prog w base (k:=4) Z F33 D5 (mO G5));have G36:=(rA l.prog w base (k:=4) Z F36 D7 (mO G7) D5 (mO G5));have G35:=(uX l.prog w base (k:=6) Z F35 D7 (mO G7) D36 (mO G36) D5 (mO G5));have G34:=(fX l.prog w base (k:=8) Z F34 D5 (mO G5) D35 (mO G35));have G39:=(iK l.prog w base (k:=4) Z F39 D5 (mO G5));have G0:=(eL l.prog w base (k:=0) Z F0 );have G1:=(fM l.prog w base (k:=2) Z F1 D0 (mO G0));have G3:=(dM l.prog w base (k:=2) Z F3 D0 (mO G0));have G2:=(cB l.prog w base (k:=2) Z F2 D0 (mO G0));have G4:=(iP l.prog w base (k:=2) Z F4 D0 (mO G0));have G37:=(eU l.prog w base (k:=4) Z F37 D1 (mO G1) D3 (mO G3) D4 (mO G4));have G40:=(iF l.prog w base (k:=0) Z F40 );have G38:=(mX l.prog w base (k:=10) Z F38 D34 (mO G34) D39 (mO G39) D40 (mO G40) D1 (mO G1) D3 (mO G3) D2 (mO G2));have G10:=(rL l.prog w base (k:=0) Z F10 );have G14:=(lA l.prog w base (k:=0) Z F14 );have G18:=(pL l.prog w base (k:=0) Z F18 );have G22:=(oW l.prog w base (k:=0) Z F22 );have G31:=(lS l.prog w base (k:=0) Z F31 );have G27:=(nO l.prog w base (k:=0) Z F27 );have G58:=(aAv l.prog w base (k:=0) Z F58 );have G60:=(nQ l.prog w base (k:=0) Z F60 );have G50:=(mY l.prog w base (k:=0) Z F50 );have G47:=(oV l.prog w base (k:=2) Z F47 D46 (mO G46));have G52:=(rJ l.prog w base (k:=2) Z F52 D46 (mO G46));have G59:=(iN l.prog w base (k:=2) Z F59 D46 (mO G46));have G61:=(dG l.prog w base (k:=2) Z F61 D46 (mO G46));have G62:=(nE l.prog w base (k:=2) Z F62 D60 (mO G60));have t_size:∀r C sp,TV (Cl5.mk Va Vb Vc Vd Ve) K r vSz C sp->bP l.prog w K mg base CX0 (6*r+4) "size" C sp:=by
  intro r
  induction r with
  |zero =>
   rintro C' sp (⟨rfl,rfl⟩|⟨rfl,rfl⟩|⟨rfl,rfl⟩|⟨rfl,rfl⟩)
   ·exact⟨Ua.cl,_,_,_,D11.me,jI.mono (gV l.prog w base (k:=0) (r:=0) Z F11 ) (by omega),D11.b⟩
   ·exact⟨Ub.cl,_,_,_,D15.me,noFn (noV nn1),D15.b⟩
   ·exact⟨Uc.cl,_,_,_,D19.me,noFn (noV nn2),D19.b⟩
   ·exact⟨Ud.cl,_,_,_,D23.me,noFn (noV nn3),D23.b⟩
  |succ r ih =>
   have gS:=(dJ l.prog w base (k:=6*r+4) (r:=r) Z F28 ih);have gG:=(aE l.prog w base (k:=6*r+6) (r:=r) Z F24 D28 gS);rintro C' sp (⟨rfl,rfl⟩|⟨rfl,rfl⟩|⟨rfl,rfl⟩|⟨rfl,rfl⟩)
   ·exact⟨Ua.cl,_,_,_,D11.me,jI.mono (gV l.prog w base (k:=0) (r:=r+1) Z F11 ) (by omega),D11.b⟩
   ·exact⟨Ub.cl,_,_,_,D15.me,jI.mono (mB l.prog w base (k:=6*r+6) (r:=r) Z F15 D28 gS) (by omega),D15.b⟩
   ·exact⟨Uc.cl,_,_,_,D19.me,jI.mono (oR l.prog w base (k:=6*r+4) (r:=r) Z F19 ih) (by omega),D19.b⟩
   ·exact⟨Ud.cl,_,_,_,D23.me,jI.mono (oN l.prog w base (k:=6*r+8) (r:=r) Z F23 D24 gG) (by omega),D23.b⟩
 have qt:=fun r=>(dJ l.prog w base (k:=6*r+4) (r:=r) Z F28 (t_size r));have qv:=fun r=>(aE l.prog w base (k:=6*r+6) (r:=r) Z F24 D28 (qt r));have t_depth:∀r C sp,TV (Cl5.mk Va Vb Vc Vd Ve) K r vDp C sp->bP l.prog w K mg base CX0 (6*r+4) "depth" C sp:=by
  intro r
  induction r with
  |zero =>
   rintro C' sp (⟨rfl,rfl⟩|⟨rfl,rfl⟩|⟨rfl,rfl⟩|⟨rfl,rfl⟩)
   ·exact⟨Ua.cl,_,_,_,D12.me,jI.mono (eY l.prog w base (k:=0) (r:=0) Z F12 ) (by omega),D12.b⟩
   ·exact⟨Ub.cl,_,_,_,D16.me,noFn (noV nn1),D16.b⟩
   ·exact⟨Uc.cl,_,_,_,D20.me,noFn (noV nn2),D20.b⟩
   ·exact⟨Ud.cl,_,_,_,D25.me,noFn (noV nn3),D25.b⟩
  |succ r ih =>
   have gS:=(bV l.prog w base (k:=6*r+4) (r:=r) Z F29 ih);rintro C' sp (⟨rfl,rfl⟩|⟨rfl,rfl⟩|⟨rfl,rfl⟩|⟨rfl,rfl⟩)
   ·exact⟨Ua.cl,_,_,_,D12.me,jI.mono (eY l.prog w base (k:=0) (r:=r+1) Z F12 ) (by omega),D12.b⟩
   ·exact⟨Ub.cl,_,_,_,D16.me,jI.mono (iQ l.prog w base (k:=6*r+6) (r:=r) Z F16 D29 gS) (by omega),D16.b⟩
   ·exact⟨Uc.cl,_,_,_,D20.me,jI.mono (nC l.prog w base (k:=6*r+4) (r:=r) Z F20 ih) (by omega),D20.b⟩
   ·exact⟨Ud.cl,_,_,_,D25.me,jI.mono (nP l.prog w base (k:=6*r+6) (r:=r) Z F25 D29 gS) (by omega),D25.b⟩
 have qu:=fun r=>(bV l.prog w base (k:=6*r+4) (r:=r) Z F29 (t_depth r));have t_parted:∀C sp,TPt (Cl5.mk Va Vb Vc Vd Ve) K C sp->bP l.prog w K mg base CX0 2 "parted" C sp:=by
  rintro C' sp (⟨rfl,rfl⟩|⟨rfl,rfl⟩)
  ·exact⟨Ub.cl,_,_,_,D17.me,(fZ l.prog w base (k:=0) Z F17 ),D17.b⟩
  ·exact⟨Uc.cl,_,_,_,D21.me,(lL l.prog w base (k:=0) Z F21 ),D21.b⟩
 have DM:DfM K Vc "units_at" f9 d9 ["self","path"]:=⟨⟨w3,a9.i,F9.kp⟩,D9.b⟩;have t_units:∀r C sp,TU (Cl5.mk Va Vb Vc Vd Ve) K r C sp->bP l.prog w K mg base CX0 (6*r+4) "units_at" C sp:=by
  intro r
  induction r with
  |zero =>
   rintro C' sp (⟨rfl,rfl⟩|⟨rfl,rfl⟩|⟨rfl,rfl⟩|⟨rfl,rfl⟩)
   ·exact⟨Ua.cl,_,_,_,D13.me,jI.mono (bM l.prog w base (k:=0) (r:=0) Z F13 ) (by omega),D13.b⟩
   ·exact⟨Ub.cl,_,_,_,D9.me,noFn (noU nn1),D9.b⟩
   ·exact⟨Uc.cl,_,_,_,DM.me,noFn (noU nn2),DM.b⟩
   ·exact⟨Ud.cl,_,_,_,D26.me,noFn (noU nn3),D26.b⟩
  |succ r ih =>
   rintro C' sp (⟨rfl,rfl⟩|⟨rfl,rfl⟩|⟨rfl,rfl⟩|⟨rfl,rfl⟩)
   ·exact⟨Ua.cl,_,_,_,D13.me,jI.mono (bM l.prog w base (k:=0) (r:=r+1) Z F13 ) (by omega),D13.b⟩
   ·exact⟨Ub.cl,_,_,_,D9.me,jI.mono (aG l.prog w base (k:=6*r+4) (r:=r) Z ff1 F9 (fun C' sp h=>bP.mono (t_parted C' sp h) (by omega)) ih D8 (jI.mono G8 (by omega))) (by omega),D9.b⟩
   ·exact⟨Uc.cl,_,_,_,DM.me,jI.mono (aG l.prog w base (k:=6*r+4) (r:=r) Z ff2 F9 (fun C' sp h=>bP.mono (t_parted C' sp h) (by omega)) ih D8 (jI.mono G8 (by omega))) (by omega),DM.b⟩
   ·exact⟨Ud.cl,_,_,_,D26.me,jI.mono (gM l.prog w base (k:=6*r+8) (r:=r) Z F26 D8 (jI.mono G8 (by omega)) D24 (qv r)) (by omega),D26.b⟩
 have G28:=qt 12;have G29:=qu 12;have G30:=(lQ l.prog w base (k:=76) (r:=12) Z F30 D14 (mO G14) (t_units 12));have G43:=(lU l.prog w base (k:=78) (r:=12) Z F43 D28 (mO G28) D30 (mO G30) D29 (mO G29));have r_kin:∀n,jI l.prog w K mg base CX0 (2*n+2) f42 d42 ["words","shapes"] (wO (Cl5.mk Va Vb Vc Vd Ve) K n):=by
  intro n
  induction n with
  |zero=>exact noFn fun vs H Q E ⟨_,_,_,_,_,_,h,_⟩=>absurd h (Ah _)
  |succ n ih=>exact jI.mono (wA l.prog w base (k:=2*n+2) (r:=n) Z F42 D42 ih D10 (jI.mono G10 (by omega)) D14 (jI.mono G14 (by omega)) D18 (jI.mono G18 (by omega)) D22 (jI.mono G22 (by omega))) (by omega)
 have G42:=r_kin 2;have G41:=(nF l.prog w base (k:=80) (r:=12) Z F41 D42 (mO G42) D40 (mO G40) D27 (mO G27) D43 (mO G43) D4 (mO G4));have G32:=(lM l.prog w base (k:=82) (r:=12) Z F32 D33 (mO G33) D37 (mO G37) D27 (mO G27) D38 (mO G38) D41 (mO G41) D31 (mO G31) D1 (mO G1));have G57:=(rO l.prog w base (k:=84) (r:=12) Z ⟨by decide,by decide⟩ F57 D32 (mO G32) XN);have r__law_size:∀n,jI l.prog w K mg base CX0 (2*n+2) f48 d48 ["_law_kind_here","_law_shapes_here"] (pD K vSz n):=by
  intro n
  induction n with
  |zero=>exact noFn fun _ _ _ _ h=>h
  |succ n ih=>exact jI.mono (tM l.prog w base (k:=2*n+2) (r:=n) Z F48 D48 ih) (by omega)
 have G48:=r__law_size 13;have r__law_depth:∀n,jI l.prog w K mg base CX0 (2*n+2) f51 d51 ["_law_kind_here","_law_shapes_here"] (pD K vDp n):=by
  intro n
  induction n with
  |zero=>exact noFn fun _ _ _ _ h=>h
  |succ n ih=>exact jI.mono (rB l.prog w base (k:=2*n+2) (r:=n) Z F51 D51 ih) (by omega)
 have G51:=r__law_depth 13;have r_lu:∀n,jI l.prog w K mg base CX0 (2*n+4) f49 d49 ["_law_kind_here","_law_shapes_here","_law_path"] (spLU K n):=by
  intro n
  induction n with
  |zero=>exact noFn fun _ _ _ _ h=>h
  |succ n ih=>exact jI.mono (oX l.prog w base (k:=2*n+4) (r:=n) Z F49 D49 ih D48 (r__law_size (n+1)) D50 (jI.mono G50 (by omega))) (by omega)
 have G49:=r_lu 13;have G53:=(tJ l.prog w base (k:=30) (r:=12) Z F53 D48 (mO G48) D49 (mO G49) D51 (mO G51));have r_kt:∀n,jI l.prog w K mg base CX0 (2*n+2) f55 d55 ["_law_kind_here","_law_shapes_here"] (spKT K n):=by
  intro n
  induction n with
  |zero=>exact noFn fun vs H Q E ⟨_,_,_,_,_,h,_⟩=>absurd h (Ah _)
  |succ n ih=>exact jI.mono (gQ l.prog w base (k:=2*n+2) (r:=n) Z F55 D55 ih) (by omega)
 have G55:=r_kt 2;have G56:=(sN l.prog w base (k:=6) Z F56 D55 (mO G55));have G54:=(nJ l.prog w base (k:=32) (r:=12) Z F54 D47 (mO G47) D46 (mO G46) D52 (mO G52) D53 (mO G53));have G63:=(pB l.prog w base (k:=86) Z F63 D56 (mO G56) D46 (mO G46) D59 (mO G59) D60 (mO G60) D62 (mO G62) D61 (mO G61) D57 (mO G57) D58 (mO G58));have G64:=(aHl l.prog w base (k:=88) (r:=12) Z ⟨by decide,by decide⟩ F64 D44 (mO G44) D45 (mO G45) D54 (mO G54) D56 (mO G56) D57 (mO G57) D63 (mO G63));exact G64
theorem walk{l:PySem.W.OpenLaw}{YP:vy->vn->Prop}{d:DefRec}{K:Params->Ξ}(hn:l.most=some 63)(hdf:d.params.defaults=[])
  (hY:∀(w:vy) (h:vn),YP w h->(K w.params).In h)
  (F:∀(w:vy) (mg:Str->Option Value) (fa:Addr) (h:vn),(K w.params).In h->h.Ns Ψ mg->mg d.name=some (.ref fa) →
   ∃fd:sq,(∀(s:ο) (u:Value),BindsTo s fd ⟨[u],[]⟩ [("_law_script",u)])/\∀base:vn,(K w.params).In base->base.Ns Ψ mg->jI l.prog w (K w.params) mg base CX0 90 fa fd ["_law_script"] (aAd (K w.params))):
  PySem.W.WalkO q loose XP YP l.row.toRowW d [] (fun f vs=>PySem.call f vs) :=
 L2.aGd (n:=63) (k:=90) (x:="_law_script") (CX:=fun _=>CX0) (sp:=fun w=>aAd (K w.params)) hn (by decide) hdf ⟨rfl,by decide,by decide,rfl⟩ hY F (fun _ _ a ns hl _ hS=>⟨a,ns,rfl,hS,hl,fun _=>rfl⟩) fun _ _ _ _ _ z=>z
end K12
namespace PySem.W.Fast
def tw10726860150874050354:=0
def tw9224390909683424274:=0
def tw14928436592046858585:=0
def tw12735456838105563371:=0
def tw11573214136150785251:=0
def tw4400178125801227245:=0
def tw18080537382277285527:=0
def tw17219996329125904055:=0
def tw18250268033369263387:=0
def tw8551798703896662659:=0
def tw4967008349724048984:=0
def tw3404043895270117062:=0
def tw7359444243721510842:=0
def tw4066818796656957305:=0
def tw13130354235065085965:=0
def tw11052297279359770586:=0
def tw12281514905423585946:=0
def tw15363759933725068328:=0
def tw65377665861611447:=0
def tw12380174806523811412:=0
def tw12653382978470618352:=0
def tw4747983275654689818:=0
def tw3224470305487397528:=0
def tw3091041499212226989:=0
def tw8170865199420473209:=0
def tw3111593003289580145:=0
def tw16062827663884833668:=0
def tw8340507105976506896:=0
def tw14789697858308295959:=0
def tw10757722889694129876:=0
def tw16769936022372189:=0
def tw7078908478100344748:=0
def tw8133115942532116261:=0
def tw10647001092791836280:=0
def tw17906963894243633469:=0
def tw5777955752720089315:=0
def tw8753545664264545552:=0
def tw16928641204143001423:=0
def tw1191831166773472450:=0
def tw17729764531927447855:=0
def tw6875812010247675209:=0
def tw12055985588830764320:=0
def tw1454061448667339869:=0
def tw16899618427556937622:=0
def tw16587796929820909542:=0
def tw6535598157674137403:=0
def tw1682787537460825041:=0
def tw1192361786847344954:=0
def tw8552118869294854168:=0
def tw11206231920230560417:=0
def tw13901893827332651980:=0
def tw10159620090337880818:=0
def tw3476087623966979971:=0
def tw4550626323013544091:=0
def tw5250668066989117052:=0
def tw13864270530818567222:=0
def tw4330502038770735166:=0
def tw11189941740102996205:=0
def tw14771108035511185492:=0
def tw3065889591956746060:=0
def tw17695043631887590871:=0
def tw614083502068475214:=0
def tw223968135341652982:=0
def tw7880043348714580613:=0
def tw15213449933994942067:=0
def tw6748946749780280733:=0
def tw5097154947158304203:=0
def tw2975825220091741275:=0
def tw1201281356628526921:=0
def tw15174727977427795687:=0
def tw9302290267944671785:=0
def tw14586761551296470013:=0
def tw3795342305969246594:=0
def tw16727568484497991106:=0
def tw14288585186735300131:=0
def tw9165225042712585833:=0
def tw6159249450178494855:=0
def tw11324291089054912146:=0
def tw6923093583469416956:=0
def tw3429559048655102054:=0
def tw618720419372983446:=0
def tw17092604868899230503:=0
def tw5689510288683095780:=0
def tw5106877405930260225:=0
def tw6691525585322559417:=0
def tw11892455143980752599:=0
def tw3154379321088142927:=0
def tw11063843211775649714:=0
def tw10808461322850900438:=0
def tw6445718389454593407:=0
def tw17547991737375615434:=0
def tw16514116909589268092:=0
def tw17759675694634290424:=0
def tw6571481652704914526:=0
def tw6814987484342573241:=0
def tw3195563190065712167:=0
def tw2261427201675664671:=0
def tw2592796029829253676:=0
def tw12226070144523522351:=0
def tw14446629352938122554:=0
def tw16561748756383205317:=0
def tw2017019842290157787:=0
def tw216611306283000757:=0
def tw12163329124021700935:=0
def tw9276084992149795147:=0
def tw5523252569537379644:=0
def tw10615790384061865985:=0
def tw6077299169275183755:=0
def tw3853990602590792850:=0
def tw6337830276118199314:=0
def tw7319084943943325696:=0
def tw9515053042507286018:=0
def tw15284237320536175947:=0
def tw3191485238589235281:=0
def tw17980421171316883992:=0
def tw15383577015663375271:=0
def tw15538336316115984559:=0
def tw13120339737935484214:=0
def tw6397243867485698174:=0
def tw1049264002507975024:=0
def tw14887065908481946758:=0
def tw2770967366477921624:=0
def tw16502983435446410186:=0
def tw8079367206478412358:=0
def tw10445686235722916869:=0
def tw11881861580041780144:=0
def tw5007957522013743460:=0
def tw7358676644439083550:=0
def tw17671875562791097401:=0
def tw15632617860608517665:=0
def tw15250945649469797944:=0
def tw9630035421100098471:=0
def tw18235953367720243270:=0
def tw14407265040700926545:=0
def tw11931824477784055920:=0
def tw4443465553153094350:=0
def tw16888948954984461020:=0
def tw16601845804550730266:=0
def tw17945532747606072099:=0
def tw8017406524264436400:=0
def tw13347566055709974496:=0
def tw7182151442243654888:=0
def tw4566481612514361714:=0
def tw8670649168538702321:=0
def tw4981675884315067131:=0
def tw12192437928543253872:=0
def tw3820610235656224854:=0
def tw13994598845777544415:=0
def tw3812952503572814855:=0
def tw4519752233425764203:=0
def tw3757956502358925731:=0
def tw11504042172778523201:=0
def tw10099620438683907971:=0
def tw17475779942439608515:=0
def tw17797344843941031119:=0
def tw15024692402180269706:=0
def tw11534360321203460735:=0
def tw11423608363038107641:=0
def tw9088690093580565057:=0
def tw16672297149755925694:=0
def tw8964466829088245417:=0
def tw6101552713118282544:=0
def tw3127974913220209740:=0
def tw13921903456191877257:=0
def tw4598056667595160405:=0
def tw9484191557878255993:=0
def tw2219010980871304565:=0
def tw15752873793222579671:=0
def tw2286790382300718496:=0
def tw14523645205631372838:=0
def tw5479620425265365901:=0
def tw2023984701110735069:=0
def tw11128363789638551015:=0
def tw4431480903785940939:=0
def tw10257586125245669307:=0
def tw17366016018290020979:=0
def tw2806372478002238476:=0
def tw8696095067985603791:=0
def tw10546209979884185628:=0
def tw7670895202069474345:=0
def tw3916810366107436199:=0
def tw2523707273295168576:=0
def tw11707683273436462648:=0
def tw3845034185172870409:=0
def tw2043012720183692682:=0
def tw7484283614932494433:=0
def tw2123419247099736533:=0
def tw5813953575631412506:=0
def tw10193309470286248211:=0
def tw17893067118693362096:=0
def tw15321471452791416271:=0
def tw14877005422828474385:=0
def tw1432318770721669921:=0
def tw16880448600349298513:=0
def tw8741492090942200487:=0
def tw8889735724520913713:=0
def tw11200428804997800977:=0
def tw716532367506625133:=0
def tw4204459755073669124:=0
def tw13048164086937889053:=0
def tw8767082305018677148:=0
def tw10227213122270609676:=0
def tw4964026808652520661:=0
def tw6006701581683284385:=0
def tw3662286288762288640:=0
def tw13082578261514198862:=0
def tw17259123248221871455:=0
def tw332652538940537535:=0
def tw798061145486222327:=0
def tw12849734555592397164:=0
def tw10208156727899678116:=0
def tw9679559901789483872:=0
def tw5493728169700640913:=0
def tw11043587294167197946:=0
def tw12107259583931244400:=0
def tw10580746344719621014:=0
def tw4885760936332016852:=0
def tw14716625022578962208:=0
def tw17004433997403376587:=0
def tw12393469605351680540:=0
def tw11455372784801781122:=0
def tw8163554851688297977:=0
def tw4257305308613690012:=0
def tw5400100736081332127:=0
def tw13227739716696108160:=0
def tw14640170693195901876:=0
def tw10299588030592635564:=0
def tw5209562562615866338:=0
def tw8495998958513337213:=0
def tw14117940141623883889:=0
def tw2973926922890589651:=0
def tw2062187621247696607:=0
def tw11840331383152016170:=0
def tw11549972832669688379:=0
def tw11284064179260907270:=0
def tw17300044150212332354:=0
def tw8484573508188524595:=0
def tw3843793482832414140:=0
def tw10656056691186774227:=0
def tw9842605359675699765:=0
def tw3217062036008904946:=0
def tw10690100562494927394:=0
def tw2894794441369980852:=0
def tw8731431813515947047:=0
def tw18293222564883101586:=0
def tw15667271264478955605:=0
def tw17445417504452492144:=0
def tw13219105248802260900:=0
def tw7407592155107964998:=0
def tw16701995463963155665:=0
def tw8283935728331992861:=0
def tw16618315477367620761:=0
def tw1591891031632781983:=0
def tw6997510587151461509:=0
def tw11559371615393370066:=0
def tw15218638338282721485:=0
def tw3827752633300078090:=0
def tw18400128221619409679:=0
def tw9483808806656847695:=0
def tw10787767683669455582:=0
def tw5033033177248220876:=0
def tw5905118424952773630:=0
def tw7656054326205448879:=0
def tw18200355870023796326:=0
def tw2470545214288814986:=0
def tw2452657275299534526:=0
def tw4863284190297766978:=0
def tw15163262137404744992:=0
def tw17291173843884747551:=0
def tw14175360772621351399:=0
def tw1719630940248400229:=0
def tw12684811418436321167:=0
def tw3500754494942144130:=0
def tw17091083518426824134:=0
def tw11092798259665276720:=0
def tw4480513080657952133:=0
def tw3744836135243719822:=0
def tw7085585788939912700:=0
def tw3776621587709479509:=0
def tw224830975180479106:=0
def tw17804656533584754566:=0
def tw15084914255423387371:=0
def tw17097402828629850770:=0
def tw3088616414554263855:=0
def tw12326670282123912436:=0
def tw2579486041524640776:=0
def tw3085815250604986500:=0
def tw1100999855950201462:=0
def tw13162005148360573998:=0
def tw9293699128844224010:=0
def tw10447066347132141831:=0
def tw1020991275635493624:=0
def tw10826817788880041271:=0
def tw4865547110594388590:=0
def tw15821817072725777641:=0
def tw4480129692402630994:=0
def tw15210012500007960395:=0
def tw17354423401238753510:=0
def tw9611511474128751364:=0
def tw11264431533226412599:=0
def tw341386693169724410:=0
def tw13765549934868026296:=0
def tw3758871407758122040:=0
def tw7044810678425473265:=0
def tw14944797646936277229:=0
def tw6708386975284591662:=0
def tw3606250600215467180:=0
def tw6977616090963746998:=0
def tw14229729941158371834:=0
def tw18156810641833240487:=0
def tw11258223816928678642:=0
def tw9318372815438293047:=0
def tw2016885561033376900:=0
def tw18235232041121283243:=0
def tw10489009073085629112:=0
def tw3642704199854881085:=0
def tw11340096911616971230:=0
def tw15701983208326344089:=0
def tw16773924778443679183:=0
def tw10727013336257876246:=0
def tw14207806603252753719:=0
def tw16699663235844689906:=0
def tw2991537853129076165:=0
def tw15676973704214442997:=0
def tw7182710278112980903:=0
def tw9925281390255348575:=0
def tw181111693695537124:=0
def tw820951571235241531:=0
def tw14971485570648277874:=0
def tw17986121196100544187:=0
def tw10742868855869748366:=0
def tw7626101111440160920:=0
def tw17889887137530903918:=0
def tw10183188025631072108:=0
def tw2937776054246253973:=0
def tw13512339497176218445:=0
def tw6955776109623402596:=0
def tw6446216607008344013:=0
def tw13494626384668517969:=0
def tw7904509335167913981:=0
def tw11148880052879331205:=0
def tw5126612239244874613:=0
def tw2541400748652326931:=0
def tw9854788479868588511:=0
def tw4412324630553635586:=0
def tw18092935508458838420:=0
def tw9859591895594596512:=0
def tw1374294311994732506:=0
def tw9275805526898912488:=0
def tw6885735767912899599:=0
def tw6327128065981080027:=0
def tw12625416650300184971:=0
def tw1249007682016947188:=0
def tw4952718678986833582:=0
def tw150218969290161757:=0
def tw480542301112581778:=0
def tw13471509498059883931:=0
def tw16910285613845370716:=0
def tw17376300105306658523:=0
def tw2886145001672048634:=0
def tw1132521999485700702:=0
def tw16633117598060903456:=0
def tw13489647212684786973:=0
def tw8722397869714850279:=0
def tw952342680060450797:=0
def tw2340289501934676997:=0
def tw17106553933086134771:=0
def tw1352556166773344580:=0
def tw10839227374968281866:=0
def tw6707114953301291241:=0
def tw5502328507709241543:=0
def tw690190663019868802:=0
def tw9861139163991586003:=0
def tw10146227253752000058:=0
def tw662321615966038585:=0
def tw16668489225024666693:=0
def tw4794340410014581801:=0
def tw12893791348403668056:=0
def tw6676292673648077222:=0
def tw15387046612136438151:=0
def tw13360455714508089413:=0
def tw8806927271449567608:=0
def tw2470564746050167546:=0
def tw3234386321672186069:=0
def tw11795867375296165064:=0
def tw7216225635384915294:=0
def tw1610859852724544407:=0
def tw8013395562655780347:=0
def tw2948968000366194728:=0
def tw8828146318822214497:=0
def tw14670676498119301297:=0
def tw8699000754757786396:=0
def tw8839746675027679817:=0
def tw12048709529173836127:=0
def tw6225352330451109398:=0
def tw4346819203251687248:=0
def tw8166122924955286215:=0
def tw3962625245268546790:=0
def tw1582431791125507655:=0
def tw14883093541380954120:=0
def tw16215723401293040741:=0
def tw16817441357109390503:=0
def tw18170881823590665514:=0
def tw2692555959383129298:=0
def tw6380351104025813655:=0
def tw11853665236328655465:=0
def tw15263290225379384959:=0
def tw10197984636729927489:=0
def tw15844012152815322490:=0
def tw11438201897700569592:=0
def tw10420610784737916452:=0
def tw11047357334820604183:=0
def tw15312492673442091175:=0
def tw11578965819469930424:=0
def tw7776037770752411402:=0
def tw14642716586166725144:=0
def tw1470848554933089700:=0
def tw11018583949917424169:=0
def tw15699415649796223540:=0
def tw9008685265304496417:=0
def tw9423046183914808681:=0
def tw15996593278835470150:=0
def tw2283211268349732420:=0
def tw6197688688849268372:=0
def tw14027735258157430823:=0
def tw1634077180490282021:=0
def tw2502647822454377057:=0
def tw11258466243181660271:=0
def tw15982190619097242677:=0
def tw1732306704089398079:=0
def tw5094154271700997446:=0
def tw13296754680131243372:=0
def tw7855203818466118190:=0
def tw8431877056718789133:=0
def tw11010594294577467827:=0
def tw6148297524762561316:=0
def tw16886309366883441378:=0
def tw10226780293942808355:=0
def tw2760975060530745049:=0
def tw12167702397948853173:=0
def tw9524875415931796449:=0
def tw9345080407866257714:=0
def tw6980192636008288644:=0
def tw2039837718214298611:=0
def tw6670887099017796908:=0
def tw14525823284290554430:=0
def tw16868713806099904792:=0
def tw9421287644749319637:=0
def tw8492861082004507062:=0
def tw11611801088136396015:=0
def tw6090629839856716186:=0
def tw12637681629864888736:=0
def tw13547677016395021684:=0
def tw17425004247409442322:=0
def tw18408207932490800976:=0
def tw4313142887187956936:=0
end PySem.W.Fast
open PySem PySem.W PyProof.Rows
set_option maxRecDepth 100000 in
set_option maxHeartbeats 0 in
theorem PySem.Challenge.cw_roomslaid_k12_lines_refused_holds : PySem.Challenge.rw_roomslaid_k12_lines_refused.Holds := by
 w_on;o_law;k_head; (case hw=>w_witness2)
 k_fill
 refine K12.walk (l := PySem.Challenge.rw_roomslaid_k12_lines_refused) rfl rfl (fun w h Y => PySem.W.kIn_of Y) ?F
 case F =>
  intro w mg fa h KX G hmg
  refine' K12.all_mk KX G hmg ?_ ?_ ?_ ?_ ?_ ?_ ?_ ?_ ?_ ?_ ?_ ?_ ?_ ?_ ?_ ?_ ?_ ?_ ?_ ?_ ?_ ?_ ?_ ?_ ?_ ?_ ?_ ?_ ?_ ?_ ?_ ?_ ?_ ?_ ?_ ?_ ?_ ?_ ?_ ?_ ?_ ?_ ?_ ?_ ?_ ?_ ?_ ?_ ?_ ?_ ?_ ?_ ?_ ?_ ?_ ?_ ?_ ?_ ?_ ?_ ?_ ?_ ?_ ?_ ?_ ?_ ?_ ?_ ?_ ?_ ?_ ?_ ?_ ?_ ?_ ?_ ?_ ?_ ?_ ?_ ?_ ?_ ?_ ?_ ?_ ?_ ?_ ?_ ?_ ?_ ?_ ?_ ?_ ?_ ?_ ?_ ?_ ?_ ?_ ?_ ?_ ?_ ?_ ?_ ?_ ?_ ?_ ?_ ?_ ?_ ?_ ?_ ?_ ?_ ?_ ?_ ?_ ?_ ?_ ?_ ?_ ?_ ?_ ?_ ?_ ?_ ?_ ?_ ?_ ?_ ?_ ?_ ?_ ?_ ?_ ?_ ?_ ?_ ?_ ?_ ?_ ?_ ?_ ?_ ?_ ?_ ?_ ?_ ?_ ?_ ?_ ?_ ?_ ?_ ?_ ?_ ?_ ?_ ?_ ?_ ?_ ?_ ?_ ?_ ?_ ?_ ?_ ?_ ?_ ?_ ?_ ?_ ?_ ?_ ?_
  all_goals (first|refine' K12.FG.mk ?_ ⟨_,L2.aEe ?_ ?_ ?_⟩|refine' K12.FM.mk ?_ ?_ ⟨_,L2.aEe ?_ ?_ ?_⟩|refine' K12.CK.mk ?_ ⟨?_,?_,?_,?_⟩ ?_ ?_ ?_|skip)
  all_goals (repeat' (first|exact K12.na0|refine' K12.na1 ?_ ?_))
  all_goals (first|k_is|exact K12.na0|exact Eq.refl true|exact Eq.refl (some true)|exact Eq.refl (some false)|kernel_rfl|decide +kernel|skip)
