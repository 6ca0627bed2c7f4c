import PyProof.Rows.All
import Wide.All
import OpenK.AllK
import Wide.FinOn
import Lean
import PyProof.EqAt
import PyProof.EqKinds
import PyProof.TupleCall
import PyProof.LongRange
import PyProof.ListRange
import PyProof.RaisesMany
import PyProof.ExcBaseAll.ValueError
import PyProof.ExcArgs
import PyProof.InstStoreFacts
import PyProof.ExcAttrAll.ValueError
import PyProof.RulesAs
import PyProof.RulesDel
import PyProof.ReprRoads
import PyProof.CallFns
import PyProof.InstSpecial
import PyProof.Rows.RuleN_isinstance
import KE.KIsNot
import PyProof.ReprLen
import PyProof.EnumMake
import PyProof.EnumFor
import PyProof.EnumStmt
import PyProof.Rows.EnumRows
import PyProof.RulesDelMore
import PyProof.Rows.SetFrom
import PyProof.ZipIter
import PyProof.IsRules
import PyProof.Conv_int_bool
import PyProof.IsiTuple
import PyProof.NeKinds
import KE.KEqDict
import PyProof.Rows.FStr
import PyProof.Rows.StrNews
import PyProof.StrCalls2
import PyProof.StrLawsChain
import PyProof.StrLawsTight
import PyProof.StrOps2
import PyProof.WalkInts
import PyProof.DictCompW
import PyProof.DictWalks
import PyProof.Rows.DictUnroll
import PyProof.FactsAll.dict
import PyProof.AttrMissHeap
import PyProof.FactsAll.zip
import KE.KDictOf
import PyProof.StrCalls6
import PyProof.ToksMono
import PyProof.DictUpdate
import PyProof.EqLayable
import PyProof.Rows.SortStr
import PyProof.Rows.SortWalk
import KE.KIntText
import KE.IntTextLaws
import KE.IntTextText
import PyProof.Rows.StrIntSpec
import PySem.Challenge.RW_roomslaid_k36_words_reckoned
set_option hygiene false
set_option autoImplicit true
set_option Elab.async false
set_option linter.all false
set_option maxRecDepth 100000
local macro_rules|`(tactic|ac_rfl)=>`(tactic|decide +kernel)
theorem hide_{p:Prop}(h:let g:=p;g):p:=h
def LpL (p:Prop):Prop:=p
theorem LpL.i{p:Prop}(h:p):LpL p:=h
local macro_rules | `(tactic| obtain $p:rcasesPatMed := $e) => `(tactic| (refine hide_ ?_;intro G_; (rcases $e:term with $p) <;> (unfold G_;try clear G_;try (with_reducible refine LpL.i ?_;intro D_))))
local macro_rules | `(tactic| omega) => `(tactic| lia)
open PySem.W (Frag keepIn findIn codeIn nsIn fnOf mg_of isFn mg_none_of)
open List renaming length_map->δ,getElem?_eq_some_iff->η,length_append->θ,mem_cons->ο,getElem?_eq_getElem->π,mem_cons_self->τ,size_toArray->υ,length_cons->χ,mem_singleton->Δ,map_append->Θ,mem_cons_of_mem->Ω,mem_of_getElem?->iq,getElem?_append_right->iu,all_eq_true->iz,zipWith->ja,getD_eq_getElem?_getD->jb,getElem?_append_left->jd,mem_append_right->jf,length_take->ji,take_add_one->jk,append_nil->jq,not_mem_nil->jr,map_cons->ju,getElem?_map->jv,append_assoc->jy,mem_map->jz,length_singleton->km,take_of_length_le->li,mem_append->lq,mem_iff_getElem?->lw,mem_append_left->mf,length_take_le->mv,map_map->nh,zipWith_cons_cons->oo,drop_eq_getElem_cons->ou,nodup_cons->pe,range->ph,take_length->qc,filter_cons_of_neg->qe,length_replicate->qg,getElem?_take_of_lt->ql,find?_cons->qx,flatMap_append->qz,map_congr_left->rg,sum_cons->ue,length_eq_zero_iff->ug,any_eq_true->uh,flatMap_singleton->uv,find?_cons_of_neg->uw,nodup_append->vg,mem_of_mem_take->vn,length_drop->vp,length_zipWith->wc,lookup->xa,replicate->xk,flatMap_cons->xn,find?_cons_of_pos->xo,drop_of_length_le->xu,take_append_drop->ya,eq_nil_or_concat->yc,concat_eq_append->yd,getElem?_zipWith->ye,getElem_mem->yg,getElem_map->yj,any_cons->yk
open PySem renaming wpAny_bind->ε,Shared->μ,sizeLine->ξ,wpAny_pure->ω,wpAny->Ξ,mainGlobals->Ψ,starEach->iy,sizeLine_eq->jc,model->je,boot_len->jt,PyData->jx,wpAny_holding->kf,Program->ki,Heap->ky,Around->lg,compareOp->lm,wpAny_mono->md,wpAny_truthy_bool->mh,sysModules->mi,wpAny_field->mq,mem_of_lookup->mr,World->mx,wpAny_loadPart'->nj,wpAny_seqItems->ny,bootBuiltins->om,Spec->oy,wpAny_pyIter_list->oz,Builtin->pd,backTo->qh,wpAny_call_entry->qi,wpAny_setField_rec->qj,binaryOp->qo,assignEach->qv,wpAny_richCompare_same_room->rj,cLine->sd,wpAny_pyIter_tuple->sf,wpAny_Call_Name_kw->sj,wpAny_passesOwn->sx,foldedSetIterable->tq,FuncData->tu,keywordEach->ua,holding->uf,tupleKind_room_in1->uu,codeAny_builtin->uy,behindInMarks->uz,wpAny_standAt->va,strLen_append->vb,pyNext->vc,wpAny_notOrdered_dict->vd,wpAny_newObj_type->ve,call_meets->vj,wpAny_isInstance->vw,attributeBase->we,ZipApart->wj,plainId_quiet->wk,letOwnedTupleGo->wo,valueAt->wq,getattributeRaised->ww,getMethod->wz,sliceBounds->xc,wpAny_pyNext_list_item->xi,backToKw->xj,intText?->xm,wpAny_dictEntries->xw,wpAny_pyNext_list_end->xx,builtinLookup_eq_fast->yb,wpAny_updateSeq_pair->yn,Paired->yo
open PySem.Str renaming ofString->ζ,join->jp,cps_append->vk
open Nat renaming le_refl->ι,lt_of_lt_of_le->ς,ne_of_lt->ir,zero_le->jg,le_trans->jh,lt_of_le_of_lt->mj,ne_of_gt->mz,lt_irrefl->nk,sub_self->nv,min_le_left->og,le_add_right->qd,mod_two_eq_zero_or_one->qf,not_lt_zero->sy,min_eq_left->tf,le_of_lt->tm,testBit_eq_decide_div_mod_eq->uc,le_succ->vi,lt_succ_self->vo,min_eq_right->vq,succ_le_succ->yh
open PySem.Heap renaming get?_push_of_some->ν,lt_size->ψ,get?_push_size->iw,SameBut->nr,size_push->qp,get?_update_other->ul,IsTuple->xt
open Bool renaming false_ne_true->ρ,and_eq_true->jo,false_eq_true->pk,false_and->qm,eq_false_iff->qt,eq_iff_iff->qw
open PySem.W renaming Frag->Φ,mg_none_of->nq,kia_one->oe,instObj->qu,nsIn->rh,kitOne->si,methodCall_KW->su,mg_of->tj,findIn->uj,callWith_K->uk,specialIn->vf,plainGet->yf
open Sum renaming inr->jj
open PySem.Builtin.SmallTypes renaming nextOf->jl,ownedTupleIsFree->jw,ownedTupleHandOut->vz
open PySem.Value renaming ref->jm,none->se
open Ne renaming symm->kc
open False renaming elim->ke
open PySem.Builtin renaming bitAnd->kh
open PySem.F renaming plainAttrs_list->kj,slot_list_append->mm,type_list_append->mn,plainAttrs_str->oq,slot_zip_next->qy,slot_str_split->rm,type_str_split->rq,slot_tuple_iterator_next->sk,args_tuple_add_2->wf,slot_list_getattribute->wm,entry_tuple_add->xb,slot_zip_getattribute->xh,slot_tuple_add->xl,args_zip_next_1->xq,slot_dict_get->xy,entry_zip_next->yi
open PySem.PassesOwn renaming never->lf
open Array renaming length_toList->lh,getElem?_eq_getElem->ow,toList_append->vy
open PySem.PyData renaming depthAll->lr,int->sr
open True renaming intro->lu
open Option.some renaming inj->mw
open PySem.SeqAt renaming EqAt->my
open PyProof.Rows renaming callWith_type1->nu,boot_isinstance->oh
open PySem.Builtin.Str renaming occurrences->pw
open PySem.Txt renaming split->pz
open Option renaming isSome_iff_exists->qk,map_eq_some_iff->uo
open PySem.Around renaming under_plainId->qq
open PySem.NumText renaming digitsVal->qr
open PySem.Builtin.Dict renaming dictSlotArgs->sv,updateFrom->ui
open Int renaming toNat_natCast->ub,fdiv_eq_ediv_of_nonneg->vh,emod_lt_of_pos->wx,eq_ofNat_of_zero_le->xg
open PySem.Paired renaming length->ud
open ForInStep renaming yield->ux
open PySem.Shared renaming heap->vm
open Nat.succ renaming inj->vt
open PySem.Builtin.List renaming listTooLong->wg
open PySem.Calls renaming spliced_cons->wt
open PySem.Obj renaming mapSeq->wu
open Sum.inr renaming inj->wy
open List.cons renaming inj->yl
namespace L2
open PySem PySem.Spec PyProof.Rows
abbrev Key:=Sum Int Str
def rX:Key->Value->Bool
 |.inl k,v=>Value.isInt k v
 |.inr x,v=>Value.isStrOf x v
def keyH (w:mx):Key->Int
 |.inl k=>hashInt k
 |.inr x=>hashStr w x
theorem qX:∀{k:Key}{v:Value},rX k v=true->(∃i t,k=Sum.inl i/\v=Value.int i t)\/(∃x t,k=jj x/\v=Value.str x t)
 |.inl i,v,h=>by
  obtain⟨t,e⟩:=Value.isInt_shape (k:=i) (v:=v) h;exact .inl ⟨i,t,rfl,e⟩
 |.inr x,v,h=>by
  obtain⟨t,e⟩:=Value.isStrOf_shape (x:=x) (v:=v) h;exact .inr ⟨x,t,rfl,e⟩
theorem aHi(i:Int)(t:Tok):rX (.inl i) (.int i t)=true:=by simp[rX,Value.isInt]
theorem aGv(x:Str)(t:Tok):rX (.inr x) (.str x t)=true:=by simp[rX,Value.isStrOf]
theorem aQh(a b:Int):decide ((Sum.inl a:Key)=Sum.inl b)=(a == b):=by
 by_cases e:a=b
 ·subst e;simp
 ·have h:¬ (Sum.inl a:Key)=Sum.inl b:=fun q=>e (Sum.inl.inj q);rw[decide_eq_false h];exact(beq_eq_false_iff_ne.mpr e).symm
theorem aQd(a b:Str):decide ((jj a:Key)=jj b)=decide (a=b):=by
 by_cases e:a=b
 ·subst e;simp
 ·have h:¬ (jj a:Key)=jj b:=fun q=>e (wy q);rw[decide_eq_false h,decide_eq_false e]
theorem aSt(a:Int)(b:Str):decide ((Sum.inl a:Key)=jj b)=false:=decide_eq_false (fun q=>nomatch q)
theorem aRw(a:Str)(b:Int):decide ((jj a:Key)=Sum.inl b)=false:=decide_eq_false (fun q=>nomatch q)
def kJ (prog:ki) (w:mx):PySem.KeyKind prog w Key where
 is:=rX
 hash:=keyH w
 inj:=fun v a b ha hb=>by
  rcases qX ha with⟨i,t,rfl,rfl⟩|⟨x,t,rfl,rfl⟩
  ·rcases qX hb with⟨j,u,rfl,e⟩|⟨y,u,rfl,e⟩
   ·injection e with e1 _;rw[e1]
   ·exact nomatch e
  ·rcases qX hb with⟨j,u,rfl,e⟩|⟨y,u,rfl,e⟩
   ·exact nomatch e
   ·injection e with e1 _;rw[e1]
 byValue:=fun k v h=>by
  rcases qX h with⟨i,t,rfl,rfl⟩|⟨x,t,rfl,rfl⟩ <;> rfl
 pyHash:=fun hv h=>by
  rcases qX hv with⟨i,t,rfl,rfl⟩|⟨x,t,rfl,rfl⟩
  ·exact wpAny_pyHash_int h
  ·exact wpAny_pyHash_str h
 eqBool:=fun hu hv h=>by
  rcases qX hu with⟨i,t,rfl,rfl⟩|⟨x,t,rfl,rfl⟩
  ·rcases qX hv with⟨j,u,rfl,rfl⟩|⟨y,u,rfl,rfl⟩
   ·rw[aQh]at h;exact wpAny_eqBool_int h
   ·rw[aSt]at h;exact my.int_str i t y u _ _ _ _ h
  ·rcases qX hv with⟨j,u,rfl,rfl⟩|⟨y,u,rfl,rfl⟩
   ·rw[aRw]at h;exact my.str_int x t j u _ _ _ _ h
   ·rw[aQd]at h;exact wpAny_eqBool_str h
 «strs»:=fun k x t v h=>by
  rcases qX h with⟨i,u,rfl,e⟩|⟨y,u,rfl,e⟩
  ·exact nomatch e
  ·injection e with e1 _;subst e1;cases v <;> rfl
theorem aBa(prog:ki)(w:mx)(i:Int)(t:Tok):(kJ prog w).is (.inl i) (.int i t)=true:=aHi i t
theorem aBz(prog:ki)(w:mx)(x:Str)(t:Tok):(kJ prog w).is (.inr x) (.str x t)=true:=aGv x t
inductive V where
 |non|bl (b:Bool)|int (i:Int)|str (x:Str)|byt (b:Array UInt8)|flt (b:UInt64)|ref (a:Addr)|ty (n:String)
 deriving DecidableEq
def RelV:V->Value->Prop
 |.non,u=>u=se
 |.bl b,u=>u=Value.bool b
 |.int i,u=>∃t,u=Value.int i t
 |.str x,u=>∃t,u=Value.str x t
 |.byt b,u=>∃t,u=Value.bytes b t
 |.flt b,u=>∃t,u=Value.float b t
 |.ref a,u=>u=jm a
 |.ty n,u=>u=Value.type n
abbrev jY:List V->List Value->Prop:=yo RelV
theorem jY.length(r:jY xs us):xs.length=us.length:=ud r
theorem jY.get:∀{xs:List V}{us:List Value}{i:Nat}{x:V},jY xs us->xs[i]?=some x->∃u,us[i]?=some u/\RelV x u
 |_,_,_,_,.nil,e=>by simp at e
 |_,_,0,_,.cons r _,e=>by simp at e;subst e;exact⟨_,rfl,r⟩
 |_,_,i+1,x,.cons _ t,e=>by
  obtain⟨u,h1,h2⟩:=jY.get (i:=i) (x:=x) t (by simpa using e);exact⟨u,by simpa using h1,h2⟩
theorem jY.set(r:RelV x u):∀{xs:List V}{us:List Value}(i:Nat),jY xs us->jY (xs.set i x) (us.set i u)
 |_,_,_,.nil=>.nil
 |_,_,0,.cons _ t=>.cons r t
 |_,_,i+1,.cons q t=>.cons q (jY.set r i t)
theorem jY.append:∀{xs ys:List V}{us ws:List Value},jY xs us->jY ys ws->jY (xs++ys) (us++ws)
 |_,_,_,_,.nil,s=>s
 |_,_,_,_,.cons r t,s=>.cons r (jY.append t s)
theorem jY.take:∀{xs:List V}{us:List Value}(n:Nat),jY xs us->jY (xs.take n) (us.take n)
 |_,_,0,_=>.nil
 |_,_,_+1,.nil=>.nil
 |_,_,n+1,.cons r t=>.cons r (jY.take n t)
theorem jY.drop:∀{xs:List V}{us:List Value}(n:Nat),jY xs us->jY (xs.drop n) (us.drop n)
 |_,_,0,r=>r
 |_,_,_+1,.nil=>.nil
 |_,_,n+1,.cons _ t=>jY.drop n t
theorem jY.none_of:∀{xs:List V}{us:List Value}{i:Nat},jY xs us->xs[i]?=none->us[i]?=none:=fun {xs us i} r e=>by
 have h1:=r.length;have h2:xs.length<=i:=List.getElem?_eq_none_iff.mp e;exact List.getElem?_eq_none_iff.mpr (by omega)
def cX:Option V->Option Value->Prop
 |some v,some u=>RelV v u
 |none,none=>True
 |_,_=>False
def KV {κ : Type} : List (κ×V)->List (κ×Value)->Prop:=yo fun (p : κ×V) (q : κ×Value)=>p.1=q.1/\RelV p.2 q.2
def kV:Key->V
 |.inl i=>.int i
 |.inr x=>.str x
inductive HO where
 /-- a list -/
 |lst (xs:List V)
 /-- a tuple (never changes) -/
 |tup (xs:List V)
 /-- a dict whose keys are ints and texts;one whose keys are tuples of ints and texts (the empty one is both) -/
 |dK (kvs:List (Key×V))|dT (kvs:List (List Key×V))
 /-- a set of ints: its members,its size -/
 |set (S:Int->Bool) (n:Nat)
 /-- an instance of the class at C,its dict at dx,its attributes -/
 |ins (C dx:Addr) (fs:List (Str×V))
 /-- the dict of the instance at x -/
 |own (x:Addr)
 /-- the dict of an exception -/
 |xd (fs:List (Str×V))
 /-- a bound method,f of x -/
 |met (f x:Addr)
 /-- a range object lo,lo+1,.. below hi -/
 |rng (lo hi:Int)
 /-- a thing that is known to the object (the script;a dict while a loop walks it): read,never written while it is so -/
 |frz (o:Obj) (u:HO)
 /-- a code object's table -/
 |tbl (ps:Array Value)
 /-- any other thing,by what is true of its one object (a def of one's own: SetO a S n := HO.ext fun h => ..) -/
 |ext (φ : ky->Prop)
abbrev Hp:=Addr->Option HO
def upd (H:Hp) (a:Addr) (o:HO):Hp:=fun b=>if b=a then some o else H b
theorem jI : upd H a o a=some o:=by unfold upd;rw[if_pos rfl]
theorem jT{H:Hp}{a b:Addr}(h:b≠a):upd H a o b=H b:=by unfold upd;rw[if_neg h]
theorem cB : upd (upd H a o) a u=upd H a u:=by
 funext b;unfold upd;split <;> rfl
theorem fZ{H:Hp}(h:H a=some o)(h':H b=some u)(d:o≠u):a≠b:=by
 intro e;subst e;rw[h]at h';exact d (mw h')
theorem jG{H:Hp}(h:H a=some o)(h':H b=none):a≠b:=by
 intro e;subst e;rw[h]at h';cases h'
section
variable (P:ki) (w:mx)
def qZ (H:Hp) (h:ky) (a:Addr):HO->Prop
 |.lst xs=>xs.length<=ξ/\∃(its:List Value) (n:Nat),jY xs its/\h.get? a=some { cls:=.type "list",data:=.seq its.toArray n }
 |.tup xs=>xs.length<=ξ/\∃its:List Value,jY xs its/\IsTup h a its.toArray
 |.dK kvs=>kvs.length<=ξ/\(a == mi)=false/\∃vs,KV kvs vs/\h.DictOf (kJ P w) a vs
 |.dT kvs=>kvs.length<=ξ/\(a == mi)=false/\∃xs:List (List Key×Addr×Value),
   yo (fun (p:List Key×V) (q:List Key×Addr×Value)=>p.1=q.1/\H q.2.1=some (.tup (p.1.map kV))/\RelV p.2 q.2.2) kvs xs ∧
   ∃o es ep,h.get? a=some o/\o.ExactDict/\o.data=.dict es ep/\es.toList=xs.map (entryOfKey (tupleKind (kJ P w)))/\(xs.map (·.1)).Nodup
 |.set S n=>h.SetOf (intKind P w) a S n
 |.ins C dx fs=>H dx=some (.own a)/\fs.length<=1000/\dx≠a/\h.get? a=some (qu C dx) ∧
   ∃mA,h.Ns1 dx mA/\(∀f,cX (fs.lookup f) (mA f))/\PySem.Within mA (fs.map (·.1))
 |.own _=>∃o,h.get? a=some o
 |.xd fs=>∃mA,h.Ns1 a mA/\∀f,cX (fs.lookup f) (mA f)
 |.rng lo hi=>∃t u v,h.get? a=some { cls:=.type "range",data:=.fields #[.int lo t,.int hi u,.int 1 v] }
 |.frz o u=>h.get? a=some o/\qZ H h a u
 |.tbl ps=>h.get? a=some { cls:=.none,data:=.fields ps }
 |.met f x=>h.get? a=some (PySem.W.methodObj (.ref f) (.ref x))
 |.ext φ=>φ h/\(∃o,h.get? a=some o)/\∀h1 h2:ky,φ h1->(∀o,h1.get? a=some o->h2.get? a=some o)->φ h2
def HOk (H:Hp) (h:ky):Prop:=∀a o,H a=some o->qZ P w H h a o
end
section
variable {P:ki}{w:mx}{H H':Hp}{h h':ky}{a:Addr}{o:HO}
theorem qZ.lt(x:qZ P w H h a o):a<h.objs.size:=by
 cases o with
 |lst xs=>obtain⟨_,_,_,_,e⟩:=x;exact ψ e
 |tup xs=>obtain⟨_,_,_,p⟩:=x;exact p.lt
 |dK kvs=>obtain⟨_,_,_,_,o,_,_,e,_⟩:=x;exact ψ e
 |dT kvs=>obtain⟨_,_,_,_,o,_,_,e,_⟩:=x;exact ψ e
 |set S n=>obtain⟨o,_,_,_,e,_⟩:=x;exact ψ e
 |ins C dx fs=>obtain⟨_,_,_,e,_⟩:=x;exact ψ e
 |own y=>obtain⟨_,e⟩:=x;exact ψ e
 |xd fs=>obtain⟨_,⟨_,_,_,e,_⟩,_⟩:=x;exact ψ e
 |rng lo hi=>obtain⟨_,_,_,e⟩:=x;exact ψ e
 |frz ob u=>obtain⟨e,_⟩:=x;exact ψ e
 |tbl ps=>exact ψ (show h.get? a=some _ from x)
 |met f y=>exact ψ (show h.get? a=some _ from x)
 |ext φ=>obtain⟨_,⟨_,e⟩,_⟩:=x;exact ψ e
theorem Paired.mapP{α β : Type}{F G : α->β->Prop}: ∀{l₁ : List α}{l₂ : List β},yo F l₁ l₂->(∀a b,F a b->G a b)->yo G l₁ l₂
 |_,_,.nil,_=>.nil
 |_,_,.cons r t,f=>.cons (f _ _ r) (Paired.mapP t f)
theorem qZ.stay(x:qZ P w H h a o)(k:∀b u,(b=a\/H b=some (.own a))->h.get? b=some u->h'.get? b=some u)
  (ho:∀b,H b=some (.own a)->H' b=some (.own a))(ht:∀b xs,H b=some (.tup xs)->H' b=some (.tup xs)):qZ P w H' h' a o:=by
 induction o with
 |lst xs=>obtain⟨z,its,n,r,e⟩:=x;exact⟨z,its,n,r,k _ _ (.inl rfl) e⟩
 |tup xs=>obtain⟨z,its,r,ob,e,c⟩:=x;exact⟨z,its,r,ob,k _ _ (.inl rfl) e,c⟩
 |dK kvs=>obtain⟨z,y,vs,r,ob,es,ep,e,c⟩:=x;exact⟨z,y,vs,r,ob,es,ep,k _ _ (.inl rfl) e,c⟩
 |dT kvs =>
  obtain⟨z,y,xs,r,ob,es,ep,e,c⟩:=x;exact⟨z,y,xs,Paired.mapP r fun p q z=>⟨z.1,ht _ _ z.2.1,z.2.2⟩,ob,es,ep,k _ _ (.inl rfl) e,c⟩
 |set S n=>obtain⟨ob,es,ep,t,e,c⟩:=x;exact⟨ob,es,ep,t,k _ _ (.inl rfl) e,c⟩
 |ins C dx fs =>
  obtain⟨d,z,ne,e,mA,⟨od,es,ep,e2,c⟩,r⟩:=x;exact⟨ho _ d,z,ne,k _ _ (.inl rfl) e,mA,⟨od,es,ep,k _ _ (.inr d) e2,c⟩,r⟩
 |own y=>obtain⟨ob,e⟩:=x;exact⟨ob,k _ _ (.inl rfl) e⟩
 |xd fs=>obtain⟨mA,⟨od,es,ep,e,c⟩,r⟩:=x;exact⟨mA,⟨od,es,ep,k _ _ (.inl rfl) e,c⟩,r⟩
 |rng lo hi=>obtain⟨t,u,v,e⟩:=x;exact⟨t,u,v,k _ _ (.inl rfl) e⟩
 |frz ob u ih=>obtain⟨e,q⟩:=x;exact⟨k _ _ (.inl rfl) e,ih q⟩
 |tbl ps =>
  have e:h.get? a=some { cls:=.none,data:=.fields ps }:=x;show h'.get? a=some { cls:=.none,data:=.fields ps };exact k a _ (.inl rfl) e
 |met f y =>
  have e:h.get? a=some (PySem.W.methodObj (.ref f) (.ref y)):=x;show h'.get? a=some (PySem.W.methodObj (.ref f) (.ref y));exact k a _ (.inl rfl) e
 |ext φ=>obtain⟨p,⟨o,e⟩,st⟩:=x;exact⟨st _ _ p fun o q=>k _ _ (.inl rfl) q,⟨o,k _ _ (.inl rfl) e⟩,st⟩
theorem HOk.lt(x:HOk P w H h)(e:H a=some o):a<h.objs.size:=(x a o e).lt
theorem HOk.fresh(x:HOk P w H h)(e:h.objs.size<=a):H a=none:=by
 cases q:H a with
 |none=>rfl
 |some u=>exact absurd (ς (x.lt q) e) (nk _)
theorem HOk.kept(x:HOk P w H h)(k:∀b u,h.get? b=some u->h'.get? b=some u):HOk P w H h':=fun a o e =>
 (x a o e).stay (fun b u _ q=>k b u q) (fun _ q=>q) fun _ _ q=>q
theorem HOk.laid(x:HOk P w H h)(k:∀b u,h.get? b=some u->h'.get? b=some u)(hp:h.objs.size<=a)(new:qZ P w (upd H a o) h' a o):HOk P w (upd H a o) h':=fun b u e=>by
 have hn:=x.fresh hp
 by_cases hb:b=a
 ·subst hb;rw[jI]at e;cases e;exact new
 ·rw[jT hb]at e;exact(x b u e).stay (fun c v _ q=>k c v q) (fun c q=>by rw[jT (jG q hn)];exact q) fun c xs q=>by rw[jT (jG q hn)];exact q
end
def Rd (H:Hp) (a:Addr) (u:HO):Prop:=H a=some u\/∃o,H a=some (.frz o u)
theorem Rd.of{H:Hp}(h:H a=some u):Rd H a u:=.inl h
theorem Rd.ok(r:Rd H a u)(x:HOk P w H h):qZ P w H h a u:=by
 rcases r with r|⟨o,r⟩
 ·exact x a u r
 ·obtain⟨_,q⟩:=x a _ r;exact q
def Mut:Option HO->Prop
 |some (.lst _)=>True
 |some (.dK _)=>True
 |some (.dT _)=>True
 |some (.set _ _)=>True
 |some (.ins _ _ _)=>True
 |some (.ext _)=>True
 |_=>False
section
variable {P:ki}{w:mx}{H:Hp}{h h':ky}{x e:Addr}{o':HO}
theorem HOk.write(ok:HOk P w H h)(mu:Mut (H x))(he:e=x\/H e=some (.own x))(k:∀b u,b≠e->h.get? b=some u->h'.get? b=some u)(heo:∃u,h'.get? e=some u)
  (new:qZ P w (upd H x o') h' x o'):HOk P w (upd H x o') h':=fun b u q=>by
 have nown:∀c y,H c=some (.own y)->c≠x:=fun c y r z=>by subst z;rw[r]at mu;exact mu
 have ntup:∀c xs,H c=some (.tup xs)->c≠x:=fun c xs r z=>by subst z;rw[r]at mu;exact mu
 by_cases hb:b=x
 ·subst hb;rw[jI]at q;cases q;exact new
 ·rw[jT hb]at q
  by_cases hbe:b=e
  ·have q':H b=some (.own x):=by
    rcases he with z|z
    ·exact absurd (hbe.trans z) hb
    ·rw[hbe];exact z
   rw[q]at q';cases q';obtain⟨v,hv⟩:=heo;exact⟨v,by rw[hbe];exact hv⟩
  ·refine(ok b u q).stay (fun c v hc r=>k c v ?_ r) (fun c r=>by rw[jT (nown c b r)];exact r) fun c xs r=>by rw[jT (ntup c xs r)];exact r
   rcases hc with rfl|hc
   ·exact hbe
   ·rintro rfl;rcases he with z|z
    ·exact nown c b hc z
    ·rw[hc]at z;cases z;exact hb rfl
end
structure Un (fs ex:List Addr) (H H':Hp) (h h':ky):Prop where
 keep:∀b o,h.get? b=some o->H b=none->b∉fs->b∉ex->h'.get? b=some o
 slot:∀b o,h.get? b=some o->H b=none->b∈fs->b∉ex->∃sl,h'.get? b=some { o with slots:=sl }
 free:∀b o,h.get? b=some o->H b=none->b∉ex->H' b=none
 there:∀b o,h.get? b=some o->b∉ex->∃o',h'.get? b=some o'
 tups:∀b xs,H b=some (.tup xs)->H' b=some (.tup xs)
 frzs:∀b o u,H b=some (.frz o u)->H' b=some (.frz o u)
 tbls:∀b ps,H b=some (.tbl ps)->∃more,H' b=some (.tbl (ps++more))
section
variable {fs fs' ex ex':List Addr}{H H1 H2:Hp}{h h1 h2 h':ky}{a x e:Addr}{o:HO}
theorem Un.any(u:Un fs ex H H1 h h1){b:Addr}{ob:Obj}(q:h.get? b=some ob)(n:H b=none)(hx:b∉ex):∃sl,h1.get? b=some { ob with slots:=sl }:=by
 by_cases hb:b∈fs
 ·exact u.slot b ob q n hb hx
 ·exact⟨ob.slots,u.keep b ob q n hb hx⟩
theorem Un.trans(a:Un fs ex H H1 h h1)(b:Un fs ex H1 H2 h1 h2):Un fs ex H H2 h h2 where
 keep:=fun c ob q n hc hx=>b.keep c ob (a.keep c ob q n hc hx) (a.free c ob q n hx) hc hx
 slot:=fun c ob q n hc hx=>by
  obtain⟨sl,e1⟩:=a.slot c ob q n hc hx;obtain⟨sl',e2⟩:=b.slot c _ e1 (a.free c ob q n hx) hc hx;exact⟨sl',e2⟩
 free:=fun c ob q n hx=>by
  obtain⟨o',e1⟩:=a.there c ob q hx;exact b.free c o' e1 (a.free c ob q n hx) hx
 there:=fun c ob q hx=>by
  obtain⟨o',e1⟩:=a.there c ob q hx;exact b.there c o' e1 hx
 tups:=fun c xs q=>b.tups c xs (a.tups c xs q)
 frzs:=fun c ob xs q=>b.frzs c ob xs (a.frzs c ob xs q)
 tbls:=fun c ps q=>by
  obtain⟨m1,e1⟩:=a.tbls c ps q;obtain⟨m2,e2⟩:=b.tbls c _ e1;exact⟨m1++m2,by rw[e2,Array.append_assoc]⟩
theorem Un.kept(k:∀b u,h.get? b=some u->h'.get? b=some u):Un fs ex H H h h' :=
 ⟨fun b ob q _ _ _=>k b ob q,fun b ob q _ _ _=>⟨ob.slots,k b ob q⟩,fun _ _ _ n _=>n,fun b ob q _=>⟨ob,k b ob q⟩,fun _ _ q=>q,fun _ _ _ q=>q,fun _ ps q=>⟨#[],by rw[q];simp⟩⟩
theorem Un.refl:Un fs ex H H h h:=Un.kept fun _ _ q=>q
theorem Un.laid(k:∀b u,h.get? b=some u->h'.get? b=some u)(hp:h.objs.size<=a)(hn:H a=none):Un fs ex H (upd H a o) h h' where
 keep:=fun b u q _ _ _=>k b u q
 slot:=fun b u q _ _ _=>⟨u.slots,k b u q⟩
 free:=fun b u q n _=>by rw[jT (ir (ς (ψ q) hp))];exact n
 there:=fun b u q _=>⟨u,k b u q⟩
 tups:=fun b xs q=>by rw[jT (jG q hn)];exact q
 frzs:=fun b u xs q=>by rw[jT (jG q hn)];exact q
 tbls:=fun b ps q=>⟨#[],by rw[jT (jG q hn),q];simp⟩
theorem Un.write(mu:Mut (H x))(he:e=x\/H e=some (.own x))(k:∀b u,b≠e->h.get? b=some u->h'.get? b=some u)(heo:∃u,h'.get? e=some u):Un fs ex H (upd H x o) h h':=by
 have hx:∀b,H b=none->b≠x:=fun b n z=>by subst z;rw[n]at mu;exact mu
 have hb:∀b,H b=none->b≠e:=fun b n z=>by
  subst z;rcases he with r|r
  ·exact hx b n r
  ·rw[n]at r;cases r
 have hm:∀b u,H b=some u->¬ Mut (some u)->b≠x:=fun b u q nm z=>by subst z;rw[q]at mu;exact nm mu
 refine⟨fun b u q n _ _=>k b u (hb b n) q,fun b u q n _ _=>⟨u.slots,k b u (hb b n) q⟩,fun b u q n _=>by rw[jT (hx b n)];exact n,fun b u q _=>?_,
  fun b xs q=>by rw[jT (hm b _ q fun z=>z)];exact q,fun b u xs q=>by rw[jT (hm b _ q fun z=>z)];exact q,fun b ps q=>⟨#[],by rw[jT (hm b _ q fun z=>z),q];simp⟩⟩
 by_cases hbe:b=e
 ·subst hbe;exact heo
 ·exact⟨u,k b u hbe q⟩
theorem Un.mono(u:Un fs ex H H1 h h1)(hs:∀b∈fs,b∈fs')(hx:∀b∈ex,b∈ex'):Un fs' ex' H H1 h h1 :=
 ⟨fun b ob q n hb he=>u.keep b ob q n (fun z=>hb (hs b z)) fun z=>he (hx b z),fun _ _ q n _ he=>u.any q n fun z=>he (hx _ z),fun b ob q n he=>u.free b ob q n fun z=>he (hx b z),fun b ob q he=>u.there b ob q fun z=>he (hx b z),u.tups,u.frzs,u.tbls⟩
end
def trk (h:ky) (H:Hp):List Addr:=(ph h.objs.size).filter fun a=>(H a).isSome
def wH (h:ky) (H:Hp):ky:=PySem.W.hideAll h (trk h H)
theorem aGy(h:ky)(H:Hp):(wH h H).objs.size=h.objs.size:=PySem.W.hideAll_size _ _
theorem aKv{h:ky}{H:Hp}{b:Addr}(e:h.get? b=some o)(n:H b=none):(wH h H).get? b=some o :=
 PySem.W.hideAll_get _ e fun hm=>by
  have q:(H b).isSome=true:=(List.mem_filter.mp hm).2;rw[n]at q;simp at q
theorem aMw{H:Hp}{b:Addr}(e:(wH h H).get? b=some o):h.get? b=some o/\H b=none:=by
 have e':h.get? b=some o:=PySem.W.of_hideAll (trk h H) e;refine⟨e',?_⟩;cases q:H b with
 |none=>rfl
 |some x =>
  have hm:b∈trk h H:=List.mem_filter.mpr ⟨List.mem_range.mpr (ψ e'),by simp[q]⟩;have z:(wH h H).get? b=none:=PySem.W.hideAll_none (trk h H) hm;rw[z]at e;cases e
def aLz (g h:ky) (L:Addr):List (Addr×Obj):=(ph h.objs.size).filterMap fun a=>if a=L\/(g.get? a).isSome=true then none else (h.get? a).map fun o=>(a,o)
def rest (g h:ky) (L d:Addr):List (Addr×Obj):=(aLz g h L).filter fun p=>decide (p.1≠d)
structure Mod (K:Φ) (mg:Str->Option Value) (base:ky):Prop where
 kin:K.In base
 glob:base.Ns Ψ mg
 blt:∃mb,base.Ns builtinsNs mb/\∀x:Str,x ≠ "__name__"->mb x=om x
 nolimit:base.NoLimit
structure Cx where
 prog:ki
 w:mx
 K:Φ
 mg:Str->Option Value
 base:ky
 A:lg
 N:List Str
 s₀ : μ
 H₀ : Hp
 env:Env
 outer:List Env
 stack:List Env
 ex:List Addr
 fn:Str->Bool
 calm:Bool
 pn:List (Addr×Obj)
 xe:Value->μ->Prop
def frs (l:List Env):List Addr:=l.filterMap (·.frame)
abbrev Cx.fs (X:Cx):List Addr:=frs X.outer
def Vis (sc:Scope) (x:Str):Prop:=sc.names.lookup x=some .local\/sc.names.lookup x=some .cell\/sc.names.lookup x=some .free
def Loc (sc:Scope) (x:Str):Prop:=sc.names.lookup x=some .local\/sc.names.lookup x=some .cell
def Look (env:Env) (h:ky) (m:Str->Option Value) (x:Str) (u:Value):Prop :=
 (env.kindOf x=some .local/\m x=some u)\/((env.kindOf x=some .cell\/env.kindOf x=some .free)/\∃c,env.cells.lookup x=some c/\h.IsCell c (some u))
structure Cx.Ok (X:Cx):Prop where
 mod:Mod X.K X.mg X.base
 kind:X.env.scope.kind=.function
 glob:X.env.globals=Ψ
 blt:X.env.builtins=builtinsNs
 above:X.s₀.heap.objs.size<=X.env.locals
 inj:∀x y c,X.env.cells.lookup x=some c->X.env.cells.lookup y=some c->x=y
 has:∀x,(X.env.kindOf x=some .cell\/X.env.kindOf x=some .free)->∃c,X.env.cells.lookup x=some c
 cab:∀x c,X.fn x=true->X.env.cells.lookup x=some c->X.s₀.heap.objs.size<=c
 hd:X.calm=true->X.A.handled=none
 frames:X.A.frames=some X.stack
 stk:X.stack=X.outer\/(X.stack=X.env::X.outer/\X.env.frame=some X.env.locals)
 exf:∀b∈X.ex,b≠X.env.locals/\∀x c,X.env.cells.lookup x=some c->c≠b
 bs:∀b o,X.base.get? b=some o->X.s₀.heap.get? b=some o/\X.H₀ b=none
 bsz:X.base.objs.size<=X.s₀.heap.objs.size
 noex:∀b o,X.base.get? b=some o->b∉X.ex
 exfs:∀b∈X.ex,b∉X.fs
 funs:X.s₀.heap.FunFrames X.base X.outer
 frf:∀b∈X.fs,X.H₀ b=none
structure Inv (X:Cx) (pins:List (Addr×Obj)) (σ:List (Option V)) (H:Hp) (s:μ):Prop where
 ok:X.Ok
 os:s.os=X.s₀.os
 bare:AllBare s.gens
 base:Un X.fs X.ex X.H₀ H X.s₀.heap s.heap
 loc:∃m,s.heap.Ns X.env.locals m/\∀(i:Nat) (x:Str) (v:V),X.N[i]?=some x->σ[i]?=some (some v)->Vis X.env.scope x->∃u,RelV v u/\Look X.env s.heap m x u
 cell:∀x c,X.env.cells.lookup x=some c->∃v,s.heap.IsCell c v
 free:H X.env.locals=none
 freeC:∀x c,X.env.cells.lookup x=some c->H c=none
 pin:∀p∈X.pn++pins,s.heap.get? p.1=some p.2/\H p.1=none/\p.1≠X.env.locals/\p.1∉X.fs/\∀v,p.2.data≠.cell v
 hok:HOk X.prog X.w H s.heap
 len : σ.length=X.N.length
section
variable {X:Cx}{pins:List (Addr×Obj)}{σ:List (Option V)}{H H':Hp}{s:μ}{h':ky}
theorem Cx.Ok.nofr(ok:X.Ok){b:Addr}(e:X.base.get? b=some o):b∉X.fs:=fun hb=>by
 have:=(ok.funs.mem hb).1;rw[e]at this;cases this
theorem Inv.bs(I:Inv X pins σ H s):∀b o,X.base.get? b=some o->s.heap.get? b=some o/\H b=none:=fun b o e =>
 ⟨I.base.keep b o (I.ok.bs b o e).1 (I.ok.bs b o e).2 (I.ok.nofr e) (I.ok.noex b o e),I.base.free b o (I.ok.bs b o e).1 (I.ok.bs b o e).2 (I.ok.noex b o e)⟩
theorem Inv.bk(I:Inv X pins σ H s):∀b o,X.base.get? b=some o->s.heap.get? b=some o:=fun b o e=>(I.bs b o e).1
theorem Inv.mod(I:Inv X pins σ H s):Mod X.K X.mg X.base:=I.ok.mod
theorem Inv.kIn(I:Inv X pins σ H s):X.K.In s.heap:=I.ok.mod.kin.keeps I.bk
theorem Inv.nolimit(I:Inv X pins σ H s):s.heap.NoLimit:=I.ok.mod.nolimit.keeps I.bk
theorem Inv.fr(I:Inv X pins σ H s):∃m,Fr X.base X.env.locals s.heap m :=
 let ⟨m,hn,_⟩:=I.loc
 ⟨m,hn,I.bk,jh I.ok.bsz I.ok.above⟩
theorem Inv.lt(I:Inv X pins σ H s):X.env.locals<s.heap.objs.size:=let ⟨_,hn,_⟩:=I.loc;hn.lt
theorem Inv.sz(I:Inv X pins σ H s):X.s₀.heap.objs.size<=s.heap.objs.size:=jh I.ok.above (tm I.lt)
theorem Inv.nofs(I:Inv X pins σ H s){a:Addr}(h:s.heap.objs.size<=a):a∉X.fs:=fun hb=>by
 obtain⟨_,o,ho,_⟩:=I.ok.funs.mem hb;exact absurd (ς (ψ ho) (jh I.sz h)) (nk _)
theorem Inv.cne(I:Inv X pins σ H s):∀x c,X.env.cells.lookup x=some c->c≠X.env.locals:=fun x c e z=>by
 obtain⟨v,o,ho,hd⟩:=I.cell x c e;obtain⟨m,⟨o',es,ep,ho',hd',_⟩,_⟩:=I.loc;rw[z,ho']at ho;cases ho;rw[hd']at hd;cases hd
theorem Inv.funs(I:Inv X pins σ H s):s.heap.FunFrames X.base X.outer:=by
 have all:∀(l:List Env),(∀b∈frs l,b∈X.fs)->X.s₀.heap.FunFrames X.base l->s.heap.FunFrames X.base l:=by
  intro l
  induction l with
  |nil=>intro _ _;trivial
  |cons env r ih =>
   intro hs hl;obtain⟨hk,⟨L,o,hf,hn,ho,hd⟩,hr⟩:=hl;have hL:L∈X.fs:=hs L (by unfold frs;rw[List.filterMap_cons,hf];exact τ);obtain⟨sl,e⟩:=I.base.slot L o ho (I.ok.frf L hL) hL fun z=>I.ok.exfs L z hL;exact⟨hk,⟨L,_,hf,hn,e,hd⟩,ih (fun b hb=>hs b (by unfold frs;rw[List.filterMap_cons,hf];exact Ω _ hb)) hr⟩
 exact all X.outer (fun _ hb=>hb) I.ok.funs
theorem Inv.stack(I:Inv X pins σ H s):s.heap.FunFrames X.base X.stack:=by
 rcases I.ok.stk with e|⟨e,hf⟩
 ·rw[e];exact I.funs
 ·rw[e];obtain⟨m,hn,_⟩:=I.loc;refine .cons (by rw[I.ok.kind];decide) hf hn ?_ I.funs;exact ky.get?_none_of_le (jh I.ok.bsz I.ok.above)
theorem Inv.stkSub(I:Inv X pins σ H s):∀b∈frs X.stack,b∈X.env.locals::X.fs:=fun b hb=>by
 rcases I.ok.stk with e|⟨e,hf⟩
 ·rw[e]at hb;exact Ω _ hb
 ·rw[e]at hb;unfold frs at hb;rw[List.filterMap_cons,hf]at hb;exact hb
theorem Inv.stkFree(I:Inv X pins σ H s):∀b∈frs X.stack,H b=none:=fun b hb=>by
 rcases ο.mp (I.stkSub b hb) with e|hb
 ·rw[e];exact I.free
 ·obtain⟨_,o,ho,_⟩:=I.ok.funs.mem hb;exact I.base.free b o ho (I.ok.frf b hb) fun z=>I.ok.exfs b z hb
theorem Inv.step{t':Nat}{d':Drawn}{ch:List Addr}(I:Inv X pins σ H s)
  (hch:∀b∈ch,(b∈X.ex\/X.s₀.heap.objs.size<=b)/\b≠X.env.locals/\(∀x c,X.env.cells.lookup x=some c->c≠b)/\∀p∈X.pn++pins,p.1≠b)
  (keep:∀b o,b≠X.env.locals->b∉X.fs->b∉ch->s.heap.get? b=some o->H b=none->h'.get? b=some o)
  (slot:∀b o,b≠X.env.locals->b∈X.fs->b∉ch->s.heap.get? b=some o->H b=none->∃sl,h'.get? b=some { o with slots:=sl })(free:∀b o,b∉ch->s.heap.get? b=some o->H b=none->H' b=none)
  (there:∀b o,b∉ch->s.heap.get? b=some o->∃o',h'.get? b=some o')
  (tups:∀b xs,H b=some (.tup xs)->H' b=some (.tup xs))(frzs:∀b o u,H b=some (.frz o u)->H' b=some (.frz o u))(tbls:∀b ps,H b=some (.tbl ps)->∃more,H' b=some (.tbl (ps++more)))
  (ns:∀m,s.heap.Ns X.env.locals m->h'.Ns X.env.locals m)(hok:HOk X.prog X.w H' h')(hg:AllBare g'):
  Inv X pins σ H' { s with heap:=h',gens:=g',drawn:=d',toks:=t' }:=by
 have neL:∀b o,X.s₀.heap.get? b=some o->b≠X.env.locals:=fun b o e=>ir (ς (ψ e) I.ok.above);have neC:∀b o,X.s₀.heap.get? b=some o->b∉X.ex->b∉ch:=fun b o e hx hb=>by
  rcases (hch b hb).1 with z|z
  ·exact hx z
  ·exact absurd (ς (ψ e) z) (nk _)
 have cellK:∀x c,X.env.cells.lookup x=some c->∀v,s.heap.IsCell c v->h'.IsCell c v:=fun x c e v ⟨o,ho,hd⟩=>by
  have nch:c∉ch:=fun z=>(hch c z).2.2.1 x c e rfl
  by_cases hc:c∈X.fs
  ·obtain⟨sl,q⟩:=slot c o (I.cne x c e) hc nch ho (I.freeC x c e);exact⟨_,q,hd⟩
  ·exact⟨o,keep c o (I.cne x c e) hc nch ho (I.freeC x c e),hd⟩
 refine⟨I.ok,I.os,hg,⟨fun b o e n hb hx=>?_,fun b o e n hb hx=>?_,fun b o e n hx=>?_,fun b o e hx=>?_,fun b xs e=>tups b xs (I.base.tups b xs e),fun b o xs e=>frzs b o xs (I.base.frzs b o xs e),fun b ps e=>?_⟩,?_,fun x c e=>?_,?_,fun x c e=>?_,fun p hp=>?_,hok,I.len⟩
 ·exact keep b o (neL b o e) hb (neC b o e hx) (I.base.keep b o e n hb hx) (I.base.free b o e n hx)
 ·obtain⟨sl,e1⟩:=I.base.slot b o e n hb hx;obtain⟨sl',e2⟩:=slot b _ (neL b o e) hb (neC b o e hx) e1 (I.base.free b o e n hx);exact⟨sl',e2⟩
 ·obtain⟨o',e1⟩:=I.base.there b o e hx;exact free b o' (neC b o e hx) e1 (I.base.free b o e n hx)
 ·obtain⟨o',e1⟩:=I.base.there b o e hx;exact there b o' (neC b o e hx) e1
 ·obtain⟨m1,e1⟩:=I.base.tbls b ps e;obtain⟨m2,e2⟩:=tbls b _ e1;exact⟨m1++m2,by rw[e2,Array.append_assoc]⟩
 ·obtain⟨m,hn,hl⟩:=I.loc;refine⟨m,ns m hn,fun i x v e1 e2 e3=>?_⟩;obtain⟨u,r,l⟩:=hl i x v e1 e2 e3;refine⟨u,r,?_⟩;rcases l with l|⟨k,c,e,z⟩
  ·exact .inl l
  ·exact .inr ⟨k,c,e,cellK x c e _ z⟩
 ·obtain⟨v,z⟩:=I.cell x c e;exact⟨v,cellK x c e v z⟩
 ·obtain⟨m,⟨o,_,_,ho,_⟩,_⟩:=I.loc;exact free _ o (fun z=>(hch _ z).2.1 rfl) ho I.free
 ·obtain⟨v,o,ho,hd⟩:=I.cell x c e;exact free c o (fun z=>(hch c z).2.2.1 x c e rfl) ho (I.freeC x c e)
 ·obtain⟨e,n,ne,nf,d⟩:=I.pin p hp;have nch:p.1∉ch:=fun z=>(hch p.1 z).2.2.2 p hp rfl;exact⟨keep p.1 p.2 ne nf nch e n,free p.1 p.2 nch e n,ne,nf,d⟩
theorem Inv.un{t':Nat}(I:Inv X pins σ H s)(u:Un X.fs [] H H' s.heap h')(hok:HOk X.prog X.w H' h'):Inv X pins σ H' { s with heap:=h',toks:=t' }:=by
 obtain⟨m,⟨o,es,ep,ho,r⟩,_⟩:=id I.loc;obtain⟨sl,hL⟩:=u.any ho I.free (by simp);exact I.step (g':=s.gens) (d':=s.drawn) (ch:=[]) (fun _ z=>nomatch z) (fun b o _ hb _ e n=>u.keep b o e n hb (by simp)) (fun b o _ hb _ e n=>u.slot b o e n hb (by simp)) (fun b o _ e n=>u.free b o e n (by simp)) (fun b o _ e=>u.there b o e (by simp)) u.tups u.frzs u.tbls (fun m' hm=>by
  obtain⟨o',es',ep',ho',r'⟩:=hm;rw[ho]at ho';cases ho';exact⟨_,es',ep',hL,r'⟩) hok I.bare
theorem Inv.call{t':Nat}{d':Drawn}(I:Inv X pins σ H s)(u:Un (frs X.stack) ch H H' s.heap h')(hok:HOk X.prog X.w H' h')(hg:AllBare g')
  (hch:∀b∈ch,(b∈X.ex\/X.s₀.heap.objs.size<=b)/\b≠X.env.locals/\(∀x c,X.env.cells.lookup x=some c->c≠b)/\∀p∈X.pn++pins,p.1≠b):
  Inv X pins σ H' { s with heap:=h',gens:=g',drawn:=d',toks:=t' }:=by
 obtain⟨m,⟨o,es,ep,ho,r⟩,_⟩:=id I.loc;obtain⟨sl,hL⟩:=u.any ho I.free fun z=>(hch _ z).2.1 rfl;exact I.step (ch:=ch) hch (fun b o hL hb hc e n=>u.keep b o e n (fun z=>(ο.mp (I.stkSub b z)).elim hL hb) hc) (fun b o _ _ hc e n=>u.any e n hc) (fun b o hc e n=>u.free b o e n hc) (fun b o hc e=>u.there b o e hc) u.tups u.frzs u.tbls (fun m' hm=>by
  obtain⟨o',es',ep',ho',r'⟩:=hm;rw[ho]at ho';cases ho';exact⟨_,es',ep',hL,r'⟩) hok hg
theorem Inv.turned{t':Nat}{it:Addr}(I:Inv X pins σ H s)(k:∀b o,b≠it->s.heap.get? b=some o->h'.get? b=some o)(hn:H it=none)(hL:it≠X.env.locals)
  (h1:it∈X.ex\/X.s₀.heap.objs.size<=it)(h2:∀x c,X.env.cells.lookup x=some c->c≠it)(h3:∀p∈X.pn++pins,p.1≠it):Inv X pins σ H { s with heap:=h',toks:=t' }:=by
 have nit:∀b u,H b=some u->b≠it:=fun b u e z=>by rw[z,hn]at e;cases e
 refine I.step (g':=s.gens) (d':=s.drawn) (ch:=[it]) (fun b hb=>?_) (fun b o _ _ hc e _=>k b o (fun z=>hc (by simp[z])) e) (fun b o _ _ hc e _=>⟨o.slots,k b o (fun z=>hc (by simp[z])) e⟩) (fun _ _ _ _ n=>n)
  (fun b o hc e=>⟨o,k b o (fun z=>hc (by simp[z])) e⟩) (fun _ _ e=>e) (fun _ _ _ e=>e) (fun b ps e=>⟨#[],by rw[e];simp⟩) (fun m hm=>?_) (fun b u e=>?_) I.bare
 ·have e:b=it:=by simpa using hb
  subst e;exact⟨h1,hL,h2,h3⟩
 ·obtain⟨o,es,ep,ho,r⟩:=hm;exact⟨o,es,ep,k _ o (kc hL) ho,r⟩
 ·refine(I.hok b u e).stay (fun c v hc q=>k c v ?_ q) (fun _ q=>q) fun _ _ q=>q;rcases hc with z|z
  ·rw[z];exact nit b u e
  ·exact nit c _ z
theorem Inv.tok(I:Inv X pins σ H s)(t:Nat):Inv X pins σ H { s with toks:=t }:=I.un (h':=s.heap) (t':=t) Un.refl I.hok
theorem Inv.kept{t':Nat}(I:Inv X pins σ H s)(k:∀b u,s.heap.get? b=some u->h'.get? b=some u):Inv X pins σ H { s with heap:=h',toks:=t' }:=I.un (Un.kept k) (I.hok.kept k)
theorem Inv.laid{a:Addr}{t':Nat}(I:Inv X pins σ H s)(k:∀b u,s.heap.get? b=some u->h'.get? b=some u)(hp:s.heap.objs.size<=a)(new:qZ X.prog X.w (upd H a o) h' a o):
  Inv X pins σ (upd H a o) { s with heap:=h',toks:=t' }:=I.un (Un.laid k hp (I.hok.fresh hp)) (I.hok.laid k hp new)
theorem Inv.write{e:Addr}{t':Nat}(I:Inv X pins σ H s)(mu:Mut (H x))(he:e=x\/H e=some (.own x))(k:∀b u,b≠e->s.heap.get? b=some u->h'.get? b=some u)(heo:∃u,h'.get? e=some u)
  (new:qZ X.prog X.w (upd H x o) h' x o):Inv X pins σ (upd H x o) { s with heap:=h',toks:=t' }:=I.un (Un.write mu he k heo) (I.hok.write mu he k heo new)
theorem Inv.pins_of{pins':List (Addr×Obj)}(I:Inv X pins σ H s)(h:∀p∈pins',s.heap.get? p.1=some p.2/\H p.1=none/\p.1≠X.env.locals/\p.1∉X.fs/\∀v,p.2.data≠.cell v):Inv X pins' σ H s :=
 ⟨I.ok,I.os,I.bare,I.base,I.loc,I.cell,I.free,I.freeC,fun p hp=>(lq.mp hp).elim (fun z=>I.pin p (mf _ z)) (h p),I.hok,I.len⟩
theorem aAy{N:List Str}(hN:N.Nodup){i j:Nat}(a:N[i]?=some x)(b:N[j]?=some x):i=j:=by
 obtain⟨h1,e1⟩:=η.mp a;obtain⟨h2,e2⟩:=η.mp b;exact(List.getElem_inj hN).mp (e1.trans e2.symm)
theorem tW{i:Nat}{Q:Unit->μ->Prop}(I:Inv X pins σ H s)(hN:X.N.Nodup)(hi:X.N[i]?=some x)(hx:Loc X.env.scope x)(r:RelV v u)
  (h:∀s',Inv X pins (σ.set i (some v)) H s'->(∃a,nr a s.heap s'.heap/\(a=X.env.locals\/X.env.cells.lookup x=some a))->Q () s')(hf:X.fn x=true\/X.env.scope.names.lookup x=some .local:=by first|exact .inl rfl|exact .inr rfl|assumption):Ξ M A (storeName X.env x u) Q E s:=by
 obtain⟨m,hn,hl⟩:=id I.loc;have hcls:(X.env.scope.kind == .class||(X.env.scope.kind == .module&&X.env.locals != X.env.globals))=false:=by rw[I.ok.kind];rfl
 have hiσ:i<σ.length:=by rw[I.len];exact(η.mp hi).1
 have cne:=I.cne;have tracked:∀{a:Addr}{h':ky},(∃o,s.heap.get? a=some o/\H a=none)->nr a s.heap h'->HOk X.prog X.w H h':=fun {a h'} ha hs b ob e=>by
  obtain⟨_,_,hfree⟩:=ha;refine(I.hok b ob e).stay (fun c w' hc q=>(hs.2 c ?_).trans q) (fun _ q=>q) fun _ _ q=>q;rintro rfl;rcases hc with rfl|hc
  ·rw[hfree]at e;cases e
  ·rw[hfree]at hc;cases hc
 rcases hx with hk|hk
 ·refine wpAny_storeName_local hk hn (fun h' hn' hs=>?_) hcls;obtain⟨oL,_,_,hoL,_⟩:=id hn;refine h _ ⟨I.ok,I.os,I.bare,⟨fun b o e n hb hx=>?_,fun b o e n hb hx=>?_,I.base.free,fun b o e hx=>?_,I.base.tups,I.base.frzs,I.base.tbls⟩,⟨_,hn',fun j y v' e1 e2 e3=>?_⟩,fun y c e=>?_,I.free,I.freeC,fun p hp=>?_,tracked ⟨oL,hoL,I.free⟩ hs,by simpa using I.len⟩ ⟨_,hs,.inl rfl⟩
  ·exact(hs.2 b (ir (ς (ψ e) I.ok.above))).trans (I.base.keep b o e n hb hx)
  ·obtain⟨sl,e1⟩:=I.base.slot b o e n hb hx;exact⟨sl,(hs.2 b (ir (ς (ψ e) I.ok.above))).trans e1⟩
  ·obtain⟨o',e1⟩:=I.base.there b o e hx;exact⟨o',(hs.2 b (ir (ς (ψ e) I.ok.above))).trans e1⟩
  ·by_cases hj:j=i
   ·subst hj;rw[hi]at e1;cases e1;rw[List.getElem?_set_self hiσ]at e2;cases e2;exact⟨u,r,.inl ⟨hk,by simp⟩⟩
   ·rw[List.getElem?_set_ne (kc hj)]at e2;obtain⟨u',r',q⟩:=hl j y v' e1 e2 e3;refine⟨u',r',?_⟩;rcases q with⟨k,e⟩|⟨k,c,e,z⟩
    ·refine .inl ⟨k,?_⟩;have:y≠x:=fun e=>hj (aAy hN e1 (e ▸ hi));simp[this,e]
    ·exact .inr ⟨k,c,e,z.sameBut hs (cne y c e)⟩
  ·obtain⟨w',z⟩:=I.cell y c e;exact⟨w',z.sameBut hs (cne y c e)⟩
  ·obtain⟨e,n,ne,nf,d⟩:=I.pin p hp;exact⟨(hs.2 p.1 ne).trans e,n,ne,nf,d⟩
 ·have hfn:X.fn x=true:=by
   rcases hf with z|z
   ·exact z
   ·rw[z]at hk;cases hk
  obtain⟨c,hc⟩:=I.ok.has x (.inl hk);obtain⟨w',z⟩:=I.cell x c hc;refine wpAny_storeName_cell I.ok.kind hk hc z (fun h' hc' hs=>?_);obtain⟨oc,hoc,hocd⟩:=id z;refine h { s with heap:=h' } ⟨I.ok,I.os,I.bare,⟨fun b o e n hb hx=>?_,fun b o e n hb hx=>?_,I.base.free,fun b o e hx=>?_,I.base.tups,I.base.frzs,I.base.tbls⟩,⟨m,hn.sameBut hs (kc (cne x c hc)),fun j y v' e1 e2 e3=>?_⟩,fun y c' e=>?_,I.free,I.freeC,fun p hp=>?_,tracked ⟨oc,hoc,I.freeC x c hc⟩ hs,by simpa using I.len⟩ ⟨c,hs,.inr hc⟩
  ·exact(hs.2 b (ir (ς (ψ e) (I.ok.cab x c hfn hc)))).trans (I.base.keep b o e n hb hx)
  ·obtain⟨sl,e1⟩:=I.base.slot b o e n hb hx;exact⟨sl,(hs.2 b (ir (ς (ψ e) (I.ok.cab x c hfn hc)))).trans e1⟩
  ·obtain⟨o',e1⟩:=I.base.there b o e hx;exact⟨o',(hs.2 b (ir (ς (ψ e) (I.ok.cab x c hfn hc)))).trans e1⟩
  ·by_cases hj:j=i
   ·subst hj;rw[hi]at e1;cases e1;rw[List.getElem?_set_self hiσ]at e2;cases e2;exact⟨u,r,.inr ⟨.inl hk,c,hc,hc'⟩⟩
   ·rw[List.getElem?_set_ne (kc hj)]at e2;obtain⟨u',r',q⟩:=hl j y v' e1 e2 e3;refine⟨u',r',?_⟩;rcases q with q|⟨k,c',e,z'⟩
    ·exact .inl q
    ·refine .inr ⟨k,c',e,z'.sameBut hs ?_⟩;rintro rfl;exact hj (aAy hN e1 (I.ok.inj _ _ _ e hc ▸ hi))
  ·by_cases hcc:c'=c
   ·subst hcc;exact⟨_,hc'⟩
   ·obtain⟨w2,z2⟩:=I.cell y c' e;exact⟨w2,z2.sameBut hs hcc⟩
  ·obtain⟨e,n,ne,nf,d⟩:=I.pin p hp;refine⟨(hs.2 p.1 ?_).trans e,n,ne,nf,d⟩;intro q;rw[q,hoc]at e;have q':oc=p.2:=mw e;exact d w' (by rw[←q'];exact hocd)
theorem iJ{i:Nat}{Q:Unit->μ->Prop}(I:Inv X pins σ H s)(hN:X.N.Nodup)(hi:X.N[i]?=some x)(hx:Loc X.env.scope x)(r:RelV v u)
  (h:∀s',Inv X pins (σ.set i (some v)) H s'->Q () s')(hf:X.fn x=true\/X.env.scope.names.lookup x=some .local:=by first|exact .inl rfl|exact .inr rfl|assumption):Ξ M A (storeName X.env x u) Q E s :=
 tW I hN hi hx r (fun s' I' _=>h s' I') hf
end
abbrev XK:=Value->Option Addr->Hp->Prop
abbrev St:=List (Option V)
abbrev VK:=V->Hp->Prop
abbrev TE:=St->Hp->VK->Prop
abbrev TT:=St->Hp->(Bool->Hp->Prop)->Prop
abbrev TA:=St->Hp->(List V->Hp->Prop)->Prop
structure Ends where
 nx:St->Hp->Prop
 rt:VK
 bk:St->Hp->Prop:=fun _ _=>False
 ct:St->Hp->Prop:=fun _ _=>False
abbrev TS:=Ends->St->Hp->Prop
def EP (X:Cx) (pins:List (Addr×Obj)) (σ:St) (Q:VK) (u:Value) (s':μ):Prop:=∃v H',Inv X pins σ H' s'/\RelV v u/\Q v H'
def TP (X:Cx) (pins:List (Addr×Obj)) (σ:St) (Q:Bool->Hp->Prop) (b:Bool) (s':μ):Prop:=∃H',Inv X pins σ H' s'/\Q b H'
def AP (X:Cx) (pins:List (Addr×Obj)) (σ:St) (Q:List V->Hp->Prop) (us:List Value) (s':μ):Prop:=∃vs H',Inv X pins σ H' s'/\jY vs us/\Q vs H'
theorem EP.el{Q:VK}{C:Prop}(h:EP X pins σ Q u s)(f:∀v H,Inv X pins σ H s->RelV v u->Q v H->C):C:=by
 obtain⟨v,H,a,b,c⟩:=h;exact f v H a b c
theorem AP.el{Q:List V->Hp->Prop}{C:Prop}(h:AP X pins σ Q u s)(f:∀v H,Inv X pins σ H s->jY v u->Q v H->C):C:=by
 obtain⟨v,H,a,b,c⟩:=h;exact f v H a b c
def SP (X:Cx) (pins:List (Addr×Obj)) (D:Ends) (f:Flow) (s':μ):Prop :=
 match f with
 |.next=>∃σ' H',Inv X pins σ' H' s'/\D.nx σ' H'
 |.brk=>∃σ' H',Inv X pins σ' H' s'/\D.bk σ' H'
 |.cont=>∃σ' H',Inv X pins σ' H' s'/\D.ct σ' H'
 |.ret u=>∃v σ' H',Inv X pins σ' H' s'/\RelV v u/\D.rt v H'
def PE (X:Cx) (e:Expr) (t:TE):Prop :=
 ∀(pins:List (Addr×Obj)) (s:μ) (σ:St) (H:Hp) (Q:VK),Inv X pins σ H s->t σ H Q->Ξ (je X.prog X.w) X.A (eval e X.env) (EP X pins σ Q) X.xe s
def PT (X:Cx) (e:Expr) (t:TT):Prop :=
 ∀(pins:List (Addr×Obj)) (s:μ) (σ:St) (H:Hp) (Q:Bool->Hp->Prop),Inv X pins σ H s->t σ H Q->Ξ (je X.prog X.w) X.A (isTrue e X.env (eval e X.env)) (TP X pins σ Q) X.xe s
def PW (X:Cx) (e:Expr) (t:TT):Prop :=
 ∀(whole:Sem Value) (pins:List (Addr×Obj)) (s:μ) (σ:St) (H:Hp) (Q:Bool->Hp->Prop),Inv X pins σ H s->t σ H Q->Ξ (je X.prog X.w) X.A (isTrue e X.env whole) (TP X pins σ Q) X.xe s
theorem PW.pt(h:PW X e t):PT X e t:=h _
def PA (X:Cx) (es:List Expr) (t:TA):Prop :=
 ∀(pos:Pos) (pins:List (Addr×Obj)) (s:μ) (σ:St) (H:Hp) (Q:List V->Hp->Prop),Inv X pins σ H s->t σ H Q->Ξ (je X.prog X.w) X.A (spliced (qh pos (iy es X.env))) (AP X pins σ Q) X.xe s
def PS (X:Cx) (st:Stmt) (t:TS):Prop :=
 ∀(pins:List (Addr×Obj)) (s:μ) (σ:St) (H:Hp) (D:Ends),Inv X pins σ H s->t D σ H->Ξ (je X.prog X.w) X.A (exec st X.env) (SP X pins D) X.xe s
def PSs (X:Cx) (st:List Stmt) (t:TS):Prop :=
 ∀(pins:List (Addr×Obj)) (s:μ) (σ:St) (H:Hp) (D:Ends),Inv X pins σ H s->t D σ H->Ξ (je X.prog X.w) X.A (execs st X.env) (SP X pins D) X.xe s
theorem thn{α : Type}{t:Sem α}{Q Q' : α->μ->Prop}{M:Model}{A:lg}{E:Value->μ->Prop}{s:μ}(h:Ξ M A t Q E s)(hQ:∀a s,Q a s->Q' a s):Ξ M A t Q' E s:=md h hQ fun _ _ x=>x
section
variable {X:Cx}
inductive aIh (i:Nat) (σ:St) (H:Hp) (Q:VK):Prop|mk:∀v,σ[i]?=some (some v)->Q v H->aIh i σ H Q
def tVar (i:Nat):TE:=fun σ H Q=>aIh i σ H Q
def tC (v:V):TE:=fun _ H Q=>Q v H
theorem aQz{i:Nat}(hN:X.N[i]?=some x)(hv:Vis X.env.scope x)(hd:(x == ("__debug__" : Str))=false:=by decide)(hcd:(x == ("__classdict__" : Str))=false:=by decide):PE X (.Name x pos) (tVar i):=by
 intro pins s σ H Q I h;obtain⟨v,e,h⟩:=h;obtain⟨m,hn,hl⟩:=I.loc;obtain⟨u,r,l⟩:=hl i x v hN e hv;have fin:EP X pins σ Q u s:=⟨v,H,I,r,h⟩;rcases l with⟨hk,hm⟩|⟨hk,c,hc,hcell⟩
 ·exact wpAny_Name (wpAny_loadName_local I.ok.kind hk hn hm fin) hd
 ·rcases hk with hk|hk
  ·exact wpAny_Name (wpAny_loadName_cell I.ok.kind hk hc hcell fin) hd
  ·exact wpAny_Name (wpAny_loadName_free I.ok.kind hk hc hcell fin hcd) hd
theorem jE{i j pos}: PE X (.Constant (.int i) j pos) (tC (.int i)):=fun _ _ _ H _ I h=>wpAny_Constant_int ⟨.int i,H,I.tok _,⟨_,rfl⟩,h⟩
theorem pK{b j pos}: PE X (.Constant (.bool b) j pos) (tC (.bl b)):=fun _ _ _ H _ I h=>Constant_bool ⟨.bl b,H,I,rfl,h⟩
theorem cT{j pos}: PE X (.Constant .none j pos) (tC .non):=fun _ _ _ H _ I h=>Constant_none ⟨.non,H,I,rfl,h⟩
theorem jN{x j pos}: PE X (.Constant (.str x) j pos) (tC (.str x)):=fun _ _ _ H _ I h=>Calls.Constant_str ⟨.str x,H,I.tok _,⟨_,rfl⟩,h⟩
def Gl (X:Cx) (x:Str):Prop:=X.env.kindOf x=some .globalImplicit
theorem uF{Q:Value->μ->Prop}(I:Inv X pins σ H s)(hg:Gl X x)(hm:X.mg x=some u)(h:Q u s)
  (hd:(x == ("__debug__" : Str))=false:=by decide):Ξ (je X.prog X.w) X.A (eval (.Name x pos) X.env) Q E s :=
 Calls.Name_function_global I.ok.kind hg (Calls.loadGlobal_global (by rw[I.ok.glob];exact I.mod.glob.keeps I.bk) hm h) hd
theorem dR{Q:Value->μ->Prop}(I:Inv X pins σ H s)(hg:Gl X x)(hm:X.mg x=none)(hv:om x=some u)(h:Q u s)
  (hn:x ≠ "__name__":=by decide)(hd:(x == ("__debug__" : Str))=false:=by decide):Ξ (je X.prog X.w) X.A (eval (.Name x pos) X.env) Q E s:=by
 obtain⟨mb,h1,h2⟩:=I.mod.blt;exact Calls.Name_function_global I.ok.kind hg (Calls.loadGlobal_builtin (by rw[I.ok.glob];exact I.mod.glob.keeps I.bk) hm (by rw[I.ok.blt];exact h1.keeps I.bk) ((h2 x hn).trans hv) h) hd
theorem kL(hg:Gl X x)(hm:X.mg x=some u)(r:RelV v u)(hd:(x == ("__debug__" : Str))=false:=by decide):PE X (.Name x pos) (tC v) :=
 fun _ _ _ H _ I h=>uF I hg hm ⟨v,H,I,r,h⟩ hd
theorem aN(hg:Gl X x)(hm:X.mg x=none)(hv:om x=some u)(r:RelV v u)(hn:x ≠ "__name__":=by decide)(hd:(x == ("__debug__" : Str))=false:=by decide):PE X (.Name x pos) (tC v) :=
 fun _ _ _ H _ I h=>dR I hg hm hv ⟨v,H,I,r,h⟩ hn hd
variable {a b:Expr}{ta tb:TE}{pos:Pos}
def PC (X:Cx) (op:CmpOp) (a b:Expr) (t:TE):Prop :=
 ∀(pins:List (Addr×Obj)) (s:μ) (σ:St) (H:Hp) (Q:VK),Inv X pins σ H s->t σ H Q →
  Ξ (je X.prog X.w) X.A (eval a X.env) (fun v s₁=>Ξ (je X.prog X.w) X.A (eval b X.env) (fun u s₂=>Ξ (je X.prog X.w) X.A (lm op v u) (EP X pins σ Q) X.xe s₂) X.xe s₁) X.xe s
theorem aJi(b:Expr){op:CmpOp}(h:op≠.In)(h2:op≠.NotIn):uz op b=false:=by
 have e1:(op == CmpOp.In)=false:=by cases op <;> first|rfl|exact absurd rfl h
 have e2:(op == CmpOp.NotIn)=false:=by cases op <;> first|rfl|exact absurd rfl h2
 cases b <;> simp[uz,e1,e2]
def tB (t:TE):TT:=fun σ H Q=>t σ H fun x H1=>∃c,x=.bl c/\Q c H1
theorem pU(h:PC X op a b t)(h1:uz op b=false:=by first|exact aJi _ (by decide) (by decide)|rfl):PT X (.Compare a [op] [b] pos) (tB t):=by
 intro pins s σ H Q I hw;refine wpAny_isTrue_Compare1 (thn (h pins s σ H _ I hw) fun v s1 h1=>thn h1 fun u s2 h2=>thn h2 fun c s3 zq=>?_) h1;obtain⟨x,H1,I1,r1,q1⟩:=zq;obtain⟨d,rfl,q⟩:=q1;cases r1;exact mh ⟨H1,I1,q⟩
theorem vP(h:PE X e t)(he:∀whole,isTrue e X.env whole=(do let v ←whole;standAt e.pos;uf [v] (truthy v)):=by intro _;rfl):PT X e (tB t):=by
 intro pins s σ H Q I hw;refine isTrue_plain (thn (h pins s σ H _ I hw) fun v s1 zq=>?_) (he _);obtain⟨x,H1,I1,r1,q1⟩:=zq;obtain⟨d,rfl,q⟩:=q1;cases r1;exact mh ⟨H1,I1,q⟩
variable {tA tB':TT}{rest:List Expr}
def tAnd (t u:TT):TT:=fun σ H Q=>t σ H fun c H1=>if c=true then u σ H1 Q else Q false H1
def tOr (t u:TT):TT:=fun σ H Q=>t σ H fun c H1=>if c=true then Q true H1 else u σ H1 Q
def tNot (t:TT):TT:=fun σ H Q=>t σ H fun c H1=>Q (!c) H1
theorem zJ(ha:PT X a tA):PW X (.BoolOp .And [a] pos) tA:=by
 intro wh pins s σ H Q I h;refine isTrue_and (thn (ha pins s σ H Q I h) fun c s1 e=>?_);cases c with
 |true=>exact isTrue_and_nil e
 |false=>exact e
theorem bV(ha:PT X a tA):PW X (.BoolOp .Or [a] pos) tA:=by
 intro wh pins s σ H Q I h;refine isTrue_or (thn (ha pins s σ H Q I h) fun c s1 e=>?_);cases c with
 |false=>exact isTrue_or_nil e
 |true=>exact e
theorem bX(ha:PT X a tA)(hb:PW X (.BoolOp .And (b::rest) pos) tB'):PW X (.BoolOp .And (a::b::rest) pos) (tAnd tA tB'):=by
 intro wh pins s σ H Q I h;refine isTrue_and (thn (ha pins s σ H _ I h) fun c s1 zq=>?_);obtain⟨H1,I1,q1⟩:=zq;cases c with
 |true=>exact hb wh pins s1 σ H1 Q I1 q1
 |false=>exact⟨H1,I1,q1⟩
theorem fC(ha:PT X a tA)(hb:PW X (.BoolOp .Or (b::rest) pos) tB'):PW X (.BoolOp .Or (a::b::rest) pos) (tOr tA tB'):=by
 intro wh pins s σ H Q I h;refine isTrue_or (thn (ha pins s σ H _ I h) fun c s1 zq=>?_);obtain⟨H1,I1,q1⟩:=zq;cases c with
 |true=>exact⟨H1,I1,q1⟩
 |false=>exact hb wh pins s1 σ H1 Q I1 q1
theorem xT(ha:PT X a tA):PT X (.UnaryOp .Not a pos) (tNot tA):=by
 intro pins s σ H Q I h;exact isTrue_not (ha pins s σ H (fun c H1=>Q (!c) H1) I h)
def tAndV (ta tb:TE):TE:=fun σ H Q=>ta σ H fun x H1=>∃c,x=.bl c/\if c=true then tb σ H1 Q else Q (.bl false) H1
def tOrV (ta tb:TE):TE:=fun σ H Q=>ta σ H fun x H1=>∃c,x=.bl c/\if c=true then Q (.bl true) H1 else tb σ H1 Q
def tNotV (ta:TE):TE:=fun σ H Q=>ta σ H fun x H1=>∃c,x=.bl c/\Q (.bl (!c)) H1
theorem bA{op}(h:PE X a t):PE X (.BoolOp op [a] pos) t:=fun pins s σ H Q I hw=>BoolOp_one (h pins s σ H Q I hw)
theorem yV(ha:PE X a ta)(hb:PE X (.BoolOp .And (b::rest) pos) tb):PE X (.BoolOp .And (a::b::rest) pos) (tAndV ta tb):=by
 intro pins s σ H Q I h;refine BoolOp_and (thn (ha pins s σ H _ I h) fun v s1 zq=>?_);obtain⟨x,H1,I1,r1,q1⟩:=zq;obtain⟨c,rfl,q1⟩:=q1;cases r1;refine mh ?_;cases c with
 |true=>exact hb pins s1 σ H1 Q I1 q1
 |false=>exact⟨.bl false,H1,I1,rfl,q1⟩
theorem pe_or(ha:PE X a ta)(hb:PE X (.BoolOp .Or (b::rest) pos) tb):PE X (.BoolOp .Or (a::b::rest) pos) (tOrV ta tb):=by
 intro pins s σ H Q I h;refine BoolOp_or (thn (ha pins s σ H _ I h) fun v s1 zq=>?_);obtain⟨x,H1,I1,r1,q1⟩:=zq;obtain⟨c,rfl,q1⟩:=q1;cases r1;refine mh ?_;cases c with
 |false=>exact hb pins s1 σ H1 Q I1 q1
 |true=>exact⟨.bl true,H1,I1,rfl,q1⟩
theorem aQw(ha:PE X a ta):PE X (.UnaryOp .Not a pos) (tNotV ta):=by
 intro pins s σ H Q I h;refine UnaryOp_ (thn (ha pins s σ H _ I h) fun v s1 zq=>?_);obtain⟨x,H1,I1,r1,q1⟩:=zq;obtain⟨c,rfl,q1⟩:=q1;cases r1;exact not_of (mh ⟨.bl (!c),H1,I1,rfl,q1⟩)
def tIf (t:TT) (ta tb:TE):TE:=fun σ H Q=>t σ H fun c H1=>if c=true then ta σ H1 Q else tb σ H1 Q
theorem vS(hc:PT X c tA)(ha:PE X a ta)(hb:PE X b tb):PE X (.IfExp c a b pos) (tIf tA ta tb):=by
 intro pins s σ H Q I h;refine wpAny_IfExp (thn (hc pins s σ H _ I h) fun d s1 zq=>?_);obtain⟨H1,I1,q1⟩:=zq;cases d with
 |true=>exact ha pins s1 σ H1 Q I1 q1
 |false=>exact hb pins s1 σ H1 Q I1 q1
end
def SqL (K:Φ) (H:Hp) (a:Addr) (xs:List V):Prop :=
 Rd H a (.lst xs) ∨
  ∃(o:Obj) (its:Array Value) (n:Nat),K.lookup a=some o/\o.cls=.type "list"/\o.dict=none/\o.data=.seq its n/\its.size<=ξ/\jY xs its.toList
def SqT (K:Φ) (H:Hp) (a:Addr) (xs:List V):Prop :=
 Rd H a (.tup xs) ∨
  ∃(o:Obj) (its:Array Value) (n:Nat),K.lookup a=some o/\o.cls=.type "tuple"/\o.data=.seq its n/\its.size<=ξ/\jY xs its.toList
def absV:Value->Option V
 |.none=>some .non
 |.bool b=>some (.bl b)
 |.int i _=>some (.int i)
 |.str x _=>some (.str x)
 |.bytes b _=>some (.byt b)
 |.float b _=>some (.flt b)
 |.ref a=>some (.ref a)
 |.type n=>some (.ty n)
 |_=>none
theorem RelV.abs(r:RelV x u):absV u=some x:=by
 cases x with
 |non=>cases r;rfl
 |bl _=>cases r;rfl
 |int _=>obtain⟨t,rfl⟩:=r;rfl
 |str _=>obtain⟨t,rfl⟩:=r;rfl
 |byt _=>obtain⟨t,rfl⟩:=r;rfl
 |flt _=>obtain⟨t,rfl⟩:=r;rfl
 |ref _=>cases r;rfl
 |ty _=>cases r;rfl
theorem RelV.inj(r:RelV x u)(q:RelV y u):x=y:=mw (r.abs.symm.trans q.abs)
theorem jY.inj:∀{xs ys:List V}{us:List Value},jY xs us->jY ys us->xs=ys
 |_,_,_,.nil,.nil=>rfl
 |_,_,_,.cons r t,.cons r' t'=>by rw[r.inj r',jY.inj t t']
section
variable {X:Cx}{pins:List (Addr×Obj)}{σ:St}{H:Hp}{s:μ}{a:Addr}{xs ys:List V}
theorem SqL.of{K:Φ}(h:H a=some (.lst xs)):SqL K H a xs:=.inl (.inl h)
theorem SqT.of{K:Φ}(h:H a=some (.tup xs)):SqT K H a xs:=.inl (.inl h)
theorem Inv.list(I:Inv X pins σ H s)(h:SqL X.K H a xs):∃its:List Value,jY xs its/\PlainL s.heap a its.toArray/\xs.length<=ξ:=by
 rcases h with h|⟨o,its,n,hk,hc,hd,hs,hz,r⟩
 ·obtain⟨z,its,n,r,e⟩:=h.ok I.hok;exact⟨its,r,⟨_,n,e,rfl,rfl,rfl⟩,z⟩
 ·refine⟨its.toList,r,⟨o,n,I.kIn a o hk,hc,hd,by simpa using hs⟩,?_⟩;have e:=r.length;simp only[lh]at e;omega
theorem Inv.tuple(I:Inv X pins σ H s)(h:SqT X.K H a xs):∃its:List Value,jY xs its/\IsTup s.heap a its.toArray/\xs.length<=ξ:=by
 rcases h with h|⟨o,its,n,hk,hc,hs,hz,r⟩
 ·obtain⟨z,its,r,p⟩:=h.ok I.hok;exact⟨its,r,p,z⟩
 ·refine⟨its.toList,r,⟨o,I.kIn a o hk,hc,n,by simpa using hs⟩,?_⟩;have e:=r.length;simp only[lh]at e;omega
theorem Inv.list_inj(I:Inv X pins σ H s)(h:SqL X.K H a xs)(h':SqL X.K H a ys):xs=ys:=by
 obtain⟨its,r,⟨o,n,e,_,_,d⟩,_⟩:=I.list h;obtain⟨its',r',⟨o',n',e',_,_,d'⟩,_⟩:=I.list h';rw[e]at e';cases e';rw[d]at d';injection d' with d1 _;have:its=its':=by simpa using congrArg Array.toList d1
 subst this;exact r.inj r'
theorem Inv.tuple_inj(I:Inv X pins σ H s)(h:SqT X.K H a xs)(h':SqT X.K H a ys):xs=ys:=by
 obtain⟨its,r,⟨o,e,_,n,d⟩,_⟩:=I.tuple h;obtain⟨its',r',⟨o',e',_,n',d'⟩,_⟩:=I.tuple h';rw[e]at e';cases e';rw[d]at d';injection d' with d1 _;have:its=its':=by simpa using congrArg Array.toList d1
 subst this;exact r.inj r'
end
abbrev Cx.wish (X:Cx) (E:Value->μ->Prop):Cx:={ X with xe:=E }
abbrev Cx.nox (X:Cx):Cx:=X.wish fun _ _=>False
theorem Cx.Ok.wish{X:Cx}(ok:X.Ok)(E:Value->μ->Prop):(X.wish E).Ok :=
 ⟨ok.mod,ok.kind,ok.glob,ok.blt,ok.above,ok.inj,ok.has,ok.cab,ok.hd,ok.frames,ok.stk,ok.exf,ok.bs,ok.bsz,ok.noex,ok.exfs,ok.funs,ok.frf⟩
theorem Cx.Ok.unwish{X:Cx}(ok:(X.wish E).Ok):X.Ok :=
 ⟨ok.mod,ok.kind,ok.glob,ok.blt,ok.above,ok.inj,ok.has,ok.cab,ok.hd,ok.frames,ok.stk,ok.exf,ok.bs,ok.bsz,ok.noex,ok.exfs,ok.funs,ok.frf⟩
section
variable {X:Cx}{pins:List (Addr×Obj)}{σ:St}{H:Hp}{s:μ}{E:Value->μ->Prop}
theorem Inv.wish(I:Inv X pins σ H s)(E:Value->μ->Prop):Inv (X.wish E) pins σ H s:=⟨I.ok.wish E,I.os,I.bare,I.base,I.loc,I.cell,I.free,I.freeC,I.pin,I.hok,I.len⟩
theorem Inv.unwish(I:Inv (X.wish E) pins σ H s):Inv X pins σ H s:=⟨I.ok.unwish,I.os,I.bare,I.base,I.loc,I.cell,I.free,I.freeC,I.pin,I.hok,I.len⟩
theorem SP.unwish(h:SP (X.wish E) pins D f s'):SP X pins D f s':=by
 cases f with
 |next=>obtain⟨σ',H',I,q⟩:=h;exact⟨σ',H',I.unwish,q⟩
 |brk=>obtain⟨σ',H',I,q⟩:=h;exact⟨σ',H',I.unwish,q⟩
 |cont=>obtain⟨σ',H',I,q⟩:=h;exact⟨σ',H',I.unwish,q⟩
 |ret u=>obtain⟨v,σ',H',I,r,q⟩:=h;exact⟨v,σ',H',I.unwish,r,q⟩
theorem PE.nox(h:PE X.nox e t):PE X e t:=fun pins s σ H Q I hw =>
 md (h pins s σ H Q (I.wish _) hw) (fun _ _ zq=>zq.el fun v H' I' r q=>⟨v,H',I'.unwish,r,q⟩) fun _ _ z=>ke z
theorem PT.nox(h:PT X.nox e t):PT X e t:=fun pins s σ H Q I hw =>
 md (h pins s σ H Q (I.wish _) hw) (fun _ _ ⟨H',I',q⟩=>⟨H',I'.unwish,q⟩) fun _ _ z=>ke z
theorem PSs.nox{st:List Stmt}{t:TS}(h:PSs X.nox st t):PSs X st t:=fun pins s σ H D I hw =>
 md (h pins s σ H D (I.wish _) hw) (fun _ _ q=>q.unwish) fun _ _ z=>ke z
end
section
variable {X:Cx}{st:Stmt}{rest:List Stmt}{t u:TS}{e:Expr}{te:TE}{pos:Pos}
def aOh:TS:=fun D σ H=>D.nx σ H
def vB (t u:TS):TS:=fun D σ H=>t { D with nx:=u D } σ H
theorem jM:PSs X [] aOh:=fun _ _ σ H _ I h=>wpAny_execs_nil ⟨σ,H,I,h⟩
theorem jC(h1:PS X st t)(h2:PSs X rest u):PSs X (st::rest) (vB t u):=by
 intro pins s σ H D I h;refine wpAny_execs_cons (thn (h1 pins s σ H { D with nx:=u D } I h) fun f s1 q=>?_);cases f with
 |next =>
  obtain⟨σ',H',I',q⟩:=q;exact h2 pins s1 σ' H' D I' q
 |ret v=>exact q
 |brk=>exact q
 |cont=>exact q
theorem jD(h1:PS X st t):PSs X [st] t:=by
 intro pins s σ H D I h;refine wpAny_execs_cons (thn (h1 pins s σ H D I h) fun f s1 q=>?_);cases f with
 |next=>exact wpAny_execs_nil q
 |ret v=>exact q
 |brk=>exact q
 |cont=>exact q
theorem aNu:PS X (.Pass pos) aOh:=fun _ _ σ H _ I h=>wpAny_Pass ⟨σ,H,I,h⟩
theorem Inv.quiet(I:Inv X pins σ H s):interactive X.env=false:=by simp[interactive,I.ok.kind]
def tDrop (te:TE):TS:=fun D σ H=>te σ H fun _ H1=>D.nx σ H1
theorem qQ(he:PE X e te)(hs:swapsWith e none pos.line X.env=pure false:=by rfl):PS X (.Expr e pos) (tDrop te):=by
 intro pins s σ H D I h;exact wpAny_Expr_any (thn (he pins s σ H _ I h) fun v s1 zq=>zq.el fun x H1 I1 r1 q1=>⟨σ,H1,I1,q1⟩) I.quiet hs
def tRet (te:TE):TS:=fun D σ H=>te σ H D.rt
theorem jL(he:PE X e te):PS X (.Return (some e) pos) (tRet te):=by
 intro pins s σ H D I h;exact wpAny_Return_some (thn (he pins s σ H _ I h) fun v s1 zq=>zq.el fun x H1 I1 r1 q1=>⟨x,σ,H1,I1,r1,q1⟩)
def tIfS (c:TT) (t u:TS):TS:=fun D σ H=>c σ H fun b H1=>if b=true then t D σ H1 else u D σ H1
theorem jZ(hc:PT X c tc)(ha:PSs X a t)(hb:PSs X b u):PS X (.If c a b pos) (tIfS tc t u):=by
 intro pins s σ H D I h;refine wpAny_If (thn (hc pins s σ H _ I h) fun d s1 zq=>?_);obtain⟨H1,I1,q1⟩:=zq;cases d with
 |true=>exact ha pins s1 σ H1 D I1 q1
 |false=>exact hb pins s1 σ H1 D I1 q1
def aRv:TS:=fun _ _ _=>False
theorem kF:PS X st aRv:=fun _ _ _ _ _ _ h=>h.elim
end
abbrev TG:=V->St->Hp->(St->Hp->Prop)->Prop
abbrev TGs:=List V->St->Hp->(St->Hp->Prop)->Prop
def PG (X:Cx) (target:Expr) (t:TG):Prop :=
 ∀(pins:List (Addr×Obj)) (s:μ) (σ:St) (H:Hp) (v:V) (u:Value) (Q:St->Hp->Prop),Inv X pins σ H s->RelV v u->t v σ H Q →
  Ξ (je X.prog X.w) X.A (assign target X.env u) (fun _ s'=>∃σ' H',Inv X pins σ' H' s'/\Q σ' H') X.xe s
def PGs (X:Cx) (ts:List Expr) (t:TGs):Prop :=
 ∀(pins:List (Addr×Obj)) (s:μ) (σ:St) (H:Hp) (vs:List V) (us:List Value) (Q:St->Hp->Prop),Inv X pins σ H s->jY vs us->t vs σ H Q →
  Ξ (je X.prog X.w) X.A (assignInOrder ((qv ts X.env).map (·.2)) us) (fun _ s'=>∃σ' H',Inv X pins σ' H' s'/\Q σ' H') X.xe s
abbrev TSet:=V->V->V->Hp->(Hp->Prop)->Prop
def PSet (X:Cx) (t:TSet):Prop :=
 ∀(pins:List (Addr×Obj)) (s:μ) (σ:St) (H:Hp) (o i v:V) (ov iv u:Value) (Q:Hp->Prop),Inv X pins σ H s->RelV o ov->RelV i iv->RelV v u->t o i v H Q →
  Ξ (je X.prog X.w) X.A (setItem ov iv u) (fun _ s'=>∃H',Inv X pins σ H' s'/\Q H') X.xe s
section
variable {X:Cx}{pos:Pos}
def zS (i:Nat):TG:=fun v σ H Q=>Q (σ.set i (some v)) H
theorem wB{i:Nat}(hN:X.N.Nodup)(hi:X.N[i]?=some x)(hx:Loc X.env.scope x)(hf:X.fn x=true\/X.env.scope.names.lookup x=some .local:=by first|exact .inl rfl|exact .inr rfl|assumption):PG X (.Name x pos) (zS i):=by
 intro pins s σ H v u Q I r h;exact wpAny_assign_Name (iJ I hN hi hx r (fun s' I'=>⟨_,H,I',h⟩) hf)
inductive aHo (vs:List V) (σ:St) (H:Hp) (Q:St->Hp->Prop):Prop|mk:vs=[]->Q σ H->aHo vs σ H Q
def gNil:TGs:=fun vs σ H Q=>aHo vs σ H Q
inductive aEx (t:TG) (u:TGs) (vs:List V) (σ:St) (H:Hp) (Q:St->Hp->Prop):Prop|mk:∀v r,vs=v::r->(t v σ H fun σ' H'=>u r σ' H' Q)->aEx t u vs σ H Q
def gCons (t:TG) (u:TGs):TGs:=fun vs σ H Q=>aEx t u vs σ H Q
theorem vO:PGs X [] gNil:=by
 intro pins s σ H vs us Q I r h;obtain⟨e,h⟩:=h;subst e;cases r;exact assignInOrder_nil ⟨σ,H,I,h⟩
theorem kI(h1:PG X e t)(h2:PGs X es u)
  (hs:(qv (e::es) X.env).map (·.2)=assign e X.env::(qv es X.env).map (·.2):=by rfl):PGs X (e::es) (gCons t u):=by
 intro pins s σ H vs us Q I r h;obtain⟨v,vr,e1,h⟩:=h;subst e1;cases r with
 |cons r rr =>
  rw[hs];refine assignInOrder_cons (thn (h1 pins s σ H _ _ _ I r h) fun _ s1 zq=>?_);obtain⟨σ1,H1,I1,q1⟩:=zq;exact h2 pins s1 σ1 H1 _ _ Q I1 rr q1
inductive aKf (K:Φ) (n:Nat) (t:TGs) (v:V) (σ:St) (H:Hp) (Q:St->Hp->Prop):Prop|mk:∀a xs,v=.ref a->SqT K H a xs->xs.length=n->t xs σ H Q->aKf K n t v σ H Q
def gTup (K:Φ) (n:Nat) (t:TGs):TG:=fun v σ H Q=>aKf K n t v σ H Q
theorem bB{n:Nat}(hc:X.calm=true)(h:PGs X es t)
  (hn:(qv es X.env).length=n:=by rfl)(hst:(qv es X.env).findIdx? (·.1)=none:=by rfl):PG X (.Tuple es k pos) (gTup X.K n t):=by
 intro pins s σ H v u Q I r hw;obtain⟨a,xs,e1,hq,hl,hw⟩:=hw;subst e1;cases r;obtain⟨its,rv,ht,hz⟩:=I.tuple hq;refine assign_Tuple_tuple (I.ok.hd hc) ht (by simp[hn,←hl,rv.length]) hst fun h' hx=>?_;have I1:Inv X pins σ H { s with heap:=h' }:=I.kept (t':=s.toks) fun b o e=>hx b o (ir (ψ e)) e;exact h pins _ σ H xs _ Q I1 (by simpa using rv) hw
def gSub (to ti:TE) (t:TSet):TG:=fun v σ H Q=>to σ H fun o H1=>ti σ H1 fun i H2=>t o i v H2 fun H3=>Q σ H3
theorem aDp(ho:PE X o to)(hi:PE X i ti)(hs:PSet X t)
  (ha:∀v,assign (.Subscript o i pos) X.env v=(do
   let ov ←uf [v] (eval o X.env)
   let iv ←uf [v,ov] (eval i X.env)
   standAt pos
   uf [v,ov,iv] (setItem ov iv v)
   release [v,ov,iv] []):=by intro _;rfl):PG X (.Subscript o i pos) (gSub to ti t):=by
 intro pins s σ H v u Q I r h;rw[ha];refine ε (kf (thn (ho pins s σ H _ I h) fun ov s1 zq=>?_));obtain⟨x,H1,I1,r1,q1⟩:=zq;refine ε (kf (thn (hi pins s1 σ H1 _ I1 q1) fun iv s2 zq=>?_));obtain⟨y,H2,I2,r2,q2⟩:=zq;refine ε (va (ε (kf (thn (hs pins s2 σ H2 x y v ov iv u _ I2 r1 r2 r q2) fun _ s3 zq=>?_))));obtain⟨H3,I3,q3⟩:=zq;exact wpAny_release ⟨σ,H3,I3,q3⟩
def aHb (te:TE) (g:TG):TS:=fun D σ H=>te σ H fun x H1=>g x σ H1 D.nx
theorem lN(he:PE X e te)(hg:PG X tg g)(hs:swapsWithSole [tg] e pos.line X.env=pure false:=by rfl)(hw:swappedStores [tg] e X.env=pure none:=by rfl)
  (h1:(qv [tg] X.env).map (·.2)=[assign tg X.env]:=by rfl):PS X (.Assign [tg] e pos) (aHb te g):=by
 intro pins s σ H D I h;refine wpAny_Assign_stores (thn (he pins s σ H _ I h) fun v s1 zq=>?_) hs hw;obtain⟨x,H1,I1,r1,q1⟩:=zq;rw[h1];exact thn (hg pins s1 σ H1 x v _ I1 r1 q1) fun _ s2 q=>q
theorem aEb{i:Nat}(hN:X.N.Nodup)(hi:X.N[i]?=some x)(hx:Loc X.env.scope x)(he:PE X e te)(hs:swapsWith e (some (.Name x pos')) pos.line X.env=pure false:=by rfl)(hf:X.fn x=true\/X.env.scope.names.lookup x=some .local:=by first|exact .inl rfl|exact .inr rfl|assumption):
  PS X (.Assign [.Name x pos'] e pos) (aHb te (zS i)):=by
 intro pins s σ H D I h;refine wpAny_Assign_Name (thn (he pins s σ H _ I h) fun v s1 zq=>?_) hs;obtain⟨y,H1,I1,r1,q1⟩:=zq;exact iJ I1 hN hi hx r1 (fun s2 I2=>⟨_,H1,I2,q1⟩) hf
def tPar (i j:Nat) (ta:TA):TS:=fun D σ H=>ta σ H fun vs H1=>∃v w,vs=[v,w]/\D.nx ((σ.set i (some v)).set j (some w)) H1
theorem aRz{i j:Nat}{a b:Expr}{kt k2 pt2}(hc:X.calm=true)(hN:X.N.Nodup)(hi:X.N[i]?=some x)(hj:X.N[j]?=some y)(hij:i≠j)
  (hx:X.env.scope.names.lookup x=some .local)(hy:X.env.scope.names.lookup y=some .local)(ha:PA X [a,b] ta)
  (hw:swappedStores [.Tuple [.Name x px,.Name y py] kt pt] (.Tuple [a,b] k2 pt2) X.env=pure (some [x,y]))
  (hs:swapsWithSole [.Tuple [.Name x px,.Name y py] kt pt] (.Tuple [a,b] k2 pt2) pos.line X.env=pure false:=by rfl):
  PS X (.Assign [.Tuple [.Name x px,.Name y py] kt pt] (.Tuple [a,b] k2 pt2) pos) (tPar i j ta):=by
 intro pins s σ H D I h;rw[exec_Assign_arm];refine ε (va ?_);rw[hs];refine ε (ω ?_);rw[if_neg (by decide)];refine ε (Tuple_ (thn (ha _ pins s σ H _ I h) fun us s1 zq=>?_));obtain⟨vs,H1,I1,r1,q1⟩:=zq;obtain⟨v,w,e1,q1⟩:=q1;subst e1;obtain⟨u1,u2,rfl,rv,rw'⟩ : ∃u1 u2,us=[u1,u2]/\RelV v u1/\RelV w u2:=by
  cases r1 with
  |cons p q =>
   cases q with
   |cons p' q' =>
    cases q';exact⟨_,_,rfl,p,p'⟩
 refine ve ?_ (by show 2<=ξ;decide);have I2:Inv X pins σ H1 { s1 with heap:=s1.heap.push { cls:=.type "tuple",data:=.seq [u1,u2].toArray } }:=I1.kept (t':=s1.toks) fun b o e=>ν _ e;rw[hw];refine ε (ω ?_);show Ξ (je X.prog X.w) X.A (do rule "assign.swapped-stores";let items ←unpackItems (.ref s1.heap.objs.size) 2 none;assignInOrder [fun v=>bindName X.env y v,fun v=>bindName X.env x v] items.reverse;pure Flow.next) _ _ _;refine ε (wpAny_rule (ε (unpackItems_tuple (items:=#[u1,u2]) (I.ok.hd hc) (IsTup.new s1.heap _) fun h' hx'=>?_)));have I3:=I2.kept (h':=h') (t':=s1.toks) fun b o e=>hx' b o (ir (ψ e)) e;show Ξ _ _ (assignInOrder [fun v=>bindName X.env y v,fun v=>bindName X.env x v] [u2,u1] >>= fun _=>pure Flow.next) _ _ _;refine ε (assignInOrder_cons (wpAny_bindName (iJ I3 hN hj (.inl hy) rw' (fun s2 I4=>?_) (.inr hy))));refine assignInOrder_cons (wpAny_bindName (iJ I4 hN hi (.inl hx) rv (fun s3 I5=>assignInOrder_nil (ω ?_)) (.inr hx)));rw[List.set_comm _ _ (kc hij)]at I5;exact⟨_,H1,I5,q1⟩
end
section
variable {X:Cx}{pos:Pos}
def aQp (c:TT) (tb:TS):TS:=fun D σ H=>∃W:Nat->St->Hp->Prop,(∃m,W m σ H)/\∀m σ H,W m σ H →
 c σ H fun b H1=>if b=true then ∃N:St->Hp->Prop,(∀σ' H',N σ' H'->∃m',m'<m/\W m' σ' H')/\tb { D with nx:=N,ct:=N,bk:=D.nx } σ H1 else D.nx σ H1
theorem aIt(hp:PassesOwn (je X.prog X.w) X.A X.env X.xe)(hc:PT X c tc)(hb:PSs X body tb):PS X (.While c body [] pos) (aQp tc tb):=by
 intro pins s σ H D I h;obtain⟨W,⟨m0,w0⟩,turn⟩:=h;refine wpAny_While (codeAny_whileLoop (fun n s'=>∃σ' H',Inv X pins σ' H' s'/\W n σ' H') ?_ m0 ⟨σ,H,I,w0⟩);rintro n s1 ⟨σ1,H1,I1,w1⟩;refine sx hp (thn (hc pins s1 σ1 H1 _ I1 (turn n σ1 H1 w1)) fun b s2 zq=>?_);obtain⟨H2,I2,q2⟩:=zq;cases b with
 |true =>
  obtain⟨N,hN,q2⟩:=q2;rw[if_pos rfl];refine sx hp (thn (hb pins s2 σ1 H2 _ I2 q2) fun f s3 q3=>?_);cases f with
  |next =>
   obtain⟨σ3,H3,I3,n3⟩:=q3;obtain⟨m',hm,w3⟩:=hN σ3 H3 n3;exact⟨m',hm,σ3,H3,I3,w3⟩
  |cont =>
   obtain⟨σ3,H3,I3,n3⟩:=q3;obtain⟨m',hm,w3⟩:=hN σ3 H3 n3;exact⟨m',hm,σ3,H3,I3,w3⟩
  |brk=>exact q3
  |ret v=>exact q3
 |false =>
  rw[if_neg ρ];exact wpAny_execs_nil ⟨σ1,H2,I2,q2⟩
end
structure It where
 go:Nat->Hp->Prop
 yld:Nat->Hp->V->Hp->Prop
 stop:Nat->Hp->Prop
def dQ (X:Cx) (pins:List (Addr×Obj)) (H:Hp) (b:Addr):Prop :=
 H b=none/\b≠X.env.locals/\b∉X.fs/\(b∈X.ex\/X.s₀.heap.objs.size<=b)/\(∀x c,X.env.cells.lookup x=some c->c≠b)/\∀p∈X.pn++pins,p.1≠b
theorem Inv.fpOk{H':Hp}{b:Addr}(I:Inv X pins σ H s)(hb:s.heap.objs.size<=b)(hn:H' b=none):dQ X pins H' b:=by
 refine⟨hn,mz (ς I.lt hb),I.nofs hb,.inr (jh I.sz hb),fun x c e z=>?_,fun p hp z=>?_⟩
 ·obtain⟨v,q⟩:=I.cell x c e;exact absurd (ς q.lt (by rw[z];exact hb)) (nk _)
 ·exact absurd (ς (ψ (I.pin p hp).1) (by rw[z];exact hb)) (nk _)
structure Turn (P:ki) (w:mx) (K:Φ) (tg:Expr) (J:It) (fp:List Addr) (it:Addr) (tn:Nat->ky->Prop):Prop where
 mem:it∈fp
 obj:∀i h,tn i h->∀b∈fp,∃o,h.get? b=some o/\∀v,o.data≠.cell v
 keep:∀i h h',tn i h->(∀b∈fp,∀o,h.get? b=some o->h'.get? b=some o)->tn i h'
 item:∀(X:Cx),X.prog=P->X.w=w->X.K=K->X.calm=true->∀(i:Nat) (pins:List (Addr×Obj)) (s:μ) (σ:St) (H:Hp) (E:Value->μ->Prop),Inv X pins σ H s->(∀b∈fp,dQ X pins H b)->tn i s.heap->J.go i H →
  Ξ (je P w) X.A (vc (.ref it)) (fun r s1=>∃u,r=some u ∧
   Ξ (je P w) X.A (wo tg (.ref it) u) (fun _ s2=>∃x H',Inv X pins σ H' s2/\RelV x u/\J.yld i H x H'/\tn (i+1) s2.heap/\∀b∈fp,H' b=none) E s1) E s
 done:∀(X:Cx),X.prog=P->X.w=w->X.K=K->X.calm=true->∀(i:Nat) (pins:List (Addr×Obj)) (s:μ) (σ:St) (H:Hp) (E:Value->μ->Prop),Inv X pins σ H s->(∀b∈fp,dQ X pins H b)->tn i s.heap->J.stop i H →
  Ξ (je P w) X.A (vc (.ref it)) (fun r s1=>r=none/\Inv X pins σ H s1) E s
 self:∀(A:lg) (i:Nat) (s:μ) (Q:Value->μ->Prop) (E:Value->μ->Prop),tn i s.heap->Q (.ref it) s->Ξ (je P w) A (pyIter (.ref it)) Q E s
abbrev TI:=St->Hp->(It->Hp->Prop)->Prop
def PIE (X:Cx) (pins:List (Addr×Obj)) (σ:St) (tg:Expr) (R:It->Hp->Prop) (itv:Value) (s2:μ):Prop :=
 ∃(it:Addr) (fp:List Addr) (tn:Nat->ky->Prop) (J:It) (H':Hp),itv=.ref it/\Inv X pins σ H' s2/\Turn X.prog X.w X.K tg J fp it tn/\tn 0 s2.heap/\(∀b∈fp,dQ X pins H' b)/\R J H'
def PI (X:Cx) (tg iter:Expr) (wi:TI):Prop :=
 ∀(pins:List (Addr×Obj)) (s:μ) (σ:St) (H:Hp) (R:It->Hp->Prop),Inv X pins σ H s->wi σ H R →
  Ξ (je X.prog X.w) X.A (eval iter X.env) (fun v s1=>Ξ (je X.prog X.w) X.A (pyIter v) (PIE X pins σ tg R) X.xe s1) X.xe s
theorem aFu{s:μ}{it:Addr}{Q:Unit->μ->Prop}(ho:s.heap.get? it=some o)(hc:o.cls=.type n)(hd:o.data=.fields vs)
  (hn : ["enumerate","zip","dict_itemiterator","dict_reverseitemiterator","odict_iterator","itertools.zip_longest","itertools.pairwise"].contains n=false)(hQ:Q () s):Ξ M A (wo tg (.ref it) u) Q E s:=by
 unfold wo;cases tg <;> first
  |exact ω hQ
  | (cases u <;> first
      |exact ω hQ
      | (refine ε (wpAny_load ho ?_)
         rw[hc,hd];show Ξ M A (if (["enumerate","zip","dict_itemiterator","dict_reverseitemiterator","odict_iterator","itertools.zip_longest","itertools.pairwise"].contains n&&vs[0]? == some (rawInt _))=true then _ else _) Q E s;rw[if_neg (by intro h;rw[hn,qm]at h;cases h)];exact ω hQ))
def Itl (K:Φ) (a:Addr):It :=
 ⟨fun i H=>∃xs x,SqL K H a xs/\xs[i]?=some x,fun i H x H'=>H'=H/\∀xs,SqL K H a xs->xs[i]?=some x,fun i H=>∃xs,SqL K H a xs/\xs.length<=i⟩
def Itt (K:Φ) (a:Addr):It :=
 ⟨fun i H=>∃xs x,SqT K H a xs/\xs[i]?=some x,fun i H x H'=>H'=H/\∀xs,SqT K H a xs->xs[i]?=some x,fun i H=>∃xs,SqT K H a xs/\xs.length<=i⟩
def Itr (lo:Int) (n:Nat):It:=⟨fun i _=>i<n,fun i H x H'=>H'=H/\x=.int (lo+i),fun i _=>n<=i⟩
theorem tN{K:Φ}(a it:Addr):Turn P w K tg (Itl K a) [it] it (fun i h=>h.IsListIter it a i) where
 mem:=by simp
 obj:=fun i h st b hb=>by
  have e:b=it:=by simpa using hb
  subst e;obtain⟨o,e,c,d⟩:=st;exact⟨o,e,fun v z=>by rw[d]at z;cases z⟩
 keep:=fun i h h' st k=>st.at fun o e=>k it (by simp) o e
 item:=by
  intro X hP hw hK hc i pins s σ H E I hf st hg;subst hP hw hK;obtain⟨xs,x,hq,hx⟩:=hg;obtain⟨its,rv,p,hz⟩:=I.list hq;obtain⟨u,hu,ru⟩:=rv.get hx;obtain⟨f0,f1,f2,f3,f4,f5⟩:=hf it (by simp);refine xi st p.isList (x:=u) (by simpa using hu) fun h' st' sb=>?_;have I1:Inv X pins σ H { s with heap:=h' }:=I.turned (t':=s.toks) (fun b o hb e=>(sb.2 b hb).trans e) f0 f1 f3 f4 f5;obtain⟨o,e,c,d⟩:=id st';exact⟨u,rfl,aFu (s:={ s with heap:=h' }) e c d (by decide) ⟨x,H,I1,ru,⟨rfl,fun ys hy=>by rw[I.list_inj hy hq];exact hx⟩,st',fun b hb=>(hf b hb).1⟩⟩
 done:=by
  intro X hP hw hK hc i pins s σ H E I hf st hg;subst hP hw hK;obtain⟨xs,hq,hx⟩:=hg;obtain⟨its,rv,p,hz⟩:=I.list hq;obtain⟨f0,f1,f2,f3,f4,f5⟩:=hf it (by simp);have hl:=rv.length;exact xx (I.ok.hd hc) st p.isList (by simp;omega) fun h' eb=>⟨rfl,I.turned (t':=s.toks) (fun b o hb e=>eb b o hb e) f0 f1 f3 f4 f5⟩
 self:=fun _ _ _ _ _ st h=>wpAny_pyIter_listiter st h
theorem rL{K:Φ}(a it:Addr):Turn P w K tg (Itt K a) [it] it (fun i h=>h.IsTupleIter it a i) where
 mem:=by simp
 obj:=fun i h st b hb=>by
  have e:b=it:=by simpa using hb
  subst e;obtain⟨o,e,c,d⟩:=st;exact⟨o,e,fun v z=>by rw[d]at z;cases z⟩
 keep:=fun i h h' st k=>st.at fun o e=>k it (by simp) o e
 item:=by
  intro X hP hw hK hc i pins s σ H E I hf st hg;subst hP hw hK;obtain⟨xs,x,hq,hx⟩:=hg;obtain⟨its,rv,p,hz⟩:=I.tuple hq;obtain⟨u,hu,ru⟩:=rv.get hx;obtain⟨f0,f1,f2,f3,f4,f5⟩:=hf it (by simp);refine wpAny_pyNext_tuple_item st (show s.heap.IsTuple a its.toArray from p) (x:=u) (by simpa using hu) fun h' st' sb=>?_;have I1:Inv X pins σ H { s with heap:=h' }:=I.turned (t':=s.toks) (fun b o hb e=>(sb.2 b hb).trans e) f0 f1 f3 f4 f5;obtain⟨o,e,c,d⟩:=id st';exact⟨u,rfl,aFu (s:={ s with heap:=h' }) e c d (by decide) ⟨x,H,I1,ru,⟨rfl,fun ys hy=>by rw[I.tuple_inj hy hq];exact hx⟩,st',fun b hb=>(hf b hb).1⟩⟩
 done:=by
  intro X hP hw hK hc i pins s σ H E I hf st hg;subst hP hw hK;obtain⟨xs,hq,hx⟩:=hg;obtain⟨its,rv,p,hz⟩:=I.tuple hq;obtain⟨f0,f1,f2,f3,f4,f5⟩:=hf it (by simp);have hl:=rv.length;exact wpAny_pyNext_tuple_end (I.ok.hd hc) st (show s.heap.IsTuple a its.toArray from p) (by simp;omega) fun h' eb=>⟨rfl,I.turned (t':=s.toks) (fun b o hb e=>eb b o hb e) f0 f1 f3 f4 f5⟩
 self:=fun _ _ _ _ _ st h=>wpAny_pyIter_tupleiter st h
theorem aDt{K:Φ}(it:Addr)(lo:Int)(n:Nat):Turn P w K tg (Itr lo n) [it] it (fun i h=>IsRangeIter h it (lo+(i:Nat)*1) ((n:Int)-(i:Nat)) 1) where
 mem:=by simp
 obj:=fun i h st b hb=>by
  have e:b=it:=by simpa using hb
  subst e;exact⟨_,st,fun v z=>by
   have z':Data.fields _=Data.cell v:=z;cases z'⟩
 keep:=fun i h h' st k=>k it (by simp) _ st
 item:=by
  intro X hP hw hK hc i pins s σ H E I hf st hg;subst hP hw hK;obtain⟨f0,f1,f2,f3,f4,f5⟩:=hf it (by simp);have W:=Walks.range (prog:=X.prog) (w:=X.w) (I.ok.hd hc) it lo 1 n;refine W.item i s _ _ hg st fun v h' tk hv st' kk=>?_;obtain⟨t,rfl⟩:=hv;have I1:Inv X pins σ H { s with heap:=h',toks:=tk }:=I.turned (fun b o hb e=>kk b o (by simpa using hb) e) f0 f1 f3 f4 f5;refine⟨_,rfl,aFu (s:={ s with heap:=h',toks:=tk }) (n:="range_iterator") st' rfl rfl (by decide) ⟨.int (lo+i),H,I1,⟨t,?_⟩,⟨rfl,rfl⟩,st',fun b hb=>(hf b hb).1⟩⟩;rw[Int.mul_one]
 done:=by
  intro X hP hw hK hc i pins s σ H E I hf st hg;subst hP hw hK;obtain⟨f0,f1,f2,f3,f4,f5⟩:=hf it (by simp);exact wpAny_pyNext_range_end (I.ok.hd hc) st (by have:n<=i:=hg;omega) fun h' eb=>⟨rfl,I.turned (t':=s.toks) (fun b o hb e=>eb b o hb e) f0 f1 f3 f4 f5⟩
 self:=fun _ _ _ _ _ st h=>wpAny_pyIter_rangeiter st h
section
variable {X:Cx}{tg:Expr}
inductive aFl (K:Φ) (R:It->Hp->Prop) (x:V) (H1:Hp):Prop|mk:∀a,x=.ref a->((∃xs,SqL K H1 a xs))->R (Itl K a) H1->aFl K R x H1
def iList (K:Φ) (tl:TE):TI:=fun σ H R=>tl σ H fun x H1=>aFl K R x H1
def iTup (K:Φ) (tl:TE):TI:=fun σ H R=>tl σ H fun x H1=>∃a,x=.ref a/\(∃xs,SqT K H1 a xs)/\R (Itt K a) H1
theorem qS(hl:PE X l tl):PI X tg l (iList X.K tl):=by
 intro pins s σ H R I h;refine thn (hl pins s σ H _ I h) fun v s1 zq=>?_;obtain⟨x,H1,I1,r1,q1⟩:=zq;obtain⟨a,e,⟨xs,hq⟩,q⟩:=q1;subst e;cases r1;obtain⟨its,rv,p,hz⟩:=I1.list hq;refine oz p.isList ?_;refine⟨s1.heap.objs.size,[s1.heap.objs.size],_,_,H1,rfl,I1.kept (t':=s1.toks) fun b o e=>ν _ e,tN a _,⟨_,iw _ rfl,rfl,rfl⟩,fun b hb=>?_,q⟩;have e:b=s1.heap.objs.size:=by simpa using hb
 subst e;exact I1.fpOk (ι _) (I1.hok.fresh (ι _))
theorem lD(hl:PE X l tl):PI X tg l (iTup X.K tl):=by
 intro pins s σ H R I h;refine thn (hl pins s σ H _ I h) fun v s1 zq=>?_;obtain⟨x,H1,I1,r1,q1⟩:=zq;obtain⟨a,e,⟨xs,hq⟩,q⟩:=q1;subst e;cases r1;obtain⟨its,rv,p,hz⟩:=I1.tuple hq;refine sf (show s1.heap.IsTuple a its.toArray from p) ?_;refine⟨s1.heap.objs.size,[s1.heap.objs.size],_,_,H1,rfl,I1.kept (t':=s1.toks) fun b o e=>ν _ e,rL a _,⟨_,iw _ rfl,rfl,rfl⟩,fun b hb=>?_,q⟩;have e:b=s1.heap.objs.size:=by simpa using hb
 subst e;exact I1.fpOk (ι _) (I1.hok.fresh (ι _))
theorem aHx{s:μ}{R:It->Hp->Prop}{lo hi:Int}{tk:Nat}(I:Inv X pins σ H s)(h1 : -(2 ^ 62)<=lo)(h2:lo<2 ^ 62)(h3 : -(2 ^ 62)<=hi)(h4:hi<2 ^ 62)
  (q:R (Itr lo (hi-lo).toNat) H):Ξ (je X.prog X.w) X.A (pyIter (.ref s.heap.objs.size)) (PIE X pins σ tg R) E { s with heap:=s.heap.push { cls:=.type "range",data:=.fields #[.int lo t,.int hi u,.int 1 v] },toks:=tk }:=by
 refine wpAny_pyIter_range (IsRange.new ..) (small_one h1 h2 h3 h4) ?_;have I1:Inv X pins σ H { s with heap:=s.heap.push { cls:=.type "range",data:=.fields #[.int lo t,.int hi u,.int 1 v] },toks:=tk }:=I.kept fun b o e=>ν _ e;refine⟨(s.heap.push { cls:=.type "range",data:=.fields #[.int lo t,.int hi u,.int 1 v] }).objs.size,[(s.heap.push { cls:=.type "range",data:=.fields #[.int lo t,.int hi u,.int 1 v] }).objs.size],_,_,H,rfl,
  I1.kept (t':=tk) fun b o e=>ν _ e,aDt _ lo (hi-lo).toNat,?_,fun b hb=>?_,q⟩
 ·have e1:lo+((0:Nat):Int)*1=lo:=by simp
  have e2:(((hi-lo).toNat:Nat):Int)-((0:Nat):Int)=pd.Range.rangeSize lo hi 1:=by rw[rangeSize_one];split <;> omega
  show IsRangeIter _ _ (lo+((0:Nat):Int)*1) ((((hi-lo).toNat:Nat):Int)-((0:Nat):Int)) 1;rw[e1,e2];exact iw _ rfl
 ·have e:b=(s.heap.push { cls:=.type "range",data:=.fields #[.int lo t,.int hi u,.int 1 v] }).objs.size:=by simpa using hb
  subst e;exact I1.fpOk (ι _) (I1.hok.fresh (ι _))
inductive aEv (R:It->Hp->Prop) (vs:List V) (H1:Hp):Prop|mk:∀j:Int,vs=[.int j]->-(2 ^ 62)<=j->j<2 ^ 62->R (Itr 0 j.toNat) H1->aEv R vs H1
def iRng1 (ta:TA):TI:=fun σ H R=>ta σ H fun vs H1=>aEv R vs H1
theorem eI{a:Expr}(hg:Gl X "range")(hm:X.mg "range" = none)(ha:PA X [a] ta)(hs:iy [a] X.env=[(false,eval a X.env)]:=by rfl):PI X tg (.Call (.Name "range" p) [a] [] pos) (iRng1 ta):=by
 intro pins s σ H R I h;refine Call_ (dR I hg hm boot_range (nu (thn (ha pos pins s σ H _ I h) fun us s1 zq=>?_) hs rfl));obtain⟨vs,H1,I1,r1,q1⟩:=zq;obtain⟨j,e,q1,q2,q⟩:=q1;subst e;cases r1 with
 |cons r rr =>
  cases rr;obtain⟨t,rfl⟩:=r;exact call_range_1 (aHx I1 (by omega) (by omega) q1 q2 (by simpa using q))
def tFor (wi:TI) (g:TG) (tb:TS):TS:=fun D σ H=>wi σ H fun J H1=>∃W:Nat->Nat->St->Hp->Prop,(∃m,W 0 m σ H1)/\∀i m σ H,W i m σ H →
 (J.stop i H/\D.nx σ H)\/(J.go i H/\∃N:St->Hp->Prop,(∀σ' H',N σ' H'->∃m',m'<m/\W (i+1) m' σ' H')/\∀x H',J.yld i H x H'->g x σ H' fun σ2 H2=>tb { D with nx:=N,ct:=N,bk:=D.nx } σ2 H2)
def dC (fp:List Addr) (h:ky):List (Addr×Obj):=fp.filterMap fun b=>(h.get? b).map fun o=>(b,o)
theorem yL{fp:List Addr}{h:ky}{b:Addr}(hb:b∈fp)(e:h.get? b=some o):(b,o)∈dC fp h:=List.mem_filterMap.mpr ⟨b,hb,by rw[e];rfl⟩
theorem aGd{p:Addr×Obj}(hp:p∈dC fp h):p.1∈fp/\h.get? p.1=some p.2:=by
 obtain⟨b,hb,e⟩:=List.mem_filterMap.mp hp;cases q:h.get? b with
 |none=>rw[q]at e;cases e
 |some o =>
  rw[q]at e;have e':(b,o)=p:=mw e;subst e';exact⟨hb,q⟩
theorem Inv.pinned{fp:List Addr}(I:Inv X pins σ H s)(hf:∀b∈fp,dQ X pins H b)(ho:∀b∈fp,∃o,s.heap.get? b=some o/\∀v,o.data≠.cell v):Inv X (pins++dC fp s.heap) σ H s :=
 I.pins_of fun p hp=>(lq.mp hp).elim (fun z=>I.pin p (jf _ z)) fun z=>by
  obtain⟨hb,e⟩:=aGd z;obtain⟨f0,f1,f2,_⟩:=hf p.1 hb;obtain⟨o,e',d⟩:=ho p.1 hb;rw[e]at e';cases e';exact⟨e,f0,f1,f2,d⟩
theorem Inv.unpinned{pins pl:List (Addr×Obj)}(I:Inv X (pins++pl) σ H s):Inv X pins σ H s:=I.pins_of fun p hp=>I.pin p (jf _ (mf _ hp))
theorem yO(hp:PassesOwn (je X.prog X.w) X.A X.env X.xe)(hc:X.calm=true)(hi:PI X tg iter wi)(hg:PG X tg g)(hb:PSs X body tb)
  (hs:∀x,tq iter X.env x=pure x:=by intro _;rfl):PS X (.For tg iter body [] pos) (tFor wi g tb):=by
 intro pins s σ H D I h;refine wpAny_For (thn (hi pins s σ H _ I h) fun v s1 h1=>thn h1 fun itv s2 h2=>?_) hs;obtain⟨it,fp,tn,J,H2,e,I2,T,st2,f2,W,⟨m0,w0⟩,turn⟩:=h2;subst e;have stat:∀{H':Hp},(∀b∈fp,H' b=none)->∀b∈fp,dQ X pins H' b:=fun hn b hb=>⟨hn b hb,(f2 b hb).2⟩;refine codeAny_forLoop_any (fun n s'=>∃i σ' H',Inv X pins σ' H' s'/\tn i s'.heap/\(∀b∈fp,H' b=none)/\W i n σ' H') ?_ m0 ⟨0,σ,H2,I2,st2,fun b hb=>(f2 b hb).1,w0⟩;rintro n s3 ⟨i,σ3,H3,I3,st3,fr3,w3⟩;rcases turn i n σ3 H3 w3 with⟨stop,qn⟩|⟨go,N,hN,step⟩
 ·refine sx hp (thn (T.done X rfl rfl rfl hc i pins s3 σ3 H3 X.xe I3 (stat fr3) st3 stop) fun r s4 zq=>?_);obtain⟨hr,I4⟩:=zq;subst hr;exact wpAny_execs_nil ⟨σ3,H3,I4,qn⟩
 ·refine sx hp (thn (T.item X rfl rfl rfl hc i pins s3 σ3 H3 X.xe I3 (stat fr3) st3 go) fun r s4 zq=>?_);obtain⟨u,hr,h4⟩:=zq;subst hr;refine sx hp (thn h4 fun _ s5 zq=>?_);obtain⟨x,H5,I5,r5,y5,st5,fr5⟩:=zq;have I5':=I5.pinned (stat fr5) (T.obj _ _ st5);refine sx hp (thn (hg _ s5 σ3 H5 x u _ I5' r5 (step x H5 y5)) fun _ s6 zq=>?_);obtain⟨σ6,H6,I6,q6⟩:=zq;refine sx hp (thn (hb _ s6 σ6 H6 _ I6 q6) fun f s7 q7=>?_);have again:∀{σ7:St}{H7:Hp},Inv X (pins++dC fp s5.heap) σ7 H7 s7->N σ7 H7->∃m,m<n/\∃i σ' H',Inv X pins σ' H' s7/\tn i s7.heap/\(∀b∈fp,H' b=none)/\W i m σ' H':=fun {σ7 H7} I7 n7=>by
   obtain⟨m',hm,w7⟩:=hN σ7 H7 n7;refine⟨m',hm,i+1,σ7,H7,I7.unpinned,T.keep _ _ _ st5 fun b hb o e=>(I7.pin (b,o) (jf _ (jf _ (yL hb e)))).1,fun b hb=>?_,w7⟩;obtain⟨o,e,d⟩:=T.obj _ _ st5 b hb;exact(I7.pin (b,o) (jf _ (jf _ (yL hb e)))).2.1
  cases f with
  |next=>obtain⟨σ7,H7,I7,n7⟩:=q7;exact again I7 n7
  |cont=>obtain⟨σ7,H7,I7,n7⟩:=q7;exact again I7 n7
  |brk=>obtain⟨σ7,H7,I7,q7⟩:=q7;exact⟨σ7,H7,I7.unpinned,q7⟩
  |ret v=>obtain⟨x7,σ7,H7,I7,r7,q7⟩:=q7;exact⟨x7,σ7,H7,I7.unpinned,r7,q7⟩
end
theorem yA{K:Φ}{xs:List V}{g:TG}{tb:TS}{D:Ends}{σ:St}(Pv:Nat->St->Hp->Prop)(h0:Pv 0 σ H)(hl:∀i σ H,i<=xs.length->Pv i σ H->SqL K H a xs)
  (hs:∀i x σ H,xs[i]?=some x->Pv i σ H->LpL (let D2:Ends:={ D with nx:=Pv (i+1),ct:=Pv (i+1),bk:=D.nx };g x σ H fun σ2 H2=>tb D2 σ2 H2))(hd:∀σ H,Pv xs.length σ H->D.nx σ H):
  ∃W:Nat->Nat->St->Hp->Prop,(∃m,W 0 m σ H)/\∀i m σ H,W i m σ H →
   ((Itl K a).stop i H/\D.nx σ H)\/((Itl K a).go i H/\∃N:St->Hp->Prop,(∀σ' H',N σ' H'->∃m',m'<m/\W (i+1) m' σ' H')/\∀x H',(Itl K a).yld i H x H'->g x σ H' fun σ2 H2=>tb { D with nx:=N,ct:=N,bk:=D.nx } σ2 H2):=by
 refine⟨fun i m σ H=>m=xs.length-i/\i<=xs.length/\Pv i σ H,⟨xs.length,by simp,jg _,h0⟩,?_⟩;rintro i m σ H ⟨rfl,hi,p⟩;have q:=hl i σ H hi p
 by_cases hlt:i<xs.length
 ·refine .inr ⟨⟨xs,xs[i],q,by simp[hlt]⟩,Pv (i+1),fun σ' H' p'=>⟨xs.length-(i+1),by omega,rfl,hlt,p'⟩,fun x H' y=>?_⟩;obtain⟨e,y⟩:=y;subst e;exact hs i x σ _ (y xs q) p
 ·have e:i=xs.length:=by omega
  subst e;exact .inl ⟨⟨xs,q,ι _⟩,hd σ H p⟩
theorem aNn{K:Φ}{xs:List V}{g:TG}{tb:TS}{D:Ends}{σ:St}(Pv:Nat->St->Hp->Prop)(h0:Pv 0 σ H)(hl:∀i σ H,i<=xs.length->Pv i σ H->SqT K H a xs)
  (hs:∀i x σ H,xs[i]?=some x->Pv i σ H->LpL (let D2:Ends:={ D with nx:=Pv (i+1),ct:=Pv (i+1),bk:=D.nx };g x σ H fun σ2 H2=>tb D2 σ2 H2))(hd:∀σ H,Pv xs.length σ H->D.nx σ H):
  ∃W:Nat->Nat->St->Hp->Prop,(∃m,W 0 m σ H)/\∀i m σ H,W i m σ H →
   ((Itt K a).stop i H/\D.nx σ H)\/((Itt K a).go i H/\∃N:St->Hp->Prop,(∀σ' H',N σ' H'->∃m',m'<m/\W (i+1) m' σ' H')/\∀x H',(Itt K a).yld i H x H'->g x σ H' fun σ2 H2=>tb { D with nx:=N,ct:=N,bk:=D.nx } σ2 H2):=by
 refine⟨fun i m σ H=>m=xs.length-i/\i<=xs.length/\Pv i σ H,⟨xs.length,by simp,jg _,h0⟩,?_⟩;rintro i m σ H ⟨rfl,hi,p⟩;have q:=hl i σ H hi p
 by_cases hlt:i<xs.length
 ·refine .inr ⟨⟨xs,xs[i],q,by simp[hlt]⟩,Pv (i+1),fun σ' H' p'=>⟨xs.length-(i+1),by omega,rfl,hlt,p'⟩,fun x H' y=>?_⟩;obtain⟨e,y⟩:=y;subst e;exact hs i x σ _ (y xs q) p
 ·have e:i=xs.length:=by omega
  subst e;exact .inl ⟨⟨xs,q,ι _⟩,hd σ H p⟩
theorem aHj{lo:Int}{n:Nat}{g:TG}{tb:TS}{D:Ends}{σ:St}(Pv:Nat->St->Hp->Prop)(h0:Pv 0 σ H)
  (hs:∀i σ H,i<n->Pv i σ H->LpL (let D2:Ends:={ D with nx:=Pv (i+1),ct:=Pv (i+1),bk:=D.nx };g (.int (lo+i)) σ H fun σ2 H2=>tb D2 σ2 H2))(hd:∀σ H,Pv n σ H->D.nx σ H):
  ∃W:Nat->Nat->St->Hp->Prop,(∃m,W 0 m σ H)/\∀i m σ H,W i m σ H →
   ((Itr lo n).stop i H/\D.nx σ H)\/((Itr lo n).go i H/\∃N:St->Hp->Prop,(∀σ' H',N σ' H'->∃m',m'<m/\W (i+1) m' σ' H')/\∀x H',(Itr lo n).yld i H x H'->g x σ H' fun σ2 H2=>tb { D with nx:=N,ct:=N,bk:=D.nx } σ2 H2):=by
 refine⟨fun i m σ H=>m=n-i/\i<=n/\Pv i σ H,⟨n,by simp,jg _,h0⟩,?_⟩;rintro i m σ H ⟨rfl,hi,p⟩
 by_cases hlt:i<n
 ·refine .inr ⟨hlt,Pv (i+1),fun σ' H' p'=>⟨n-(i+1),by omega,rfl,hlt,p'⟩,fun x H' y=>?_⟩;obtain⟨e,y⟩:=y;subst e y;exact hs i σ _ hlt p
 ·have e:i=n:=by omega
  subst e;exact .inl ⟨ι _,hd σ H p⟩
abbrev R2:=V->V->Hp->VK->Prop
def OpR (X:Cx) (f:Value->Value->Sem Value) (r:R2):Prop :=
 ∀(pins:List (Addr×Obj)) (s:μ) (σ:St) (H:Hp) (x y:V) (v u:Value) (Q:VK),Inv X pins σ H s->RelV x v->RelV y u->r x y H Q →
  Ξ (je X.prog X.w) X.A (f v u) (EP X pins σ Q) X.xe s
def UnR (X:Cx) (f:Value->Sem Value) (r:V->Hp->VK->Prop):Prop :=
 ∀(pins:List (Addr×Obj)) (s:μ) (σ:St) (H:Hp) (x:V) (v:Value) (Q:VK),Inv X pins σ H s->RelV x v->r x H Q →
  Ξ (je X.prog X.w) X.A (f v) (EP X pins σ Q) X.xe s
def vN (X:Cx) (f:Value) (r:List V->Hp->VK->Prop):Prop :=
 ∀(pins:List (Addr×Obj)) (s:μ) (σ:St) (H:Hp) (xs:List V) (us:List Value) (Q:VK),Inv X pins σ H s->jY xs us->r xs H Q →
  Ξ (je X.prog X.w) X.A (call f us) (EP X pins σ Q) X.xe s
def TruR (X:Cx) (r:V->Hp->(Bool->Hp->Prop)->Prop):Prop :=
 ∀(pins:List (Addr×Obj)) (s:μ) (σ:St) (H:Hp) (x:V) (v:Value) (Q:Bool->Hp->Prop),Inv X pins σ H s->RelV x v->r x H Q →
  Ξ (je X.prog X.w) X.A (truthy v) (TP X pins σ Q) X.xe s
def tOp (r:R2) (ta tb:TE):TE:=fun σ H Q=>ta σ H fun x H1=>tb σ H1 fun y H2=>r x y H2 Q
def tUn (r:V->Hp->VK->Prop) (ta:TE):TE:=fun σ H Q=>ta σ H fun x H1=>r x H1 Q
inductive rI_i (C:Int->Int->Prop) (g:Int->Int->V) (x:V) (y:V) (H:Hp) (Q:VK):Prop|mk:∀i j,x=.int i->y=.int j->C i j->Q (g i j) H->rI_i C g x y H Q
def rI (C:Int->Int->Prop) (g:Int->Int->V):R2:=fun x y H Q=>rI_i C g x y H Q
inductive aPs (g:Int->Int->V) (x:V) (y:V) (H:Hp) (Q:VK):Prop|mk:∀i j,x=.int i->y=.int j->Q (g i j) H->aPs g x y H Q
def rI0 (g:Int->Int->V):R2:=fun x y H Q=>aPs g x y H Q
def rU (g:Int->V):V->Hp->VK->Prop:=fun x H Q=>∃i,x=.int i/\Q (g i) H
section
variable {X:Cx}{a b c:Expr}{ta tb tc:TE}{pos:Pos}
theorem binT(ha:PE X a ta)(hb:PE X b tb){R:V->V->Hp->Prop}(I:Inv X pins σ H s)
  (h:ta σ H fun x H1=>tb σ H1 fun y H2=>R x y H2){f:Value->Value->Sem Value}
  (hf:∀v u s2 x y H2,Inv X pins σ H2 s2->RelV x v->RelV y u->R x y H2->Ξ (je X.prog X.w) X.A (f v u) Q X.xe s2):
  Ξ (je X.prog X.w) X.A (eval a X.env) (fun v s₁=>Ξ (je X.prog X.w) X.A (eval b X.env) (fun u s₂=>Ξ (je X.prog X.w) X.A (f v u) Q X.xe s₂) X.xe s₁) X.xe s:=by
 refine thn (ha pins s σ H _ I h) fun v s1 zq=>?_;obtain⟨x,H1,I1,r1,q1⟩:=zq;refine thn (hb pins s1 σ H1 _ I1 q1) fun u s2 zq=>?_;obtain⟨y,H2,I2,r2,q2⟩:=zq;exact hf v u s2 x y H2 I2 r1 r2 q2
theorem jS(ho:OpR X (qo op) r)(ha:PE X a ta)(hb:PE X b tb):PE X (.BinOp a op b pos) (tOp r ta tb):=by
 intro pins s σ H Q I h;exact wpAny_BinOp (binT ha hb I h fun v u s2 x y H2 I2 rx ry q=>ho pins s2 σ H2 x y v u Q I2 rx ry q)
theorem cV(ho:UnR X (unaryOp op) r)(ha:PE X a ta):PE X (.UnaryOp op a pos) (tUn r ta):=by
 intro pins s σ H Q I h;exact UnaryOp_ (thn (ha pins s σ H _ I h) fun v s1 zq=>zq.el fun x H1 I1 r1 q1=>ho pins s1 σ H1 x v Q I1 r1 q1)
theorem opI{f:Value->Value->Sem Value}{C:Int->Int->Prop}{g:Int->Int->Int}
  (rule:∀(i j:Int) (t u:Tok) (s:μ) (Q:Value->μ->Prop) (E:Value->μ->Prop),C i j->Q (.int (g i j) s.toks) { s with toks:=s.toks+1 }->Ξ (je X.prog X.w) X.A (f (.int i t) (.int j u)) Q E s):
  OpR X f (rI C fun i j=>.int (g i j)):=by
 intro pins s σ H x y v u Q I rx ry h;obtain⟨i,j,rfl,rfl,hc,q⟩:=h;obtain⟨t,rfl⟩:=rx;obtain⟨t',rfl⟩:=ry;exact rule i j t t' s _ _ hc ⟨.int (g i j),H,I.tok _,⟨_,rfl⟩,q⟩
theorem opI0{f:Value->Value->Sem Value}{g:Int->Int->Int}
  (rule:∀(i j:Int) (t u:Tok) (s:μ) (Q:Value->μ->Prop) (E:Value->μ->Prop),Q (.int (g i j) s.toks) { s with toks:=s.toks+1 }->Ξ (je X.prog X.w) X.A (f (.int i t) (.int j u)) Q E s):
  OpR X f (rI0 fun i j=>.int (g i j)):=by
 intro pins s σ H x y v u Q I rx ry h;obtain⟨i,j,rfl,rfl,q⟩:=h;obtain⟨t,rfl⟩:=rx;obtain⟨t',rfl⟩:=ry;exact rule i j t t' s _ _ ⟨.int (g i j),H,I.tok _,⟨_,rfl⟩,q⟩
theorem opB0{f:Value->Value->Sem Value}{g:Int->Int->Bool}
  (rule:∀(i j:Int) (t u:Tok) (s:μ) (Q:Value->μ->Prop) (E:Value->μ->Prop),Q (.bool (g i j)) s->Ξ (je X.prog X.w) X.A (f (.int i t) (.int j u)) Q E s):
  OpR X f (rI0 fun i j=>.bl (g i j)):=by
 intro pins s σ H x y v u Q I rx ry h;obtain⟨i,j,rfl,rfl,q⟩:=h;obtain⟨t,rfl⟩:=rx;obtain⟨t',rfl⟩:=ry;exact rule i j t t' s _ _ ⟨.bl (g i j),H,I,rfl,q⟩
def CDiv (i j:Int):Prop:=0<j/\j<1073741824
def CPow (i j:Int):Prop:=0<=j/\j<=1000000/\i.natAbs<2 ^ 64
def aHl (i j:Int):Prop:=(-(2 ^ 64)<i/\i<2 ^ 64)\/(-(2 ^ 64)<j/\j<2 ^ 64)
theorem aHl.ok(h:aHl i j):IntMulOk i j:=by
 rcases h with⟨h1,h2⟩|⟨h1,h2⟩
 ·exact .of_left (intBits_le_64 h1 h2)
 ·exact .of_right (intBits_le_64 h1 h2)
theorem aCu(k:Nat):(0:Int)<=2 ^ k:=by
 rw[two_pow_cast];exact Int.natCast_nonneg _
theorem vD:OpR X (qo .Add) (rI0 fun i j=>.int (i+j)):=opI0 fun _ _ _ _ _ _ _ q=>add_int q
theorem bC:OpR X (qo .Sub) (rI0 fun i j=>.int (i-j)):=opI0 fun _ _ _ _ _ _ _ q=>sub_int q
theorem xI:OpR X (qo .Mult) (rI aHl fun i j=>.int (i*j)):=opI fun _ _ _ _ _ _ _ hc q=>mul_int q hc.ok
theorem wN:OpR X (qo .FloorDiv) (rI CDiv fun i j=>.int (i / j)):=opI fun i j _ _ _ _ _ hc q=>by
 have h1:(0:Int)<j:=hc.1;have h2:j<1073741824:=hc.2;exact floordiv_int (by omega) (by rw[vh i (by omega)];exact q) (.inl (PyProof.noPylong_small (by omega)))
theorem yW:OpR X (qo .Mod) (rI (fun _ j=>0<j) fun i j=>.int (i % j)):=opI fun i j _ _ _ _ _ hc q=>by
 have h1:(0:Int)<j:=hc;exact mod_int' (by omega) (by rw[Int.fmod_eq_emod_of_nonneg i (by omega)];exact q)
theorem aDd:OpR X (qo .Pow) (rI CPow fun i j=>.int (i ^ j.toNat)):=opI fun _ _ _ _ _ _ _ hc q=>pow_int_small hc.1 hc.2.1 hc.2.2 q
theorem aKo:OpR X (qo .LShift) (rI CPow fun i j=>.int (i*2 ^ j.toNat)):=opI fun _ _ _ _ _ _ _ hc q=>lshift_int_small hc.1 hc.2.1 hc.2.2 q
theorem aIs:OpR X (qo .RShift) (rI (fun _ j=>0<=j) fun i j=>.int (i / 2 ^ j.toNat)):=opI fun i j _ _ _ _ _ hc q =>
 rshift_int hc (by rw[vh i (aCu _)];exact q)
theorem aDe:OpR X (qo .BitAnd) (rI0 fun i j=>.int (kh i j)):=opI0 fun _ _ _ _ _ _ _ q=>and_int q
theorem unI{f:Value->Sem Value}{g:Int->Int}
  (rule:∀(i:Int) (t:Tok) (s:μ) (Q:Value->μ->Prop) (E:Value->μ->Prop),Q (.int (g i) s.toks) { s with toks:=s.toks+1 }->Ξ (je X.prog X.w) X.A (f (.int i t)) Q E s):
  UnR X f (rU fun i=>.int (g i)):=by
 intro pins s σ H x v Q I rx h;obtain⟨i,rfl,q⟩:=h;obtain⟨t,rfl⟩:=rx;exact rule i t s _ _ ⟨.int (g i),H,I.tok _,⟨_,rfl⟩,q⟩
theorem yX:UnR X (unaryOp .USub) (rU fun i=>.int (-i)):=unI fun _ _ _ _ _ q=>neg_int q
end
def scal:V->V->Bool
 |.non,.non=>true | .non,.int _=>true | .int _,.non=>true | .non,.bl _=>true | .bl _,.non=>true | .non,.str _=>true | .str _,.non=>true
 |.int _,.int _=>true | .bl _,.bl _=>true | .str _,.str _=>true | .byt _,.byt _=>true
 |.int _,.str _=>true | .str _,.int _=>true | .bl _,.str _=>true | .str _,.bl _=>true
 |_,_=>false
inductive aPj (x:V) (y:V) (H:Hp) (Q:VK):Prop|mk:scal x y=true->Q (.bl (decide (x=y))) H->aPj x y H Q
def rEq:R2:=fun x y H Q=>aPj x y H Q
inductive aOu (x:V) (y:V) (H:Hp) (Q:VK):Prop|mk:scal x y=true->Q (.bl (!decide (x=y))) H->aOu x y H Q
def rNe:R2:=fun x y H Q=>aOu x y H Q
theorem aFf : decide (V.int i=V.int j)=(i == j):=by
 rw[qw];simp
theorem aKi : decide (V.bl i=V.bl j)=(i == j):=by
 rw[qw];simp
theorem aFd : decide (V.str i=V.str j)=(i == j):=by
 rw[qw];simp
theorem aFk : decide (V.byt i=V.byt j)=(i.toList == j.toList):=by
 rw[qw];cases i;cases j;simp
section
variable {X:Cx}{a b c:Expr}{ta tb tc:TE}{pos:Pos}
theorem qA{Q:VK}{k':Bool}(I:Inv X pins σ H s)(q:Q (.bl k) H)(e:k=k'):EP X pins σ Q (.bool k') s:=by
 subst e;exact⟨.bl k,H,I,rfl,q⟩
theorem qD:OpR X (lm .Eq) rEq:=by
 intro pins s σ H x y v u Q I rx ry h;obtain⟨hs,q⟩:=h;cases x with
 |non =>
  cases rx;cases y with
  |non=>cases ry;exact PySem.EqNone.eq_none_none (qA I q (by simp))
  |bl j=>cases ry;exact PySem.EqNone.eq_none_bool (qA I q (by simp))
  |int j=>obtain⟨t',rfl⟩:=ry;exact PySem.EqNone.eq_none_int (qA I q (by simp))
  |str j=>obtain⟨t',rfl⟩:=ry;exact PySem.EqNone.eq_none_str (qA I q (by simp))
  |_=>exact absurd (show false=true from hs) ρ
 |bl i =>
  cases rx;cases y with
  |non=>cases ry;exact PySem.EqNone.eq_bool_none (qA I q (by simp))
  |bl j=>cases ry;exact eq_bool (qA I q aKi)
  |str j=>obtain⟨t',rfl⟩:=ry;exact PySem.EqMixed.eq_bool_str (qA I q (by simp))
  |_=>exact absurd (show false=true from hs) ρ
 |int i =>
  obtain⟨t,rfl⟩:=rx;cases y with
  |non=>cases ry;exact PySem.EqNone.eq_int_none (qA I q (by simp))
  |int j=>obtain⟨t',rfl⟩:=ry;exact eq_int (qA I q aFf)
  |str j=>obtain⟨t',rfl⟩:=ry;exact PySem.EqMixed.eq_int_str (qA I q (by simp))
  |_=>exact absurd (show false=true from hs) ρ
 |str i =>
  obtain⟨t,rfl⟩:=rx;cases y with
  |non=>cases ry;exact PySem.EqNone.eq_str_none (qA I q (by simp))
  |bl j=>cases ry;exact PySem.EqMixed.eq_str_bool (qA I q (by simp))
  |int j=>obtain⟨t',rfl⟩:=ry;exact PySem.EqMixed.eq_str_int (qA I q (by simp))
  |str j=>obtain⟨t',rfl⟩:=ry;exact eq_str (qA I q aFd)
  |_=>exact absurd (show false=true from hs) ρ
 |byt i =>
  obtain⟨t,rfl⟩:=rx;cases y with
  |byt j=>obtain⟨t',rfl⟩:=ry;exact PySem.W.eq_bytes (qA I q aFk)
  |_=>exact absurd (show false=true from hs) ρ
 |_=>cases y <;> exact absurd (show false=true from hs) ρ
theorem aPb:OpR X (lm .NotEq) rNe:=by
 intro pins s σ H x y v u Q I rx ry h;obtain⟨hs,q⟩:=h;cases x with
 |non =>
  cases rx;cases y with
  |non=>cases ry;exact PySem.EqNone.ne_none_none (qA I q (by simp))
  |bl j=>cases ry;exact PySem.EqNone.ne_none_bool (qA I q (by simp))
  |int j=>obtain⟨t',rfl⟩:=ry;exact PySem.EqNone.ne_none_int (qA I q (by simp))
  |str j=>obtain⟨t',rfl⟩:=ry;exact PySem.EqNone.ne_none_str (qA I q (by simp))
  |_=>exact absurd (show false=true from hs) ρ
 |bl i =>
  cases rx;cases y with
  |non=>cases ry;exact PySem.EqNone.ne_bool_none (qA I q (by simp))
  |bl j=>cases ry;exact ne_bool (qA I q (congrArg not aKi))
  |str j=>obtain⟨t',rfl⟩:=ry;exact PySem.EqMixed.ne_bool_str (qA I q (by simp))
  |_=>exact absurd (show false=true from hs) ρ
 |int i =>
  obtain⟨t,rfl⟩:=rx;cases y with
  |non=>cases ry;exact PySem.EqNone.ne_int_none (qA I q (by simp))
  |int j=>obtain⟨t',rfl⟩:=ry;exact ne_int (qA I q (congrArg not aFf))
  |str j=>obtain⟨t',rfl⟩:=ry;exact PySem.EqMixed.ne_int_str (qA I q (by simp))
  |_=>exact absurd (show false=true from hs) ρ
 |str i =>
  obtain⟨t,rfl⟩:=rx;cases y with
  |non=>cases ry;exact PySem.EqNone.ne_str_none (qA I q (by simp))
  |bl j=>cases ry;exact PySem.EqMixed.ne_str_bool (qA I q (by simp))
  |int j=>obtain⟨t',rfl⟩:=ry;exact PySem.EqMixed.ne_str_int (qA I q (by simp))
  |str j=>obtain⟨t',rfl⟩:=ry;exact ne_str (qA I q (congrArg not aFd))
  |_=>exact absurd (show false=true from hs) ρ
 |byt i =>
  obtain⟨t,rfl⟩:=rx;cases y with
  |byt j=>obtain⟨t',rfl⟩:=ry;exact PySem.W.ne_bytes (qA I q (congrArg not aFk))
  |_=>exact absurd (show false=true from hs) ρ
 |_=>cases y <;> exact absurd (show false=true from hs) ρ
theorem aAr:OpR X (lm .Lt) (rI0 fun i j=>.bl (decide (i<j))):=opB0 fun _ _ _ _ _ _ _ q=>lt_int q
theorem mQ:OpR X (lm .LtE) (rI0 fun i j=>.bl (decide (i<=j))):=opB0 fun _ _ _ _ _ _ _ q=>le_int q
theorem dU:OpR X (lm .Gt) (rI0 fun i j=>.bl (decide (j<i))):=opB0 fun _ _ _ _ _ _ _ q=>gt_int q
theorem op_ge:OpR X (lm .GtE) (rI0 fun i j=>.bl (decide (j<=i))):=opB0 fun _ _ _ _ _ _ _ q=>ge_int q
theorem aGx:OpR X (lm .In) (fun x y H Q=>∃i j,x=.str i/\y=.str j/\Q (.bl (!(pw j i 0 j.length 1).isEmpty)) H):=by
 intro pins s σ H x y v u Q I rx ry h;obtain⟨i,j,rfl,rfl,q⟩:=h;obtain⟨t,rfl⟩:=rx;obtain⟨t',rfl⟩:=ry;exact in_str (qA I q rfl)
theorem aQv:OpR X (lm .Is) (fun x y H Q=>y=.non/\Q (.bl (decide (x=.non))) H):=by
 intro pins s σ H x y v u Q I rx ry h;obtain⟨rfl,q⟩:=h;cases ry;refine is_none_gen (qA I q ?_);cases x <;> first
  | (cases rx;rfl)
  | (obtain⟨t,rfl⟩:=rx;rfl)
theorem uO:OpR X (lm .IsNot) (fun x y H Q=>y=.non/\Q (.bl (!decide (x=.non))) H):=by
 intro pins s σ H x y v u Q I rx ry h;obtain⟨rfl,q⟩:=h;cases ry;refine isnot_none_gen (qA I q ?_);cases x <;> first
  | (cases rx;rfl)
  | (obtain⟨t,rfl⟩:=rx;rfl)
theorem OpR.or{r r':R2}(h:OpR X f r)(h':OpR X f r'):OpR X f (fun x y H Q=>r x y H Q\/r' x y H Q):=by
 intro pins s σ H x y v u Q I rx ry q;rcases q with q|q
 ·exact h pins s σ H x y v u Q I rx ry q
 ·exact h' pins s σ H x y v u Q I rx ry q
theorem xL(b:Expr){op:CmpOp}(h:op≠.In:=by decide)(h2:op≠.NotIn:=by decide):uz op b=false:=by
 have e1:(op == CmpOp.In)=false:=by cases op <;> first|rfl|exact absurd rfl h
 have e2:(op == CmpOp.NotIn)=false:=by cases op <;> first|rfl|exact absurd rfl h2
 cases b <;> simp[uz,e1,e2]
theorem vA(ho:OpR X (lm op) r)(ha:PE X a ta)(hb:PE X b tb)(hm:uz op b=false):PE X (.Compare a [op] [b] pos) (tOp r ta tb):=by
 intro pins s σ H Q I h;exact wpAny_Compare1 (binT ha hb I h fun v u s2 x y H2 I2 rx ry q=>ho pins s2 σ H2 x y v u Q I2 rx ry q) hm
inductive aEe (Q:Bool->Hp->Prop) (x:V) (H':Hp):Prop|mk:∀k,x=.bl k->Q k H'->aEe Q x H'
def aJr (t:TE):TT:=fun σ H Q=>t σ H fun x H'=>aEe Q x H'
theorem vF(ho:OpR X (lm op) r)(ha:PE X a ta)(hb:PE X b tb)(hm:uz op b=false):PT X (.Compare a [op] [b] pos) (aJr (tOp r ta tb)):=by
 intro pins s σ H Q I h;refine wpAny_isTrue_Compare1 (thn (ha pins s σ H _ I h) fun v s1 zq=>zq.el fun x H1 I1 r1 q1=>thn (hb pins s1 σ H1 _ I1 q1) fun u s2 zq=>zq.el fun y H2 I2 r2 q2=>
  thn (ho pins s2 σ H2 x y v u _ I2 r1 r2 q2) fun c s3 ⟨z,H3,I3,r3,k,e,q3⟩=>?_) hm
 subst e;cases r3;exact mh ⟨H3,I3,q3⟩
def aIu (r r':R2) (ta tb tc:TE):TE:=fun σ H Q=>ta σ H fun x H1=>tb σ H1 fun y H2=>r x y H2 fun z H3=>∃k,z=.bl k ∧
 (if k=true then tc σ H3 fun w' H4=>r' y w' H4 Q else Q (.bl false) H3)
theorem aAp(ho:OpR X (lm op) r)(ho':OpR X (lm op') r')(ha:PE X a ta)(hb:PE X b tb)(hc:PE X c tc)
  (hm:lastMarks [op,op'] [b,c]=false:=by with_unfolding_all rfl):PE X (.Compare a [op,op'] [b,c] pos) (aIu r r' ta tb tc):=by
 intro pins s σ H Q I h;refine Compare_chain (thn (ha pins s σ H _ I h) fun v s1 zq=>zq.el fun x H1 I1 r1 q1=>chain_link (thn (hb pins s1 σ H1 _ I1 q1) fun u s2 zq=>zq.el fun y H2 I2 r2 q2=>
  thn (ho pins s2 σ H2 x y v u _ I2 r1 r2 q2) fun d s3 ⟨z,H3,I3,r3,k,e,q3⟩=>?_)) hm
 subst e;cases r3;refine mh ?_;cases k with
 |false=>exact ite_ff ⟨.bl false,H3,I3,rfl,q3⟩
 |true=>exact ite_tt (chain_last (thn (hc pins s3 σ H3 _ I3 q3) fun w' s4 zq=>zq.el fun z' H4 I4 r4 q4=>ho' pins s4 σ H4 y z' u w' Q I4 r2 r4 q4))
theorem aCc(ho:OpR X (lm op) r)(ho':OpR X (lm op') r')(ha:PE X a ta)(hb:PE X b tb)(hc:PE X c tc)
  (hm:lastMarks [op,op'] [b,c]=false:=by with_unfolding_all rfl):PT X (.Compare a [op,op'] [b,c] pos) (aJr (aIu r r' ta tb tc)):=by
 intro pins s σ H Q I h;refine isTrue_chain (thn (ha pins s σ H _ I h) fun v s1 zq=>zq.el fun x H1 I1 r1 q1=>test_link (thn (hb pins s1 σ H1 _ I1 q1) fun u s2 zq=>zq.el fun y H2 I2 r2 q2=>
  thn (ho pins s2 σ H2 x y v u _ I2 r1 r2 q2) fun d s3 ⟨z,H3,I3,r3,k,e,q3⟩=>?_)) hm
 subst e;cases r3;refine mh ?_;cases k with
 |false =>
  obtain⟨k',e',q'⟩:=q3;cases e';exact ite_ff ⟨H3,I3,q'⟩
 |true =>
  refine ite_tt (test_last (thn (hc pins s3 σ H3 _ I3 q3) fun w' s4 zq=>zq.el fun z' H4 I4 r4 q4=>thn (ho' pins s4 σ H4 y z' u w' _ I4 r2 r4 q4) fun d' s5 zq=>?_));obtain⟨z2,H5,I5,r5,k2,e2,q5⟩:=zq;subst e2;cases r5;exact mh ⟨H5,I5,q5⟩
def TruV (K:Φ) (x:V) (H:Hp) (k:Bool):Prop :=
 match x with
 |.non=>k=false
 |.bl b=>k=b
 |.int i=>k=(i != 0)
 |.str y=>y.length<=ξ/\k=((y.length:Int) != 0)
 |.byt y=>y.size<=ξ/\k=((y.size:Int) != 0)
 |.ref p=>(∃xs,SqL K H p xs/\k = !xs.isEmpty)\/(∃xs,SqT K H p xs/\k = !xs.isEmpty)\/∃kvs,H p=some (.dK kvs)/\k = !kvs.isEmpty
 |_=>False
theorem aCr{κ : Type}{kvs:List (κ×V)}{vs:List (κ×Value)}(r:KV kvs vs):(!vs.isEmpty) = !kvs.isEmpty:=by
 cases r <;> rfl
theorem rA(r:jY xs its):(!its.toArray.isEmpty) = !xs.isEmpty:=by
 cases r <;> simp
theorem fX:(ξ:Nat)<2 ^ 63:=by rw[jc];decide
theorem aSh:TruR X (fun x H Q=>∃k,TruV X.K x H k/\Q k H):=by
 intro pins s σ H x v Q I rx h;obtain⟨k,e,q⟩:=h;have hl:=fX;have hs:ξ=16777216:=jc;cases x with
 |non =>
  cases rx;have e':k=false:=e;subst e';exact truthy_none ⟨H,I,q⟩
 |bl b =>
  cases rx;have e':k=b:=e;subst e';exact mh ⟨H,I,q⟩
 |int i =>
  obtain⟨t,rfl⟩:=rx;have e':k=(i != 0):=e;subst e';exact PySem.P.truthy_int ⟨H,I,q⟩
 |str y =>
  obtain⟨t,rfl⟩:=rx;obtain⟨hy,e'⟩ : y.length<=ξ/\k=((y.length:Int) != 0):=e;subst e';exact PySem.P.truthy_str (by omega) ⟨H,I.tok _,q⟩
 |byt y =>
  obtain⟨t,rfl⟩:=rx;obtain⟨hy,e'⟩ : y.size<=ξ/\k=((y.size:Int) != 0):=e;subst e';exact PySem.W.truthy_bytes (by omega) ⟨H,I.tok _,q⟩
 |ref p =>
  cases rx;have e':(∃xs,SqL X.K H p xs/\k = !xs.isEmpty)\/(∃xs,SqT X.K H p xs/\k = !xs.isEmpty)\/∃kvs,H p=some (.dK kvs)/\k = !kvs.isEmpty:=e;rcases e' with⟨xs,hx,e'⟩|⟨xs,hx,e'⟩|⟨kvs,hx,e'⟩
  ·subst e';obtain⟨its,r,pl,hz⟩:=I.list hx;have hlen:=r.length;exact wpAny_truthy_list pl.isList (by simp only[υ];omega) ⟨H,I.tok _,by rw[rA r];exact q⟩
  ·subst e';obtain⟨its,r,pl,hz⟩:=I.tuple hx;have hlen:=r.length;exact truthy_tuple pl (by simp only[υ];omega) ⟨H,I.tok _,by rw[rA r];exact q⟩
  ·subst e';obtain⟨hz,hS,vs,r,m⟩ : kvs.length<=ξ/\(p == mi)=false/\∃vs,KV kvs vs/\s.heap.DictOf (kJ X.prog X.w) p vs:=I.hok p _ hx;have hlen:kvs.length=vs.length:=ud r;exact wpAny_truthy_dict hS m (by omega) ⟨H,I.tok _,by rw[aCr r];exact q⟩
 |_=>exact(show False from e).elim
theorem yC(ha:PE X a ta)(he:∀whole,isTrue a X.env whole=(do let v ←whole;standAt a.pos;uf [v] (truthy v))):
  PT X a (fun σ H Q=>ta σ H fun x H'=>∃k,TruV X.K x H' k/\Q k H'):=by
 intro pins s σ H Q I h;exact isTrue_plain (thn (ha pins s σ H _ I h) fun v s1 zq=>zq.el fun x H1 I1 r1 q1=>aSh pins s1 σ H1 x v Q I1 r1 q1) (he _)
theorem vQ:OpR X (qo .Add) (fun x y H Q=>∃i j,x=.str i/\y=.str j/\i.length+j.length<=ξ/\Q (.str (i++j)) H):=by
 intro pins s σ H x y v u Q I rx ry h;obtain⟨i,j,rfl,rfl,hz,q⟩:=h;obtain⟨t,rfl⟩:=rx;obtain⟨t',rfl⟩:=ry;exact add_str (fun t' tk=>⟨.str (i++j),H,I.tok _,⟨_,rfl⟩,q⟩) hz
theorem vals1{x:V}(r:jY [x] us):∃u,us=[u]/\RelV x u:=by
 cases r with
 |cons r1 r2=>cases r2;exact⟨_,rfl,r1⟩
theorem vals2{x y:V}(r:jY [x,y] us):∃u w',us=[u,w']/\RelV x u/\RelV y w':=by
 cases r with
 |cons r1 r2 =>
  cases r2 with
  |cons r3 r4=>cases r4;exact⟨_,_,rfl,r1,r3⟩
theorem aHk(hc:X.calm=true):vN X (.builtin "max") (fun xs H Q=>∃i j,xs=[.int i,.int j]/\Q (.int (if j > i then j else i)) H):=by
 intro pins s σ H xs us Q I r h;obtain⟨i,j,rfl,q⟩:=h;obtain⟨u,w',rfl,⟨t,rfl⟩,⟨t',rfl⟩⟩:=vals2 r;refine max_two_ints (I.ok.hd hc) fun h' tk k=>⟨_,H,I.kept k,?_,q⟩
 by_cases hj:j > i
 ·rw[if_pos hj,if_pos hj];exact⟨_,rfl⟩
 ·rw[if_neg hj,if_neg hj];exact⟨_,rfl⟩
theorem wI:vN X (.type "str") (fun xs H Q=>∃i,xs=[.int i]/\i.natAbs.log2<1920/\Q (.str (toString i)) H):=by
 intro pins s σ H xs us Q I r h;obtain⟨i,rfl,hz,q⟩:=h;obtain⟨u,rfl,t,rfl⟩:=vals1 r;exact PySem.P.str_of_int hz ⟨.str _,H,I.tok _,⟨_,rfl⟩,q⟩
def LenV (K:Φ) (x:V) (H:Hp) (n:Nat):Prop :=
 match x with
 |.str y=>y.length<=ξ/\n=y.length
 |.byt y=>y.size<=ξ/\n=y.size
 |.ref p=>(∃xs,SqL K H p xs/\n=xs.length)\/∃xs,SqT K H p xs/\n=xs.length
 |_=>False
theorem aBy:vN X (.builtin "len") (fun xs H Q=>∃x n,xs=[x]/\LenV X.K x H n/\Q (.int n) H):=by
 intro pins s σ H xs us Q I r h;obtain⟨x,n,rfl,e,q⟩:=h;obtain⟨u,rfl,rx⟩:=vals1 r;have hl:=fX;have hs:ξ=16777216:=jc;cases x with
 |str y =>
  obtain⟨t,rfl⟩:=rx;obtain⟨hy,e'⟩ : y.length<=ξ/\n=y.length:=e;subst e';exact len_str (by omega) ⟨.int _,H,I.tok _,⟨_,rfl⟩,q⟩
 |byt y =>
  obtain⟨t,rfl⟩:=rx;obtain⟨hy,e'⟩ : y.size<=ξ/\n=y.size:=e;subst e';exact PySem.W.len_bytes (by omega) ⟨.int _,H,I.tok _,⟨_,rfl⟩,q⟩
 |ref p =>
  cases rx;have e':(∃xs,SqL X.K H p xs/\n=xs.length)\/∃xs,SqT X.K H p xs/\n=xs.length:=e;rcases e' with⟨xs,hx,e'⟩|⟨xs,hx,e'⟩
  ·subst e';obtain⟨its,r',pl,hz⟩:=I.list hx;have hlen:=r'.length;exact Calls.call_len_list pl.isList (by simp only[υ];omega) ⟨.int xs.length,H,I.tok _,⟨_,by simp only[υ];rw[hlen]⟩,q⟩
  ·subst e';obtain⟨its,r',pl,hz⟩:=I.tuple hx;have hlen:=r'.length;exact len_tuple pl (by simp only[υ];omega) ⟨.int xs.length,H,I.tok _,⟨_,by simp only[υ];rw[hlen]⟩,q⟩
 |_=>exact(show False from e).elim
end
structure aCz (h:ky) (x dx C:Addr) (mA:Str->Option Value):Prop where
 obj:h.get? x=some (qu C dx)
 ns:h.Ns1 dx mA
 ne:dx≠x
theorem aGa{h:ky}{mA:Str->Option Value}(n:h.Ns1 dx mA):∃od,h.get? dx=some od/\∀name,PySem.W.lookIn name od=some (mA name):=by
 obtain⟨o,es,ep,ho,hd,hk,_,hm⟩:=n;refine⟨o,ho,fun name=>?_⟩;have e:=hm name;unfold nsFind findBy at e;rw[←Array.find?_toList]at e;unfold PySem.W.lookIn;rw[hd];dsimp only
 split
 ·rename_i y q;rw[q]at e;exact congrArg some e
 ·rename_i q;rw[q]at e;have a:es.toList.any (·.refKey)=false:=by
   rw[List.any_eq_false];intro y hy;obtain⟨z,t,hkey⟩:=hk y (Array.mem_toList_iff.mp hy);simp[DictEntry.refKey,hkey]
  have a':¬ es.toList.any (·.refKey)=true:=by rw[a];exact ρ
  rw[if_neg a'];exact congrArg some e
theorem aCz.look{mA:Str->Option Value}(I:aCz h x dx C mA):∃od,PySem.W.InstAt h x (qu C dx) C (some od)/\∀name,PySem.W.lookIn name od=some (mA name) :=
 let ⟨od,ho,hl⟩:=aGa I.ns
 ⟨od,⟨I.obj,rfl,rfl,ho⟩,hl⟩
section
variable {prog:ki}{w:mx}{A:lg}{E:Value->μ->Prop}{s:μ}{K:Φ}{x dx C f:Addr}{mA:Str->Option Value}{name:Str}{v:Value}
theorem aOc{Q:Value->μ->Prop}(X:K.In s.heap)(I:aCz s.heap x dx C mA)(hg:yf K C name=true)(hh:PySem.W.hasDictIn K C=true)
  (ha:uj K (.ref C) name=some none)(hv:mA name=some v)(hv':PySem.W.handedIn v=true)(h:Q v { s with toks:=s.toks+1 }):
  Ξ (je prog w) A (getAttr (.ref x) name expr) Q E s:=by
 obtain⟨od,J,hl⟩:=I.look;exact PySem.W.get_value X J (PySem.W.plainGet_of hg).1 (PySem.W.findObj_own hh ha rfl (by rw[hl,hv])) hv' h
theorem aHu{Q:Value×List Value->μ->Prop}(X:K.In s.heap)(I:aCz s.heap x dx C mA)(hg:yf K C name=true)
  (hf:uj K (.ref C) name=some (some (.ref f)))(ht:isFn K (.ref f)=true)(hv:mA name=none)(h:Q (.ref f,[.ref x]) s):
  Ξ (je prog w) A (wz (.ref x) name pl) Q E s:=by
 obtain⟨od,J,hl⟩:=I.look;exact PySem.W.method_fn X J (PySem.W.plainGet_of hg).1 (PySem.W.plainGet_of hg).2 hf (beq_iff_eq.mp ht) (by show(PySem.W.lookIn name od).map (·.isSome)=some false;rw[hl,hv];rfl) h
theorem aNb{Q:Unit->μ->Prop}(X:K.In s.heap)(I:aCz s.heap x dx C mA)
  (hs:uj K (.ref C) "__setattr__" = some (some (.builtin "object.__setattr__")))(hp:PySem.W.plainOver K C=true)(ht:PySem.W.takerIn K C name=some none)(hh:PySem.W.hasDictIn K C=true)
  (hw:PySem.Within mA ns)(hsz:ns.length<=ξ)
  (h:∀h',aCz h' x dx C (fun y=>if y=name then some v else mA y)->nr dx s.heap h'->Q () { s with heap:=h',toks:=s.toks+2 }):
  Ξ (je prog w) A (setAttr (.ref x) name v) Q E s:=by
 obtain⟨od,J,hl⟩:=I.look;refine PySem.W.set_plain X J hs (PySem.W.osa_open (s:={ s with toks:=s.toks+1 }) (r:=none) X J hp ht fun b=>?_);obtain⟨cd,hc,hd'⟩:=PySem.W.any_some hh;have hx:s.heap.get? x=some ⟨.ref C,some dx,.plain,#[]⟩:=I.obj;refine ε (ω (ε (ε (wpAny_loadPart hx (ε (PySem.W.Looks.here (s:={ s with toks:=s.toks+1 }) (PySem.W.looks_clsIn X hc) ?_))))));rw[hd'];refine ω (a:=some dx) (ε (ω (ε ?_)));refine wpAny_nsSet1 (s:={ s with toks:=s.toks+1 }) I.ns fun h' hn2 hs2=>?_;obtain⟨oD,esD,epD,hoD,hdD,hcD⟩:=hn2.count (PySem.Within.cons name v hw);refine ε (wpAny_lookBehind hoD (by rw[hdD];exact pastItsLine_dict (jh hcD (by rw[χ];omega))) ?_);exact ω (h _ ⟨(hs2.2 _ (kc I.ne)).trans I.obj,hn2,I.ne⟩ hs2)
theorem aLh{vs:List Value}{kw:List (Str×Value)}(X:K.In s.heap)(hm:PySem.W.makesIn K C=true)
  (hi:uj K (.ref C) "__init__" = some (some (.ref f)))(hf:PySem.W.typeIn K (.ref f)=some (.type "function"))
  (h:codeAny (je prog w) (A.under (.builtin "type.__call__" ⟨.ref C::vs,kw⟩)) (.call (.ref f) ⟨.ref (s.heap.objs.size+1)::vs,kw⟩) (PySem.W.InitBack (s.heap.objs.size+1) R)
   { s with heap:=(s.heap.push PySem.W.emptyDict).push (qu C s.heap.objs.size) }):
  codeAny (je prog w) A (.call (.ref C) ⟨vs,kw⟩) R s:=by
 obtain⟨hh,g,d,t,os⟩:=s;exact PySem.W.make_core (PySem.W.makes_of X hm) (PySem.W.looks_findIn X hi) (fun self=>PySem.W.bind_fn X self hf) (.inl rfl) h
end
def bK (f:Str) (v:V):List (Str×V)->List (Str×V)
 |[]=>[(f,v)]
 | (g,x)::r=>if g=f then (g,v)::r else (g,x)::bK f v r
theorem mT(f g:Str)(v:V):∀fs:List (Str×V),(bK f v fs).lookup g=if g=f then some v else fs.lookup g
 |[]=>by
  show xa g [(f,v)]=_
  by_cases h:g=f
  ·have hb:(g == f)=true:=beq_iff_eq.mpr h;simp only[xa,hb,if_pos h]
  ·have hb:(g == f)=false:=beq_eq_false_iff_ne.mpr h;simp only[xa,hb,if_neg h]
 | (k,x)::r=>by
  have ih:=mT f g v r;rw[show bK f v ((k,x)::r)=(if k=f then (k,v)::r else (k,x)::bK f v r) from rfl]
  by_cases hk:k=f
  ·rw[if_pos hk]
   by_cases h:g=k
   ·have hb:(g == k)=true:=beq_iff_eq.mpr h;simp only[xa,hb,if_pos (h.trans hk)]
   ·have hb:(g == k)=false:=beq_eq_false_iff_ne.mpr h;simp only[xa,hb,if_neg (fun e:g=f=>h (e.trans hk.symm))]
  ·rw[if_neg hk]
   by_cases h:g=k
   ·have hb:(g == k)=true:=beq_iff_eq.mpr h;simp only[xa,hb,if_neg (fun e:g=f=>hk (h.symm.trans e))]
   ·have hb:(g == k)=false:=beq_eq_false_iff_ne.mpr h;simp only[xa,hb];exact ih
theorem mE(f:Str)(v:V):∀fs:List (Str×V),f∈(bK f v fs).map (·.1)/\∀g,g∈fs.map (·.1)->g∈(bK f v fs).map (·.1)
 |[]=>⟨by simp[bK],fun g h=>by simp at h⟩
 | (k,x)::r=>by
  obtain⟨i1,i2⟩:=mE f v r;rw[show bK f v ((k,x)::r)=(if k=f then (k,v)::r else (k,x)::bK f v r) from rfl]
  by_cases hk:k=f
  ·rw[if_pos hk];subst hk;exact⟨by simp,fun g h=>by simpa using h⟩
  ·rw[if_neg hk];refine⟨?_,fun g h=>?_⟩
   ·rw[ju];exact Ω _ i1
   ·rw[ju]at h ⊢;rcases ο.mp h with e|e
    ·exact ο.mpr (.inl e)
    ·exact Ω _ (i2 g e)
theorem mL(f:Str)(v:V):∀fs:List (Str×V),(bK f v fs).length<=fs.length+1
 |[]=>by simp[bK]
 | (k,x)::r=>by
  have ih:=mL f v r;rw[show bK f v ((k,x)::r)=(if k=f then (k,v)::r else (k,x)::bK f v r) from rfl]
  by_cases hk:k=f
  ·rw[if_pos hk,χ,χ];omega
  ·rw[if_neg hk,χ,χ];omega
theorem cX.some_of(r:cX (some v) o):∃u,o=some u/\RelV v u:=by
 cases o with
 |none=>exact(show False from r).elim
 |some u=>exact⟨u,rfl,r⟩
theorem cX.none_of(r:cX none o):o=none:=by
 cases o with
 |none=>rfl
 |some u=>exact(show False from r).elim
theorem aGz(r:RelV v u):PySem.W.handedIn u=true:=by
 cases v with
 |non=>cases (show u=se from r);rfl
 |bl b=>cases (show u=Value.bool b from r);rfl
 |int i=>obtain⟨t,e⟩:=(show ∃t,u=Value.int i t from r);cases e;rfl
 |str x=>obtain⟨t,e⟩:=(show ∃t,u=Value.str x t from r);cases e;rfl
 |byt b=>obtain⟨t,e⟩:=(show ∃t,u=Value.bytes b t from r);cases e;rfl
 |flt b=>obtain⟨t,e⟩:=(show ∃t,u=Value.float b t from r);cases e;rfl
 |ref a=>cases (show u=jm a from r);rfl
 |ty n=>cases (show u=Value.type n from r);rfl
section
variable {P:ki}{w:mx}{H H':Hp}{h h':ky}{a C dx:Addr}{fs fs':List (Str×V)}
theorem oK(hok:HOk P w H h)(e:H a=some (.ins C dx fs)):∃mA,aCz h a dx C mA/\(∀f,cX (fs.lookup f) (mA f))/\PySem.Within mA (fs.map (·.1))/\fs.length<=1000/\H dx=some (.own a):=by
 obtain⟨d,z,ne,ob,mA,n,r,q⟩:=(show qZ P w H h a (.ins C dx fs) from hok a _ e);exact⟨mA,⟨ob,n,ne⟩,r,q,z,d⟩
end
structure Cls (K:Φ) (C:Addr):Prop where
 pg:yf K C Str.empty=true
 hd:PySem.W.hasDictIn K C=true
 po:PySem.W.plainOver K C=true
 sa:uj K (.ref C) "__setattr__" = some (some (.builtin "object.__setattr__"))
theorem Cls.get{K:Φ}(c:Cls K C)(f:Str):yf K C f=true:=c.pg
def yM (K:Φ) (C:Addr) (f:Str):Prop:=uj K (.ref C) f=some none
theorem yM.taker{K:Φ}(n:yM K C f):PySem.W.takerIn K C f=some none:=by
 unfold PySem.W.takerIn;rw[show uj K (.ref C) f=some none from n];rfl
structure aJw (K:Φ) (C:Addr) (m:Str) (f:Addr):Prop where
 at_:uj K (.ref C) m=some (some (.ref f))
 fn:isFn K (.ref f)=true
 kp:keepIn K (.ref f)=true
section
variable {X:Cx}{pins:List (Addr×Obj)}{σ:St}{H:Hp}{s:μ}{a C dx:Addr}{fs:List (Str×V)}{f:Str}{v:V}{A:lg}{E:Value->μ->Prop}
theorem pZ{Q:Value->μ->Prop}(I:Inv X pins σ H s)(e:H a=some (.ins C dx fs))(c:Cls X.K C)(n:yM X.K C f)(l:fs.lookup f=some v)
  (h:∀u s',Inv X pins σ H s'->RelV v u->Q u s'):Ξ (je X.prog X.w) A (getAttr (.ref a) f b) Q E s:=by
 obtain⟨mA,O,r,_,_,_⟩:=oK I.hok e;obtain⟨u,hu,ru⟩:=cX.some_of (v:=v) (o:=mA f) (by rw[←l];exact r f);exact aOc I.kIn O (c.get f) c.hd n hu (aGz ru) (h u _ (I.tok _) ru)
theorem cQ{Q:Value×List Value->μ->Prop}(I:Inv X pins σ H s)(e:H a=some (.ins C dx fs))(c:Cls X.K C)(k:aJw X.K C m g)(l:fs.lookup m=none)
  (h:Q (.ref g,[.ref a]) s):Ξ (je X.prog X.w) A (wz (.ref a) m pl) Q E s:=by
 obtain⟨mA,O,r,_,_,_⟩:=oK I.hok e;have hn:mA m=none:=cX.none_of (by rw[←l];exact r m);exact aHu I.kIn O (c.get m) k.at_ k.fn hn h
theorem oV{Q:Unit->μ->Prop}(I:Inv X pins σ H s)(e:H a=some (.ins C dx fs))(c:Cls X.K C)(n:yM X.K C f)(hl:fs.length<1000)(ry:RelV y u)
  (h:∀s',Inv X pins σ (upd H a (.ins C dx (bK f y fs))) s'->Q () s'):Ξ (je X.prog X.w) A (setAttr (.ref a) f u) Q E s:=by
 obtain⟨mA,O,r,wi,_,ho⟩:=oK I.hok e;have hz:(fs.map (·.1)).length<=ξ:=by rw[δ,jc];omega
 refine aNb I.kIn O c.sa c.po n.taker c.hd wi hz fun h' O' sb=>h _ ?_;have hd:∃o,h'.get? dx=some o:=let ⟨o,_,_,e',_⟩:=O'.ns; ⟨o,e'⟩;refine I.write (x:=a) (e:=dx) (by rw[e];exact lu) (.inr ho) (fun b q hb z=>(sb.2 b hb).trans z) hd ?_;refine⟨by rw[jT O.ne];exact ho,?_,O.ne,O'.obj,_,O'.ns,fun g=>?_,fun g hg=>?_⟩
 ·have:=mL f y fs;omega
 ·show cX ((bK f y fs).lookup g) (if g=f then some u else mA g);rw[mT]
  by_cases q:g=f
  ·rw[if_pos q,if_pos q];exact ry
  ·rw[if_neg q,if_neg q];exact r g
 ·by_cases q:g=f
  ·rw[q];exact(mE f y fs).1
  ·refine(mE f y fs).2 g (wi g fun z=>hg ?_);show(if g=f then some u else mA g)=none;rw[if_neg q];exact z
theorem Inv.made(I:Inv X pins σ H s):Inv X pins σ (upd (upd H s.heap.objs.size (.own (s.heap.objs.size+1))) (s.heap.objs.size+1) (.ins C s.heap.objs.size []))
  { s with heap:=(s.heap.push PySem.W.emptyDict).push (qu C s.heap.objs.size) }:=by
 have e1:(s.heap.push PySem.W.emptyDict).get? s.heap.objs.size=some PySem.W.emptyDict:=iw s.heap rfl;have e2:((s.heap.push PySem.W.emptyDict).push (qu C s.heap.objs.size)).get? (s.heap.objs.size+1)=some (qu C s.heap.objs.size):=by
  have:=iw (s.heap.push PySem.W.emptyDict) (o:=qu C s.heap.objs.size) rfl
  rwa [qp]at this
 have e3:(s.heap.push PySem.W.emptyDict).Ns s.heap.objs.size (fun _=>none):=⟨PySem.W.emptyDict,#[],_,e1,rfl,(fun e he=>absurd he (by simp)),fun _=>rfl⟩;have I1:=I.laid (a:=s.heap.objs.size) (o:=.own (s.heap.objs.size+1)) (h':=s.heap.push PySem.W.emptyDict) (t':=s.toks) (fun b u q=>ν _ q) (ι _) ⟨_,e1⟩;refine I1.laid (a:=s.heap.objs.size+1) (o:=.ins C s.heap.objs.size []) (t':=s.toks) (fun b u q=>ν _ q) (Nat.le_of_eq (qp _ _)) ?_;have ne:s.heap.objs.size≠s.heap.objs.size+1:=ir (vo _);refine⟨by rw[jT ne,jI],jg _,ne,e2,fun _=>none,(ky.Ns1.of_empty e3).at fun o q=>ν _ q,fun _=>lu,fun y hy=>absurd rfl hy⟩
theorem aMu(hb:we e f env (eval e env)=eval e env)
  (h:Ξ (je prog w) A (eval e env) (fun o s₁=>Ξ (je prog w) A (getAttr o f true) Q E s₁) E s):Ξ (je prog w) A (eval (.Attribute e f pos) env) Q E s :=
 Attribute_any_ h (by rw[arm_eval_Attribute,hb])
end
inductive aIw (K:Φ) (f:Str) (Q:VK) (x:V) (H1:Hp):Prop|mk:∀a C dx fs v,x=.ref a->H1 a=some (.ins C dx fs)->Cls K C->yM K C f->fs.lookup f=some v->Q v H1->aIw K f Q x H1
def tFld (K:Φ) (ta:TE) (f:Str):TE:=fun σ H Q=>ta σ H fun x H1=>aIw K f Q x H1
def sFld (K:Φ) (ta tv:TE) (f:Str):TS:=fun D σ H=>tv σ H fun y H1=>ta σ H1 fun x H2=>∃a C dx fs,x=.ref a/\H2 a=some (.ins C dx fs)/\Cls K C/\yM K C f/\fs.length<1000 ∧
 D.nx σ (upd H2 a (.ins C dx (bK f y fs)))
def InOp (X:Cx) (op:Operator) (rd:V->V->Hp->VK->Prop):Prop :=
 ∀(pins:List (Addr×Obj)) (s:μ) (σ:St) (H:Hp) (x y:V) (u v:Value) (Q:VK),Inv X pins σ H s->RelV x u->RelV y v->rd x y H Q->Ξ (je X.prog X.w) X.A (inplaceOp op u v) (EP X pins σ Q) X.xe s
def aLu (K:Φ) (ta tv:TE) (rd:V->V->Hp->VK->Prop) (f:Str):TS:=fun D σ H=>ta σ H fun x H1=>∃a C dx fs v,x=.ref a/\H1 a=some (.ins C dx fs)/\Cls K C/\yM K C f/\fs.lookup f=some v ∧
 tv σ H1 fun y H2=>rd v y H2 fun z H3=>∃dx' fs',H3 a=some (.ins C dx' fs')/\fs'.length<1000/\D.nx σ (upd H3 a (.ins C dx' (bK f z fs')))
section
variable {X:Cx}{o e value:Expr}{f:Str}{pos pos' tpos:Pos}{ta tv:TE}
theorem jW(he:PE X e ta)(hb:we e f X.env (eval e X.env)=eval e X.env):PE X (.Attribute e f pos) (tFld X.K ta f):=by
 intro pins s σ H Q I h;refine aMu hb (thn (he pins s σ H _ I h) fun u s1 zq=>?_);obtain⟨x,H1,I1,rx,a,C,dx,fs,v,ex,ea,c,n,l,q⟩:=zq;subst ex;obtain rfl:u=jm a:=rx;exact pZ I1 ea c n l fun u' s2 I2 ru=>⟨v,H1,I2,ru,q⟩
theorem kR(ha:PE X o ta)(hv:PE X value tv)(hs:swapsWith value (some (.Attribute o f pos')) pos.line X.env=pure false):PS X (.Assign [.Attribute o f pos'] value pos) (sFld X.K ta tv f):=by
 intro pins s σ H D I h;refine plainObj_wpAny_Assign_Attribute (thn (hv pins s σ H _ I h) fun u s1 zq=>zq.el fun y H1 I1 ry q=>thn (ha pins s1 σ H1 _ I1 q) fun ov s2 zq=>?_) hs;obtain⟨x,H2,I2,rx,a,C,dx,fs,ex,ea,c,n,l,q2⟩:=zq;subst ex;obtain rfl:ov=jm a:=rx;exact oV I2 ea c n l ry fun s3 I3=>⟨σ,_,I3,q2⟩
theorem aGw(ha:PE X o ta)(hv:PE X value tv)(hop:InOp X op rd):PS X (.AugAssign (.Attribute o f tpos) op value pos) (aLu X.K ta tv rd f):=by
 intro pins s σ H D I h;refine wpAny_AugAssign_AttributeAny (thn (ha pins s σ H _ I h) fun ov s1 zq=>?_);obtain⟨x,H1,I1,rx,a,C,dx,fs,v,ex,ea,c,n,l,q⟩:=zq;subst ex;obtain rfl:ov=jm a:=rx;refine pZ I1 ea c n l fun u s2 I2 ru=>thn (hv pins s2 σ H1 _ I2 q) fun w3 s3 zq=>zq.el fun y H2 I3 ry q3=>thn (hop pins s3 σ H2 v y u w3 _ I3 ru ry q3) fun w4 s4 zq=>?_;obtain⟨z,H3,I4,rz,dx',fs',ea',l',q4⟩:=zq;exact oV I4 ea' c n l' rz fun s5 I5=>⟨σ,_,I5,q4⟩
def rAdd:V->V->Hp->VK->Prop:=fun x y H Q=>∃i j,x=.int i/\y=.int j/\Q (.int (i+j)) H
theorem aSn:InOp X .Add rAdd:=by
 rintro pins s σ H x y u v Q I rx ry ⟨i,j,rfl,rfl,q⟩;obtain⟨t,rfl⟩:=(show ∃t,u=Value.int i t from rx);obtain⟨t',rfl⟩:=(show ∃t',v=Value.int j t' from ry);exact PyProof.Rows.iadd_int ⟨.int (i+j),H,I.tok _,⟨_,rfl⟩,q⟩
end
section
variable {X:Cx}{pins:List (Addr×Obj)}{σ:St}{H:Hp}{s:μ}{A:lg}{E:Value->μ->Prop}{Q:Value->μ->Prop}{c:Value}{b:Bool}
inductive iE (K:Φ) (H:Hp):V->Value->Prop where
 |non:iE K H .non (.type "NoneType")
 |bl (x:Bool):iE K H (.bl x) (.type "bool")
 |int (i:Int):iE K H (.int i) (.type "int")
 |str (x:Str):iE K H (.str x) (.type "str")
 |flt (x:UInt64):iE K H (.flt x) (.type "float")
 |lst {a:Addr}{xs:List V}(e:H a=some (.lst xs)):iE K H (.ref a) (.type "list")
 |frz {a:Addr}{o:Obj}{xs:List V}(e:H a=some (.frz o (.lst xs))):iE K H (.ref a) (.type "list")
 |tup {a:Addr}{xs:List V}(e:H a=some (.tup xs)):iE K H (.ref a) (.type "tuple")
 |dK {a:Addr}{kvs:List (Key×V)}(e:H a=some (.dK kvs)):iE K H (.ref a) (.type "dict")
 |dT {a:Addr}{kvs:List (List Key×V)}(e:H a=some (.dT kvs)):iE K H (.ref a) (.type "dict")
 |ins {a C dx:Addr}{fs:List (Str×V)}(e:H a=some (.ins C dx fs)) (cl:Cls K C) (ha:uj K (.ref C) "__class__" = some (some (.builtin "object.__class__")))
   (hn:vf K (.builtin "object.__class__") "__get__" = some (some (.builtin "getset_descriptor.__get__"))) (htk:PySem.W.takesIn K (.builtin "object.__class__")=some true)
   (hm:PySem.W.mroIn K C (.type "object")=some true):iE K H (.ref a) (.ref C)
theorem aGr(I:Inv X pins σ H s)(rx:RelV x u)(ty:iE X.K H x t)(e:si X.K t c=some b)(h:∀tk,Q (.bool b) { s with toks:=tk }):
  Ξ (je X.prog X.w) A (call (.builtin "isinstance") [u,c]) Q E s:=by
 cases ty with
 |non=>cases (show u=se from rx);exact oe PySem.W.kitx_none I.kIn lu e (fun z=>nomatch z) h
 |bl y=>cases (show u=Value.bool y from rx);exact oe PySem.W.kitx_bool I.kIn lu e (fun z=>nomatch z) h
 |int i=>obtain⟨t,q⟩:=(show ∃t,u=Value.int i t from rx);cases q;exact oe PySem.W.kitx_int I.kIn lu e (fun z=>nomatch z) h
 |str y=>obtain⟨t,q⟩:=(show ∃t,u=Value.str y t from rx);cases q;exact oe PySem.W.kitx_str I.kIn lu e (fun z=>nomatch z) h
 |flt y=>obtain⟨t,q⟩:=(show ∃t,u=Value.float y t from rx);cases q;exact oe PySem.W.kitx_float I.kIn lu e (fun z=>nomatch z) h
 | @lst a xs ea =>
  cases (show u=jm a from rx);obtain⟨_,_,n,_,h1⟩:=(show qZ X.prog X.w H s.heap a (.lst xs) from I.hok a _ ea);exact oe PySem.W.kitx_list I.kIn ⟨_,h1,rfl⟩ e (fun z=>nomatch z) h
 | @frz a ob xs ea =>
  cases (show u=jm a from rx);obtain⟨_,_,_,n,_,h1⟩:=(show qZ X.prog X.w H s.heap a (.frz ob (.lst xs)) from I.hok a _ ea);exact oe PySem.W.kitx_list I.kIn ⟨_,h1,rfl⟩ e (fun z=>nomatch z) h
 | @tup a xs ea =>
  cases (show u=jm a from rx);obtain⟨_,_,_,p⟩:=(show qZ X.prog X.w H s.heap a (.tup xs) from I.hok a _ ea);obtain⟨o,h1,h2,_⟩:=p;exact oe PySem.W.kitx_tuple I.kIn ⟨o,h1,h2⟩ e (fun z=>nomatch z) h
 | @dK a kvs ea =>
  cases (show u=jm a from rx);obtain⟨_,_,vs,_,p⟩:=(show qZ X.prog X.w H s.heap a (.dK kvs) from I.hok a _ ea);obtain⟨o,es,ep,h1,h2,_⟩:=p;exact oe PySem.W.kitx_dict I.kIn ⟨o,h1,h2.1⟩ e (fun z=>nomatch z) h
 | @dT a kvs ea =>
  cases (show u=jm a from rx);obtain⟨_,_,xs,_,o,es,ep,h1,h2,_⟩:=(show qZ X.prog X.w H s.heap a (.dT kvs) from I.hok a _ ea);exact oe PySem.W.kitx_dict I.kIn ⟨o,h1,h2.1⟩ e (fun z=>nomatch z) h
 | @ins a C dx fs ea cl ha hn htk hm =>
  cases (show u=jm a from rx);obtain⟨mA,O,_⟩:=oK I.hok ea;obtain⟨od,J,_⟩:=O.look;exact oe (PySem.W.kitx_own (cl.get _) cl.hd ha hn htk hm) I.kIn J e (fun z=>nomatch z) h
end
structure vY (k:Nat) (A:lg):Prop where
 hd:A.handled=none
 dp:A.depth+3*k+5<recursionLimit
 un:A.units+16*k+200<sd
 gd:A.guards=some []
theorem vY.mono{j:Nat}(r:vY k A)(h:j<=k):vY j A:=⟨r.hd,by have:=r.dp;omega,by have:=r.un;omega,r.gd⟩
theorem vY.deeper{k:Nat}(r:vY (k+1) A)(env:Env):vY k (A.deeper env) :=
 ⟨r.hd,by have:=r.dp;show A.depth+1+3*k+5<_;omega,by have:=r.un;show A.units+3+16*k+200<_;omega,r.gd⟩
theorem vY.in1{k:Nat}(r:vY (k+1) A):vY k A.in1 :=
 ⟨r.hd,by have:=r.dp;show A.depth+3*k+5<_;omega,by have:=r.un;show A.units+1+16*k+200<_;omega,r.gd⟩
theorem aDw{A:lg}{us:List Value}{kw:List (Str×Value)}: (A.under (.builtin "type.__call__" ⟨.ref C::us,kw⟩)).depth=A.depth+1:=by
 first|rfl|simp[lg.under,Code.weight,Code.isCreation,Code.isGuard,Code.isCaller,Code.frames,Code.isFrame,guardIds]
theorem aCw{A:lg}{us:List Value}{kw:List (Str×Value)}: (A.under (.builtin "type.__call__" ⟨.ref C::us,kw⟩)).units=A.units+1:=by
 first|rfl|simp[lg.under,Code.cUnits,Code.frames,Code.isFrame]
theorem aCd{A:lg}{us:List Value}{kw:List (Str×Value)}: (A.under (.builtin "type.__call__" ⟨.ref C::us,kw⟩)).guards=A.guards:=by
 have hg:guardIds.contains "type.__call__" = false:=by ac_rfl
 have e:Code.guards (.builtin "type.__call__" ⟨.ref C::us,kw⟩)=[]:=by
  unfold Code.guards;rw[if_neg (fun z=>by rw[show Code.isGuard (.builtin "type.__call__" ⟨.ref C::us,kw⟩)=guardIds.contains "type.__call__" from rfl,hg]at z;cases z)]
 unfold lg.under;rw[e];rfl
theorem vY.make{k:Nat}(r:vY (k+1) A)(C:Addr)(us:List Value)(kw:List (Str×Value)):vY k (A.under (.builtin "type.__call__" ⟨.ref C::us,kw⟩)) :=
 ⟨r.hd,by have:=r.dp;rw[aDw];omega,by have:=r.un;rw[aCw];omega,aCd.trans r.gd⟩
theorem vY.depth(r:vY k A):A.depth<recursionLimit:=by have:=r.dp;omega
theorem vY.units(r:vY k A):A.units+64<sd:=by have:=r.un;omega
def aIq:TA:=fun _ H Q=>Q [] H
def aOn (ta:TE) (tr:TA):TA:=fun σ H Q=>ta σ H fun x H1=>tr σ H1 fun xs H2=>Q (x::xs) H2
section
variable {X:Cx}{e:Expr}{es:List Expr}{te:TE}{t:TA}{pos:Pos}
theorem jB:PA X [] aIq:=fun _ _ _ _ H Q I h=>Calls.spliced_nil ⟨[],H,I,.nil,h⟩
theorem jA(ha:PE X e te)(hr:PA X es t)(hs:iy (e::es) X.env=(false,eval e X.env)::iy es X.env:=by rfl):PA X (e::es) (aOn te t):=by
 intro pos pins s σ H Q I h;rw[hs];show Ξ _ _ (spliced ((false,eval e X.env)::qh pos (iy es X.env))) _ _ s;refine wt (thn (ha pins s σ H _ I h) fun u s1 zq=>?_);obtain⟨x,H1,I1,r1,q1⟩:=zq;exact thn (hr pos pins s1 σ H1 _ I1 q1) fun us s2 zq=>zq.el fun xs H2 I2 r2 q2=>⟨x::xs,H2,I2,.cons r1 r2,q2⟩
inductive aKh (Q:VK) (xs:List V) (H1:Hp):Prop|mk:xs.length<=ξ->(∀p,H1 p=none->Q (.ref p) (upd H1 p (.tup xs)))->aKh Q xs H1
def tTup (t:TA):TE:=fun σ H Q=>t σ H fun xs H1=>aKh Q xs H1
inductive aIi (Q:VK) (xs:List V) (H1:Hp):Prop|mk:xs.length<=ξ->(∀p,H1 p=none->Q (.ref p) (upd H1 p (.lst xs)))->aIi Q xs H1
def tLst (t:TA):TE:=fun σ H Q=>t σ H fun xs H1=>aIi Q xs H1
theorem xC{x1}(h:PA X es t):PE X (.Tuple es x1 pos) (tTup t):=by
 intro pins s σ H Q I hq;refine wpAny_Tuple_spliced (thn (h pos pins s σ H _ I hq) fun us s1 ⟨xs,H1,I1,r,z,q⟩=>⟨by rw[←r.length];exact z,?_⟩);have hf:H1 s1.heap.objs.size=none:=I1.hok.fresh (ι _);refine⟨.ref s1.heap.objs.size,upd H1 s1.heap.objs.size (.tup xs),I1.laid (t':=s1.toks) (fun b u e=>ν _ e) (ι _) ?_,rfl,q _ hf⟩;exact⟨z,us,r,⟨_,iw _ rfl,rfl,_,rfl⟩⟩
theorem qC(h:PA X es t):PE X (.List es pos) (tLst t):=by
 intro pins s σ H Q I hq;refine wpAny_List_spliced (thn (h pos pins s σ H _ I hq) fun us s1 ⟨xs,H1,I1,r,z,q⟩=>⟨by rw[←r.length];exact z,?_⟩);have hf:H1 s1.heap.objs.size=none:=I1.hok.fresh (ι _);refine⟨.ref s1.heap.objs.size,upd H1 s1.heap.objs.size (.lst xs),I1.laid (t':=s1.toks) (fun b u e=>ν _ e) (ι _) ?_,rfl,q _ hf⟩;exact⟨z,us,0,r,iw _ rfl⟩
end
abbrev Sp:=List V->Hp->VK->XK->Prop
abbrev CXT:=List Env->Hp->μ->XK->Value->μ->Prop
structure sH (P:ki) (w:mx) (K:Φ) (mg:Str->Option Value) (base:ky) (A:lg) (outer:List Env) (s:μ) (H:Hp):Prop where
 frames:A.frames=some outer
 mod:Mod K mg base
 bs:∀b o,base.get? b=some o->s.heap.get? b=some o/\H b=none
 bsz:base.objs.size<=s.heap.objs.size
 funs:s.heap.FunFrames base outer
 frf:∀b∈frs outer,H b=none
 hok:HOk P w H s.heap
 bare:AllBare s.gens
def CE (outer:List Env) (P:ki) (w:mx) (H:Hp) (s:μ) (Q:VK) (u:Value) (s':μ):Prop :=
 ∃v H',s'.os=s.os/\AllBare s'.gens/\Un (frs outer) [] H H' s.heap s'.heap/\HOk P w H' s'.heap/\RelV v u/\Q v H'
def CR (CX:CXT) (outer:List Env) (P:ki) (w:mx) (H:Hp) (s:μ) (Q:VK) (E:XK) (r:Result) (s':μ):Prop :=
 match r with
 |.ok (.ret u)=>CE outer P w H s Q u s'
 |.ok _=>False
 |.error e=>CX outer H s E e s'
structure jU (P:ki) (w:mx) (K:Φ) (mg:Str->Option Value) (base:ky) (CX:CXT) (k:Nat) (f:Addr) (fd:tu) (ps:List Str) (sp:Sp):Prop where
 len:∀vs H Q E,sp vs H Q E->vs.length=ps.length
 run:∀(A:lg) (outer:List Env) (s:μ) (H:Hp) (args:Args) (us:List Value) (vs:List V) (Q:VK) (E:XK),vY k A->sH P w K mg base A outer s H->BindsTo s fd args (ps.zip us)->jY vs us->sp vs H Q E →
  codeAny (je P w) A (.call (.ref f) args) (CR CX outer P w H s Q E) s
theorem jU.mono{K:Φ}{k:Nat}(F:jU P w K mg base CX j f fd ps sp)(h:j<=k):
  jU P w K mg base CX k f fd ps sp:=⟨F.len,fun A outer s H args us vs Q E hr=>F.run A outer s H args us vs Q E (hr.mono h)⟩
theorem jU.imp{K:Φ}{sp sp':Sp}(F:jU P w K mg base CX k f fd ps sp)
  (h:∀vs H Q E,sp' vs H Q E->sp vs H Q E):jU P w K mg base CX k f fd ps sp' :=
 ⟨fun vs H Q E q=>F.len vs H Q E (h _ _ _ _ q),fun A outer s H args us vs Q E hr he hb hv hs=>F.run A outer s H args us vs Q E hr he hb hv (h _ _ _ _ hs)⟩
theorem sH.make{K:Φ}(e:sH P w K mg base A outer s H)(C:Addr)(us:List Value)(kw:List (Str×Value)):
  sH P w K mg base (A.under (.builtin "type.__call__" ⟨.ref C::us,kw⟩)) outer s H:=⟨by first|exact e.frames|(simpa [lg.under,Code.envs,Code.isFrame,pushEnvs] using e.frames),e.mod,e.bs,e.bsz,e.funs,e.frf,e.hok,e.bare⟩
theorem sH.in1{K:Φ}(e:sH P w K mg base A outer s H):
  sH P w K mg base A.in1 outer s H:=⟨e.frames,e.mod,e.bs,e.bsz,e.funs,e.frf,e.hok,e.bare⟩
section
variable {X:Cx}{pins:List (Addr×Obj)}{σ:St}{H:Hp}{s s':μ}
theorem Inv.env0(I:Inv X pins σ H s):sH X.prog X.w X.K X.mg X.base X.A X.stack s H :=
 ⟨I.ok.frames,I.ok.mod,I.bs,jh I.ok.bsz I.sz,I.stack,I.stkFree,I.hok,I.bare⟩
theorem Inv.after(I:Inv X pins σ H s)(h:CE X.stack X.prog X.w H s Q u s'):EP X pins σ Q u s':=by
 obtain⟨v,H',os,bare,un,hok,r,q⟩:=h;obtain⟨hh,g,d,t,os'⟩:=s';obtain rfl:os'=s.os:=os;exact⟨v,H',I.call (h':=hh) (g':=g) (d':=d) (t':=t) (ch:=[]) un hok bare (fun b z=>absurd z (by simp)),r,q⟩
end
def wY (sp:Sp) (dvs:List V) (E:XK) (t:TA):TE:=fun σ H Q=>t σ H fun vs H1=>sp (vs++dvs) H1 Q E
def aFo (C:Addr) (m:Str) (sp:Sp) (dvs:List V) (E:XK) (ta:TE) (t:TA):TE:=fun σ H Q=>ta σ H fun x H1=>∃a dx fs,x=.ref a/\H1 a=some (.ins C dx fs)/\fs.lookup m=none ∧
 t σ H1 fun vs H2=>sp (x::(vs++dvs)) H2 Q E
def aPc (C:Addr) (sp:Sp) (dvs:List V) (E:XK) (t:TA):TE:=fun σ H Q=>t σ H fun vs H1=>∀x dx,H1 x=none->H1 dx=none->dx≠x →
 sp (.ref x::(vs++dvs)) (upd (upd H1 dx (.own x)) x (.ins C dx [])) (fun v H2=>v=.non/\Q (.ref x) H2) E
def Binds (K:Φ) (fd:tu) (ps:List Str) (ds:List Value):Prop :=
 ∀(s:μ) (us:List Value),K.In s.heap->(us++ds).length=ps.length->BindsTo s fd ⟨us,[]⟩ (ps.zip (us++ds))
theorem Binds.all{K:Φ}{ps:List Str}(h:∀us:List Value,us.length=ps.length->bindArgs fd ⟨us,[]⟩=pure (ps.zip us)):Binds K fd ps []:=fun s us _ hl=>by
 rw[jq]at hl ⊢;exact .of_eq (h us hl)
def yH (CX:CXT) (X:Cx) (E:XK):Prop:=∀(pins:List (Addr×Obj)) (σ:St) (H:Hp) (s:μ) (e:Value) (s':μ),Inv X pins σ H s->CX X.stack H s E e s'->X.xe e s'
section
variable {X:Cx}{CX:CXT}{k:Nat}{f C:Addr}{fd:tu}{ps:List Str}{sp:Sp}{dvs:List V}{ds:List Value}{E:XK}{x m:Str}{p pos apos:Pos}{e o:Expr}{es:List Expr}{ta:TE}{t:TA}
theorem lP{Q:VK}(F:jU X.prog X.w X.K X.mg X.base CX k f fd ps sp)(hr:vY k X.A)(hb:Binds X.K fd ps ds)(hd:jY dvs ds)(hx:yH CX X E)
  (I:Inv X pins σ H s)(r:jY vs us)(h:sp (vs++dvs) H Q E):Ξ (je X.prog X.w) X.A (call (.ref f) us) (EP X pins σ Q) X.xe s:=by
 have r2:jY (vs++dvs) (us++ds):=r.append hd;have hl:(us++ds).length=ps.length:=by rw[←r2.length];exact F.len _ _ _ _ h
 refine wpAny_call (codeAny_mono (F.run X.A X.stack s H ⟨us,[]⟩ (us++ds) (vs++dvs) Q E hr I.env0 (hb s us I.kIn hl) r2 h) fun r s' hq=>?_);cases r with
 |error e=>exact hx pins σ H s e s' I hq
 |ok fl =>
  cases fl with
  |ret u=>exact I.after hq
  |next=>exact ke hq
  |brk=>exact ke hq
  |cont=>exact ke hq
theorem aNl(F:jU X.prog X.w X.K X.mg X.base CX k f fd ps sp)(hr:vY k X.A)(hg:Gl X x)(hm:X.mg x=some (.ref f))(hk:keepIn X.K (.ref f)=true)(hb:Binds X.K fd ps ds)(hd:jY dvs ds)(hx:yH CX X E)
  (ha:PA X (e::es) t)(hdb:(x == ("__debug__" : Str))=false:=by decide)(he:iy (e::es) X.env=(false,eval e X.env)::iy es X.env:=by rfl)(hpl:(qh pos (iy es X.env)).any (·.1)=false:=by rfl):
  PE X (.Call (.Name x p) (e::es) [] pos) (wY sp dvs E t):=by
 intro pins s σ H Q I h;refine sj (uF I hg hm ?_ hdb);refine uk (h₀:=X.base) I.ok.mod.kin hk (thn (ha pos pins s σ H _ I h) fun us s1 zq=>zq.el fun vs H1 I1 r q=>⟨I1.kIn,?_⟩) he hpl;exact lP F hr hb hd hx I1 r q
theorem aOf(he:PE X o ta)(c:Cls X.K C)(hm:aJw X.K C m f)(F:jU X.prog X.w X.K X.mg X.base CX k f fd ps sp)(hr:vY k X.A)(hb:Binds X.K fd ps ds)(hd:jY dvs ds)(hx:yH CX X E)(ha:PA X (e::es) t)
  (hst:iy (e::es) X.env=(false,eval e X.env)::iy es X.env:=by rfl)(hpl:(qh pos (iy es X.env)).any (·.1)=false:=by rfl)
  (ht:eval (.Call (.Attribute o m apos) (e::es) [] pos) X.env=(do
   let ov ←eval o X.env
   standAt apos.atName
   let (f,first) ←uf [ov] (wz ov m pl)
   callWith pos f first (qh pos (iy (e::es) X.env)) (xj pos (ua [] X.env))):=by rfl):
  PE X (.Call (.Attribute o m apos) (e::es) [] pos) (aFo C m sp dvs E ta t):=by
 intro pins s σ H Q I h;refine su (pl:=pl) (thn (he pins s σ H _ I h) fun u s1 zq=>?_) ht;obtain⟨x,H1,I1,rx,a,dx,fs,ex,ea,l,q⟩:=zq;subst ex;obtain rfl:u=jm a:=rx;refine cQ I1 ea c hm l ?_;refine uk (first:=[.ref a]) (h₀:=X.base) I.ok.mod.kin hm.kp (thn (ha pos pins s1 σ H1 _ I1 q) fun us s2 zq=>zq.el fun vs H2 I2 r q2=>⟨I2.kIn,?_⟩) hst hpl;exact lP (us:=.ref a::us) (vs:=.ref a::vs) F hr hb hd hx I2 (.cons rfl r) q2
theorem aHm(he:PE X o ta)(c:Cls X.K C)(hm:aJw X.K C m f)(F:jU X.prog X.w X.K X.mg X.base CX k f fd ps sp)(hr:vY k X.A)(hb:Binds X.K fd ps ds)(hd:jY dvs ds)(hx:yH CX X E)
  (ht:eval (.Call (.Attribute o m apos) [] [] pos) X.env=(do
   let ov ←eval o X.env
   standAt apos.atName
   let (f,first) ←uf [ov] (wz ov m pl)
   callWith pos f first (qh pos (iy [] X.env)) (xj pos (ua [] X.env))):=by rfl):
  PE X (.Call (.Attribute o m apos) [] [] pos) (aFo C m sp dvs E ta aIq):=by
 intro pins s σ H Q I h;refine su (pl:=pl) (thn (he pins s σ H _ I h) fun u s1 zq=>?_) ht;obtain⟨x,H1,I1,rx,a,dx,fs,ex,ea,l,q⟩:=zq;subst ex;obtain rfl:u=jm a:=rx;refine cQ I1 ea c hm l ?_;exact PySem.W.callWith_K0 (first:=[.ref a]) I1.kIn hm.kp (lP (us:=[.ref a]) (vs:=[.ref a]) F hr hb hd hx I1 (.cons rfl .nil) q)
structure Mk (K:Φ) (C f:Addr):Prop where
 makes:PySem.W.makesIn K C=true
 init:uj K (.ref C) "__init__" = some (some (.ref f))
 fn:isFn K (.ref f)=true
 kp:keepIn K (.ref C)=true
theorem aIe{H:Hp}{Q:VK}(M:Mk X.K C f)(F:jU X.prog X.w X.K X.mg X.base CX k f fd ps sp)(hr:vY (k+1) X.A)(hb:Binds X.K fd ps ds)(hd:jY dvs ds)
  (hx:yH CX X E)(I:Inv X pins σ H s)(r:jY vs us)
  (h:∀x dx,H x=none->H dx=none->dx≠x->sp (.ref x::(vs++dvs)) (upd (upd H dx (.own x)) x (.ins C dx [])) (fun v H2=>v=.non/\Q (.ref x) H2) E):
  Ξ (je X.prog X.w) X.A (call (.ref C) us) (EP X pins σ Q) X.xe s:=by
 have hq:=h (s.heap.objs.size+1) s.heap.objs.size (I.hok.fresh (vi _)) (I.hok.fresh (ι _)) (ir (vo _));have I2:=Inv.made (C:=C) I;have r2:jY (V.ref (s.heap.objs.size+1)::(vs++dvs)) (jm (s.heap.objs.size+1)::(us++ds)):=.cons rfl (r.append hd);have hl:(jm (s.heap.objs.size+1)::us++ds).length=ps.length:=by
  have e:=r2.length;rw[F.len _ _ _ _ hq]at e;exact e.symm
 refine wpAny_call (aLh (f:=f) I.kIn M.makes M.init (beq_iff_eq.mp M.fn) (codeAny_mono (F.run _ X.stack _ _ ⟨jm (s.heap.objs.size+1)::us,[]⟩ (jm (s.heap.objs.size+1)::(us++ds)) _ _ E (hr.make C us [])
  (I2.env0.make C us []) (hb _ (jm (s.heap.objs.size+1)::us) I2.kIn hl) r2 hq) fun r s' hq'=>?_))
 cases r with
 |error e=>exact hx pins σ _ _ e s' I2 hq'
 |ok fl =>
  cases fl with
  |ret u =>
   obtain⟨v,H',I3,rv,ev,q3⟩:=I2.after hq';subst ev;exact⟨rv,⟨V.ref (s.heap.objs.size+1),H',I3,rfl,q3⟩⟩
  |next=>exact ke hq'
  |brk=>exact ke hq'
  |cont=>exact ke hq'
theorem aNx(M:Mk X.K C f)(F:jU X.prog X.w X.K X.mg X.base CX k f fd ps sp)(hr:vY (k+1) X.A)(hg:Gl X x)(hm:X.mg x=some (.ref C))(hb:Binds X.K fd ps ds)(hd:jY dvs ds)(hx:yH CX X E)
  (ha:PA X (e::es) t)(hdb:(x == ("__debug__" : Str))=false:=by decide)(he:iy (e::es) X.env=(false,eval e X.env)::iy es X.env:=by rfl)(hpl:(qh pos (iy es X.env)).any (·.1)=false:=by rfl):
  PE X (.Call (.Name x p) (e::es) [] pos) (aPc C sp dvs E t):=by
 intro pins s σ H Q I h;refine sj (uF I hg hm ?_ hdb);refine uk (h₀:=X.base) I.ok.mod.kin M.kp (thn (ha pos pins s σ H _ I h) fun us s1 zq=>zq.el fun vs H1 I1 r q=>⟨I1.kIn,?_⟩) he hpl;exact aIe M F hr hb hd hx I1 r q
end
structure jJ (N P:List Str) (sc:Scope):Prop where
 kind:sc.kind=.function
 co:sc.isCoroutine=false
 gen:sc.isGenerator=false
 nd:N.Nodup
 pre:N.take P.length=P
 par:∀x∈P,sc.names.lookup x=some .local\/sc.names.lookup x=some .cell
 nofree:∀y∈sc.names,y.2≠.free
theorem tQ{kindOf:Str->Option NameKind}{x:Str}: ∀{binds:List (Str×Value)}{m:Str->Option Value},(∀v,(x,v)∉binds)->bindL kindOf binds m x=m x
 |[],_,_=>rfl
 | (n,v)::r,m,h=>by
  unfold bindL;rw[tQ fun w hw=>h w (Ω _ hw)]
  split
  ·have:x≠n:=by rintro rfl;exact h v τ
   simp[this]
  ·rfl
theorem tP{kindOf:Str->Option NameKind}{x:Str}: ∀{binds:List (Str×Value)}{m:Str->Option Value},(∀v,(x,v)∉binds)->bindC kindOf binds m x=m x
 |[],_,_=>rfl
 | (n,v)::r,m,h=>by
  unfold bindC;rw[tP fun w hw=>h w (Ω _ hw)]
  split
  ·rfl
  ·have:x≠n:=by rintro rfl;exact h v τ
   simp[this]
theorem tU{kindOf:Str->Option NameKind}: ∀{P:List Str}{vs:List Value}{i:Nat}{m:Str->Option Value},P.Nodup->P[i]?=some x->vs[i]?=some v->kindOf x=some .local →
  bindL kindOf (P.zip vs) m x=some v
 |[],_,_,_,_,h,_,_=>by simp at h
 |_::_,[],_,_,_,_,h,_=>by simp at h
 |p::P,w::vs,0,m,nd,h1,h2,hk=>by
  simp at h1 h2;subst h1;subst h2;show bindL kindOf ((p,w)::P.zip vs) m p=_;unfold bindL;rw[tQ fun v hv=>(pe.mp nd).1 (List.of_mem_zip hv).1,if_pos hk];simp
 |p::P,w::vs,i+1,m,nd,h1,h2,hk=>by
  show bindL kindOf ((p,w)::P.zip vs) m x=_;unfold bindL;exact tU (i:=i) (pe.mp nd).2 (by simpa using h1) (by simpa using h2) hk
theorem tV{kindOf:Str->Option NameKind}: ∀{P:List Str}{vs:List Value}{i:Nat}{m:Str->Option Value},P.Nodup->P[i]?=some x->vs[i]?=some v->kindOf x≠some .local →
  bindC kindOf (P.zip vs) m x=some v
 |[],_,_,_,_,h,_,_=>by simp at h
 |_::_,[],_,_,_,_,h,_=>by simp at h
 |p::P,w::vs,0,m,nd,h1,h2,hk=>by
  simp at h1 h2;subst h1;subst h2;show bindC kindOf ((p,w)::P.zip vs) m p=_;unfold bindC;rw[tP fun v hv=>(pe.mp nd).1 (List.of_mem_zip hv).1,if_neg hk];simp
 |p::P,w::vs,i+1,m,nd,h1,h2,hk=>by
  show bindC kindOf ((p,w)::P.zip vs) m x=_;unfold bindC;exact tV (i:=i) (pe.mp nd).2 (by simpa using h1) (by simpa using h2) hk
def start (N:List Str) (vs:List V):St:=vs.map some++xk (N.length-vs.length) none
def aCt (CX:CXT) (P:ki) (w:mx) (K:Φ) (mg:Str->Option Value) (base:ky) (N:List Str) (qual:Str) (scope:Scope) (f:Addr) (cd:Value) (A:lg) (outer:List Env) (s:μ) (H:Hp) (E:XK):Cx where
 prog:=P
 w:=w
 K:=K
 mg:=mg
 base:=base
 A:=A.deeper (envOfC qual scope s.heap.objs.size f cd)
 N:=N
 s₀:=s
 H₀:=H
 env:=envOfC qual scope s.heap.objs.size f cd
 outer:=outer
 stack:=envOfC qual scope s.heap.objs.size f cd::outer
 ex:=[]
 calm:=true
 fn:=fun _=>true
 pn:=[]
 xe:=fun e s'=>Ξ (je P w) (A.deeper (envOfC qual scope s.heap.objs.size f cd)) (leaving (envOfC qual scope s.heap.objs.size f cd) e) (fun _ s''=>CX outer H s E e s'') (fun e' s''=>CX outer H s E e' s'') s'
theorem aBj{sc:Scope}(h:sc.names.lookup x=some .cell):∃c,(cellsFrom n sc.names []).lookup x=some c:=by
 have q:=PySem.W.cellsFrom_some sc.names n [] (.inl h);exact qk.mp q
theorem aGl{K:Φ}{A:lg}{vs:List V}
  (S:jJ N ps scope)(hd:A.handled=none)(e0:sH P w K mg base A outer s H)(hl:vs.length=ps.length)(r:jY vs us)
  (x:InCallC s s.heap.objs.size (bindL (envOfC qual scope s.heap.objs.size f cd).kindOf (ps.zip us) fun _=>none) (cellsFrom (s.heap.objs.size+1) scope.names []) (bindC (envOfC qual scope s.heap.objs.size f cd).kindOf (ps.zip us) fun _=>none) s1):
  Inv (aCt CX P w K mg base N qual scope f cd A outer s H E) [] (start N vs) H s1:=by
 have hpl:ps.length<=N.length:=by have:=congrArg List.length S.pre;rw[ji]at this;omega
 obtain⟨h1,tk,rfl,hk⟩:=x.done;have noA:∀b:Addr,b∉(aCt CX P w K mg base N qual scope f cd A outer s H E).ex:=fun b z=>absurd (show b∈([]:List Addr) from z) (by simp);refine⟨⟨e0.mod,S.kind,rfl,rfl,ι _,fun y z c h1 h2=>?_,fun y hy=>?_,fun y c _ h=>?_,fun _=>hd,lg.frames_deeper e0.frames,.inr ⟨rfl,rfl⟩,fun b z=>absurd z (noA b),e0.bs,e0.bsz,fun b _ _=>noA b,fun b z=>absurd z (noA b),e0.funs,e0.frf⟩,
  rfl,e0.bare,Un.kept hk,⟨_,x.toInCall.ns,fun i y v h1 h2 h3=>?_⟩,fun y c h=>⟨_,x.cell y c h⟩,e0.hok.fresh (ι _),fun y c h=>?_,fun p hp=>absurd (show p∈([]:List (Addr×Obj)) from hp) (by simp),e0.hok.kept hk,?_⟩
 ·exact name_of_addr x.apart (mr h1) (mr h2)
 ·have hy:scope.names.lookup y=some .cell\/scope.names.lookup y=some .free:=hy;rcases hy with hy|hy
  ·exact aBj hy
  ·exact absurd rfl (S.nofree _ (mr hy))
 ·exact tm (x.above y c (mr h))
 ·have hi:i<vs.length:=by
   unfold start at h2
   by_cases hi:i<vs.length
   ·exact hi
   ·rw[iu (by simpa using hi)]at h2;rw[List.getElem?_replicate]at h2
    split at h2 <;> cases h2
  have ha:vs[i]?=some v:=by
   unfold start at h2;rw[jd (by simpa using hi),jv]at h2;cases e:vs[i]? with
   |none=>rw[e]at h2;cases h2
   |some a=>rw[e]at h2;cases h2;rfl
  obtain⟨u,hu,rv⟩:=r.get ha;have hp:ps[i]?=some y:=by
   rw[←S.pre,ql (by omega)];exact h1
  have ndP:ps.Nodup:=by rw[←S.pre];exact S.nd.sublist (List.take_sublist _ _)
  refine⟨u,rv,?_⟩;rcases S.par y (iq hp) with k|k
  ·exact .inl ⟨k,tU ndP hp hu k⟩
  ·obtain⟨c,e⟩:=aBj (n:=s.heap.objs.size+1) k;refine .inr ⟨.inl k,c,e,?_⟩;have q:=x.cell y c e;rw[tV ndP hp hu (by show scope.names.lookup y≠_;rw[k];decide)]at q;exact q
 ·exact e0.hok.fresh (tm (x.above y c (mr h)))
 ·unfold start;show _=N.length;rw[θ,δ,qg];omega
theorem fn_of{CX:CXT}{P:ki}{w:mx}{K:Φ}{mg:Str->Option Value}{base:ky}{k:Nat}{f:Addr}{name qual:Str}{params:Arguments}{body:List Stmt}{scope:Scope}{dV kV doc pm cdv ct oc:Value}{an od:Option Addr}
  {osl:Array (Option Value)}{N ps:List Str}{sp:Sp}(lk:K.lookup f=some ⟨oc,od,.func (fnOf name qual params body scope dV kV doc pm an cdv ct),osl⟩)(hcd:codeIn K cdv qual=true)(S:jJ N ps scope)
  (len:∀vs H Q E,sp vs H Q E->vs.length=ps.length)
  (hbody:∀(A:lg) (outer:List Env) (s:μ) (H:Hp) (vs:List V) (Q:VK) (E:XK),vY k (A.deeper (envOfC qual scope s.heap.objs.size f cdv))->sp vs H Q E →
   ∃t,PSs (aCt CX P w K mg base N qual scope f cdv A outer s H E) body t/\t { nx:=fun _ H'=>Q .non H',rt:=Q } (start N vs) H):
  jU P w K mg base CX (k+1) f (fnOf name qual params body scope dV kV doc pm an cdv ct) ps sp:=by
 refine⟨len,fun A outer s H args us vs Q E hr e0 hb r hsp=>?_⟩;have hl:=len _ _ _ _ hsp;have KX:K.In s.heap:=e0.mod.kin.keeps fun b o e=>(e0.bs b o e).1;have lim:s.heap.NoLimit:=e0.mod.nolimit.keeps fun b o e=>(e0.bs b o e).1;have hkind:∀y∈ps.zip us,scope.names.lookup y.1=some .local\/(scope.names.lookup y.1=some .cell/\((cellsFrom (s.heap.objs.size+1) scope.names []).lookup y.1).isSome=true):=fun ⟨n,v⟩ hy=>by
  rcases S.par n (List.of_mem_zip hy).1 with q|q
  ·exact .inl q
  ·exact .inr ⟨q,PySem.W.cellsFrom_some _ _ _ (.inl q)⟩
 refine codeAny_call_function hr.depth (KX _ _ lk) rfl S.co S.gen rfl (PySem.W.codeRec_of KX hcd) (hb _ _ _ _ ?_);refine wpAny_newFunctionEnv_cells S.kind hkind fun env he s1 x=>?_;subst he;refine⟨lim.keeps x.toInCall.keep,codeAny_func ?_⟩;obtain⟨t,ht,hq⟩:=hbody A outer s H vs Q E (hr.deeper _) hsp;have I:Inv (aCt CX P w K mg base N qual scope f cdv A outer s H E) [] (start N vs) H s1:=aGl S hr.hd e0 hl r x;refine md (ht [] s1 (start N vs) H _ I hq) (fun fl s' hs=>?_) fun e s' hs=>hs;have fin:∀{σ':St}{H':Hp}{v:V}{u:Value},Inv (aCt CX P w K mg base N qual scope f cdv A outer s H E) [] σ' H' s'->RelV v u->Q v H'->CE outer P w H s Q u s' :=
  fun {σ' H' v u} J rv q=>⟨v,H',J.os,J.bare,J.base,J.hok,rv,q⟩
 cases fl with
 |ret u =>
  obtain⟨v,σ',H',J,rv,q⟩:=hs;exact fin J rv q
 |next =>
  obtain⟨σ',H',J,q⟩:=hs;exact fin (v:=V.non) (u:=se) J rfl q
 |brk =>
  obtain⟨_,_,_,q⟩:=hs;exact ke q
 |cont =>
  obtain⟨_,_,_,q⟩:=hs;exact ke q
section
variable {X:Cx}{x:Str}{p pos:Pos}{e:Expr}{es:List Expr}{t:TA}{id T:String}{r:List V->Hp->VK->Prop}
def tCB (r:List V->Hp->VK->Prop) (t:TA):TE:=fun σ H Q=>t σ H fun vs H1=>r vs H1 Q
theorem jR(hc:vN X (.builtin id) r)(hg:Gl X x)(hm:X.mg x=none)(hv:om x=some (.builtin id))(ha:PA X (e::es) t)(hn:x ≠ "__name__":=by decide)(hdb:(x == ("__debug__" : Str))=false:=by decide)
  (he:iy (e::es) X.env=(false,eval e X.env)::iy es X.env:=by rfl)(hpl:(qh pos (iy es X.env)).any (·.1)=false:=by rfl):PE X (.Call (.Name x p) (e::es) [] pos) (tCB r t):=by
 intro pins s σ H Q I h;refine sj (dR I hg hm hv ?_ hn hdb);exact PyProof.Rows.callWith_builtin1 (thn (ha pos pins s σ H _ I h) fun us s1 zq=>zq.el fun vs H1 I1 r1 q1=>hc pins s1 σ H1 vs us Q I1 r1 q1) he hpl
theorem qO(hc:vN X (.type T) r)(hg:Gl X x)(hm:X.mg x=none)(hv:om x=some (.type T))(ha:PA X (e::es) t)(hn:x ≠ "__name__":=by decide)(hdb:(x == ("__debug__" : Str))=false:=by decide)
  (he:iy (e::es) X.env=(false,eval e X.env)::iy es X.env:=by rfl)(hpl:(qh pos (iy es X.env)).any (·.1)=false:=by rfl):PE X (.Call (.Name x p) (e::es) [] pos) (tCB r t):=by
 intro pins s σ H Q I h;refine sj (dR I hg hm hv ?_ hn hdb);exact nu (thn (ha pos pins s σ H _ I h) fun us s1 zq=>zq.el fun vs H1 I1 r1 q1=>hc pins s1 σ H1 vs us Q I1 r1 q1) he hpl
end
end L2
namespace HT
open PySem PyProof.Rows
section
open PySem.SeqAt
open PySem.AutoSeq1 (wpAny_loadPart')
open PySem.MeetsSeq PySem.MeetsSeq2 PySem.MeetsSeq3
end
section
variable {prog:ki}{w:mx}{A:lg}{E:Value->μ->Prop}{s:μ}
theorem cat_tup{vs ws:List Value}{Q:Value->μ->Prop}(ht:IsTup s.heap t vs.toArray)(hb:IsTup s.heap b ws.toArray)(hv:vs≠[])
  (h1:ws=[]->Q (.ref t) s)(h2:ws≠[]->Q (.ref s.heap.objs.size) { s with heap:=s.heap.push { cls:=.type "tuple",data:=.seq (vs++ws).toArray } })
  (hsz:vs.length+ws.length<=ξ):Ξ (je prog w) A (qo .Add (.ref t) (.ref b)) Q E s:=by
 obtain⟨⟨cls,dd,data,sl⟩,ho,hc,n,hd⟩:=id ht;obtain⟨⟨cls2,dd2,data2,sl2⟩,ho2,hc2,n2,hd2⟩:=id hb;simp only at hc hd hc2 hd2;subst hc hd hc2 hd2;have e:vs.toArray++ws.toArray=(vs++ws).toArray:=by simp
 by_cases hw:ws=[]
 ·exact concat_meets ⟨_,ho,rfl⟩ ⟨_,ho2,rfl⟩ noFill_tuple_add seq_tuple_add xl xb (wf _ _)
   (tuple_addW1 t b vs.toArray ws.toArray n n2 dd dd2 sl sl2 (by simpa using hv) (by simp[hw])) ⟨ho,ho2,h1 hw⟩
 ·refine concat_meets ⟨_,ho,rfl⟩ ⟨_,ho2,rfl⟩ noFill_tuple_add seq_tuple_add xl xb (wf _ _)
   (tuple_addW2 t b vs.toArray ws.toArray n n2 dd dd2 sl sl2 (by simpa using hv) (by simpa using hw) (by rw[υ,υ];exact hsz)) ⟨ho,ho2,?_⟩
  rw[e];exact h2 hw
def sIx (n d:Nat):Option Int->Nat
 |none=>d
 |some v=>if v<0 then (v+(n:Int)).toNat else min v.toNat n
theorem sIx_none(n d:Nat):sIx n d none=d:=rfl
theorem sIx_nat(n d k:Nat):sIx n d (some (k:Int))=min k n:=by
 show(if (k:Int)<0 then ((k:Int)+(n:Int)).toNat else min (k:Int).toNat n)=min k n;rw[if_neg (by omega),ub]
end
end HT
namespace L2
open PySem PySem.Spec PyProof.Rows
abbrev TO:=St->Hp->(Option Int->Hp->Prop)->Prop
def PO (X:Cx) (e:Option Expr) (t:TO):Prop :=
 ∀(pins:List (Addr×Obj)) (s:μ) (σ:St) (H:Hp) (Q:Option Int->Hp->Prop),Inv X pins σ H s->t σ H Q →
  Ξ (je X.prog X.w) X.A (evalPart e X.env) (fun u s'=>∃o H',Inv X pins σ H' s'/\IsPart u o/\Q o H') X.xe s
def aNq:TO:=fun _ H Q=>Q none H
inductive aEh (Q:Option Int->Hp->Prop) (x:V) (H1:Hp):Prop|mk:∀i,x=.int i->Q (some i) H1->aEh Q x H1
def tPart (t:TE):TO:=fun σ H Q=>t σ H fun x H1=>aEh Q x H1
theorem intsAre_of{ns:List Int}: ∀{us:List Value},jY (ns.map V.int) us->IntsAre us ns:=by
 induction ns with
 |nil=>intro us r;rw[List.map_nil]at r;cases r;exact .nil
 |cons n ns ih =>
  intro us r;rw[ju]at r;cases r with
  |cons r1 r2 =>
   obtain⟨t,e⟩:=r1;subst e;exact .cons n t (ih r2)
section
variable {X:Cx}{e:Expr}{te:TE}{lo hi:Option Expr}{tl th:TO}{pos p2:Pos}
theorem xR:PO X none aNq:=by
 intro pins s σ H Q I h;rw[evalPart_none];exact ω ⟨none,H,I,.none,h⟩
theorem xB(h:PE X e te):PO X (some e) (tPart te):=by
 intro pins s σ H Q I hw;rw[evalPart_some];refine thn (h pins s σ H _ I hw) fun u s1 zq=>?_;obtain⟨x,H1,I1,r1,q1⟩:=zq;obtain⟨i,rfl,q⟩:=q1;obtain⟨t,rfl⟩:=r1;exact⟨some i,H1,I1,.int i t,q⟩
def SlR (X:Cx) (r:V->Option Int->Option Int->Hp->VK->Prop):Prop :=
 ∀(pins:List (Addr×Obj)) (s:μ) (σ:St) (H:Hp) (x:V) (v vl vu:Value) (lo hi:Option Int) (sl:Addr) (Q:VK),Inv X pins σ H s->RelV x v->s.heap.IsSliceOf sl vl vu .none->IsPart vl lo->IsPart vu hi->r x lo hi H Q →
  ∃T id,typeLookup (.type T) "__getitem__" = pure (some (.builtin id))/\s.TypeIs v T/\Ξ (je X.prog X.w) X.A (getItem v (.ref sl)) (EP X pins σ Q) X.xe s
theorem SlR.or{r r':V->Option Int->Option Int->Hp->VK->Prop}(h:SlR X r)(h':SlR X r'):SlR X (fun x lo hi H Q=>r x lo hi H Q\/r' x lo hi H Q):=by
 intro pins s σ H x v vl vu lo hi sl Q I rx hs pl pu q;rcases q with q|q
 ·exact h pins s σ H x v vl vu lo hi sl Q I rx hs pl pu q
 ·exact h' pins s σ H x v vl vu lo hi sl Q I rx hs pl pu q
def tSl (r:V->Option Int->Option Int->Hp->VK->Prop) (te:TE) (tl th:TO):TE:=fun σ H Q=>te σ H fun x H1=>tl σ H1 fun l H2=>th σ H2 fun u H3=>r x l u H3 Q
theorem vK(hr:SlR X r)(he:PE X e te)(hl:PO X lo tl)(hu:PO X hi th):PE X (.Subscript e (.Slice lo hi none p2) pos) (tSl r te tl th):=by
 intro pins s σ H Q I h;refine Subscript_ (thn (he pins s σ H _ I h) fun v s1 zq=>?_);obtain⟨x,H1,I1,r1,q1⟩:=zq;refine wpAny_Slice (thn (hl pins s1 σ H1 _ I1 q1) fun vl s2 ⟨l,H2,I2,pl,q2⟩=>thn (hu pins s2 σ H2 _ I2 q2) fun vu s3 zq=>?_);obtain⟨u,H3,I3,pu,q3⟩:=zq;rw[evalPart_none];refine ω ?_;have I4:Inv X pins σ H3 { s3 with heap:=s3.heap.push { cls:=.type "slice",data:=.fields #[vl,vu,.none] } }:=I3.kept (t':=s3.toks) fun b ob q=>ν _ q;obtain⟨T,id,hT,ht,hg⟩:=hr pins { s3 with heap:=s3.heap.push { cls:=.type "slice",data:=.fields #[vl,vu,.none] } } σ H3 x v vl vu l u s3.heap.objs.size Q I4 r1 (ky.IsSliceOf.new ..) pl pu q3;show Ξ (je X.prog X.w) X.A (subscriptTail e (.Slice lo hi none p2) v (.ref s3.heap.objs.size)) (EP X pins σ Q) X.xe { s3 with heap:=s3.heap.push { cls:=.type "slice",data:=.fields #[vl,vu,.none] } };exact tail_any (ops:=[.ref s3.heap.objs.size,v]) ht hT hg (by with_unfolding_all rfl)
def bF (xs:List V) (lo hi:Option Int):List V:=(xs.drop (HT.sIx xs.length 0 lo)).take (HT.sIx xs.length xs.length hi-HT.sIx xs.length 0 lo)
theorem aCf(xs:List V)(lo hi:Option Int):(bF xs lo hi).length<=xs.length:=by
 unfold bF;rw[ji,vp];omega
def rCatT (K:Φ):R2:=fun x y H Q=>∃a b xs ys,x=.ref a/\y=.ref b/\SqT K H a xs/\SqT K H b ys/\xs≠[]/\xs.length+ys.length<=ξ ∧
 (ys=[]->Q (.ref a) H)/\(ys≠[]->∀p,H p=none->Q (.ref p) (upd H p (.tup (xs++ys))))
theorem jY.nil_iff(r:jY xs us):us=[] ↔ xs=[]:=by
 cases r with
 |nil=>simp
 |cons _ _=>simp
theorem aNe:OpR X (qo .Add) (rCatT X.K):=by
 intro pins s σ H x y v u Q I rx ry h;obtain⟨a,b,xs,ys,rfl,rfl,ha,hb,hx,hz,q1,q2⟩:=h;cases rx;cases ry;obtain⟨its,r1,p1,_⟩:=I.tuple ha;obtain⟨its2,r2,p2,_⟩:=I.tuple hb;refine HT.cat_tup p1 p2 (fun z=>hx (r1.nil_iff.mp z)) (fun z=>⟨.ref a,H,I,rfl,q1 (r2.nil_iff.mp z)⟩) (fun z=>?_) (by rw[←r1.length,←r2.length];exact hz);refine⟨.ref s.heap.objs.size,_,I.laid (t':=s.toks) (o:=.tup (xs++ys)) (fun b ob q=>ν _ q) (ι _) ?_,rfl,q2 (fun w=>z (r2.nil_iff.mpr w)) _ (I.hok.fresh (ι _))⟩;exact⟨by rw[θ];exact hz,_,r1.append r2,IsTup.new _ _⟩
end
def ixN (n:Nat) (i:Int):Option Nat:=if 0<=i then (if i<n then some i.toNat else none) else if -(n:Int)<=i then some (i+n).toNat else none
def atI {α : Type}(xs:List α) (i:Int):Option α:=(ixN xs.length i).bind fun j=>xs[j]?
theorem aFn{i:Int}(h:ixN n i=some j):seqIndex? i n=some j/\j<n/\-(n:Int)<=i/\i<n:=by
 unfold ixN at h
 by_cases h0 : 0<=i
 ·rw[if_pos h0]at h
  by_cases h1:i<n
  ·rw[if_pos h1]at h;have e:i.toNat=j:=mw h;exact⟨by rw[seqIndex_of h0 h1,e],by omega,by omega,h1⟩
  ·rw[if_neg h1]at h;cases h
 ·rw[if_neg h0]at h
  by_cases h1 : -(n:Int)<=i
  ·rw[if_pos h1]at h;have e:(i+n).toNat=j:=mw h;exact⟨by rw[seqIndex_neg (by omega) h1,e],by omega,h1,by omega⟩
  ·rw[if_neg h1]at h;cases h
theorem uL{α : Type}{xs:List α}{i:Int}{v : α}(h:atI xs i=some v):∃j,seqIndex? i xs.length=some j/\xs[j]?=some v/\j<xs.length/\-(xs.length:Int)<=i/\i<xs.length:=by
 unfold atI at h;cases e:ixN xs.length i with
 |none=>rw[e]at h;cases h
 |some j =>
  rw[e]at h;obtain⟨h1,h2,h3,h4⟩:=aFn e;exact⟨j,h1,h,h2,h3,h4⟩
theorem yE{α : Type}{xs:List α}{j:Nat}{v : α}(h:xs[j]?=some v):atI xs (j:Int)=some v:=by
 have hj:j<xs.length:=(η.mp h).1;have e:ixN xs.length (j:Int)=some j:=by
  unfold ixN;rw[if_pos (by omega),if_pos (by omega)];simp
 unfold atI;rw[e];exact h
def wF (b:Expr):Prop:=∀o i,subscripted b false o i=operate [o,i] (getItem o i)
def IxR (X:Cx) (r:R2):Prop :=
 ∀(value slice:Expr) (pins:List (Addr×Obj)) (s:μ) (σ:St) (H:Hp) (x y:V) (v u:Value) (Q:VK),Inv X pins σ H s->RelV x v->RelV y u->r x y H Q →
  subscripted slice false v u=operate [v,u] (getItem v u)->Ξ (je X.prog X.w) X.A (subscriptTail value slice v u) (EP X pins σ Q) X.xe s
def MtR (X:Cx) (id:String) (r:V->List V->Hp->VK->Prop):Prop :=
 ∀(pins:List (Addr×Obj)) (s:μ) (σ:St) (H:Hp) (x:V) (xs:List V) (v:Value) (us:List Value) (Q:VK),Inv X pins σ H s->RelV x v->jY xs us->r x xs H Q →
  Ξ (je X.prog X.w) X.A (call (.builtin id) (v::us)) (EP X pins σ Q) X.xe s
section
variable {X:Cx}{a b:Expr}{ta tb:TE}{pos:Pos}
theorem IxR.or{r r':R2}(h:IxR X r)(h':IxR X r'):IxR X (fun x y H Q=>r x y H Q\/r' x y H Q):=by
 intro value slice pins s σ H x y v u Q I rx ry q hs;rcases q with q|q
 ·exact h value slice pins s σ H x y v u Q I rx ry q hs
 ·exact h' value slice pins s σ H x y v u Q I rx ry q hs
theorem MtR.or{id:String}{r r':V->List V->Hp->VK->Prop}(h:MtR X id r)(h':MtR X id r'):MtR X id (fun x xs H Q=>r x xs H Q\/r' x xs H Q):=by
 intro pins s σ H x xs v us Q I rx rs q;rcases q with q|q
 ·exact h pins s σ H x xs v us Q I rx rs q
 ·exact h' pins s σ H x xs v us Q I rx rs q
theorem aPt(hr:IxR X r)(ha:PE X a ta)(hb:PE X b tb)(hs:wF b):PE X (.Subscript a b pos) (tOp r ta tb):=by
 intro pins s σ H Q I h;exact Subscript_ (binT ha hb I h fun v u s2 x y H2 I2 rx ry q=>hr a b pins s2 σ H2 x y v u Q I2 rx ry q (hs _ _))
inductive aIc (K:Φ) (x:V) (y:V) (H:Hp) (Q:VK):Prop|mk:∀p xs i v,x=.ref p->y=.int i->SqL K H p xs->atI xs i=some v->Q v H->aIc K x y H Q
def rIxL (K:Φ):R2:=fun x y H Q=>aIc K x y H Q
inductive aKq (K:Φ) (x:V) (y:V) (H:Hp) (Q:VK):Prop|mk:∀p xs i v,x=.ref p->y=.int i->SqT K H p xs->atI xs i=some v->Q v H->aKq K x y H Q
def rIxT (K:Φ):R2:=fun x y H Q=>aKq K x y H Q
def rIxS:R2:=fun x y H Q=>∃z i c,x=.str z/\y=.int i/\z.length<=ξ/\atI z.cps.toList i=some c/\Q (.str ⟨#[c]⟩) H
theorem jO:IxR X (rIxL X.K):=by
 intro value slice pins s σ H x y v u Q I rx ry h hs;obtain⟨p,xs,i,z,rfl,rfl,hq,he,q⟩:=h;cases rx;obtain⟨t,rfl⟩:=ry;obtain⟨its,r,pl,hz⟩:=I.list hq;obtain⟨j,h1,h2,h3,h4,h5⟩:=uL he;obtain⟨w,ew,rw'⟩:=r.get h2;have hl:=r.length;have hn:=fX;have fin:EP X pins σ Q w s:=⟨z,H,I,rw',q⟩
 by_cases h0 : 0<=i
 ·have hj:i.toNat=j:=by
   rw[seqIndex_of h0 h5]at h1;exact mw h1
  exact item_listR pl.isList h0 (by omega) (by rw[hj];simpa using ew) fin hs
 ·have hj:(i+(its.toArray.size:Int)).toNat=j:=by
   rw[seqIndex_neg (by omega) h4]at h1;rw[υ,←hl];exact mw h1
  exact subscriptTail_builtinR (x:=w) pl.isList.typeIs slot_list_getitem.lookup
   (wpAny_getItem_list_neg (Q:=fun r s'=>r=w/\EP X pins σ Q r s') pl.isList (by omega) (by rw[υ] <;> omega) (by omega) (by rw[hj];simpa using ew) ⟨rfl,fin⟩) hs
theorem aRf:IxR X (rIxT X.K):=by
 intro value slice pins s σ H x y v u Q I rx ry h hs;obtain⟨p,xs,i,z,rfl,rfl,hq,he,q⟩:=h;cases rx;obtain⟨t,rfl⟩:=ry;obtain⟨its,r,pl,hz⟩:=I.tuple hq;obtain⟨j,h1,h2,h3,h4,h5⟩:=uL he;obtain⟨w,ew,rw'⟩:=r.get h2;have hl:=r.length;have hn:=fX;have fin:EP X pins σ Q w s:=⟨z,H,I,rw',q⟩;exact subscriptTail_builtinR (x:=w) pl.typeIs slot_tuple_getitem.lookup
  (getItem_tuple (j:=j) (Q:=fun r s'=>r=w/\EP X pins σ Q r s') pl (by omega) (by omega) (by rw[υ,←hl];exact h1) (by simpa using ew) ⟨rfl,fin⟩) hs
theorem aCl:IxR X rIxS:=by
 intro value slice pins s σ H x y v u Q I rx ry h hs;obtain⟨z,i,c,rfl,rfl,hz,he,q⟩:=h;obtain⟨t,rfl⟩:=rx;obtain⟨t',rfl⟩:=ry;obtain⟨j,h1,h2,h3,h4,h5⟩:=uL he;have hl:z.cps.toList.length=z.length:=by simp[Str.length]
 rw[hl]at h1 h4 h5;have hn:=fX;exact tail_any (typeIs_str s z t) slot_str_getitem.lookup (getItem_str (c:=c) (by
  have e1:decide (i < -(2 ^ 63:Int))=false:=decide_eq_false (by omega);have e2:decide (i≥2 ^ 63)=false:=decide_eq_false (by omega);rw[e1,e2,Bool.or_false]) (by rw[h1];simpa using h2) ⟨.str ⟨#[c]⟩,H,I.tok _,⟨_,rfl⟩,q⟩) hs
theorem aDq(its:List Value)(n j:Nat)(u:Value):wu (·.setIfInBounds j u) { cls:=.type "list",data:=.seq its.toArray n }={ cls:=.type "list",data:=.seq (its.set j u).toArray n }:=by
 simp[wu]
theorem Inv.lst{pins:List (Addr×Obj)}{σ:St}{H:Hp}{s:μ}{p:Addr}{xs:List V}(I:Inv X pins σ H s)(h:H p=some (.lst xs)):
  ∃(its:List Value) (n:Nat),jY xs its/\s.heap.get? p=some { cls:=.type "list",data:=.seq its.toArray n }/\xs.length<=ξ:=by
 obtain⟨z,its,n,r,e⟩:=I.hok p _ h;exact⟨its,n,r,e,z⟩
theorem Inv.lstUpd{H:Hp}{s:μ}{its its':List Value}{f:Obj->Obj}(I:Inv X pins σ H s)(h:H p=some (.lst xs))
  (ho:s.heap.get? p=some { cls:=.type "list",data:=.seq its.toArray n })(hf:f { cls:=.type "list",data:=.seq its.toArray n }={ cls:=.type "list",data:=.seq its'.toArray n' })(r:jY ys its')(hz:ys.length<=ξ)(t:Nat):
  Inv X pins σ (upd H p (.lst ys)) { s with heap:=s.heap.update p f,toks:=t }:=by
 have e:(s.heap.update p f).get? p=some { cls:=.type "list",data:=.seq its'.toArray n' }:=by
  rw[ky.get?_update_self f ho (by rw[hf] <;> rfl),hf]
 refine I.write (x:=p) (e:=p) (by rw[h];trivial) (.inl rfl) (fun b u hb q=>(ul _ _ (kc hb)).trans q) ⟨_,e⟩ ?_;exact⟨hz,its',n',r,e⟩
def rSetL:V->V->V->Hp->(Hp->Prop)->Prop:=fun o i v H Q=>∃p xs k j,o=.ref p/\i=.int k/\H p=some (.lst xs)/\ixN xs.length k=some j/\Q (upd H p (.lst (xs.set j v)))
theorem set_list:PSet X rSetL:=by
 intro pins s σ H o i v ov iv u Q I ro ri rv h;obtain⟨p,xs,k,j,rfl,rfl,hp,hj,q⟩:=h;cases ro;obtain⟨t,rfl⟩:=ri;obtain⟨its,n,r,ho,hz⟩:=I.lst hp;obtain⟨h1,h2,h3,h4⟩:=aFn hj;have hl:=r.length;have hn:=fX;have I':Inv X pins σ (upd H p (.lst (xs.set j v))) { s with heap:=s.heap.update p (wu (·.setIfInBounds j u)) } :=
  I.lstUpd hp ho (aDq its n j u) (r.set rv j) (by rw[List.length_set];exact hz) s.toks
 by_cases h0 : 0<=k
 ·have hk:k.toNat=j:=by
   rw[seqIndex_of h0 h4]at h1;exact mw h1
  exact PySem.W.ki_setAt ho h0 (by omega) (by rw[υ,←hl];exact h4) (by rw[hk];exact⟨_,I',q⟩)
 ·have hk:(k+(its.toArray.size:Int)).toNat=j:=by
   rw[seqIndex_neg (by omega) h3]at h1;rw[υ,←hl];exact mw h1
  exact PySem.W.ki_setBack ho (by omega) (by rw[υ,←hl];exact h3) (by omega) (by rw[hk];exact⟨_,I',q⟩)
theorem wJ(lo hi:Option Int)(n:Nat):(xc lo hi none n).1=((HT.sIx n 0 lo:Nat):Int)/\(xc lo hi none n).2.1=((HT.sIx n n hi:Nat):Int)/\(xc lo hi none n).2.2=1:=by
 refine⟨?_,?_,rfl⟩
 ·cases lo with
  |none=>simp[xc,HT.sIx]
  |some i =>
   simp only[xc,HT.sIx,Option.getD_none,show(1:Int) > 0 by decide,if_true]
   by_cases h:i<0
   ·simp only[h,if_true] <;> omega
   ·simp only[h,if_false] <;> omega
 ·cases hi with
  |none=>simp[xc,HT.sIx]
  |some i =>
   simp only[xc,HT.sIx,Option.getD_none,show(1:Int) > 0 by decide,if_true]
   by_cases h:i<0
   ·simp only[h,if_true] <;> omega
   ·simp only[h,if_false] <;> omega
theorem sD(its:List Value)(lo hi:Option Int):slicePick its.toArray lo hi none=((its.drop (HT.sIx its.length 0 lo)).take (HT.sIx its.length its.length hi-HT.sIx its.length 0 lo)).toArray:=by
 obtain⟨h1,h2,h3⟩:=wJ lo hi its.toArray.size;unfold slicePick;rw[h1,h2,h3];simp only[sliceRange_one,pick_run,υ] <;> rfl
inductive aIm (K:Φ) (x:V) (lo:Option Int) (hi:Option Int) (H:Hp) (Q:VK):Prop|mk:∀a xs,x=.ref a->SqL K H a xs->(∀p,H p=none->Q (.ref p) (upd H p (.lst (bF xs lo hi))))->aIm K x lo hi H Q
def rSlL (K:Φ):V->Option Int->Option Int->Hp->VK->Prop:=fun x lo hi H Q=>aIm K x lo hi H Q
theorem xG:SlR X (rSlL X.K):=by
 intro pins s σ H x v vl vu lo hi sl Q I rx hs pl pu h;obtain⟨a,xs,rfl,hx,q⟩:=h;cases rx;obtain⟨its,r,ht,hz⟩:=I.list hx;have hlen:=r.length;refine⟨"list",_,slot_list_getitem.lookup,ht.isList.typeIs,?_⟩;refine wpAny_getItem_list_slice ht.isList hs pl pu .none (by simp) ?_ (by rw[υ] <;> omega);rw[sD,←hlen];refine⟨.ref s.heap.objs.size,_,I.laid (t':=s.toks) (o:=.lst (bF xs lo hi)) (fun b ob q=>ν _ q) (ι _) ?_,rfl,q _ (I.hok.fresh (ι _))⟩;exact⟨jh (aCf xs lo hi) hz,_,0,(r.drop (HT.sIx xs.length 0 lo)).take (HT.sIx xs.length xs.length hi-HT.sIx xs.length 0 lo),iw _ rfl⟩
def iQ:V->Bool
 |.non=>true
 |.bl _=>true
 |.int _=>true
 |.str _=>true
 |_=>false
def eqV:V->V->Bool
 |.non,.non=>true
 |.bl a,.bl b=>a == b
 |.bl a,.int b=>(if a then 1 else 0) == b
 |.int a,.bl b=>a == (if b then 1 else 0)
 |.int a,.int b=>a == b
 |.str a,.str b=>a == b
 |_,_=>false
theorem aQe(ry:RelV y u)(rx:RelV x v)(fy:iQ y=true)(fx:iQ x=true):my A s u v (eqV y x):=by
 cases y with
 |non =>
  cases ry;cases x with
  |non=>cases rx;exact my.same _
  |bl b=>cases rx;exact my.none_bool b
  |int b=>obtain⟨t,rfl⟩:=rx;exact my.none_int b t
  |str b=>obtain⟨t,rfl⟩:=rx;exact my.none_str b t
  |_=>exact absurd (show false=true from fx) ρ
 |bl a =>
  cases ry;cases x with
  |non=>cases rx;exact my.bool_none a
  |bl b=>cases rx;exact my.bool_bool a b
  |int b=>obtain⟨t,rfl⟩:=rx;exact my.bool_int a b t
  |str b=>obtain⟨t,rfl⟩:=rx;exact my.bool_str a b t
  |_=>exact absurd (show false=true from fx) ρ
 |int a =>
  obtain⟨t',rfl⟩:=ry;cases x with
  |non=>cases rx;exact my.int_none a t'
  |bl b=>cases rx;exact my.int_bool a t' b
  |int b=>obtain⟨t,rfl⟩:=rx;exact my.int_int a t' b t
  |str b=>obtain⟨t,rfl⟩:=rx;exact my.int_str a t' b t
  |_=>exact absurd (show false=true from fx) ρ
 |str a =>
  obtain⟨t',rfl⟩:=ry;cases x with
  |non=>cases rx;exact my.str_none a t'
  |bl b=>cases rx;exact my.str_bool a t' b
  |int b=>obtain⟨t,rfl⟩:=rx;exact my.str_int a t' b t
  |str b=>obtain⟨t,rfl⟩:=rx;exact my.str_str a t' b t
  |_=>exact absurd (show false=true from fx) ρ
 |_=>exact absurd (show false=true from fy) ρ
def eqU (x:V) (u:Value):Bool:=match u with
 |.none=>eqV .non x
 |.bool b=>eqV (.bl b) x
 |.int i _=>eqV (.int i) x
 |.str z _=>eqV (.str z) x
 |_=>false
theorem aJx(r:RelV y u)(f:iQ y=true):eqU x u=eqV y x:=by
 cases y with
 |non=>cases r;rfl
 |bl b=>cases r;rfl
 |int i=>obtain⟨t,rfl⟩:=r;rfl
 |str z=>obtain⟨t,rfl⟩:=r;rfl
 |_=>exact absurd (show false=true from f) ρ
theorem iX : ∀{xs:List V}{us:List Value},jY xs us->xs.all iQ=true->us.any (eqU x)=xs.any fun y=>eqV y x
 |_,_,.nil,_=>rfl
 |y::xs,u::us,.cons r t,f=>by
  rw[List.all_cons,jo]at f;rw[yk,yk,aJx r f.1,iX t f.2]
theorem dB(rx:RelV x v)(fx:iQ x=true):∀{xs:List V}{us:List Value},jY xs us->xs.all iQ=true->∀u∈us,my A s u v (eqU x u)
 |_,_,.nil,_=>fun u hu=>by cases hu
 |y::xs,u::us,.cons r t,f=>fun u' hu=>by
  rw[List.all_cons,jo]at f;rcases ο.mp hu with rfl|hu
  ·rw[aJx r f.1];exact aQe r rx f.1 fx
  ·exact dB rx fx t f.2 u' hu
def inV (x:V) (xs:List V):Bool:=xs.any fun y=>eqV y x
def rIn (K:Φ) (neg:Bool):R2:=fun x y H Q=>∃p xs,y=.ref p/\(SqL K H p xs\/SqT K H p xs)/\iQ x=true/\xs.all iQ=true/\Q (.bl (if neg then !inV x xs else inV x xs)) H
theorem vJ:OpR X (lm .In) (rIn X.K false):=by
 intro pins s σ H x y v u Q I rx ry h;obtain⟨p,xs,rfl,hq,fx,fs,q⟩:=h;cases ry;rcases hq with hq|hq
 ·obtain⟨its,r,pl,hz⟩:=I.list hq;refine SeqAt.in_listAt (eqU x) pl.isList (fun w hw=>dB rx fx r fs w (by simpa using hw)) ⟨.bl _,H,I,rfl,?_⟩;rw[show its.toArray.any (eqU x)=its.any (eqU x) by simp,iX r fs];exact q
 ·obtain⟨its,r,pl,hz⟩:=I.tuple hq;refine SeqAt.in_tupleAt (eqU x) pl (fun w hw=>dB rx fx r fs w (by simpa using hw)) ⟨.bl _,H,I,rfl,?_⟩;rw[show its.toArray.any (eqU x)=its.any (eqU x) by simp,iX r fs];exact q
theorem xD:OpR X (lm .NotIn) (rIn X.K true):=by
 intro pins s σ H x y v u Q I rx ry h;obtain⟨p,xs,rfl,hq,fx,fs,q⟩:=h;cases ry;rcases hq with hq|hq
 ·obtain⟨its,r,pl,hz⟩:=I.list hq;refine SeqAt.notIn_listAt (eqU x) pl.isList (fun w hw=>dB rx fx r fs w (by simpa using hw)) ⟨.bl _,H,I,rfl,?_⟩;rw[show its.toArray.any (eqU x)=its.any (eqU x) by simp,iX r fs];exact q
 ·obtain⟨its,r,pl,hz⟩:=I.tuple hq;refine SeqAt.notIn_tupleAt (eqU x) pl (fun w hw=>dB rx fx r fs w (by simpa using hw)) ⟨.bl _,H,I,rfl,?_⟩;rw[show its.toArray.any (eqU x)=its.any (eqU x) by simp,iX r fs];exact q
theorem jX:vN X (.builtin "len") (fun xs H Q=>∃p ys,xs=[.ref p]/\(SqL X.K H p ys\/SqT X.K H p ys)/\Q (.int ys.length) H):=by
 intro pins s σ H xs us Q I r h;obtain⟨p,ys,rfl,hq,q⟩:=h;obtain⟨u,rfl,rx⟩:=vals1 r;cases rx;have hn:=fX;rcases hq with hq|hq
 ·obtain⟨its,r',pl,hz⟩:=I.list hq;have hlen:=r'.length;exact Calls.call_len_list pl.isList (by simp only[υ] <;> omega) ⟨.int ys.length,H,I.tok _,⟨s.toks+1,by rw[υ,hlen]⟩,q⟩
 ·obtain⟨its,r',pl,hz⟩:=I.tuple hq;have hlen:=r'.length;exact len_tuple pl (by simp only[υ] <;> omega) ⟨.int ys.length,H,I.tok _,⟨s.toks+1,by rw[υ,hlen]⟩,q⟩
theorem vN.or{r r':List V->Hp->VK->Prop}(h:vN X f r)(h':vN X f r'):vN X f (fun xs H Q=>r xs H Q\/r' xs H Q):=by
 intro pins s σ H xs us Q I rs q;rcases q with q|q
 ·exact h pins s σ H xs us Q I rs q
 ·exact h' pins s σ H xs us Q I rs q
theorem iU:vN X (.type "list") (fun xs H Q=>∃p ys,xs=[.ref p]/\(SqL X.K H p ys\/SqT X.K H p ys)/\∀l,H l=none->Q (.ref l) (upd H l (.lst ys))):=by
 intro pins s σ H xs us Q I r h;obtain⟨p,ys,rfl,hq,q⟩:=h;obtain⟨u,rfl,rx⟩:=vals1 r;cases rx;have fin:∀(its:List Value),jY ys its->ys.length<=ξ->∀(h':ky) (c':Nat),(∀b o',s.heap.get? b=some o'->h'.get? b=some o') →
   h'.get? s.heap.objs.size=some { cls:=.type "list",dict:=none,data:=.seq its.toArray c',slots:=#[] }->EP X pins σ Q (.ref s.heap.objs.size) { s with heap:=h' }:=fun its r' hz h' c' kp e =>
  ⟨.ref s.heap.objs.size,_,I.laid (t':=s.toks) kp (ι _) (show qZ X.prog X.w _ h' _ (.lst ys) from⟨hz,its,c',r',e⟩),rfl,q _ (I.hok.fresh (ι _))⟩
 rcases hq with hq|hq
 ·obtain⟨its,r',pl,hz⟩:=I.list hq;have hlen:=r'.length;obtain⟨o,ho,hc,n,hd⟩:=pl.isList;exact call_list_seq p (.inl rfl) ho hc hd (fun h' c' kp e=>fin its r' hz h' c' kp e) (by simp only[υ] <;> omega)
 ·obtain⟨its,r',pl,hz⟩:=I.tuple hq;have hlen:=r'.length;obtain⟨o,ho,hc,n,hd⟩:=pl;exact call_list_seq p (.inr rfl) ho hc hd (fun h' c' kp e=>fin its r' hz h' c' kp e) (by simp only[υ] <;> omega)
theorem bE:vN X (.type "tuple") (fun xs H Q=>∃p ys,xs=[.ref p]/\((SqL X.K H p ys/\∀l,H l=none->Q (.ref l) (upd H l (.tup ys)))\/(SqT X.K H p ys/\Q (.ref p) H))):=by
 intro pins s σ H xs us Q I r h;obtain⟨p,ys,rfl,h⟩:=h;obtain⟨u,rfl,rx⟩:=vals1 r;cases rx;rcases h with⟨hq,q⟩|⟨hq,q⟩
 ·obtain⟨its,r',pl,hz⟩:=I.list hq;have hlen:=r'.length;refine call_tuple_list pl.isList (fun h' kp=>?_) (by simp only[υ] <;> omega);have I1:Inv X pins σ H { s with heap:=h' }:=I.kept (t':=s.toks) kp;have I2:Inv X pins σ (upd H h'.objs.size (.tup ys)) { s with heap:=h'.push { cls:=.type "tuple",data:=.seq its.toArray } } :=
   I1.laid (t':=s.toks) (fun b o e=>ν _ e) (ι _) (show qZ X.prog X.w _ _ _ (.tup ys) from⟨hz,its,r',IsTup.new _ _⟩)
  exact⟨.ref h'.objs.size,_,I2,rfl,q _ (I1.hok.fresh (ι _))⟩
 ·obtain⟨its,r',pl,hz⟩:=I.tuple hq;exact call_tuple_same pl ⟨.ref p,H,I,rfl,q⟩
def tyV (K:Φ) (T:String) (x:V) (H:Hp):Prop:=match x with
 |.str _=>T = "str"
 |.int _=>T = "int"
 |.ref p=>(T = "list"/\∃xs,SqL K H p xs)\/(T = "tuple"/\∃o,K.lookup p=some o/\o.cls=.type "tuple"/\o.dict=none) ∨
   (T = "dict"/\((∃kvs,H p=some (.dK kvs))\/∃kvs,H p=some (.dT kvs)))\/(T = "set"/\∃S n,H p=some (.set S n))
 |_=>False
theorem aSd(I:Inv X pins σ H s)(r:RelV x v)(ty:tyV X.K T x H):
  s.TypeIs v T/\∀a,v=.ref a->∃ob,s.heap.get? a=some ob/\ob.dict=none:=by
 cases x with
 |str z =>
  obtain⟨t,rfl⟩:=r;cases (show T = "str" from ty);exact⟨typeIs_str s z t,fun _ e=>nomatch e⟩
 |int i =>
  obtain⟨t,rfl⟩:=r;cases (show T = "int" from ty);exact⟨typeIs_int s i t,fun _ e=>nomatch e⟩
 |ref p =>
  cases r;rcases ty with⟨rfl,xs,hq⟩|⟨rfl,o,hk,hc,hd⟩|⟨rfl,hk⟩|⟨rfl,S,n,hk⟩
  ·obtain⟨its,_,pl,_⟩:=I.list hq;refine⟨pl.isList.typeIs,fun a e=>?_⟩;cases e;obtain⟨o,n,e,c,hd,_⟩:=pl;exact⟨o,e,hd⟩
  ·refine⟨⟨o,I.kIn p o hk,hc⟩,fun a e=>?_⟩;cases e;exact⟨o,I.kIn _ o hk,hd⟩
  ·have z:∃o,s.heap.get? p=some o/\o.ExactDict:=by
    rcases hk with⟨kvs,hk⟩|⟨kvs,hk⟩
    ·obtain⟨_,_,_,_,o,_,_,e,ex,_⟩:=I.hok p _ hk;exact⟨o,e,ex⟩
    ·obtain⟨_,_,_,_,o,_,_,e,ex,_⟩:=I.hok p _ hk;exact⟨o,e,ex⟩
   obtain⟨o,e,ex⟩:=z;refine⟨⟨o,e,ex.1⟩,fun a e2=>?_⟩;cases e2;exact⟨o,e,ex.2.1⟩
  ·obtain⟨o,_,_,_,e,ex,_⟩:=I.hok p _ hk;refine⟨⟨o,e,ex.1⟩,fun a e2=>?_⟩;cases e2;exact⟨o,e,ex.2.1⟩
 |_=>exact ke ty
inductive aPo (K:Φ) (T:String) (r:V->List V->Hp->VK->Prop) (t:TA) (σ:St) (Q:VK) (x:V) (H1:Hp):Prop|mk:tyV K T x H1->(t σ H1 fun xs H2=>r x xs H2 Q)->aPo K T r t σ Q x H1
def tBM (K:Φ) (T:String) (r:V->List V->Hp->VK->Prop) (to:TE) (t:TA):TE:=fun σ H Q=>to σ H fun x H1=>aPo K T r t σ Q x H1
variable {o e:Expr}{es:List Expr}{to:TE}{t:TA}{name:Str}{apos cpos:Pos}{T id:String}{r:V->List V->Hp->VK->Prop}
theorem yJ(pa:PlainAttrs T)(slot:Slot T name id)(hty:typeOf (.builtin id)=pure (.type "method_descriptor"))(hm:MtR X id r)(ho:PE X o to)(ha:PA X (e::es) t)
  (hbase:we o name X.env (eval o X.env)=eval o X.env:=by rfl)
  (hfew:((qh cpos (iy (e::es) X.env)).all (fun x=>!x.1)&&(xj cpos (ua [] X.env)).all (fun x=>x.1.isSome)
   && decide ((e::es).length+([]:List Keyword).length+(if ([]:List Keyword).isEmpty then 0 else 1)<30))=true:=by rfl)
  (hline:(apos.endLine == cpos.line)=true:=by rfl)(hs:iy (e::es) X.env=(false,eval e X.env)::iy es X.env:=by rfl)(hplain:(qh cpos (iy es X.env)).any (·.1)=false:=by rfl):
  PE X (.Call (.Attribute o name apos) (e::es) [] cpos) (tBM X.K T r to t):=by
 intro pins s σ H Q I h;refine wpAny_Call_method_late hbase hfew hline rfl (thn (ho pins s σ H _ I h) fun v s1 zq=>?_);obtain⟨x,H1,I1,r1,ty,q1⟩:=zq;obtain⟨h1,h2⟩:=aSd I1 r1 ty;refine⟨T,id,pa,slot,hty,h1,h2,?_⟩;have hA:=ha cpos pins s1 σ H1 _ I1 q1;rw[hs]at hA ⊢;refine Calls.callWith_builtin (by show(false||(qh cpos (iy es X.env)).any (·.1))=false;rw[hplain] <;> rfl) (Calls.evalArgs_plain ?_);exact thn hA fun us s2 zq=>zq.el fun vs H2 I2 r2 q2=>hm pins s2 σ H2 x vs v us Q I2 r1 r2 q2
end
def MtM (X:Cx) (id:String) (r:V->List V->Hp->VK->Prop):Prop :=
 ∀(pins:List (Addr×Obj)) (s:μ) (σ:St) (H:Hp) (x:V) (xs:List V) (v:Value) (us:List Value) (Q:VK),Inv X pins σ H s->RelV x v->jY xs us->r x xs H Q →
  Ξ (je X.prog X.w) X.A (call (.builtin id) (v::us)) (EP X pins σ Q) X.xe s
theorem jY.one{x:V}(h:jY [x] us):∃u,us=[u]/\RelV x u:=by
 cases h with
 |cons r t=>cases t;exact⟨_,rfl,r⟩
theorem jY.two{x y:V}(h:jY [x,y] us):∃u v,us=[u,v]/\RelV x u/\RelV y v:=by
 cases h with
 |cons r t=>obtain⟨_,rfl,q⟩:=jY.one t;exact⟨_,_,rfl,r,q⟩
theorem jY.zero:∀{us:List Value},jY [] us->us=[]
 |_,.nil=>rfl
theorem jY.dropLast(h:jY xs us):jY xs.dropLast us.dropLast:=by
 induction h with
 |nil=>exact .nil
 |cons r t ih =>
  cases t with
  |nil=>exact .nil
  |cons q t'=>exact .cons r ih
theorem jY.reverse(h:jY xs us):jY xs.reverse us.reverse:=by
 induction h with
 |nil=>exact .nil
 |cons r t ih=>rw[List.reverse_cons,List.reverse_cons];exact jY.append ih (.cons r .nil)
section
variable {X:Cx}{pins:List (Addr×Obj)}{σ:St}{H:Hp}{s:μ}{l b:Addr}{xs ys zs:List V}
theorem Inv.lset{its its':List Value}{f:Array Value->Array Value}{t':Nat}(I:Inv X pins σ H s)(hH:H l=some (.lst xs))
  (e:s.heap.get? l=some { cls:=.type "list",data:=.seq its.toArray n })(hf:f its.toArray=its'.toArray)(hv:jY ys its')(hz:ys.length<=ξ):
  Inv X pins σ (upd H l (.lst ys)) { s with heap:=s.heap.update l (wu f),toks:=t' }:=by
 have q:=PySem.IsL.update e f;rw[hf]at q;refine I.write (x:=l) (e:=l) (by rw[hH];exact trivial) (.inl rfl) (fun b' u hb hu=>(ul s.heap (wu f) (kc hb)).trans hu) ⟨_,q⟩ ?_;exact⟨hz,its',_,hv,q⟩
theorem Inv.lnew{t':Nat}(I:Inv X pins σ H s)(hv:jY ys its)(hz:ys.length<=ξ):
  Inv X pins σ (upd H s.heap.objs.size (.lst ys)) { s with heap:=s.heap.push { cls:=.type "list",data:=.seq its.toArray },toks:=t' } :=
 I.laid (fun _ _ q=>ν _ q) (ι _) ⟨hz,its,0,hv,iw _ rfl⟩
theorem Inv.fresh(I:Inv X pins σ H s):H s.heap.objs.size=none:=I.hok.fresh (ι _)
theorem Inv.lstM(I:Inv X pins σ H s)(hH:H l=some (.lst xs)):xs.length<=ξ/\∃(its:List Value) (n:Nat),jY xs its/\xs.length=its.length/\s.heap.get? l=some { cls:=.type "list",data:=.seq its.toArray n }:=by
 obtain⟨z,its,n,r,e⟩:=I.hok l _ hH;exact⟨z,its,n,r,r.length,e⟩
theorem aIj{n:Nat}(h:n<=ξ):wg n=false:=by
 unfold wg;exact decide_eq_false (by omega)
end
section
variable {X:Cx}
inductive tM (x:V) (vs:List V) (H:Hp) (Q:VK):Prop|mk:∀l xs y,x=.ref l->vs=[y]->H l=some (.lst xs)->xs.length<ξ->Q .non (upd H l (.lst (xs++[y])))->tM x vs H Q
def aLy:V->List V->Hp->VK->Prop:=fun x vs H Q=>tM x vs H Q
theorem xV:MtM X "list.append" aLy:=by
 intro pins s σ H x vs v us Q I rx rv h;obtain⟨l,xs,y,rfl,rfl,hH,hz,q⟩:=h;cases rx;obtain⟨u,rfl,ru⟩:=rv.one;obtain⟨z,its,n,r,hl,e⟩:=I.lstM hH;refine vj F.slot_list_append ⟨_,e,rfl⟩ F.entry_list_append (F.args_list_append_2 _ _) (PySem.list_append l its.toArray n u (by rw[υ];omega)) ⟨e,?_⟩;refine⟨.non,_,I.lset (its':=its++[u]) hH e (by simp) (r.append (.cons ru .nil)) ?_,rfl,q⟩;rw[θ,km];omega
def aLs:V->List V->Hp->VK->Prop:=fun x vs H Q=>∃l b xs zs,x=.ref l/\vs=[.ref b]/\H l=some (.lst xs)/\H b=some (.lst zs)/\xs.length+zs.length<=ξ/\Q .non (upd H l (.lst (xs++zs)))
theorem aGo:MtM X "list.extend" aLs:=by
 intro pins s σ H x vs v us Q I rx rv h;obtain⟨l,b,xs,zs,rfl,rfl,hH,hB,hz,q⟩:=h;cases rx;obtain⟨u,rfl,ru⟩:=rv.one;cases ru;obtain⟨z,its,n,r,hl,e⟩:=I.lstM hH;obtain⟨z2,its2,n2,r2,hl2,e2⟩:=I.lstM hB;have hsz:its.toArray.size+its2.toArray.size<=ξ:=by rw[υ,υ];omega
 have hlong:¬ (!its.toArray.isEmpty&&wg (its.toArray.size+its2.toArray.size))=true:=by
  rw[aIj hsz,Bool.and_false];exact ρ
 refine vj F.slot_list_extend ⟨_,e,rfl⟩ F.entry_list_extend (F.args_list_extend_2 _ _)
  (AutoSeq1.list_extend_list_list_0 l its.toArray n b its2.toArray n2 hlong (by rw[υ];omega) (by omega)) ⟨e,e2,?_⟩
 refine⟨.non,_,I.lset (its':=its++its2) hH e (by simp) (r.append r2) ?_,rfl,q⟩;rw[θ];omega
def rCat:R2:=fun x y H Q=>∃l b xs zs,x=.ref l/\y=.ref b/\H l=some (.lst xs)/\H b=some (.lst zs)/\xs.length+zs.length<=ξ/\∀p,H p=none->Q (.ref p) (upd H p (.lst (xs++zs)))
theorem aQu:OpR X (qo .Add) rCat:=by
 intro pins s σ H x y v u Q I rx ry h;obtain⟨l,b,xs,zs,rfl,rfl,hH,hB,hz,q⟩:=h;cases rx;cases ry;obtain⟨z,its,n,r,hl,e⟩:=I.lstM hH;obtain⟨z2,its2,n2,r2,hl2,e2⟩:=I.lstM hB;refine PySem.P.add_list e e2 ?_ (by rw[υ,υ];omega);have ea:its.toArray++its2.toArray=(its++its2).toArray:=by simp
 rw[ea];exact⟨.ref _,_,I.lnew (t':=s.toks) (r.append r2) (by rw[θ];omega),rfl,q _ I.fresh⟩
end
end L2
namespace Att
open PySem PySem.W PySem.Calls PyProof.Rows
theorem nH : ∀(ns:List Int) (vs:List Value),WellAll P h vs (ns.map WData.int)->IntsAre vs ns:=by
 intro ns
 induction ns with
 |nil =>
  intro vs w;rw[List.map_nil]at w;cases w;exact .nil
 |cons n ns ih =>
  intro vs w;rw[ju]at w;cases w with
  |cons a b =>
   cases a;exact .cons _ _ (ih _ b)
theorem aGb{l:OpenLaw}(hn:l.most=some n)
  (hpre:l.row.toRowW.claim.pre args=true)(hwl:WellAll P h vals args):
  ∃a vs ns,vals=[jm a]/\args=[WData.list (ns.map WData.int)]/\h.get? a=some { cls:=.type "list",data:=.seq vs.toArray }/\IntsAre vs ns/\ns.length<=n:=by
 have hsh:WShape.hasAll [] args [.list .int]=true:=(pre_splitW hpre).1;have hc:l.pre.holds [] { args:=args }=true:=(pre_splitW hpre).2;obtain⟨d,r,rfl,h1,h2⟩:=hasAllW_cons hsh;obtain rfl:=hasAllW_nil h2;obtain⟨xs,rfl,h3⟩:=hasW_list h1;obtain⟨ns,rfl⟩:=items_int h3;have hlen:ns.length<=n:=by
  unfold OpenLaw.pre at hc;have h4:(WTm.not (.lt (.lit (.int (n:Int))) (.len (.arg 0)))).holds [] { args:=[.list (ns.map .int)] }=true:=by
   have h4:=(holds_andW hc).1;rw[hn]at h4;exact h4
  have h5:=condW_of h4 (w_not (w_lt w_lit (w_len_list (w_arg rfl))));rw[δ]at h5;refine Nat.le_of_not_lt fun q=>?_;have q':(n:Int)<((ns.length:Nat):Int):=by omega
  first
   | (rw[decide_eq_true q']at h5;exact absurd h5 (by decide))
   | (simp at h5;omega)
 cases hwl with
 |cons w1 w2 =>
  cases w2;cases w1 with
  |list ho hall=>exact⟨_,_,ns,rfl,rfl,ho,nH ns _ hall,hlen⟩
theorem aGm(l:OpenLaw)(args:List WData):l.row.toRowW.claim.post args (.bool true) args=true :=
 postW_of (r:=l.row.toRowW) (X:=(true == true))
  (show WShape.has [] (.bool true) .bool=true by first|rfl|decide|simp[WShape.has,WShape.arms,WShape.armsAll])
  (show(WTm.eq .res (.lit (.bool true))).value [] { args:=args,res:=some (.bool true),after:=args }=some (.bool (true == true)) from w_eq_bool (w_res rfl) w_lit) rfl
theorem attach_call{l:OpenLaw}{YP:mx->ky->Prop}{d:DefRec}
  (hn:l.most=some n)(hdf:d.params.defaults=[])
  (call:∀(w:mx) (s₀ s₁ : μ) (mg mb:Str->Option Value) (fa:Addr) (o:Obj) (pm cd doc:Value) (a:Addr) (vs:List Value) (ns:List Int),
   Ground q loose [] XP w s₀ mg mb s₁.heap->YP w s₁.heap →
   s₁.heap.get? fa=some o->o.data=.func (docDef d.name d.params d.body d.scope pm cd doc)->s₁.heap.CodeRec cd d.name->mg d.name=some (.ref fa) →
   s₁.heap.get? a=some { cls:=.type "list",data:=.seq vs.toArray }->IntsAre vs ns->ns.length<=n->s₁.gens = #[] →
   codeAny (je l.prog w) callerA (.call (.ref fa) ⟨[.ref a],[]⟩) (fun r s'=>r=.ok (.ret (.bool true))/\OldK s₁.heap s'.heap/\s'.os=s₁.os/\AllBare s'.gens) s₁):
  WalkO q loose XP YP l.row.toRowW d [] (fun f vs=>PySem.call f vs):=by
 intro w s₀ s₁ mg mb G Y fa o pm cd doc dV kV ho hd hcd hD hmg hg args vals as hpre hlay hrd hwl hlo;obtain rfl:dV=.none:=Dflts.none hD hdf;obtain rfl:kV=.none:=Dflts.noKw hD;obtain⟨a,vs,ns,rfl,rfl,hobj,hints,hlen⟩:=aGb hn hpre hwl;refine enter_call (codeAny_mono (call w s₀ s₁ mg mb fa o pm cd doc a vs ns G Y ho (fd_plain hd) hcd hmg hobj hints hlen hg) fun r s' hq=>?_);obtain⟨rfl,h2,h3,h4⟩:=hq;exact⟨.inl ⟨.bool true,.bool true,[],rfl,fun _=>rfl,.bool true,aGm l _,fun _=>⟨List.Pairwise.nil,fun _ hm=>(nomatch hm)⟩⟩,h2,h3,h4⟩
section
variable {prog:ki}{w:mx}{A:lg}{E:Value->μ->Prop}{s:μ}{K:Φ}
end
end Att
namespace L2
open PySem PySem.Spec PyProof.Rows
theorem tY:∀{vs:List Value}{ns:List Int},IntsAre vs ns->jY (ns.map V.int) vs
 |_,_,.nil=>.nil
 |_,_,.cons n t h=>.cons ⟨t,rfl⟩ (tY h)
def Only (H:Hp):Prop:=∀b,H b=none\/∃o xs,H b=some (.frz o (.lst xs))
theorem aKw{K:Φ}{mb:Str->Option Value}{CX:CXT}{a:Addr}{x:Str}{sp:Sp}{s₁: μ}{vs:List Value}
  (KX:K.In s₁.heap)(hns:s₁.heap.Ns Ψ mg)(hb:s₁.heap.Ns builtinsNs mb)(hbb:∀x:Str,x ≠ "__name__"->mb x=om x)(hlim:s₁.heap.NoLimit)(hg:s₁.gens = #[])
  (ha:s₁.heap.get? a=some { cls:=.type "list",data:=.seq vs.toArray })(hi:IntsAre vs ns)(hl:ns.length<=ξ)(hr:vY k callerA)
  (F:∀base:ky,K.In base->base.Ns Ψ mg->jU P w K mg base CX k fa fd [x] sp)(hbind:∀(s:μ) (u:Value),BindsTo s fd ⟨[u],[]⟩ [(x,u)])
  (hsp:∀H:Hp,Only H->SqL K H a (ns.map V.int)->sp [.ref a] H (fun v _=>v=.bl true) fun _ _ _=>False)
  (hCX:∀H e s',CX [] H s₁ (fun _ _ _=>False) e s'->False):
  codeAny (je P w) callerA (.call (.ref fa) ⟨[.ref a],[]⟩) (fun r s'=>r=.ok (.ret (.bool true))/\OldK s₁.heap s'.heap/\s'.os=s₁.os/\AllBare s'.gens) s₁:=by
 have rv:=tY hi;have lenV:=hi.length;have core:∀H:Hp,Only H->SqL K H a (ns.map V.int)->HOk P w H s₁.heap->(∀b,H b≠none->b=a)->(H a≠none->K.lookup a=none) →
   codeAny (je P w) callerA (.call (.ref fa) ⟨[.ref a],[]⟩) (fun r s'=>r=.ok (.ret (.bool true))/\OldK s₁.heap s'.heap/\s'.os=s₁.os/\AllBare s'.gens) s₁:=by
  intro H hO hS hok hA hK;have base_of:∀{b:Addr}{o:Obj},s₁.heap.get? b=some o->H b=none->(wH s₁.heap H).get? b=some o:=fun e n=>aKv e n;have noA:∀{b:Addr}{o:Obj}{es:Array DictEntry}{ep:Nat},s₁.heap.get? b=some o->o.data=.dict es ep->H b=none:=fun {b o es ep} e d=>by
   cases q:H b with
   |none=>rfl
   |some u =>
    have e':b=a:=hA b (by rw[q];simp);subst e';rw[ha]at e;cases e;have d':Data.seq vs.toArray _=Data.dict es ep:=d;cases d'
  have nsK:∀{b:Addr}{m:Str->Option Value},s₁.heap.Ns b m->(wH s₁.heap H).Ns b m:=fun {b m} ⟨o,es,ep,e,d,r⟩=>⟨o,es,ep,base_of e (noA e d),d,r⟩;have hKb:K.In (wH s₁.heap H):=fun b o e=>base_of (KX b o e) (by
   cases q:H b with
   |none=>rfl
   |some u =>
    have e':b=a:=hA b (by rw[q];simp);subst e';rw[hK (by rw[q];simp)]at e;cases e)
  have hM:Mod K mg (wH s₁.heap H):=⟨hKb,nsK hns,⟨mb,nsK hb,hbb⟩,let ⟨mc,h1,h2⟩:=hlim; ⟨mc,nsK h1,h2⟩⟩;have e0:sH P w K mg (wH s₁.heap H) callerA [] s₁ H:=⟨rfl,hM,fun b o e=>aMw e,Nat.le_of_eq (aGy _ _),trivial,fun b hb=>absurd (show b∈([]:List Addr) from hb) (by simp),hok,.of_eq hg⟩;refine codeAny_mono ((F _ hKb (nsK hns)).run callerA [] s₁ H ⟨[.ref a],[]⟩ [.ref a] [.ref a] _ _ hr e0 (hbind s₁ (.ref a)) (.cons rfl .nil) (hsp H hO hS)) fun r s' h=>?_;cases r with
  |error e=>exact(hCX H e s' h).elim
  |ok fl =>
   cases fl with
   |next=>exact ke h
   |brk=>exact ke h
   |cont=>exact ke h
   |ret u =>
    obtain⟨v,H',os,bare,un,hok',r',q⟩:=h;have q':v=.bl true:=q;subst q';obtain rfl:u=Value.bool true:=r';refine⟨rfl,OldK.of_keep fun b o e=>?_,os,bare⟩;cases q:H b with
    |none=>exact un.keep b o e q (by intro z;exact absurd (show b∈([]:List Addr) from z) (by simp)) (by simp)
    |some u =>
     rcases hO b with z|⟨ob,xs,z⟩
     ·rw[q]at z;cases z
     ·have z2:=un.frzs b ob _ z;obtain⟨e1,_⟩:=hok b _ z;obtain⟨e2,_⟩:=hok' b _ z2;rw[e]at e1;cases e1;exact e2
 cases hk:K.lookup a with
 |some o =>
  have e:=KX a o hk;rw[ha]at e;cases e;refine core (fun _=>none) (fun _=>.inl rfl) (.inr ⟨_,vs.toArray,_,hk,rfl,rfl,rfl,by rw[υ,lenV];exact hl,by simpa using rv⟩) (fun b u z=>by have z':(none:Option HO)=some u:=z;cases z') (fun b z=>absurd rfl z) fun z=>absurd rfl z
 |none =>
  refine core (fun b=>if b=a then some (.frz { cls:=.type "list",data:=.seq vs.toArray } (.lst (ns.map V.int))) else none) (fun b=>?_) (.inl (.inr ⟨{ cls:=.type "list",data:=.seq vs.toArray },if_pos rfl⟩)) (fun b u z=>?_) (fun b z=>?_) fun _=>hk
  ·by_cases hb:b=a
   ·exact .inr ⟨_,_,if_pos hb⟩
   ·exact .inl (if_neg hb)
  ·by_cases hb:b=a
   ·have z':=(if_pos hb).symm.trans z;cases z';subst hb;exact⟨ha,by rw[δ];exact hl,vs,_,rv,ha⟩
   ·have z':=(if_neg hb).symm.trans z;cases z'
  ·by_cases hb:b=a
   ·exact hb
   ·exact absurd (if_neg hb) z
theorem aNh{l:PySem.W.OpenLaw}{YP:mx->ky->Prop}{d:DefRec}{K:Params->Φ}{CX:mx->CXT}{sp:mx->Sp}{x:Str}
  (hn:l.most=some n)(hn2:n<=ξ)(hdf:d.params.defaults=[])(hr:vY k callerA)
  (hY:∀(w:mx) (h:ky),YP w h->(K w.params).In h)
  (F:∀(w:mx) (mg:Str->Option Value) (fa:Addr) (h:ky),(K w.params).In h->h.Ns Ψ mg->mg d.name=some (.ref fa) →
   ∃fd:tu,(∀(s:μ) (u:Value),BindsTo s fd ⟨[u],[]⟩ [(x,u)]) ∧
    ∀base:ky,(K w.params).In base->base.Ns Ψ mg->jU l.prog w (K w.params) mg base (CX w) k fa fd [x] (sp w))
  (hsp:∀(w:mx) (H:Hp) (a:Addr) (ns:List Int),ns.length<=n->Only H->SqL (K w.params) H a (ns.map V.int)->sp w [.ref a] H (fun v _=>v=.bl true) fun _ _ _=>False)
  (hCX:∀(w:mx) (H:Hp) (s:μ) (e:Value) (s':μ),CX w [] H s (fun _ _ _=>False) e s'->False):
  PySem.W.WalkO q loose XP YP l.row.toRowW d [] (fun f vs=>PySem.call f vs):=by
 refine Att.attach_call hn hdf fun w s₀ s₁ mg mb fa o pm cd doc a vs ns G Y ho hd hcd hmg hobj hints hlen hg=>?_;have KX:=hY w _ Y;obtain⟨fd,hb,hF⟩:=F w mg fa _ KX G.T.g hmg;exact aKw KX G.T.g G.T.b G.T.builtins G.T.nolimit hg hobj hints (jh hlen hn2) hr hF hb (fun H hO hS=>hsp w H a ns hlen hO hS) fun H e s'=>hCX w H s₁ e s'
def inClass (s:Stmt) (j:Nat):Stmt:=match s with
 |.ClassDef _ _ _ body _ _ _ _ _ _ _=>body.getD j (.Pass ⟨0,0,0,0⟩)
 |_=>.Pass ⟨0,0,0,0⟩
def cO (s:Stmt):Arguments:=match s with
 |.FunctionDef _ a _ _ _ _ _ _ _ _=>a
 |_=>{ posonlyargs:=[],args:=[],vararg:=none,kwonlyargs:=[],kw_defaults:=[],kwarg:=none,defaults:=[] }
def aP (s:Stmt):List Stmt:=match s with
 |.FunctionDef _ _ b _ _ _ _ _ _ _=>b
 |_=>[]
def jF (s:Stmt):Scope:=match s with
 |.FunctionDef _ _ _ _ _ _ sc _ _ _=>sc
 |_=>{ kind:=.function,names:=[],isGenerator:=false,isCoroutine:=false }
abbrev CX0:CXT:=fun _ _ _ _ _ _=>False
abbrev E0:XK:=fun _ _ _=>False
theorem qH : yH CX0 X E0:=fun _ _ _ _ _ _ _ h=>h.elim
structure Fun (K:Φ) (x qual:Str) (st:Stmt) (f:Addr) (fd:tu):Prop where
 ex:∃(oc:Value) (od:Option Addr) (kV doc pm:Value) (an:Option Addr) (cdv ct:Value) (osl:Array (Option Value)),
  fd=fnOf x qual (cO st) (aP st) (jF st) .none kV doc pm an cdv ct/\K.lookup f=some ⟨oc,od,.func fd,osl⟩/\codeIn K cdv qual=true
 kp:keepIn K (.ref f)=true
section
variable {P:ki}{w:mx}{K:Φ}{mg:Str->Option Value}{base:ky}
theorem Fun.ok{x qual:Str}{st:Stmt}{f:Addr}{fd:tu}{N ps:List Str}{k:Nat}{sp:Sp}(F:Fun K x qual st f fd)(S:jJ N ps (jF st))(len:∀vs H Q E,sp vs H Q E->vs.length=ps.length)
  (hbody:∀(cdv:Value) (A:lg) (outer:List Env) (s:μ) (H:Hp) (vs:List V) (Q:VK) (E:XK),vY k (A.deeper (envOfC qual (jF st) s.heap.objs.size f cdv))->sp vs H Q E →
   ∃t,PSs (aCt CX0 P w K mg base N qual (jF st) f cdv A outer s H E).nox (aP st) t/\t { nx:=fun _ H'=>Q .non H',rt:=Q } (start N vs) H):jU P w K mg base CX0 (k+1) f fd ps sp:=by
 obtain⟨oc,od,kV,doc,pm,an,cdv,ct,osl,rfl,lk,hcd⟩:=F.ex;refine fn_of lk hcd S len fun A outer s H vs Q E hr hsp=>?_;obtain⟨t,h,q⟩:=hbody cdv A outer s H vs Q E hr hsp;exact⟨t,h.nox,q⟩
theorem Fun.binds{x qual:Str}{st:Stmt}{f:Addr}{fd:tu}{ps:List Str}(F:Fun K x qual st f fd)
  (h:∀(kV doc pm:Value) (an:Option Addr) (cdv ct:Value) (us:List Value),us.length=ps.length->bindArgs (fnOf x qual (cO st) (aP st) (jF st) .none kV doc pm an cdv ct) ⟨us,[]⟩=pure (ps.zip us)):Binds K fd ps []:=by
 obtain⟨oc,od,kV,doc,pm,an,cdv,ct,osl,rfl,lk,hcd⟩:=F.ex;exact .all (h kV doc pm an cdv ct)
theorem aLl{x qual:Str}{st:Stmt}{f:Addr}{oc:Value}{od an:Option Addr}{osl:Array (Option Value)}{kV doc pm cdv ct:Value}(l:K.lookup f=some ⟨oc,od,.func (fnOf x qual (cO st) (aP st) (jF st) .none kV doc pm an cdv ct),osl⟩)
  (c:codeIn K cdv qual=true)(k:keepIn K (.ref f)=true):Fun K x qual st f (fnOf x qual (cO st) (aP st) (jF st) .none kV doc pm an cdv ct):=⟨⟨oc,od,kV,doc,pm,an,cdv,ct,osl,rfl,l,c⟩,k⟩
end
theorem qM{n:Nat}(h:n<=1000):n<ξ:=mj h (by decide)
section
variable {X:Cx}
theorem pv(i:Nat)(hN:X.N[i]?=some x:=by rfl)(hv:Vis X.env.scope x:=by first|exact Or.inl rfl|exact Or.inr (Or.inl rfl)|exact Or.inr (Or.inr rfl))(hd:(x == ("__debug__" : Str))=false:=by decide)
  (hcd:(x == ("__classdict__" : Str))=false:=by decide):PE X (.Name x pos) (tVar i):=aQz hN hv hd hcd
end
theorem aAc{A B:Prop}(h:B):if false=true then A else B:=by
 rw[if_neg ρ];exact h
theorem iteT{A B:Prop}(h:A):if true=true then A else B:=by
 rw[if_pos rfl];exact h
theorem vL{c A B:Prop}[Decidable c](h1:c->A)(h2:¬ c->B):if c then A else B:=by
 by_cases h:c
 ·rw[if_pos h];exact h1 h
 ·rw[if_neg h];exact h2 h
def jH (H H':Hp):Prop:=∀b o,H b=some o->H' b=some o
theorem jH.refl(H:Hp):jH H H:=fun _ _ h=>h
theorem jH.trans(a:jH H H1)(b:jH H1 H2):jH H H2:=fun c o h=>b c o (a c o h)
theorem jH.free{H H':Hp}(e:jH H H')(h:H' l=Option.none):H l=Option.none:=by
 cases q:H l with
 |none=>rfl
 |some o =>
  rw[e l o q]at h;cases h
theorem jH.seq{K:Φ}(e:jH H H')(h:SqL K H a xs):SqL K H' a xs:=by
 rcases h with (h|⟨o,h⟩)|h
 ·exact .inl (.inl (e _ _ h))
 ·exact .inl (.inr ⟨o,e _ _ h⟩)
 ·exact .inr h
end L2
set_option maxHeartbeats 4000000
namespace L2
open PySem PySem.Spec PyProof.Rows
theorem jY.getR:∀{xs:List V}{us:List Value}{i:Nat}{u:Value},jY xs us->us[i]?=some u->∃x,xs[i]?=some x/\RelV x u
 |_,_,_,_,.nil,e=>by simp at e
 |_,_,0,_,.cons r _,e=>by simp at e;subst e;exact⟨_,rfl,r⟩
 |_,_,i+1,u,.cons _ t,e=>by
  obtain⟨x,h1,h2⟩:=jY.getR (i:=i) (u:=u) t (by simpa using e);exact⟨x,by simpa using h1,h2⟩
def isa (t T:String):Bool:=t == T||(t == "bool" && T == "int")
def tyN (K:Φ) (x:V) (H:Hp) (t:String):Prop :=
 match x with
 |.non=>t = "NoneType"
 |.bl _=>t = "bool"
 |.int _=>t = "int"
 |.str _=>t = "str"
 |.ref p=>(t = "list"/\∃xs,SqL K H p xs)\/(t = "tuple"/\∃xs,SqT K H p xs)
 |_=>False
def tK:List String:=["int","bool","str","list","tuple","dict"]
section
variable {X:Cx}
theorem hJ:vN X (.builtin "isinstance") (fun xs H Q=>∃x T t,xs=[x,.ty T]/\T∈tK/\tyN X.K x H t/\Q (.bl (isa t T)) H):=by
 intro pins s σ H xs us Q I r h;obtain⟨x,T,t,rfl,hT,ht,q⟩:=h;obtain⟨u,w',rfl,rx,rT⟩:=vals2 r;cases rT;have hT':T = "int" ∨ T = "bool" ∨ T = "str" ∨ T = "list" ∨ T = "tuple" ∨ T = "dict":=by simpa [tK] using hT
 have fin:∀{k:Bool}{s':μ},isa t T=k->Inv X pins σ H s'->EP X pins σ Q (.bool k) s':=fun {k s'} e I'=>by subst e;exact⟨.bl _,H,I',rfl,q⟩
 cases x with
 |non =>
  cases rx;have ht':t = "NoneType":=ht;subst ht';rcases hT' with rfl|rfl|rfl|rfl|rfl|rfl
  ·exact IsiPair.NoneType_int (fin (by decide) (I.tok _))
  ·exact IsiPair.NoneType_bool (fin (by decide) (I.tok _))
  ·exact IsiPair.NoneType_str (fin (by decide) (I.tok _))
  ·exact IsiPair.NoneType_list (fin (by decide) (I.tok _))
  ·exact IsiPair.NoneType_tuple (fin (by decide) (I.tok _))
  ·exact IsiPair.NoneType_dict (fin (by decide) (I.tok _))
 |bl b =>
  cases rx;have ht':t = "bool":=ht;subst ht';rcases hT' with rfl|rfl|rfl|rfl|rfl|rfl
  ·exact IsiPair.bool_int (fin (by decide) I)
  ·exact IsiPair.bool_bool (fin (by decide) I)
  ·exact IsiPair.bool_str (fin (by decide) (I.tok _))
  ·exact IsiPair.bool_list (fin (by decide) (I.tok _))
  ·exact IsiPair.bool_tuple (fin (by decide) (I.tok _))
  ·exact IsiPair.bool_dict (fin (by decide) (I.tok _))
 |int i =>
  obtain⟨tk,rfl⟩:=rx;have ht':t = "int":=ht;subst ht';rcases hT' with rfl|rfl|rfl|rfl|rfl|rfl
  ·exact IsiPair.int_int (fin (by decide) I)
  ·exact IsiPair.int_bool (fin (by decide) (I.tok _))
  ·exact IsiPair.int_str (fin (by decide) (I.tok _))
  ·exact IsiPair.int_list (fin (by decide) (I.tok _))
  ·exact IsiPair.int_tuple (fin (by decide) (I.tok _))
  ·exact IsiPair.int_dict (fin (by decide) (I.tok _))
 |str y =>
  obtain⟨tk,rfl⟩:=rx;have ht':t = "str":=ht;subst ht';rcases hT' with rfl|rfl|rfl|rfl|rfl|rfl
  ·exact IsiPair.str_int (fin (by decide) (I.tok _))
  ·exact IsiPair.str_bool (fin (by decide) (I.tok _))
  ·exact IsiPair.str_str (fin (by decide) I)
  ·exact IsiPair.str_list (fin (by decide) (I.tok _))
  ·exact IsiPair.str_tuple (fin (by decide) (I.tok _))
  ·exact IsiPair.str_dict (fin (by decide) (I.tok _))
 |ref p =>
  cases rx;have ht':(t = "list"/\∃xs,SqL X.K H p xs)\/(t = "tuple"/\∃xs,SqT X.K H p xs):=ht;rcases ht' with⟨rfl,ys,hy⟩|⟨rfl,ys,hy⟩
  ·obtain⟨its,rv,⟨o,n,e,hc,_,_⟩,hz⟩:=I.list hy;rcases hT' with rfl|rfl|rfl|rfl|rfl|rfl
   ·exact IsiPair.list_int e hc (fin (by decide) (I.tok _))
   ·exact IsiPair.list_bool e hc (fin (by decide) (I.tok _))
   ·exact IsiPair.list_str e hc (fin (by decide) (I.tok _))
   ·exact IsiPair.list_list e hc (fin (by decide) I)
   ·exact IsiPair.list_tuple e hc (fin (by decide) (I.tok _))
   ·exact IsiPair.list_dict e hc (fin (by decide) (I.tok _))
  ·obtain⟨its,rv,⟨o,e,hc,n,_⟩,hz⟩:=I.tuple hy;rcases hT' with rfl|rfl|rfl|rfl|rfl|rfl
   ·exact IsiPair.tuple_int e hc (fin (by decide) (I.tok _))
   ·exact IsiPair.tuple_bool e hc (fin (by decide) (I.tok _))
   ·exact IsiPair.tuple_str e hc (fin (by decide) (I.tok _))
   ·exact IsiPair.tuple_list e hc (fin (by decide) (I.tok _))
   ·exact IsiPair.tuple_tuple e hc (fin (by decide) I)
   ·exact IsiPair.tuple_dict e hc (fin (by decide) (I.tok _))
 |_=>exact(show False from ht).elim
end
section
variable {prog:ki}{w:mx}{A:lg}{E:Value->μ->Prop}
theorem uA{it t:Addr}(hne:t≠it):∀(n i:Nat) (s:μ) (Q:List Value->μ->Prop),s.heap.IsListIter it t i->s.heap.IsList t items->i+n<=items.size →
  (∀h':ky,h'.IsListIter it t (i+n)->nr it s.heap h'->Q ((items.toList.drop i).take n) { s with heap:=h' })->Ξ (je prog w) A (draw (.ref it) n) Q E s
 |0,i,s,Q,hit,_,_,hQ=>by
  show Ξ _ _ (pure []) Q E s;exact ω (by simpa using hQ s.heap hit (nr.refl ..))
 |n+1,i,s,Q,hit,ht,hle,hQ=>by
  have hlt:i<items.size:=by omega
  show Ξ _ _ (vc (.ref it) >>= _) Q E s;refine ε (xi hit ht (x:=items[i]) (by simp[hlt]) fun h1 hit1 hs1=>?_);refine ε (kf (uA hne n (i+1) _ _ hit1 (ht.extBut hs1.extBut hne) (by omega) fun h2 hit2 hs2=>ω ?_));have hd:items.toList.drop i=items[i]::items.toList.drop (i+1):=by simp[ou,hlt]
  have:=hQ h2 (by rw[show i+(n+1)=i+1+n by omega];exact hit2) (hs1.trans hs2);rw[hd,List.take_succ_cons]at this;exact this
theorem lI{s:μ}{Q:List Value->μ->Prop}(hh:A.handled=none)(ht:s.heap.IsList t items)
  (hQ:∀h':ky,ky.ExtBut s.heap.objs.size s.heap h'->Q items.toList { s with heap:=h' }):Ξ (je prog w) A (unpackItems (.ref t) items.size none) Q E s:=by
 have hlt:t≠s.heap.objs.size:=by obtain⟨o,ho,_⟩:=ht;exact ir (ψ ho)
 unfold unpackItems;refine ε ?_
 ·unfold notIterableAtAll;refine ε (wpAny_specialOf ht.typeIs slot_list_iter.lookup ?_);refine ω ?_;simp only[pk,if_false];refine ε (kf (oz ht ?_));refine ε (kf (uA hlt items.size 0 _ _ ⟨_,iw _ rfl,rfl,rfl⟩ (ht.push _) (by omega) fun h1 hit1 hs1=>?_));have hall:List.take items.size (List.drop 0 items.toList)=items.toList:=by
   rw[List.drop_zero];exact li (by simp)
  rw[hall];rw[if_neg (by simp)];have ht1:h1.IsList t items:=(ht.push _).extBut hs1.extBut hlt;refine ε (kf (xx hh hit1 ht1 (by simp) fun h2 he2=>?_));simp only[Option.isSome_none,pk,if_false];refine ω (hQ h2 fun b o hb e=>he2 b o hb (hs1.extBut b o hb (ν _ e)))
theorem iT{s:μ}{x1}(hh:A.handled=none)(ht:s.heap.IsList t items)
  (hn:(qv elts env).length=items.size)(hstar:(qv elts env).findIdx? (·.1)=none)
  (h:∀h':ky,ky.ExtBut s.heap.objs.size s.heap h'->Ξ (je prog w) A (assignInOrder ((qv elts env).map (·.2)) items.toList) Q E { s with heap:=h' }):
  Ξ (je prog w) A (assign (.Tuple elts x1 pos) env (.ref t)) Q E s:=by
 rw[assign_Tuple];refine ε (va ?_);unfold unpack;rw[hn,hstar];exact ε (kf (lI hh ht h))
end
section
variable {X:Cx}{pos:Pos}
def gLst (K:Φ) (n:Nat) (t:TGs):TG:=fun v σ H Q=>∃a xs,v=.ref a/\SqL K H a xs/\xs.length=n/\t xs σ H Q
theorem aSi{n:Nat}(hc:X.calm=true)(h:PGs X es t)
  (hn:(qv es X.env).length=n:=by rfl)(hst:(qv es X.env).findIdx? (·.1)=none:=by rfl):PG X (.Tuple es k pos) (gLst X.K n t):=by
 intro pins s σ H v u Q I r hw;obtain⟨a,xs,e1,hq,hl,hw⟩:=hw;subst e1;cases r;obtain⟨its,rv,ht,hz⟩:=I.list hq;refine iT (I.ok.hd hc) ht.isList (by simp[hn,←hl,rv.length]) hst fun h' hx=>?_;have I1:Inv X pins σ H { s with heap:=h' }:=I.kept (t':=s.toks) fun b o e=>hx b o (ir (ψ e)) e;exact h pins _ σ H xs _ Q I1 (by simpa using rv) hw
theorem nN(bs:List Bool):(ph bs.length).all (fun i=>bs.getD i false)=bs.all id:=by
 rw[qw];simp only[iz,List.mem_range,id];constructor
 ·intro h x hx;obtain⟨i,hi,rfl⟩:=List.mem_iff_getElem.mp hx;have:=h i hi;simpa [jb,π hi] using this
 ·intro h i hi;have:=h bs[i] (yg hi);simpa [jb,π hi] using this
theorem iF(hc:X.calm=true):vN X (.builtin "all") (fun xs H Q=>∃(a:Addr) (bs:List Bool),xs=[.ref a]/\SqL X.K H a (bs.map V.bl)/\Q (.bl (bs.all id)) H):=by
 intro pins s σ H xs us Q I r h;obtain⟨a,bs,rfl,ha,q⟩:=h;obtain⟨u,rfl,rx⟩:=vals1 r;cases rx;obtain⟨its,rv,pl,hz⟩:=I.list ha;have hlen:bs.length=its.length:=by have:=rv.length;simpa using this
 have hlt:a≠s.heap.objs.size:=by obtain⟨o,n,ho,_⟩:=pl;exact ir (ψ ho)
 refine call_all_walk (oz pl.isList ?_);refine⟨s.heap.objs.size,_,_,_,_,_,fun i=>bs.getD i false,rfl,Walks.list (show X.A.in1.handled=none from I.ok.hd hc) _ a hlt its.toArray,⟨⟨_,iw _ rfl,rfl,rfl⟩,pl.isList.push _⟩,?_,fun h' tk hk=>?_⟩
 ·intro i v s' Q' E' hP hQ;have hv:its[i]?=some v:=by simpa using hP
  obtain⟨x,hx,rxv⟩:=rv.getR hv;rw[jv]at hx;cases hb:bs[i]? with
  |none=>rw[hb]at hx;cases hx
  |some b =>
   rw[hb]at hx;cases hx;cases rxv;have e:bs.getD i false=b:=by simp[jb,hb]
   have hQ':Q' (bs.getD i false) s':=hQ;rw[e]at hQ';exact mh hQ'
 ·refine⟨.bl (bs.all id),H,I.kept fun b o e=>hk b o (by simp;exact ir (ψ e)) (ν _ e),?_,q⟩;show Value.bool _=Value.bool _;rw[←nN bs,hlen];simp
end
abbrev Cx.comp (X:Cx) (scope:Scope) (cl:List (Str×Addr)) (N:List Str) (s:μ) (H:Hp) (fp:List Addr) (C:Addr):Cx where
 prog:=X.prog
 w:=X.w
 K:=X.K
 mg:=X.mg
 base:=X.base
 A:=X.A
 N:=N
 s₀:=s
 H₀:=H
 env:=compEnvC scope cl C X.env
 outer:=X.stack
 stack:=X.stack
 ex:=fp
 fn:=fun _=>false
 calm:=X.calm
 pn:=[]
 xe:=fun _ _=>False
def dE (env:Env):List (Str×Addr)->Prop
 |[]=>True
 |p::r=>env.cells.lookup p.1=some p.2/\dE env r
theorem dE.all : ∀{cl:List (Str×Addr)},dE env cl->∀p∈cl,env.cells.lookup p.1=some p.2
 |[],_,p,hp=>by simp at hp
 |_::_,h,p,hp=>(ο.mp hp).elim (fun e=>e ▸ h.1) (dE.all h.2 p)
theorem dE.at(h:dE env cl)(e:cl.lookup x=some c):env.cells.lookup x=some c :=
 h.all (x,c) (mr e)
def nM (X:Cx) (scope:Scope) (cl:List (Str×Addr)):List Str->List Nat->Prop
 |[],[]=>True
 |y::ys,j::js=>(X.N[j]?=some y/\X.env.kindOf y=some .cell/\(relabel scope X.env).names.lookup y=some .cell/\∃c,cl.lookup y=some c)/\nM X scope cl ys js
 |_,_=>False
theorem nM.get : ∀{ys:List Str}{js:List Nat}{k:Nat}{y:Str},nM X scope cl ys js->ys[k]?=some y →
  ∃j,js[k]?=some j/\X.N[j]?=some y/\X.env.kindOf y=some .cell/\(relabel scope X.env).names.lookup y=some .cell/\∃c,cl.lookup y=some c
 |[],[],k,y,_,e=>by simp at e
 |y'::ys,j::js,0,y,h,e=>by
  simp at e;subst e;exact⟨j,rfl,h.1⟩
 |y'::ys,j::js,k+1,y,h,e=>by
  obtain⟨j',e1,r⟩:=nM.get (k:=k) h.2 (by simpa using e);exact⟨j',by simpa using e1,r⟩
 |[],_::_,_,_,h,_=>h.elim
 |_::_,[],_,_,h,_=>h.elim
theorem nM.len : ∀{ys:List Str}{js:List Nat},nM X scope cl ys js->ys.length=js.length
 |[],[],_=>rfl
 |_::_,_::_,h=>by rw[χ,χ,nM.len h.2]
 |[],_::_,h=>h.elim
 |_::_,[],h=>h.elim
def iD (k:Nat) (js:List Nat) (σ:St):St:=xk k none++js.map fun j=>σ.getD j none
def PIf (X:Cx) (ifs:List Expr) (t:TT):Prop :=
 ∀(pins:List (Addr×Obj)) (s:μ) (σ:St) (H:Hp) (Q:Bool->Hp->Prop),Inv X pins σ H s->t σ H Q →
  Ξ (je X.prog X.w) X.A (forIn ifs true fun c r=>if r=true then do let ok ←isTrue c X.env (eval c X.env);pure (ux ok) else pure (ux r)) (TP X pins σ Q) X.xe s
def tYes:TT:=fun _ H Q=>Q true H
theorem qI : PIf X [] tYes:=fun _ _ _ H _ I h=>wpAny_tests_nil ⟨H,I,h⟩
theorem oP(h:PT X c t):PIf X [c] t:=fun pins s σ H Q I hq=>wpAny_tests_one (h pins s σ H Q I hq)
theorem Inv.nsys(I:Inv X pins σ H s):s.heap.objs.size≠mi:=fun z=>by
 have h:Ψ<s.heap.objs.size:=(I.mod.glob.keeps I.bk).lt;rw[z]at h;exact absurd h (by decide)
def hU (J:It) (k:Nat) (js:List Nat) (g:TG) (tc:TT) (te:TE) (σ:St) (Q:VK) (H1:Hp):Prop :=
 ∃W:Nat->Nat->St->List V->Hp->Prop,(∃m,W 0 m (iD k js σ) [] H1)/\∀i m σ' xs H',W i m σ' xs H' →
  (J.stop i H'/\∀p,H' p=none->p≠mi->Q (.ref p) (upd H' p (.lst xs))) ∨
  (J.go i H'/\xs.length<ξ/\∃N:St->List V->Hp->Prop,(∀σ' ys H',N σ' ys H'->∃m',m'<m/\W (i+1) m' σ' ys H') ∧
   ∀x H2,J.yld i H' x H2->g x σ' H2 fun σ3 H3=>tc σ3 H3 fun b H4=>if b=true then te σ3 H4 fun v H5=>N σ3 (xs++[v]) H5 else N σ3 xs H4)
def aKt (wi:TI) (k:Nat) (js:List Nat) (g:TG) (tc:TT) (te:TE):TE:=fun σ H Q=>wi σ H fun J H1=>hU J k js g tc te σ Q H1
section
variable {prog:ki}{w:mx}{A:lg}{R:Result->μ->Prop}{s:μ}
theorem uV{iter:Expr}{acc:Value}(I:Nat->μ->Prop)
  (turn:∀n s,I n s->Ξ (je prog w) A (vc it) (fun r s₁=>match r with
   |none=>R (.ok .next) s₁
   |some v=>Ξ (je prog w) A (wo target it v) (fun _ s₀=>Ξ (je prog w) A (assign target env v) (fun _ s₂ =>
     Ξ (je prog w) A (forIn ifs true fun c r=>if r=true then do let ok ←isTrue c env (eval c env);pure (ux ok) else pure (ux r)) (fun ok s₃ =>
      if ok=true then Ξ (je prog w) A (eval elt env) (fun x s₄ =>
       Ξ (je prog w) A (call (.builtin "list.append") [acc,x]) (fun _ s₅=>∃m,m<n/\I m s₅) (fun _ _=>False) s₄) (fun _ _=>False) s₃
      else ∃m,m<n/\I m s₃) (fun _ _=>False) s₂) (fun _ _=>False) s₀) (fun _ _=>False) s₁) (fun _ _=>False) s)
  (n:Nat)(h:I n s):codeAny (je prog w) A (.compLoop (.ListComp elt [⟨target,iter,ifs,0⟩] scope pos) 0 it acc env) R s:=by
 refine codeAny_loop rfl I (fun n s hI=>?_) n h;show Ξ _ A ((compTurn (.ListComp elt [⟨target,iter,ifs,0⟩] scope pos) 0 it acc env).onRaise (fun x=>do noteFrame x env;theTreesLotGoes x)) _ _ s;refine wpAny_noted ?_;rw[compTurn_list];refine ε (va (ε (md (turn n s hI) (fun r s₁ h₁=>?_) fun _ _ z=>ke z)));cases r with
 |none=>exact ω h₁
 |some v =>
  refine ε (md h₁ (fun _ s₀ h₀=>?_) fun _ _ z=>ke z);refine ε (md h₀ (fun _ s₂ h₂=>ε (md h₂ (fun ok s₃ h₃=>?_) fun _ _ z=>ke z)) fun _ _ z=>ke z);cases ok with
  |false=>exact ω ⟨rfl,h₃⟩
  |true =>
   exact ε (ε (md h₃ (fun x s₄ h₄=>ε (md h₄ (fun _ s₅ h₅=>ω (ω ⟨rfl,h₅⟩)) fun _ _ z=>ke z)) fun _ _ z=>ke z))
end
theorem HOk.but{H:Hp}{h':ky}(x:HOk P w H h)(hn:H C=none)(k:∀b o,b≠C->h.get? b=some o->h'.get? b=some o):HOk P w H h':=fun b u e =>
 (x b u e).stay (fun c v hc q=>k c v (by
  rcases hc with z|z
  ·intro y;rw[←z,y,hn]at e;cases e
  ·intro y;rw[y,hn]at z;cases z) q) (fun _ q=>q) fun _ _ q=>q
theorem HOk.track{H:Hp}(x:HOk P w H h)(hn:H a=none)(new:qZ P w (upd H a o) h a o):HOk P w (upd H a o) h:=fun b u e=>by
 by_cases hb:b=a
 ·subst hb;rw[jI]at e;cases e;exact new
 ·rw[jT hb]at e;exact(x b u e).stay (fun _ _ _ q=>q) (fun c q=>by rw[jT (jG q hn)];exact q) fun c xs q=>by rw[jT (jG q hn)];exact q
section
variable {X:Cx}{elt tg iter:Expr}{ifs:List Expr}{scope:Scope}{cl:List (Str×Addr)}{ts ys:List Str}{js:List Nat}{pos:Pos}{wi:TI}{g:TG}{tc:TT}{te:TE}
theorem aFz{i:Nat}(h:(iD k js σ)[i]?=some (some v)):∃n j,i=k+n/\js[n]?=some j/\σ[j]?=some (some v):=by
 unfold iD at h
 by_cases hi:i<k
 ·rw[jd (by simpa using hi),List.getElem?_replicate]at h
  split at h <;> cases h
 ·rw[iu (by simpa using hi),jv,qg]at h;cases e:js[i-k]? with
  |none=>rw[e]at h;cases h
  |some j =>
   rw[e]at h;have h' : σ.getD j none=some v:=mw h;refine⟨i-k,j,by omega,e,?_⟩;rw[jb]at h';cases q : σ[j]? with
   |none=>rw[q]at h';cases h'
   |some o=>rw[q]at h';exact congrArg some h'
theorem aBm{s:μ}{fp:List Addr}{C:Addr}{h1:ky}{t':Nat}(I:Inv X pins σ H s)(hsub:dE X.env cl)(hcap:nM X scope cl ys js)
  (hkind:scope.kind=.function)(hhas:∀x,((relabel scope X.env).names.lookup x=some .cell\/(relabel scope X.env).names.lookup x=some .free)->∃c,cl.lookup x=some c)
  (f2:∀b∈fp,dQ X pins H b)(fl:∀b∈fp,b<s.heap.objs.size)(hC:s.heap.objs.size<=C)(hn:h1.Ns C m)(old:∀b o,s.heap.get? b=some o->h1.get? b=some o):
  Inv (X.comp scope cl (ts++ys) s H fp C) [] (iD ts.length js σ) H { s with heap:=h1,toks:=t' }:=by
 obtain⟨mo,hno,hlo⟩:=id I.loc;refine⟨⟨I.ok.mod,hkind,I.ok.glob,I.ok.blt,hC,fun x y c e1 e2=>I.ok.inj x y c (hsub.at e1) (hsub.at e2),fun x hx=>hhas x hx,fun x c z _=>(by cases z),I.ok.hd,I.ok.frames,.inl rfl,
   fun b hb=>⟨ir (ς (fl b hb) hC),fun x c e=>(f2 b hb).2.2.2.2.1 x c (hsub.at e)⟩,I.bs,jh I.ok.bsz I.sz,fun b o e hb=>?_,fun b hb z=>?_,I.stack,I.stkFree⟩,
  rfl,I.bare,Un.kept old,⟨m,hn,fun i x v e1 e2 e3=>?_⟩,fun x c e=>?_,I.hok.fresh hC,fun x c e=>I.freeC x c (hsub.at e),fun p hp=>absurd (show p∈([]:List (Addr×Obj)) from hp) (by simp),I.hok.kept old,?_⟩
 ·-- an object of the base is none of the iterator's
  obtain⟨_,_,_,h3,_⟩:=f2 b hb;rcases h3 with z|z
  ·exact I.ok.noex b o e z
  ·exact absurd (ς (ψ e) (jh I.ok.bsz z)) (nk _)
 ·obtain⟨_,h1',h2',_⟩:=f2 b hb;rcases ο.mp (I.stkSub b z) with e|e
  ·exact h1' e
  ·exact h2' e
 ·obtain⟨n,j,rfl,ej,es⟩:=aFz e2;have ey:ys[n]?=some x:=by
   have e1':(ts++ys)[ts.length+n]?=some x:=e1;rw[iu (by omega)]at e1';simpa using e1'
  obtain⟨j',ej',hN,hk,hr,c,hc⟩:=hcap.get ey;rw[ej]at ej';cases ej';obtain⟨u,ru,l⟩:=hlo j x v hN es (.inr (.inl hk));refine⟨u,ru,.inr ⟨.inl hr,c,hc,?_⟩⟩;rcases l with⟨k1,_⟩|⟨_,c',hc',⟨o,ho,hd⟩⟩
  ·rw[hk]at k1;cases k1
  ·have:=hsub.at hc;rw[hc']at this;cases this;exact⟨o,old _ o ho,hd⟩
 ·obtain⟨v,o,ho,hd⟩:=I.cell x c (hsub.at e);exact⟨v,o,old _ o ho,hd⟩
 ·show(iD ts.length js σ).length=(ts++ys).length;unfold iD;rw[θ,θ,qg,δ,hcap.len]
theorem aAs{H3:Hp}{s4:μ}{fp:List Addr}{D:Addr}(I2:Inv X pins σ H2 s2)(f2:∀b∈fp,dQ X pins H2 b)
  (I4:Inv (X.comp scope cl N s2 H2 fp C) pins' σ' H3 s4)(hC:s2.heap.objs.size<=C)(hD:s2.heap.objs.size<=D)(hDC:D≠C)(hs':nr C s4.heap h')(rv:jY xs its)(hz:xs.length<=ξ)(e4:s4.heap.get? D=some { cls:=.type "list",data:=.seq its.toArray n })(hn:H3 D=none):
  Inv X pins σ (upd H3 D (.lst xs)) { s4 with heap:=h' }:=by
 have ext:=hs'.extBut;have neC:∀b o,s2.heap.get? b=some o->b≠C:=fun b o e=>ir (ς (ψ e) hC);have neD:∀b o,s2.heap.get? b=some o->b≠D:=fun b o e=>ir (ς (ψ e) hD);have hok:HOk X.prog X.w (upd H3 D (.lst xs)) h':=by
  have h1:HOk X.prog X.w H3 h':=HOk.but (C:=C) I4.hok I4.free fun b o hb e=>ext b o hb e;exact HOk.track h1 hn ⟨hz,its,n,rv,ext D _ hDC e4⟩
 have B:Un (frs X.stack) fp H2 H3 s2.heap s4.heap:=I4.base;have u:Un (frs X.stack) fp H2 (upd H3 D (.lst xs)) s2.heap h':=by
  refine⟨fun b o e q hb hx=>ext b o (neC b o e) (B.keep b o e q hb hx),fun b o e q hb hx=>?_,fun b o e q hx=>?_,fun b o e hx=>?_,fun b ys q=>?_,fun b o ys q=>?_,fun b ps q=>?_⟩
  ·obtain⟨sl,e1⟩:=B.slot b o e q hb hx;exact⟨sl,ext b _ (neC b o e) e1⟩
  ·rw[jT (neD b o e)];exact B.free b o e q hx
  ·obtain⟨o',e1⟩:=B.there b o e hx;exact⟨o',ext b _ (neC b o e) e1⟩
  ·have:=B.tups b ys q;rw[jT (jG this hn)];exact this
  ·have:=B.frzs b o ys q;rw[jT (jG this hn)];exact this
  ·obtain⟨m1,e1⟩:=B.tbls b ps q;exact⟨m1,by rw[jT (jG e1 hn)];exact e1⟩
 have os:s4.os=s2.os:=I4.os;have gb:=I4.bare;obtain⟨hh,gg,dd,tt,os'⟩:=s4;obtain rfl:os'=s2.os:=os;have fin:=I2.call (h':=h') (g':=gg) (d':=dd) (t':=tt) (ch:=fp) u hok gb fun b hb=>⟨(f2 b hb).2.2.2.1,(f2 b hb).2.1,(f2 b hb).2.2.2.2.1,(f2 b hb).2.2.2.2.2⟩;exact fin
end
abbrev vM (js:List Nat) (σ:St):St:=js.map fun j=>σ.getD j none
def aB (P:Nat->List V->Hp->Prop) (i:Nat) (js:List Nat) (σ:St):St->List V->Hp->Prop:=fun σ' ys H=>P (i+1) ys H/\∃o,σ'=o::vM js σ
theorem vI{K:Φ}{xs:List V}{k:Nat}{tc:TT}{te:TE}{Q:VK}(P:Nat->List V->Hp->Prop)(h0:P 0 [] H1)(hl:∀i ys H,i<=xs.length->P i ys H->SqL K H a xs/\ys.length<=i)(hz:xs.length<ξ)
  (hs:∀i x ys H,xs[i]?=some x->P i ys H->tc (some x::vM js σ) H fun b H2=>if b=true then te (some x::vM js σ) H2 fun v H3=>aB P i js σ (some x::vM js σ) (ys++[v]) H3 else aB P i js σ (some x::vM js σ) ys H2)
  (hd:∀ys H,P xs.length ys H->∀p,H p=none->Q (.ref p) (upd H p (.lst ys)))(hk:k=1:=by rfl):
  hU (Itl K a) k js (zS 0) tc te σ Q H1:=by
 subst hk;refine⟨fun i m σ' ys H=>m=xs.length-i/\i<=xs.length/\P i ys H/\∃o,σ'=o::vM js σ,⟨xs.length,by simp,jg _,h0,none,rfl⟩,?_⟩;rintro i m σ' ys H ⟨rfl,hi,p,o,rfl⟩;obtain⟨q,hy⟩:=hl i ys H hi p
 by_cases hlt:i<xs.length
 ·refine .inr ⟨⟨xs,xs[i],q,by simp[hlt]⟩,by omega,aB P i js σ,fun σ3 zs H3 z=>⟨xs.length-(i+1),by omega,rfl,hlt,z.1,z.2⟩,fun x H' y=>?_⟩;obtain⟨e,y⟩:=y;subst e;exact hs i x ys _ (y xs q) p
 ·have e:i=xs.length:=by omega
  subst e;exact .inl ⟨⟨xs,q,ι _⟩,fun l n _=>hd ys H p l n⟩
theorem aAx{K:Φ}{xs:List V}{k:Nat}{tc:TT}{te:TE}{Q:VK}(P:Nat->List V->Hp->Prop)(h0:P 0 [] H1)(hl:∀i ys H,i<=xs.length->P i ys H->SqT K H a xs/\ys.length<=i)(hz:xs.length<ξ)
  (hs:∀i x ys H,xs[i]?=some x->P i ys H->tc (some x::vM js σ) H fun b H2=>if b=true then te (some x::vM js σ) H2 fun v H3=>aB P i js σ (some x::vM js σ) (ys++[v]) H3 else aB P i js σ (some x::vM js σ) ys H2)
  (hd:∀ys H,P xs.length ys H->∀p,H p=none->Q (.ref p) (upd H p (.lst ys)))(hk:k=1:=by rfl):
  hU (Itt K a) k js (zS 0) tc te σ Q H1:=by
 subst hk;refine⟨fun i m σ' ys H=>m=xs.length-i/\i<=xs.length/\P i ys H/\∃o,σ'=o::vM js σ,⟨xs.length,by simp,jg _,h0,none,rfl⟩,?_⟩;rintro i m σ' ys H ⟨rfl,hi,p,o,rfl⟩;obtain⟨q,hy⟩:=hl i ys H hi p
 by_cases hlt:i<xs.length
 ·refine .inr ⟨⟨xs,xs[i],q,by simp[hlt]⟩,by omega,aB P i js σ,fun σ3 zs H3 z=>⟨xs.length-(i+1),by omega,rfl,hlt,z.1,z.2⟩,fun x H' y=>?_⟩;obtain⟨e,y⟩:=y;subst e;exact hs i x ys _ (y xs q) p
 ·have e:i=xs.length:=by omega
  subst e;exact .inl ⟨⟨xs,q,ι _⟩,fun l n _=>hd ys H p l n⟩
theorem fV{lo:Int}{n:Nat}{k:Nat}{tc:TT}{te:TE}{Q:VK}(P:Nat->List V->Hp->Prop)(h0:P 0 [] H1)(hl:∀i ys H,i<=n->P i ys H->ys.length<=i)(hz:n<ξ)
  (hs:∀i ys H,i<n->P i ys H->tc (some (.int (lo+i))::vM js σ) H fun b H2=>if b=true then te (some (.int (lo+i))::vM js σ) H2 fun v H3=>aB P i js σ (some (.int (lo+i))::vM js σ) (ys++[v]) H3 else aB P i js σ (some (.int (lo+i))::vM js σ) ys H2)
  (hd:∀ys H,P n ys H->∀p,H p=none->Q (.ref p) (upd H p (.lst ys)))(hk:k=1:=by rfl):
  hU (Itr lo n) k js (zS 0) tc te σ Q H1:=by
 subst hk;refine⟨fun i m σ' ys H=>m=n-i/\i<=n/\P i ys H/\∃o,σ'=o::vM js σ,⟨n,by simp,jg _,h0,none,rfl⟩,?_⟩;rintro i m σ' ys H ⟨rfl,hi,p,o,rfl⟩;have hy:=hl i ys H hi p
 by_cases hlt:i<n
 ·refine .inr ⟨hlt,by omega,aB P i js σ,fun σ3 zs H3 z=>⟨n-(i+1),by omega,rfl,hlt,z.1,z.2⟩,fun x H' y=>?_⟩;obtain⟨e,y⟩:=y;subst e;subst y;exact hs i ys _ hlt p
 ·have e:i=n:=by omega
  subst e;exact .inl ⟨ι _,fun l n _=>hd ys H p l n⟩
section
variable {X:Cx}
theorem aJe(K:Φ)(h:X.K=K):IxR X (rIxL K):=h ▸ jO
end
section
variable {κ : Type} [DecidableEq κ]
def vZ (kvs:List (κ×V)) (k : κ):Option V:=(kvs.find? fun kv=>decide (kv.1=k)).map (·.2)
def putK (kvs:List (κ×V)) (k : κ) (v:V):List (κ×V) :=
 if (kvs.any fun kv=>decide (kv.1=k))=true then kvs.map (fun kv=>if kv.1=k then (kv.1,v) else kv) else kvs++[(k,v)]
def aOo (kvs:List (κ×V)) (k : κ):List (κ×V):=kvs.filter fun kv=>decide (kv.1≠k)
theorem iO{p: κ×V}{r:List (κ×V)}{k: κ}(e:p.1=k):vZ (p::r) k=some p.2:=by simp[vZ,qx,e]
theorem hV{p: κ×V}{r:List (κ×V)}{k: κ}(e:¬ p.1=k):vZ (p::r) k=vZ r k:=by simp[vZ,qx,e]
theorem aBw(k : κ):∀kvs:List (κ×V),(kvs.any fun kv=>decide (kv.1=k))=(vZ kvs k).isSome
 |[]=>rfl
 |p::r=>by
  rw[yk]
  by_cases e:p.1=k
  ·simp only[iO e,decide_eq_true e,Bool.true_or,Option.isSome_some]
  ·rw[hV e,decide_eq_false e,Bool.false_or];exact aBw k r
theorem aL(kvs:List (κ×V))(k : κ)(v:V):(putK kvs k v).length<=kvs.length+1:=by
 unfold putK
 split
 ·rw[δ];omega
 ·rw[θ,χ,List.length_nil];omega
theorem cX.isSome_eq(r:cX o u):o.isSome=u.isSome:=by
 cases o with
 |none=>cases u with
  |none=>rfl
  |some _=>exact(show False from r).elim
 |some _=>cases u with
  |none=>exact(show False from r).elim
  |some _=>rfl
theorem cX.getD(r:cX o u)(rd:RelV d d'):RelV (o.getD d) (u.getD d'):=by
 cases o with
 |none=>cases u with
  |none=>exact rd
  |some _=>exact(show False from r).elim
 |some _=>cases u with
  |none=>exact(show False from r).elim
  |some _=>exact r
theorem KV.val(r:KV kvs vs)(k : κ):cX (vZ kvs k) (wq vs k):=by
 unfold KV at r
 induction r with
 |nil=>exact lu
 | @cons p q ps qs h t ih =>
  obtain⟨h1,h2⟩:=h
  by_cases e:p.1=k
  ·have e':q.1=k:=h1.symm.trans e;have b:wq (q::qs) k=some q.2:=by simp[wq,qx,e']
   rw[iO e,b];exact h2
  ·have e':¬ q.1=k:=fun z=>e (h1.trans z);have b:wq (q::qs) k=wq qs k:=by simp[wq,qx,e']
   rw[hV e,b];exact ih
theorem KV.any(r:KV kvs vs)(k : κ):(kvs.any fun kv=>decide (kv.1=k))=vs.any fun kv=>decide (kv.1=k):=by
 unfold KV at r
 induction r with
 |nil=>rfl
 |cons h t ih=>rw[yk,yk,ih,h.1]
theorem KV.repl(r:KV kvs vs)(k : κ)(ry:RelV y u):
  KV (kvs.map fun kv=>if kv.1=k then (kv.1,y) else kv) (vs.map fun kv=>if kv.1=k then (kv.1,u) else kv):=by
 unfold KV at r ⊢
 induction r with
 |nil=>exact .nil
 | @cons p q ps qs h t ih =>
  rw[ju,ju];refine .cons ?_ ih;obtain⟨h1,h2⟩:=h
  by_cases e:p.1=k
  ·rw[if_pos e,if_pos (h1.symm.trans e)];exact⟨h1,ry⟩
  ·rw[if_neg e,if_neg (fun z=>e (h1.trans z))];exact⟨h1,h2⟩
theorem KV.put(r:KV kvs vs)(k : κ)(ry:RelV y u):KV (putK kvs k y) (stored vs k u):=by
 unfold putK stored;rw[r.any k]
 by_cases e:(vs.any fun kv=>decide (kv.1=k))=true
 ·rw[if_pos e,if_pos e];exact r.repl k ry
 ·rw[if_neg e,if_neg e];exact yo.snoc r ⟨rfl,ry⟩
theorem KV.drop(r:KV kvs vs)(k : κ):KV (aOo kvs k) (without vs k):=by
 unfold KV at r ⊢;unfold aOo without
 induction r with
 |nil=>exact .nil
 | @cons p q ps qs h t ih =>
  obtain⟨h1,h2⟩:=h;rw[List.filter_cons,List.filter_cons]
  by_cases e:p.1=k
  ·have a:¬ decide (p.1≠k)=true:=by simp[e]
   have b:¬ decide (q.1≠k)=true:=by simp[h1.symm.trans e]
   rw[if_neg a,if_neg b];exact ih
  ·have e':¬ q.1=k:=fun z=>e (h1.trans z);have a:decide (p.1≠k)=true:=by simp[e]
   have b:decide (q.1≠k)=true:=by simp[e']
   rw[if_pos a,if_pos b];exact .cons ⟨h1,h2⟩ ih
theorem KV.keys{kvs:List (κ×V)}{vs:List (κ×Value)}(r:KV kvs vs):kvs.map (·.1)=vs.map (·.1):=by
 unfold KV at r
 induction r with
 |nil=>rfl
 |cons h t ih=>rw[ju,ju,ih,h.1]
theorem KV.length(r:KV kvs vs):kvs.length=vs.length:=ud r
end
theorem eZ(r:RelV (kV k) u):(kJ P w).is k u=true:=by
 cases k with
 |inl i=>obtain⟨t,e⟩:=(show ∃t,u=Value.int i t from r);subst e;exact aBa P w i t
 |inr x=>obtain⟨t,e⟩:=(show ∃t,u=Value.str x t from r);subst e;exact aBz P w x t
theorem tH : ∀{ks:List Key}{us:List Value},jY (ks.map kV) us->ItemsAre (kJ P w) ks us
 |[],_,r=>by rw[List.map_nil]at r;cases r;exact .nil
 |k::ks,_,r=>by
  rw[ju]at r;cases r with
  |cons h t=>exact .cons (eZ h) (tH t)
abbrev KT (H:Hp):List (List Key×V)->List (List Key×Addr×Value)->Prop:=yo fun p q=>p.1=q.1/\H q.2.1=some (.tup (p.1.map kV))/\RelV p.2 q.2.2
theorem KT.val(r:KT H kvs xs)(k:List Key):cX (vZ kvs k) ((atKey xs k).map (·.2)):=by
 induction r with
 |nil=>exact lu
 | @cons p q ps qs h t ih =>
  obtain⟨h1,_,h2⟩:=h
  by_cases e:p.1=k
  ·have e':q.1=k:=h1.symm.trans e;have b:atKey (q::qs) k=some q.2:=by simp[atKey,qx,e']
   rw[iO e,b];exact h2
  ·have e':¬ q.1=k:=fun z=>e (h1.trans z);have b:atKey (q::qs) k=atKey qs k:=by simp[atKey,qx,e']
   rw[hV e,b];exact ih
theorem KT.repl(r:KT H kvs xs)(k:List Key)(ry:RelV y u):
  KT H (kvs.map fun kv=>if kv.1=k then (kv.1,y) else kv) (xs.map (putAt k u)):=by
 induction r with
 |nil=>exact .nil
 | @cons p q ps qs h t ih =>
  rw[ju,ju];refine .cons ?_ ih;obtain⟨h1,h2,h3⟩:=h;unfold putAt
  by_cases e:p.1=k
  ·rw[if_pos e,if_pos (h1.symm.trans e)];exact⟨h1,h2,ry⟩
  ·rw[if_neg e,if_neg (fun z=>e (h1.trans z))];exact⟨h1,h2,h3⟩
theorem KT.put{H:Hp}(r:KT H kvs xs)(k:List Key)(hb:H b=some (.tup (k.map kV)))(ry:RelV y u):
  KT H (putK kvs k y) (storedH xs k b u):=by
 have e:(kvs.any fun kv=>decide (kv.1=k))=(atKey xs k).isSome:=by
  rw[aBw,(r.val k).isSome_eq,Option.isSome_map]
 unfold putK storedH;rw[e]
 by_cases q:(atKey xs k).isSome=true
 ·rw[if_pos q,if_pos q];exact r.repl k ry
 ·rw[if_neg q,if_neg q];exact yo.snoc r ⟨rfl,hb,ry⟩
theorem KT.keeps{H H':Hp}(r:KT H kvs xs)(ht:∀b ys,H b=some (.tup ys)->H' b=some (.tup ys)):KT H' kvs xs :=
 Paired.mapP r fun _ _ z=>⟨z.1,ht _ _ z.2.1,z.2.2⟩
section
variable {P:ki}{w:mx}{H:Hp}{h:ky}{a:Addr}
theorem aOj(ok:HOk P w H h)(e:Rd H a u):qZ P w H h a u:=e.ok ok
theorem mR(ok:HOk P w H h)(e:Rd H a (.dK kvs)):kvs.length<=ξ/\(a == mi)=false/\∃vs,KV kvs vs/\h.DictOf (kJ P w) a vs :=
 show qZ P w H h a (.dK kvs) from aOj ok e
theorem mS(ok:HOk P w H h)(e:H a=some (.dK kvs)):kvs.length<=ξ/\(a == mi)=false/\∃vs,KV kvs vs/\h.DictOf (kJ P w) a vs:=mR ok (.inl e)
theorem lS{ks:List Key}(ok:HOk P w H h)(e:H a=some (.tup (ks.map kV))):(tupleKind (kJ P w)).is h ks a:=by
 obtain⟨_,its,r,o,h1,h2,n,h3⟩:=(show qZ P w H h a (.tup (ks.map kV)) from ok a _ e);exact⟨o,its.toArray,n,h1,h2,h3,by simpa using tH r⟩
theorem pL(ok:HOk P w H h)(e:Rd H a (.dT kvs)):kvs.length<=ξ/\(a == mi)=false ∧
  ∃xs,KT H kvs xs/\h.DictOfH (tupleKind (kJ P w)) a xs:=by
 obtain⟨z,y,xs,r,o,es,ep,h1,h2,h3,h4,h5⟩:=(show qZ P w H h a (.dT kvs) from aOj ok e);refine⟨z,y,xs,r,o,es,ep,h1,h2,h3,h4,fun x hx=>?_,h5⟩;have all:∀{l:List (List Key×V)}{m:List (List Key×Addr×Value)},KT H l m->∀x∈m,(tupleKind (kJ P w)).is h x.1 x.2.1:=by
  intro l m q
  induction q with
  |nil=>intro x hx;exact nomatch hx
  | @cons p q ps qs hq t ih =>
   intro x hx;rcases ο.mp hx with e|hx
   ·subst e;exact lS ok (by rw[←hq.1];exact hq.2.1)
   ·exact ih x hx
 exact all r x hx
theorem dt_of(ok:HOk P w H h)(e:H a=some (.dT kvs)):kvs.length<=ξ/\(a == mi)=false ∧
  ∃xs,KT H kvs xs/\h.DictOfH (tupleKind (kJ P w)) a xs:=pL ok (.inl e)
end
def vX (H:Hp) (a:Addr) (y:V) (r:Option V):Prop :=
 (∃kvs k,Rd H a (.dK kvs)/\y=kV k/\r=vZ kvs k)\/∃kvs k b,Rd H a (.dT kvs)/\y=.ref b/\H b=some (.tup (k.map kV))/\r=vZ kvs k
def cM (H:Hp) (a:Addr) (y v:V) (H':Hp):Prop :=
 (∃kvs k,H a=some (.dK kvs)/\y=kV k/\kvs.length<ξ/\H'=upd H a (.dK (putK kvs k v))) ∨
 ∃kvs k b,H a=some (.dT kvs)/\y=.ref b/\H b=some (.tup (k.map kV))/\kvs.length<ξ/\H'=upd H a (.dT (putK kvs k v))
theorem vX.k{H:Hp}{a:Addr}{kvs:List (Key×V)}{k:Key}(e:H a=some (.dK kvs)):vX H a (kV k) (vZ kvs k):=.inl ⟨kvs,k,.inl e,rfl,rfl⟩
theorem vX.t{H:Hp}{k:List Key}(e:H a=some (.dT kvs))(eb:H b=some (.tup (k.map kV))):vX H a (.ref b) (vZ kvs k):=.inr ⟨kvs,k,b,.inl e,rfl,eb,rfl⟩
theorem cM.k{H:Hp}{a:Addr}{kvs:List (Key×V)}{k:Key}{v:V}(e:H a=some (.dK kvs))(hl:kvs.length<ξ):cM H a (kV k) v (upd H a (.dK (putK kvs k v))):=.inl ⟨kvs,k,e,rfl,hl,rfl⟩
theorem cM.t{H:Hp}{k:List Key}(e:H a=some (.dT kvs))(eb:H b=some (.tup (k.map kV)))(hl:kvs.length<ξ):
  cM H a (.ref b) v (upd H a (.dT (putK kvs k v))):=.inr ⟨kvs,k,b,e,rfl,eb,hl,rfl⟩
section
variable {X:Cx}{pins:List (Addr×Obj)}{σ:St}{H:Hp}{s:μ}{a:Addr}{y v:V}{u r:Value}{o:Option V}{A:lg}{E:Value->μ->Prop}
theorem Inv.big(I:Inv X pins σ H s):mi<s.heap.objs.size:=by
 have h:Ψ<s.heap.objs.size:=(I.mod.glob.keeps I.bk).lt;exact Nat.lt_trans (by decide) h
theorem aGs{Q:Value->μ->Prop}(hu:A.units+1<sd)(I:Inv X pins σ H s)(g:vX H a y (some v))(ry:RelV y u)(h:∀w' s',Inv X pins σ H s'->RelV v w'->Q w' s'):
  Ξ (je X.prog X.w) A (getItem (.ref a) u) Q E s:=by
 rcases g with⟨kvs,k,e,ey,l⟩|⟨kvs,k,b,e,ey,eb,l⟩
 ·subst ey;obtain⟨z,hd,vs,rel,dd⟩:=mR I.hok e;obtain⟨w',hw,rw'⟩:=cX.some_of (v:=v) (o:=wq vs k) (by rw[l];exact rel.val k);exact wpAny_getItem_of (eZ ry) dd.mapOf hw (h w' _ (I.tok _) rw')
 ·subst ey;cases (show u=jm b from ry);obtain⟨z,hd,xs,rel,dd⟩:=pL I.hok e;obtain⟨w',hw,rw'⟩:=cX.some_of (v:=v) (o:=(atKey xs k).map (·.2)) (by rw[l];exact rel.val k);obtain⟨p,hp,hp2⟩:=uo.mp hw;refine wpAny_getItem_heap (uu hu) (lS I.hok eb) dd hp ?_;rw[hp2];exact h w' _ (I.tok _) rw'
theorem d_in{Q:Value->μ->Prop}(hu:A.units+1<sd)(I:Inv X pins σ H s)(g:vX H a y o)(ry:RelV y u)(h:∀s',Inv X pins σ H s'->Q (.bool o.isSome) s'):
  Ξ (je X.prog X.w) A (lm .In u (.ref a)) Q E s:=by
 rcases g with⟨kvs,k,e,ey,l⟩|⟨kvs,k,b,e,ey,eb,l⟩
 ·subst ey;obtain⟨z,hd,vs,rel,dd⟩:=mR I.hok e;refine wpAny_in_of (eZ ry) hd dd.mapOf ?_;rw[←(rel.val k).isSome_eq,←l];exact h _ (I.tok _)
 ·subst ey;cases (show u=jm b from ry);obtain⟨z,hd,xs,rel,dd⟩:=pL I.hok e;refine wpAny_in_heap (uu hu) (lS I.hok eb) hd dd ?_;have q:=(rel.val k).isSome_eq;rw[Option.isSome_map]at q;rw[←q,←l];exact h _ (I.tok _)
theorem aMo{Q:Value->μ->Prop}(hu:A.units+1<sd)(I:Inv X pins σ H s)(g:vX H a y o)(ry:RelV y u)(h:∀s',Inv X pins σ H s'->Q (.bool (!o.isSome)) s'):
  Ξ (je X.prog X.w) A (lm .NotIn u (.ref a)) Q E s:=by
 rcases g with⟨kvs,k,e,ey,l⟩|⟨kvs,k,b,e,ey,eb,l⟩
 ·subst ey;obtain⟨z,hd,vs,rel,dd⟩:=mR I.hok e;refine wpAny_notIn_of (eZ ry) hd dd.mapOf ?_;rw[←(rel.val k).isSome_eq,←l];exact h _ (I.tok _)
 ·subst ey;cases (show u=jm b from ry);obtain⟨z,hd,xs,rel,dd⟩:=pL I.hok e;refine wpAny_notIn_heap (uu hu) (lS I.hok eb) hd dd ?_;have q:=(rel.val k).isSome_eq;rw[Option.isSome_map]at q;rw[←q,←l];exact h _ (I.tok _)
theorem iV{t':Nat}(I:Inv X pins σ H s)(mu:Mut (H a))(hs:nr a s.heap h')(he:∃q,h'.get? a=some q)(new:qZ X.prog X.w (upd H a ob) h' a ob):
  Inv X pins σ (upd H a ob) { s with heap:=h',toks:=t' } :=
 I.write (x:=a) (e:=a) mu (.inl rfl) (fun b q hb z=>(hs.2 b hb).trans z) he new
theorem cZ{h':ky}{kvs:List (Key×V)}(z:kvs.length<=ξ)(hd:(a == mi)=false)(rel:KV kvs vs)(dd:h'.DictOf (kJ P w) a vs):
  qZ P w H' h' a (.dK kvs):=⟨z,hd,vs,rel,dd⟩
theorem aGq{Q:Unit->μ->Prop}(hu:A.units+1<sd)(I:Inv X pins σ H s)(g:cM H a y v H')(ry:RelV y u)(rv:RelV v r)(h:∀s',Inv X pins σ H' s'->Q () s'):
  Ξ (je X.prog X.w) A (setItem (.ref a) u r) Q E s:=by
 rcases g with⟨kvs,k,e,ey,l,eH⟩|⟨kvs,k,b,e,ey,eb,l,eH⟩
 ·subst ey eH;obtain⟨z,hd,vs,rel,dd⟩:=mS I.hok e;have hz:vs.length<=ξ:=by rw[←rel.length];exact z
  have hl:(putK kvs k v).length<=ξ:=by have:=aL kvs k v;omega
  refine wpAny_setItem_pairs (hsz:=hz) (eZ ry) dd fun h' dd' hs=>h _ ?_;have he:∃q,h'.get? a=some q:=let ⟨q,_,_,hq,_⟩:=dd'; ⟨q,hq⟩;exact iV I (by rw[e];exact lu) hs he (cZ hl hd (rel.put k rv) dd')
 ·subst ey eH;cases (show u=jm b from ry);obtain⟨z,hd,xs,rel,dd⟩:=dt_of I.hok e;have hz:xs.length<=ξ:=by rw[←ud rel];exact z
  have hl:(putK kvs k v).length<=ξ:=by have:=aL kvs k v;omega
  refine wpAny_setItem_heap (hsz:=hz) (uu hu) (lS I.hok eb) dd fun h' dd' hs=>h _ ?_;obtain⟨q,es,ep,hq,h2,h3,h4,_,h5⟩:=dd';refine iV I (by rw[e];exact lu) hs ⟨q,hq⟩ ⟨hl,hd,_,(rel.put k eb rv).keeps fun c ys ec=>?_,q,es,ep,hq,h2,h3,h4,h5⟩;rw[jT (fZ ec e (fun z=>nomatch z))];exact ec
end
def NoSl (i:Expr):Prop:=∀ov iv,subscripted i false ov iv=operate [ov,iv] (getItem ov iv)
theorem aMf{prog:ki}{w:mx}{A:lg}{E:Value->μ->Prop}{s:μ}{env:Env}{value slice:Expr}{pos:Pos}{T id:String}{Q:Value->μ->Prop}
  (hl:typeLookup (.type T) "__getitem__" = pure (some (.builtin id)))(hs:NoSl slice)
  (h:Ξ (je prog w) A (eval value env) (fun o s₁=>Ξ (je prog w) A (eval slice env) (fun i s₂=>s₂.TypeIs o T/\Ξ (je prog w) A (getItem o i) Q E s₂) E s₁) E s):
  Ξ (je prog w) A (eval (.Subscript value slice pos) env) Q E s:=by
 refine Subscript_ (md h (fun o s₁ h₁=>md h₁ (fun i s₂ h₂=>?_) fun _ _ x=>x) fun _ _ x=>x);obtain⟨hT,h₂⟩:=h₂;unfold subscriptTail;refine ε ?_;rw[getitemInPython_of_ne hT.not_modules];refine ε (wpAny_specialOf hT hl ?_);have fin:Ξ (je prog w) A (subscripted slice false o i) (fun r s₃=>Ξ (je prog w) A (letTemporaryGo value o r >>= fun _=>pure r) Q E s₃) E s₂:=by
  rw[hs o i];exact wpAny_operating (md h₂ (fun r s₃ h₃=>ε (wpAny_letTemporaryGo (ω h₃))) fun _ _ x=>x)
 first
  |exact ω (ε fin)
  |exact ε (ω (ε fin))
  |exact ε fin
theorem wZ(I:Inv X pins σ H s)(g:vX H a y o):s.TypeIs (.ref a) "dict":=by
 rcases g with⟨kvs,k,e,_,_⟩|⟨kvs,k,b,e,_,_,_⟩
 ·obtain⟨_,_,vs,_,dd⟩:=mR I.hok e;exact dd.typeIs
 ·obtain⟨_,_,xs,_,dd⟩:=pL I.hok e;exact dd.typeIs
def tDGet (td ty:TE):TE:=fun σ H Q=>td σ H fun x H1=>ty σ H1 fun y H2=>∃a v,x=.ref a/\vX H2 a y (some v)/\Q v H2
def tDIn (ty td:TE):TE:=fun σ H Q=>ty σ H fun y H1=>td σ H1 fun x H2=>∃a o,x=.ref a/\vX H2 a y o/\Q (.bl o.isSome) H2
def aNs (ty td:TE):TE:=fun σ H Q=>ty σ H fun y H1=>td σ H1 fun x H2=>∃a o,x=.ref a/\vX H2 a y o/\Q (.bl (!o.isSome)) H2
def sDPut (td ty tv:TE):TS:=fun D σ H=>tv σ H fun v H1=>td σ H1 fun x H2=>ty σ H2 fun y H3=>∃a H4,x=.ref a/\cM H3 a y v H4/\D.nx σ H4
section
variable {X:Cx}{o i e value:Expr}{pos pos' tpos:Pos}{td ty tv:TE}
theorem xE(hu:X.A.units+1<sd)(ho:PE X o td)(hi:PE X i ty)(hs:NoSl i):PE X (.Subscript o i pos) (tDGet td ty):=by
 intro pins s σ H Q I h;refine aMf PySem.F.slot_dict_getitem.lookup hs (thn (ho pins s σ H _ I h) fun u s1 zq=>zq.el fun x H1 I1 rx q1=>thn (hi pins s1 σ H1 _ I1 q1) fun iv s2 zq=>?_);obtain⟨y,H2,I2,ry,a,v,ex,g,q2⟩:=zq;subst ex;obtain rfl:u=jm a:=rx;exact⟨wZ I2 g,aGs hu I2 g ry fun w' s3 I3 rw'=>⟨v,H2,I3,rw',q2⟩⟩
theorem wO(hu:X.A.units+1<sd)(hi:PE X i ty)(ho:PE X o td):PC X .In i o (tDIn ty td):=by
 intro pins s σ H Q I h;refine thn (hi pins s σ H _ I h) fun iv s1 zq=>zq.el fun y H1 I1 ry q1=>thn (ho pins s1 σ H1 _ I1 q1) fun u s2 zq=>?_;obtain⟨x,H2,I2,rx,a,ov,ex,g,q2⟩:=zq;subst ex;obtain rfl:u=jm a:=rx;exact d_in hu I2 g ry fun s3 I3=>⟨.bl ov.isSome,H2,I3,rfl,q2⟩
theorem aGj(hu:X.A.units+1<sd)(hi:PE X i ty)(ho:PE X o td):PC X .NotIn i o (aNs ty td):=by
 intro pins s σ H Q I h;refine thn (hi pins s σ H _ I h) fun iv s1 zq=>zq.el fun y H1 I1 ry q1=>thn (ho pins s1 σ H1 _ I1 q1) fun u s2 zq=>?_;obtain⟨x,H2,I2,rx,a,ov,ex,g,q2⟩:=zq;subst ex;obtain rfl:u=jm a:=rx;exact aMo hu I2 g ry fun s3 I3=>⟨.bl (!ov.isSome),H2,I3,rfl,q2⟩
theorem eN(hu:X.A.units+1<sd)(ho:PE X o td)(hi:PE X i ty)(hv:PE X value tv)(hs:swapsWith value (some (.Subscript o i pos')) pos.line X.env=pure false):
  PS X (.Assign [.Subscript o i pos'] value pos) (sDPut td ty tv):=by
 intro pins s σ H D I h;refine wpAny_Assign_Subscript (thn (hv pins s σ H _ I h) fun r s1 zq=>zq.el fun v H1 I1 rv q1=>thn (ho pins s1 σ H1 _ I1 q1) fun u s2 zq=>zq.el fun x H2 I2 rx q2=>thn (hi pins s2 σ H2 _ I2 q2) fun iv s3 zq=>?_) hs;obtain⟨y,H3,I3,ry,a,H4,ex,g,q3⟩:=zq;subst ex;obtain rfl:u=jm a:=rx;exact aGq hu I3 g ry rv fun s4 I4=>⟨σ,H4,I4,q3⟩
end
theorem pP(h:ky)(hb:mi<h.objs.size):qZ P w H (h.push { cls:=.type "dict",data:=.dict #[] }) h.objs.size (.dK []) :=
 ⟨jg _,beq_eq_false_iff_ne.mpr (kc (ir hb)),[],.nil,ky.DictOf.new h⟩
def aSa:TE:=fun _ H Q=>∀p,H p=none->Q (.ref p) (upd H p (.dK []))
section
variable {X:Cx}{pos:Pos}
theorem aKj:PE X (.Dict [] [] pos) aSa:=fun pins s σ H Q I h =>
 wpAny_Dict_empty ⟨.ref s.heap.objs.size,_,I.laid (a:=s.heap.objs.size) (o:=.dK []) (t':=s.toks) (fun _ _ q=>ν _ q) (ι _) (pP s.heap I.big),rfl,h _ (I.hok.fresh (ι _))⟩
end
def aCx:List (TE×TE)->St->Hp->(List (V×V)->Hp->Prop)->Prop
 |[],_,H,Q=>Q [] H
 | (tk,tv)::r,σ,H,Q=>tk σ H fun x H1=>tv σ H1 fun y H2=>aCx r σ H2 fun ps H3=>Q ((x,y)::ps) H3
abbrev VV:List (V×V)->List (Value×Value)->Prop:=yo fun p q=>RelV p.1 q.1/\RelV p.2 q.2
def PPs (X:Cx) (pos:Pos) (keys:List (Option Expr)) (values:List Expr) (trs:List (TE×TE)):Prop :=
 ∀(pins:List (Addr×Obj)) (s:μ) (σ:St) (H:Hp) (Q:List (V×V)->Hp->Prop),Inv X pins σ H s->aCx trs σ H Q →
  Ξ (je X.prog X.w) X.A (evalPairs (pairTrees keys values X.env pos)) (fun vs s'=>∃ps H',Inv X pins σ H' s'/\VV ps vs/\Q ps H') X.xe s
theorem aFh : PPs X pos [] [] []:=fun pins s σ H Q I h=>pairTrees_nil_walk ⟨[],H,I,.nil,h⟩
theorem bU(hk:PE X k tk)(hv:PE X v tv)(hr:PPs X pos ks vs trs):
  PPs X pos (some k::ks) (v::vs) ((tk,tv)::trs):=fun pins s σ H Q I h =>
 pairTrees_cons_walk (thn (hk pins s σ H _ I h) fun u s1 zq=>zq.el fun x H1 I1 rx q1=>thn (hv pins s1 σ H1 _ I1 q1) fun w2 s2 zq=>zq.el fun y H2 I2 ry q2=>
  thn (hr pins s2 σ H2 _ I2 q2) fun ws s3 ⟨ps,H3,I3,rel,q3⟩=>⟨(x,y)::ps,H3,I3,.cons ⟨rx,ry⟩ rel,q3⟩)
def qY (kvs more:List (Key×V)):List (Key×V):=more.foldl (fun acc kv=>putK acc kv.1 kv.2) kvs
theorem KV.merge:∀{more:List (Key×V)}{rs:List (Key×Value)}{kvs:List (Key×V)}{vs:List (Key×Value)},KV more rs->KV kvs vs->KV (qY kvs more) (merged vs rs):=by
 intro more rs kvs vs r;unfold KV at r
 induction r generalizing kvs vs with
 |nil=>intro q;exact q
 | @cons p q ps qs h t ih =>
  intro r0;have e:KV (putK kvs p.1 p.2) (stored vs q.1 q.2):=by
   have:=r0.put p.1 h.2;rw[←h.1];exact this
  exact ih e
theorem xO:∀(more kvs:List (Key×V)),(qY kvs more).length<=kvs.length+more.length
 |[],kvs=>by show kvs.length<=kvs.length+0;omega
 |p::r,kvs=>by
  have h1:=xO r (putK kvs p.1 p.2);have h2:=aL kvs p.1 p.2;show(qY (putK kvs p.1 p.2) r).length<=_;rw[χ];omega
theorem pA : ∀{kvs:List (Key×V)}{ws:List (Value×Value)},VV (kvs.map fun kv=>(kV kv.1,kv.2)) ws->∃rs,Carries (kJ P w) ws rs/\KV kvs rs
 |[],_,r=>by rw[List.map_nil]at r;cases r;exact⟨[],lu,.nil⟩
 |p::kvs,_,r=>by
  rw[ju]at r;cases r with
  | @cons a b as bs h t =>
   obtain⟨rs,c,q⟩:=pA (P:=P) (w:=w) t;obtain⟨b1,b2⟩:=b;exact⟨(p.1,b2)::rs,⟨eZ h.1,rfl,c⟩,.cons ⟨rfl,h.2⟩ q⟩
def tDisp (trs:List (TE×TE)):TE:=fun σ H Q=>∀p,H p=none->aCx trs σ (upd H p (.dK [])) fun ps H2=>H2 p=some (.dK [])/\∃kvs:List (Key×V),ps=kvs.map (fun kv=>(kV kv.1,kv.2))/\kvs.length<=15/\Q (.ref p) (upd H2 p (.dK (qY [] kvs)))
theorem aEj(h:PPs X pos keys values trs)(hall:keys.all (·.isSome)=true)(hl:keys.length=values.length)(h0:keys≠[])
  (h15:keys.length<=15):PE X (.Dict keys values pos) (tDisp trs):=by
 intro pins s σ H Q I q;have hn:=I.hok.fresh (ι s.heap.objs.size);have I1:=I.laid (a:=s.heap.objs.size) (o:=.dK []) (h':=s.heap.push { cls:=.type "dict",data:=.dict #[] }) (t':=s.toks) (fun _ _ q=>ν _ q) (ι _) (pP s.heap I.big);refine wpAny_Dict_walk (knd:=kJ X.prog X.w) hall hl h0 h15 (thn (h pins _ σ _ _ I1 (q _ hn)) fun ws s2 zq=>?_);obtain⟨ps,H2,I2,rel,e,kvs,ep,lk,q2⟩:=zq;subst ep;obtain⟨rs,c,rk⟩:=pA (P:=X.prog) (w:=X.w) rel;obtain⟨z,hd,vs0,r0,dd⟩:=mS I2.hok e;cases r0;refine⟨rs,c,dd,fun h' dd' hs=>⟨.ref s.heap.objs.size,_,?_,rfl,q2⟩⟩;have hz:(qY [] kvs).length<=ξ:=by
  have h1:=xO kvs [];rw[List.length_nil]at h1;rw[jc];omega
 have he:∃q,h'.get? s.heap.objs.size=some q:=let ⟨q,_,_,hq,_⟩:=dd'; ⟨q,hq⟩;exact iV I2 (by rw[e];exact lu) hs he (cZ hz hd (rk.merge .nil) dd')
structure M2 (X:Cx) (o:Expr) (m:Str) (apos:Pos) (e f:Expr) (cpos:Pos):Prop where
 base:we o m X.env (eval o X.env)=eval o X.env
 few:((qh cpos (iy [e,f] X.env)).all (fun x=>!x.1)&&(xj cpos (ua [] X.env)).all (fun x=>x.1.isSome)
  && decide (([e,f]:List Expr).length+([]:List Keyword).length+(if ([]:List Keyword).isEmpty then 0 else 1)<30))=true
 line:(apos.endLine == cpos.line)=true
 trees:qh cpos (iy [e,f] X.env)=[(false,eval e X.env),(false,eval f X.env)]
def IsD (H:Hp) (a:Addr):Prop:=(∃kvs,Rd H a (.dK kvs))\/∃kvs,Rd H a (.dT kvs)
theorem aRh(I:Inv X pins σ H s)(d:IsD H a):
  s.TypeIs (.ref a) "dict"/\(∀b,jm a=.ref b->∃ob,s.heap.get? b=some ob/\ob.dict=none)/\(a == mi)=false:=by
 rcases d with⟨kvs,e⟩|⟨kvs,e⟩
 ·obtain⟨_,hd,vs,_,dd⟩:=mR I.hok e;refine⟨dd.typeIs,fun b q=>?_,hd⟩;cases q;obtain⟨ob,_,_,h1,h2,_⟩:=dd;exact⟨ob,h1,h2.2.1⟩
 ·obtain⟨_,hd,xs,_,dd⟩:=pL I.hok e;refine⟨dd.typeIs,fun b q=>?_,hd⟩;cases q;obtain⟨ob,_,_,h1,h2,_⟩:=dd;exact⟨ob,h1,h2.2.1⟩
section
variable {X:Cx}{pins:List (Addr×Obj)}{σ:St}{H:Hp}{s:μ}{a:Addr}{y d:V}{u r:Value}{o:Option V}{A:lg}{E:Value->μ->Prop}
theorem aSm{Q:Value->μ->Prop}(hu:A.units+1<sd)(I:Inv X pins σ H s)(g:vX H a y o)(ry:RelV y u)(rd:RelV d r)(h:∀w' s',Inv X pins σ H s'->RelV (o.getD d) w'->Q w' s'):
  Ξ (je X.prog X.w) A (call (.builtin "dict.get") [.ref a,u,r]) Q E s:=by
 rcases g with⟨kvs,k,e,ey,l⟩|⟨kvs,k,b,e,ey,eb,l⟩
 ·subst ey;obtain⟨z,hd,vs,rel,dd⟩:=mR I.hok e;refine call_meetsIn xy dd.typeIs PySem.F.entry_dict_get (PySem.F.args_dict_get_3 _ _ _) (meets_dict_get_default (kJ X.prog X.w) a (eZ ry) hd r) ⟨_,dd.mapOf,h _ _ (I.tok _) ?_⟩;rw[l];exact(rel.val k).getD rd
 ·subst ey;cases (show u=jm b from ry);obtain⟨z,hd,xs,rel,dd⟩:=pL I.hok e;refine call_meetsIn xy dd.typeIs PySem.F.entry_dict_get (PySem.F.args_dict_get_3 _ _ _) (meetsH_dict_get_default (tupleKind (kJ X.prog X.w)) a b hd r) ⟨uu hu,k,xs,lS I.hok eb,dd,h _ _ (I.tok _) ?_⟩;rw[l];exact(rel.val k).getD rd
end
def aQb (td ty tx:TE):TE:=fun σ H Q=>td σ H fun x H1=>∃a,x=.ref a/\IsD H1 a/\ty σ H1 fun y H2=>tx σ H2 fun z H3=>∃o,vX H3 a y o/\Q (o.getD z) H3
section
variable {X:Cx}{o e f:Expr}{apos cpos:Pos}{td ty tx:TE}
theorem rM(hu:X.A.units+1<sd)(ho:PE X o td)(he:PE X e ty)(hf:PE X f tx)(m:M2 X o "get" apos e f cpos):PE X (.Call (.Attribute o "get" apos) [e,f] [] cpos) (aQb td ty tx):=by
 intro pins s σ H Q I h;refine wpAny_Call_method m.base m.few m.line PySem.F.plainAttrs_dict xy PySem.F.type_dict_get (thn (ho pins s σ H _ I h) fun u s1 zq=>?_);obtain⟨x,H1,I1,rx,a,ex,d,q1⟩:=zq;subst ex;obtain rfl:u=jm a:=rx;obtain⟨t1,t2,_⟩:=aRh I1 d;refine⟨t1,t2,?_⟩;rw[m.trees];refine Calls.callWith_builtin rfl (Calls.evalArgs_plain (wt (thn (he pins s1 σ H1 _ I1 q1) fun iv s2 zq=>zq.el fun y H2 I2 ry q2=>
  wt (thn (hf pins s2 σ H2 _ I2 q2) fun fv s3 ⟨z,H3,I3,rz,ov,g,q3⟩=>Calls.spliced_nil ?_))))
 exact aSm hu I3 g ry rz fun w' s4 I4 rw'=>⟨_,H3,I4,rw',q3⟩
end
section
variable {X:Cx}
theorem tT:vN X (.builtin "isinstance") (fun xs H Q=>∃p T kvs,xs=[.ref p,.ty T]/\T∈tK/\H p=some (.dK kvs)/\Q (.bl (isa "dict" T)) H):=by
 intro pins s σ H xs us Q I r h;obtain⟨p,T,kvs,rfl,hT,ht,q⟩:=h;obtain⟨u,w',rfl,rx,rT⟩:=vals2 r;cases rT;cases rx;have hT':T = "int" ∨ T = "bool" ∨ T = "str" ∨ T = "list" ∨ T = "tuple" ∨ T = "dict":=by simpa [tK] using hT
 have fin:∀{k:Bool}{s':μ},isa "dict" T=k->Inv X pins σ H s'->EP X pins σ Q (.bool k) s':=fun {k s'} e I'=>by subst e;exact⟨.bl _,H,I',rfl,q⟩
 obtain⟨_,_,vs,_,o,es,ep,e,hx,_⟩:=I.hok p _ ht;have hc:o.cls=.type "dict":=hx.1;rcases hT' with rfl|rfl|rfl|rfl|rfl|rfl
 ·exact IsiPair.dict_int e hc (fin (by decide) (I.tok _))
 ·exact IsiPair.dict_bool e hc (fin (by decide) (I.tok _))
 ·exact IsiPair.dict_str e hc (fin (by decide) (I.tok _))
 ·exact IsiPair.dict_list e hc (fin (by decide) (I.tok _))
 ·exact IsiPair.dict_tuple e hc (fin (by decide) (I.tok _))
 ·exact IsiPair.dict_dict e hc (fin (by decide) I)
def Itx (x:Str):It:=⟨fun i _=>i<x.cps.size,fun i H v H'=>H'=H/\∃c,x.cps[i]?=some c/\v=.str ⟨#[c]⟩,fun i _=>x.cps.size<=i⟩
theorem aLc{K:Φ}(it:Addr)(x:Str)(t:Tok)(ty:String)
  (hty : ["enumerate","zip","dict_itemiterator","dict_reverseitemiterator","odict_iterator","itertools.zip_longest","itertools.pairwise"].contains ty=false)
  (W:∀A:lg,A.handled=none->Walks P w A it [it] [it] x.cps.size (SignAt x) (fun i h=>h.IsStrIter it ty x t i))
  (hself:∀(A:lg) (i:Nat) (s:μ) (Q:Value->μ->Prop) (E:Value->μ->Prop),s.heap.IsStrIter it ty x t i->Q (.ref it) s->Ξ (je P w) A (pyIter (.ref it)) Q E s):Turn P w K tg (Itx x) [it] it (fun i h=>h.IsStrIter it ty x t i/\i<=x.cps.size) where
 mem:=by simp
 obj:=fun i h st b hb=>by
  have e:b=it:=by simpa using hb
  subst e;obtain⟨⟨o,e,c,d⟩,_⟩:=st;exact⟨o,e,fun v z=>by rw[d]at z;cases z⟩
 keep:=fun i h h' st k=>⟨let ⟨o,ho,r⟩:=st.1; ⟨o,k it (by simp) o ho,r⟩,st.2⟩
 item:=by
  intro X hP hw hK hc i pins s σ H E I hf st hg;subst hP hw hK;obtain⟨f0,f1,f2,f3,f4,f5⟩:=hf it (by simp);refine(W X.A (I.ok.hd hc)).item i s _ _ hg st.1 fun v h' tk hv st' kk=>?_;obtain⟨c,u,hcc,rfl⟩:=hv;have I1:Inv X pins σ H { s with heap:=h',toks:=tk }:=I.turned (fun b o hb e=>kk b o (by simpa using hb) e) f0 f1 f3 f4 f5;obtain⟨o,e,cc,d⟩:=id st';exact⟨_,rfl,aFu (s:={ s with heap:=h',toks:=tk }) e cc d hty ⟨.str ⟨#[c]⟩,H,I1,⟨u,rfl⟩,⟨rfl,c,hcc,rfl⟩,⟨st',hg⟩,fun b hb=>(hf b hb).1⟩⟩
 done:=by
  intro X hP hw hK hc i pins s σ H E I hf st hg;subst hP hw hK;obtain⟨f0,f1,f2,f3,f4,f5⟩:=hf it (by simp);have hi:i=x.cps.size:=Nat.le_antisymm st.2 hg;subst hi;exact(W X.A (I.ok.hd hc)).done s _ _ st.1 fun h' tk eb=>⟨rfl,I.turned (fun b o hb e=>eb b o (by simpa using hb) e) f0 f1 f3 f4 f5⟩
 self:=fun A i s Q E st h=>hself A i s Q E st.1 h
def iStr (tl:TE):TI:=fun σ H R=>tl σ H fun v H1=>∃x,v=.str x/\R (Itx x) H1
theorem aRs(hl:PE X l tl):PI X tg l (iStr tl):=by
 intro pins s σ H R I h;refine thn (hl pins s σ H _ I h) fun v s1 zq=>?_;obtain⟨y,H1,I1,r1,q1⟩:=zq;obtain⟨x,e,q⟩:=q1;subst e;obtain⟨t,rfl⟩:=r1;have fin:∀(ty:String) (o:Obj),["enumerate","zip","dict_itemiterator","dict_reverseitemiterator","odict_iterator","itertools.zip_longest","itertools.pairwise"].contains ty=false →
   (∀A:lg,A.handled=none->Walks X.prog X.w A s1.heap.objs.size [s1.heap.objs.size] [s1.heap.objs.size] x.cps.size (SignAt x) (fun i h=>h.IsStrIter s1.heap.objs.size ty x t i)) →
   (∀(A:lg) (i:Nat) (s:μ) (Q:Value->μ->Prop) (E:Value->μ->Prop),s.heap.IsStrIter s1.heap.objs.size ty x t i->Q (.ref s1.heap.objs.size) s->Ξ (je X.prog X.w) A (pyIter (.ref s1.heap.objs.size)) Q E s) →
   (s1.heap.push o).IsStrIter s1.heap.objs.size ty x t 0->PIE X pins σ tg R (.ref s1.heap.objs.size) { s1 with heap:=s1.heap.push o }:=fun ty o hty W hs st=>by
  refine⟨s1.heap.objs.size,[s1.heap.objs.size],_,_,H1,rfl,I1.kept (t':=s1.toks) fun b o e=>ν _ e,aLc _ x t ty hty W hs,⟨st,jg _⟩,fun b hb=>?_,q⟩;have e:b=s1.heap.objs.size:=by simpa using hb
  subst e;exact I1.fpOk (ι _) (I1.hok.fresh (ι _))
 cases ha:x.cps.all (·<128)
 ·exact wpAny_pyIter_wide ha (fin "str_iterator" _ (by decide) (fun A hA=>Walks.strWide hA _ x t) (fun A i s Q E st h=>wpAny_pyIter_striter_wide st h) ⟨_,iw _ rfl,rfl,rfl⟩)
 ·exact wpAny_pyIter_ascii ha (fin "str_ascii_iterator" _ (by decide) (fun A hA=>Walks.strAscii hA _ x t) (fun A i s Q E st h=>wpAny_pyIter_striter_ascii st h) ⟨_,iw _ rfl,rfl,rfl⟩)
theorem aJa{x:Str}{k:Nat}{tc:TT}{te:TE}{Q:VK}(P:Nat->List V->Hp->Prop)(h0:P 0 [] H1)(hl:∀i ys H,i<=x.length->P i ys H->ys.length<=i)(hz:x.length<ξ)
  (hs:∀i c ys H,x.cps.toList[i]?=some c->P i ys H->tc (some (.str ⟨#[c]⟩)::vM js σ) H fun b H2=>if b=true then te (some (.str ⟨#[c]⟩)::vM js σ) H2 fun v H3=>aB P i js σ (some (.str ⟨#[c]⟩)::vM js σ) (ys++[v]) H3 else aB P i js σ (some (.str ⟨#[c]⟩)::vM js σ) ys H2)
  (hd:∀ys H,P x.length ys H->∀p,H p=none->Q (.ref p) (upd H p (.lst ys)))(hk:k=1:=by rfl):
  hU (Itx x) k js (zS 0) tc te σ Q H1:=by
 subst hk;refine⟨fun i m σ' ys H=>m=x.cps.size-i/\i<=x.cps.size/\P i ys H/\∃o,σ'=o::vM js σ,⟨x.cps.size,by simp,jg _,h0,none,rfl⟩,?_⟩;rintro i m σ' ys H ⟨rfl,hi,p,o,rfl⟩;have hy:=hl i ys H hi p;have hz':x.cps.size<ξ:=hz
 by_cases hlt:i<x.cps.size
 ·refine .inr ⟨hlt,by omega,aB P i js σ,fun σ3 zs H3 z=>⟨x.cps.size-(i+1),by omega,rfl,hlt,z.1,z.2⟩,fun v H' y=>?_⟩;obtain⟨e,c,hc,y⟩:=y;subst e;subst y;exact hs i c ys _ (by simpa using hc) p
 ·have e:i=x.cps.size:=by omega
  subst e;exact .inl ⟨ι _,fun l n _=>hd ys H p l n⟩
theorem aRq(x:Str)(c:Nat):(!(pw x ⟨#[c]⟩ 0 x.length 1).isEmpty)=decide (c∈x.cps.toList):=by
 rw[PyProof.Rows.empty_one,Bool.not_not]
theorem aDi{ys:List Str}: ∀{us:List Value},jY (ys.map V.str) us->StrsAre us ys:=by
 induction ys with
 |nil=>intro us r;cases r;exact .nil
 |cons y ys ih =>
  intro us r;cases r with
  |cons a b=>obtain⟨t,rfl⟩:=a;exact .cons _ _ (ih b)
theorem tI:∀(tk:Nat) (ps:List Str),jY (ps.map V.str) (strsFrom tk ps)
 |_,[]=>.nil
 |tk,p::ps=>.cons ⟨_,rfl⟩ (tI (tk+1) ps)
theorem yB:vN X (.type "int") (fun xs H Q=>∃(x:Str) (n:Int),xs=[.str x]/\xm x=some n/\x.length<=640/\Q (.int n) H):=by
 intro pins s σ H xs us Q I r h;obtain⟨x,n,rfl,h1,h2,q⟩:=h;obtain⟨u,rfl,t,rfl⟩:=vals1 r;exact PySem.W.KIN.call_text h1 h2 ⟨.int n,H,I.tok _,⟨_,rfl⟩,q⟩
end
end L2
namespace L2
open PySem
theorem yS{c k p}{es:List Expr}: iy (.Constant c k p::es) env=(false,eval (.Constant c k p) env)::iy es env:=rfl
end L2
namespace L2
open PySem PySem.Spec PyProof.Rows
structure PEx (X:Cx) (e:Expr) (t:TE):Prop where
 h:PE X e t
structure PAx (X:Cx) (es:List Expr) (t:TA):Prop where
 h:PA X es t
structure aBu (X:Cx) (st:Stmt) (t:TS):Prop where
 h:PS X st t
structure PSx (X:Cx) (sts:List Stmt) (t:TS):Prop where
 h:PSs X sts t
section
variable {X:Cx}{e:Expr}{es:List Expr}{te:TE}{t:TA}{st:Stmt}{rest:List Stmt}{ts us:TS}
theorem uQ:PAx X [] aIq:=⟨jB⟩
theorem qL(ha:PEx X e te)(hr:PAx X es t)(hs:iy (e::es) X.env=(false,eval e X.env)::iy es X.env):PAx X (e::es) (aOn te t):=⟨jA ha.h hr.h hs⟩
theorem qV(h:PE X e te):PEx X e te:=⟨h⟩
theorem wW(hes:PAx X es t)(hi:PEx X ix ti)(hs:wF ix):PEx X (.Subscript (.List es p1) ix p2) (tOp (rIxL X.K) (tLst t) ti):=⟨aPt jO (qC hes.h) hi.h hs⟩
theorem aGg{i:Nat}(hN:X.N.Nodup)(hi:X.N[i]?=some x)(hx:X.env.scope.names.lookup x=some .local)(he:PEx X (.Subscript (.List es p1) ix p2) te):
  aBu X (.Assign [.Name x pos'] (.Subscript (.List es p1) ix p2) pos) (aHb te (zS i)):=⟨aEb hN hi (.inl hx) he.h rfl (.inr hx)⟩
theorem qT(h:PS X st ts):aBu X st ts:=⟨h⟩
theorem kO(h1:aBu X st ts)(h2:PSx X rest us):PSx X (st::rest) (vB ts us):=⟨jC h1.h h2.h⟩
theorem yQ(h1:aBu X st ts):PSx X [st] ts:=⟨jD h1.h⟩
end
def CDivL (i j:Int):Prop:=0<j/\j<2 ^ 128
theorem log2_small{n:Nat}(h:n<2 ^ 128):n.log2<9000:=by
 by_cases h0:n=0
 ·subst h0;decide
 ·have:=(Nat.log2_lt h0).mpr h;omega
section
variable {X:Cx}
theorem aJg:OpR X (qo .FloorDiv) (rI CDivL fun i j=>.int (i / j)):=opI fun i j _ _ _ _ _ hc q=>by
 have hj : 0<=j:=Int.le_of_lt hc.1;have e:i.fdiv j=i / j:=vh _ hj;refine floordiv_int (Int.ne_of_gt hc.1) (by rw[e];exact q) (.inl (PyProof.noPylong_of_log2 (log2_small ?_)));obtain⟨n,rfl⟩:=xg hj;have h2:=hc.2;simp only[Int.natAbs_natCast]
 exact_mod_cast h2
inductive aEy (K:Φ) (x:V) (y:V) (H:Hp) (Q:VK):Prop|mk:∀l b xs zs,x=.ref l->y=.ref b->SqL K H l xs->SqL K H b zs->xs.length+zs.length<=ξ->(∀p,H p=none->Q (.ref p) (upd H p (.lst (xs++zs))))->aEy K x y H Q
def rCatS (K:Φ):R2:=fun x y H Q=>aEy K x y H Q
theorem wA(l:Addr)(items:Array Value)(n:Nat)(b:Addr)(items2:Array Value)(n2:Nat)(sl sl2:Array (Option Value))(hc0:items.size+items2.size<=ξ):
  Meets (pd.«list.__add__» ⟨[.ref l,.ref b],[]⟩) (fun _ R s=>s.heap.get? l=some { cls:=.type "list",dict:=none,data:=.seq items n,slots:=sl }/\s.heap.get? b=some { cls:=.type "list",dict:=none,data:=.seq items2 n2,slots:=sl2 }/\R (.ok (.ret (jm s.heap.objs.size))) { s with heap:=s.heap.push { cls:=Value.type "list",data:=Data.seq (items++items2) },toks:=s.toks }) :=
 .of_wp fun prog w A R s h=>by obtain⟨hp,g,d,tk,os⟩:=s;obtain⟨hl,hb,h⟩:=h;have f1:=AutoSeq1.idx_int;have f2:=AutoSeq1.sub_tuple_tuple;have f3:=AutoSeq1.sub_list_list;have f4:=AutoSeq1.sub_tuple_list;have f5:=AutoSeq1.sub_list_tuple;wp_walk using AutoSeq1.wpAny_loadPart' hl,AutoSeq1.wpAny_loadPart' hb;exact⟨_,rfl,h⟩
theorem oQ:OpR X (qo .Add) (rCatS X.K):=by
 intro pins s σ H x y v u Q I rx ry h;obtain⟨l,b,xs,zs,rfl,rfl,hH,hB,hz,q⟩:=h;cases rx;cases ry;obtain⟨its,r,⟨o,n,e,hc,hdn,hd⟩,_⟩:=I.list hH;obtain⟨its2,r2,⟨o2,n2,e2,hc2,hdn2,hd2⟩,_⟩:=I.list hB;obtain⟨c,d,dt,sl⟩:=o;obtain⟨c2,d2,dt2,sl2⟩:=o2;cases hc;cases hdn;cases hd;cases hc2;cases hdn2;cases hd2;have l1:=r.length;have l2:=r2.length;refine concat_meets ⟨_,e,rfl⟩ ⟨_,e2,rfl⟩ PySem.noFill_list_add PySem.seq_list_add F.slot_list_add F.entry_list_add (F.args_list_add_2 _ _) (wA l its.toArray n b its2.toArray n2 sl sl2 (by rw[υ,υ];omega)) ⟨e,e2,?_⟩;have ea:its.toArray++its2.toArray=(its++its2).toArray:=by simp
 rw[ea];exact⟨.ref _,_,I.lnew (t':=s.toks) (r.append r2) (by rw[θ];omega),rfl,q _ I.fresh⟩
mutual
inductive Dat (K:Φ) (H:Hp):V->jx->Prop
 |non:Dat K H .non .none
 |bl (b:Bool):Dat K H (.bl b) (.bool b)
 |int (i:Int):Dat K H (.int i) (.int i)
 |str (x:Str):Dat K H (.str x) (.str x)
 |lst {a:Addr}{xs:List V}{ds:List jx} : SqL K H a xs->DatAll K H xs ds->Dat K H (.ref a) (.list ds)
 |tup {a:Addr}{xs:List V}{ds:List jx} : SqT K H a xs->DatAll K H xs ds->Dat K H (.ref a) (.tuple ds)
inductive DatAll (K:Φ) (H:Hp):List V->List jx->Prop
 |nil:DatAll K H [] []
 |cons {x:V}{xs:List V}{d:jx}{ds:List jx} : Dat K H x d->DatAll K H xs ds->DatAll K H (x::xs) (d::ds)
end
mutual
theorem Inv.reads(I:Inv X pins σ H s):∀{x:V}{d:jx}{u:Value},Dat X.K H x d->RelV x u->∃as,Reads s.heap u d as
 |_,_,_,.non,r=>by cases r;exact⟨_,.none⟩
 |_,_,_,.bl b,r=>by cases r;exact⟨_,.bool b⟩
 |_,_,_,.int i,r=>by obtain⟨t,rfl⟩:=r;exact⟨_,.int i t⟩
 |_,_,_,.str x,r=>by obtain⟨t,rfl⟩:=r;exact⟨_,.str x t⟩
 |_,_,_,.lst h ds,r=>by
  cases r;obtain⟨its,rv,⟨o,n,e,hc,_,hd⟩,_⟩:=I.list h;obtain⟨as,ra⟩:=Inv.readsAll I ds rv;exact⟨_,.list e hc hd ra⟩
 |_,_,_,.tup h ds,r=>by
  cases r;obtain⟨its,rv,⟨o,e,hc,n,hd⟩,_⟩:=I.tuple h;obtain⟨as,ra⟩:=Inv.readsAll I ds rv;exact⟨_,.tuple e hc hd ra⟩
theorem Inv.readsAll(I:Inv X pins σ H s):∀{xs:List V}{ds:List jx}{us:List Value},DatAll X.K H xs ds->jY xs us->∃as,ReadsAll s.heap us ds as
 |_,_,_,.nil,r=>by cases r;exact⟨_,.nil⟩
 |_,_,_,.cons h t,r=>by
  cases r with
  |cons r1 r2 =>
   obtain⟨a1,e1⟩:=Inv.reads I h r1;obtain⟨a2,e2⟩:=Inv.readsAll I t r2;exact⟨_,.cons e1 e2⟩
end
def rEqD (K:Φ) (neg:Bool):R2:=fun x y H Q=>∃d d':jx,Dat K H x d/\Dat K H y d'/\SeqAt.shaped d=true/\SeqAt.shaped d'=true/\Q (.bl (xor neg (jx.eqv d d'))) H
theorem aSu(hu:X.A.units+64<sd):OpR X (lm .NotEq) (rEqD X.K true):=by
 intro pins s σ H x y v u Q I rx ry h;obtain⟨d,d',hx,hy,s1,s2,q⟩:=h;obtain⟨as,ra⟩:=I.reads hx rx;obtain⟨bs,rb⟩:=I.reads hy ry;exact ne_dataH ra rb s1 s2 hu ⟨.bl _,H,I,rfl,by simpa using q⟩
end
mutual
theorem Dat.same{K:Φ}(g:jH H H'):∀{x:V}{d:jx},Dat K H x d->Dat K H' x d
 |_,_,.non=>.non
 |_,_,.bl b=>.bl b
 |_,_,.int i=>.int i
 |_,_,.str x=>.str x
 |_,_,.lst h t=>.lst (g.seq h) (DatAll.same g t)
 |_,_,.tup h t=>.tup (by
   rcases h with (h|⟨o,h⟩)|h
   ·exact .inl (.inl (g _ _ h))
   ·exact .inl (.inr ⟨o,g _ _ h⟩)
   ·exact .inr h) (DatAll.same g t)
theorem DatAll.same{K:Φ}(g:jH H H'):∀{xs:List V}{ds:List jx},DatAll K H xs ds->DatAll K H' xs ds
 |_,_,.nil=>.nil
 |_,_,.cons h t=>.cons (Dat.same g h) (DatAll.same g t)
end
section
variable {X:Cx}
theorem aLb(hc:X.calm=true):vN X (.builtin "sum") (fun xs H Q=>∃(a:Addr) (ns:List Int),xs=[.ref a]/\SqL X.K H a (ns.map V.int)/\Q (.int ns.sum) H):=by
 intro pins s σ H xs us Q I r h;obtain⟨a,ns,rfl,ha,q⟩:=h;obtain⟨u,rfl,rx⟩:=vals1 r;cases rx;obtain⟨its,rv,pl,_⟩:=I.list ha;have hi:=intsAre_of rv;obtain⟨ys,hy⟩:=hi.allInts.items;refine sum_intListG (I.ok.hd hc) (hy ▸ pl.isList) fun h' tk t' hk=>?_;have e1:ns=ys.toList.map (·.1):=by
  rw[←nums_intItems,←hy];exact(show numsOf its.toArray.toList=ns from hi.numsOf).symm
 rw[preSum_eq,li (by simp),←e1];exact⟨.int ns.sum,H,I.kept hk,⟨_,rfl⟩,q⟩
end
section
variable {X:Cx}{elt tg iter:Expr}{ifs:List Expr}{scope:Scope}{cl:List (Str×Addr)}{ts ys:List Str}{js:List Nat}{pos:Pos}{wi:TI}{g:TG}{tc:TT}{te:TE}
theorem aAu(ts ys:List Str)(js:List Nat)(hc:X.calm=true)(hi:PI X tg iter wi)(hclos:closureFor scope X.env=pure cl)(hsub:dE X.env cl)(hcap:nM X scope cl ys js)
  (hg:∀s H fp C,PG (X.comp scope cl (ts++ys) s H fp C) tg g)(ht:∀s H fp C,PIf (X.comp scope cl (ts++ys) s H fp C) ifs tc)(he:∀s H fp C,PE (X.comp scope cl (ts++ys) s H fp C) elt te)
  (hkind:scope.kind=.function)(hcell:(scope.names.all fun y=>y.2 != .cell)=true)
  (hnames:(scope.names.all fun y=>y.2 != .local||scope.names.lookup y.1 == some .local)=true)
  (hhas:((relabel scope X.env).names.all fun p=>(p.2 != .cell&&p.2 != .free)||(cl.lookup p.1).isSome)=true)
  (hs:∀x,tq iter X.env x=pure x){s:μ}{H:Hp}{Q:VK}(I:Inv X pins σ H s)(h:aKt wi ts.length js g tc te σ H Q)
  (hfin:∀{H2 H3:Hp}{s2 s4:μ}{fp:List Addr}{C:Addr}{pins':List (Addr×Obj)}{σ':St}{its:List Value}{xs:List V}{n:Nat},Inv X pins σ H2 s2->(∀b∈fp,dQ X pins H2 b)->Inv (X.comp scope cl (ts++ys) s2 H2 fp C) pins' σ' H3 s4->s2.heap.objs.size<=C->s2.heap.objs.size≠C->jY xs its->xs.length<=ξ →
   s4.heap.get? s2.heap.objs.size=some { cls:=.type "list",data:=.seq its.toArray n }->H3 s2.heap.objs.size=none->(∀p,H3 p=none->p≠mi->Q (.ref p) (upd H3 p (.lst xs)))->compPost (je X.prog X.w) X.A X.xe use QV (.ref s2.heap.objs.size) C (.ok .next) s4):
  Ξ (je X.prog X.w) X.A (comprehension (.ListComp elt [⟨tg,iter,ifs,0⟩] scope pos) scope X.env p0 (newList []) false (eval iter X.env) use) QV X.xe s:=by
 have hcell':∀y∈scope.names,y.2≠.cell:=fun y hy z=>by
  have:=iz.mp hcell y hy;rw[z]at this;exact absurd this (by decide)
 have hnames':∀y∈scope.names,y.2=.local->scope.names.lookup y.1=some .local:=fun y hy z=>by
  have:=iz.mp hnames y hy;rw[z]at this;simpa using this
 have hhas':∀x,((relabel scope X.env).names.lookup x=some .cell\/(relabel scope X.env).names.lookup x=some .free)->∃c,cl.lookup x=some c:=fun x hx=>by
  rcases hx with hx|hx
  ·have:=iz.mp hhas _ (mr hx);exact qk.mp (by simpa using this)
  ·have:=iz.mp hhas _ (mr hx);exact qk.mp (by simpa using this)
 refine wpAny_comprehension_free (use:=use) rfl hs hclos hkind hnames' (thn (hi pins s σ H _ I h) fun v s1 h1=>thn h1 fun itv s2 h2=>?_);obtain⟨it,fp,tn,J,H2,e,I2,T,st2,f2,W,⟨m0,w0⟩,turn⟩:=h2;subst e;have fl:∀b∈fp,b<s2.heap.objs.size:=fun b hb=>by
  obtain⟨o,e,_⟩:=T.obj _ _ st2 b hb;exact ψ e
 refine ve (wpAny_newFunctionEnv hcell' (by intro y hy;simp at hy) (fun h₁ hns₁ hsb₁=>?_) hkind);dsimp only at hns₁ hsb₁ ⊢;generalize hHH:s2.heap.push { cls:=.type "list",dict:=none,data:=.seq ([]:List Value).toArray }=HH at hns₁ hsb₁ ⊢;have hC:HH.objs.size=s2.heap.objs.size+1:=by rw[←hHH,qp]
 have hDC:s2.heap.objs.size≠HH.objs.size:=by rw[hC];exact ir (vo _)
 have hCle:s2.heap.objs.size<=HH.objs.size:=by rw[hC];exact vi _
 have old:∀b o,s2.heap.get? b=some o->h₁.get? b=some o:=fun b o e =>
  hsb₁.extBut b o (ir (ς (ψ e) hCle)) (ν _ (hHH ▸ ν _ e))
 have hacc:h₁.get? s2.heap.objs.size=some { cls:=.type "list",data:=.seq ([]:List Value).toArray }:=hsb₁.extBut _ _ hDC (ν _ (hHH ▸ iw _ rfl));have nofs:∀b,s2.heap.objs.size<=b->b∉frs X.stack:=fun b hb z=>by
  rcases ο.mp (I2.stkSub b z) with e|e
  ·exact absurd (ς I2.lt (e ▸ hb)) (nk _)
  ·exact I2.nofs hb e
 have nocell:∀b,s2.heap.objs.size<=b->∀x c,cl.lookup x=some c->c≠b:=fun b hb x c e z=>by
  obtain⟨v,q⟩:=I2.cell x c (hsub.at e);exact absurd (ς q.lt (z ▸ hb)) (nk _)
 have I':Inv (X.comp scope cl (ts++ys) s2 H2 fp HH.objs.size) [] (iD ts.length js σ) H2 { s2 with heap:=h₁,toks:=s2.toks+([]:List (Str×Value)).length } :=
  aBm I2 hsub hcap hkind hhas' f2 fl hCle hns₁ old
 have addPin:∀{σ':St}{H':Hp}{s':μ}{o:Obj},Inv (X.comp scope cl (ts++ys) s2 H2 fp HH.objs.size) [] σ' H' s'->s'.heap.get? s2.heap.objs.size=some o->H' s2.heap.objs.size=none->(∀v,o.data≠.cell v) →
   Inv (X.comp scope cl (ts++ys) s2 H2 fp HH.objs.size) [(s2.heap.objs.size,o)] σ' H' s':=fun {σ' H' s' o} J e n d=>J.pins_of fun p hp=>by
  have e':p=(s2.heap.objs.size,o):=by simpa using hp
  subst e';exact⟨e,n,hDC,nofs _ (ι _),d⟩
 have stat:∀{pins':List (Addr×Obj)}{H':Hp},(∀p∈pins',p.1=s2.heap.objs.size)->(∀b∈fp,H' b=none)->∀b∈fp,dQ (X.comp scope cl (ts++ys) s2 H2 fp HH.objs.size) pins' H' b:=fun {pins' H'} hp hn b hb =>
  ⟨hn b hb,ir (ς (fl b hb) hCle),I'.ok.exfs b hb,.inl hb,(I'.ok.exf b hb).2,fun p hq z=>by
   have hq':p∈pins':=by simpa using hq
   exact absurd (fl b hb) (by rw[←z,hp p hq'];exact nk _)⟩
 have tn1:tn 0 h₁:=T.keep _ _ _ st2 fun b _ o e=>old b o e;have loop:∀s₃ : μ,s₃ = { s2 with heap:=h₁,toks:=s2.toks+([]:List (Str×Value)).length } →
   codeAny (je X.prog X.w) X.A (.compLoop (.ListComp elt [⟨tg,iter,ifs,0⟩] scope pos) 0 (.ref it) (.ref s2.heap.objs.size) (compEnvC scope cl HH.objs.size X.env))
    (compPost (je X.prog X.w) X.A X.xe use QV (.ref s2.heap.objs.size) HH.objs.size) s₃:=by
  rintro s₃ rfl;refine uV (fun n s'=>∃i σ' xs H' its nn,Inv (X.comp scope cl (ts++ys) s2 H2 fp HH.objs.size) [] σ' H' s'/\jY xs its/\xs.length<=ξ/\s'.heap.get? s2.heap.objs.size=some { cls:=.type "list",data:=.seq its.toArray nn }/\H' s2.heap.objs.size=none ∧
   tn i s'.heap/\(∀b∈fp,H' b=none)/\W i n σ' xs H') ?_ m0 ⟨0,_,[],H2,[],0,I',.nil,jg _,hacc,I2.hok.fresh (ι _),tn1,fun b hb=>(f2 b hb).1,w0⟩
  rintro n s3 ⟨i,σ3,xs,H3,its,nn,I3,rv,hz3,ac3,nD3,st3,fr3,w3⟩;have nd:∀v,({ cls:=.type "list",data:=.seq its.toArray nn } : Obj).data≠.cell v:=fun v z=>by
   have z':Data.seq its.toArray nn=Data.cell v:=z;cases z'
  have I3p:=addPin I3 ac3 nD3 nd;have pinD:∀p∈[(s2.heap.objs.size,({ cls:=.type "list",data:=.seq its.toArray nn } : Obj))],p.1=s2.heap.objs.size:=fun p hp=>by
   rw[Δ]at hp;rw[hp]
  rcases turn i n σ3 xs H3 w3 with⟨stop,qn⟩|⟨go,hz,N,hN,step⟩
  ·refine thn (T.done (X.comp scope cl (ts++ys) s2 H2 fp HH.objs.size) rfl rfl rfl hc i _ s3 σ3 H3 (fun _ _=>False) I3p (stat pinD fr3) st3 stop) fun r s4 zq=>?_;obtain⟨hr,I4⟩:=zq;subst hr;have ac4:=(I4.pin _ (jf _ (Δ.mpr rfl))).1;exact hfin I2 f2 I4 hCle hDC rv hz3 ac4 nD3 qn
  ·refine thn (T.item (X.comp scope cl (ts++ys) s2 H2 fp HH.objs.size) rfl rfl rfl hc i _ s3 σ3 H3 (fun _ _=>False) I3p (stat pinD fr3) st3 go) fun r s4 zq=>?_;obtain⟨u,hr,h4⟩:=zq;subst hr;refine thn h4 fun _ s5 zq=>?_;obtain⟨x,H5,I5,r5,y5,st5,fr5⟩:=zq;have I5':=I5.pinned (stat pinD fr5) (T.obj _ _ st5);refine thn (hg _ _ _ _ _ s5 σ3 H5 x u _ I5' r5 (step x H5 y5)) fun _ s6 zq=>?_;obtain⟨σ6,H6,I6,q6⟩:=zq;refine thn (ht _ _ _ _ _ s6 σ6 H6 _ I6 q6) fun b s7 zq=>?_;obtain⟨H7,I7,q7⟩:=zq;have facts:∀{σ':St}{H':Hp}{s':μ},Inv (X.comp scope cl (ts++ys) s2 H2 fp HH.objs.size) ([(s2.heap.objs.size,({ cls:=.type "list",data:=.seq its.toArray nn } : Obj))]++dC fp s5.heap) σ' H' s' →
     s'.heap.get? s2.heap.objs.size=some { cls:=.type "list",data:=.seq its.toArray nn }/\H' s2.heap.objs.size=none/\tn (i+1) s'.heap/\(∀b∈fp,H' b=none):=fun {σ' H' s'} J=>by
    have p1:=J.pin (s2.heap.objs.size,({ cls:=.type "list",data:=.seq its.toArray nn } : Obj)) (by simp);refine⟨p1.1,p1.2.1,T.keep _ _ _ st5 fun b hb o e=>(J.pin (b,o) (jf _ (jf _ (yL hb e)))).1,fun b hb=>?_⟩;obtain⟨o,e,d⟩:=T.obj _ _ st5 b hb;exact(J.pin (b,o) (jf _ (jf _ (yL hb e)))).2.1
   have bare:∀{σ':St}{H':Hp}{s':μ},Inv (X.comp scope cl (ts++ys) s2 H2 fp HH.objs.size) ([(s2.heap.objs.size,({ cls:=.type "list",data:=.seq its.toArray nn } : Obj))]++dC fp s5.heap) σ' H' s' →
     Inv (X.comp scope cl (ts++ys) s2 H2 fp HH.objs.size) [] σ' H' s':=fun J=>J.pins_of fun p hp=>absurd hp (by simp)
   cases b with
   |false =>
    have q7':N σ6 xs H7:=by simpa using q7
    obtain⟨m',hm,w7⟩:=hN _ _ _ q7';obtain⟨a1,a2,a3,a4⟩:=facts I7;show ∃m,m<n/\_;exact⟨m',hm,i+1,σ6,xs,H7,its,nn,bare I7,rv,hz3,a1,a2,a3,a4,w7⟩
   |true =>
    have q7':te σ6 H7 fun v H5=>N σ6 (xs++[v]) H5:=by
     rw[if_pos rfl]at q7;exact q7
    show Ξ _ _ (eval elt _) _ _ s7;refine thn (he _ _ _ _ _ s7 σ6 H7 _ I7 q7') fun xv s8 zq=>?_;obtain⟨v,H8,I8,r8,n8⟩:=zq;obtain⟨m',hm,w8⟩:=hN _ _ _ n8;obtain⟨a1,a2,a3,a4⟩:=facts I8;have hl:=rv.length;refine vj F.slot_list_append ⟨_,a1,rfl⟩ F.entry_list_append (F.args_list_append_2 _ _) (PySem.list_append s2.heap.objs.size its.toArray nn xv (by rw[υ];omega)) ⟨a1,?_⟩;obtain⟨n9,q9⟩ : ∃n9,(s8.heap.update s2.heap.objs.size (wu fun a=>a.push xv)).get? s2.heap.objs.size=some { cls:=.type "list",data:=.seq (its++[xv]).toArray n9 } :=
     ⟨_,by rw[show(its++[xv]).toArray=its.toArray.push xv by simp];exact PySem.IsL.update a1 (fun a=>a.push xv)⟩
    have I9:Inv (X.comp scope cl (ts++ys) s2 H2 fp HH.objs.size) [] σ6 H8 { s8 with heap:=s8.heap.update s2.heap.objs.size (wu fun a=>a.push xv),toks:=s8.toks } :=
     (bare I8).turned (it:=s2.heap.objs.size) (fun b o hb e=>(ul s8.heap _ (kc hb)).trans e) a2 hDC (.inr (ι _)) (nocell _ (ι _)) fun p hp=>absurd (show p∈([]:List (Addr×Obj)) from hp) (by simp)
    refine⟨m',hm,i+1,σ6,xs++[v],H8,its++[xv],n9,I9,rv.append (.cons r8 .nil),?_,q9,a2,?_,a4,w8⟩
    ·rw[θ,km];omega
    ·exact T.keep _ _ _ a3 fun b hb o e=>(ul s8.heap _ (kc (ir (fl b hb)))).trans e
 exact codeAny_compStart_list (loop _ rfl) (T.self _ 0 _ _ _ tn1 (loop _ rfl))
theorem qW(ts ys:List Str)(js:List Nat)(hc:X.calm=true)(hi:PI X tg iter wi)(hclos:closureFor scope X.env=pure cl)(hsub:dE X.env cl)(hcap:nM X scope cl ys js)
    (hg:∀s H fp C,PG (X.comp scope cl (ts++ys) s H fp C) tg g)(ht:∀s H fp C,PIf (X.comp scope cl (ts++ys) s H fp C) ifs tc)(he:∀s H fp C,PE (X.comp scope cl (ts++ys) s H fp C) elt te)
    (hkind:scope.kind=.function:=by rfl)(hcell:(scope.names.all fun y=>y.2 != .cell)=true:=by rfl)
    (hnames:(scope.names.all fun y=>y.2 != .local||scope.names.lookup y.1 == some .local)=true:=by rfl)
    (hhas:((relabel scope X.env).names.all fun p=>(p.2 != .cell&&p.2 != .free)||(cl.lookup p.1).isSome)=true:=by rfl)
    (hs:∀x,tq iter X.env x=pure x:=by intro _;rfl):PE X (.ListComp elt [⟨tg,iter,ifs,0⟩] scope pos) (aKt wi ts.length js g tc te):=by
  intro pins s σ H Q I h;rw[eval_ListComp];refine aAu (use:=none) (QV:=EP X pins σ Q) ts ys js hc hi hclos hsub hcap hg ht he hkind hcell hnames hhas hs I h ?_;intro H2 H3 s2 s4 fp C pins' σ' its xs n I2 f2 I4 hC hDC rv hz e4 nD q;obtain⟨m,hm,_⟩:=I4.loc;exact⟨m,hm,fun h' hs'=>⟨.ref _,_,aAs I2 f2 I4 hC (ι _) hDC hs' rv hz e4 nD,rfl,q _ nD I2.nsys⟩⟩
theorem eL{i:Nat}{spos:Pos}(ts ys:List Str)(js:List Nat)(hN:X.N.Nodup)(hiN:X.N[i]?=some y)(hy:X.env.scope.names.lookup y=some .local)(hc:X.calm=true)(hi:PI X tg iter wi)(hclos:closureFor scope X.env=pure cl)(hsub:dE X.env cl)(hcap:nM X scope cl ys js)
  (hg:∀s H fp C,PG (X.comp scope cl (ts++ys) s H fp C) tg g)(ht:∀s H fp C,PIf (X.comp scope cl (ts++ys) s H fp C) ifs tc)(he:∀s H fp C,PE (X.comp scope cl (ts++ys) s H fp C) elt te)
  (hkind:scope.kind=.function:=by rfl)(hcell:(scope.names.all fun y=>y.2 != .cell)=true:=by rfl)
  (hnames:(scope.names.all fun y=>y.2 != .local||scope.names.lookup y.1 == some .local)=true:=by rfl)
  (hhas:((relabel scope X.env).names.all fun p=>(p.2 != .cell&&p.2 != .free)||(cl.lookup p.1).isSome)=true:=by rfl)
  (hs:∀x,tq iter X.env x=pure x:=by intro _;rfl)
  (hsw:swapsWith (.ListComp elt [⟨tg,iter,ifs,0⟩] scope pos) (some (.Name y py)) spos.line X.env=pure true:=by rfl):
  PS X (.Assign [.Name y py] (.ListComp elt [⟨tg,iter,ifs,0⟩] scope pos) spos) (aHb (aKt wi ts.length js g tc te) (zS i)):=by
 intro pins s σ H D I h;rw[exec_Assign_Name_used _ _ _ _ hsw];refine ε (va (ε ?_));show Ξ _ _ (do let _ ←comprehension (.ListComp elt [⟨tg,iter,ifs,0⟩] scope pos) scope X.env _ (newList []) false (eval iter X.env) (some (assign (.Name y py) X.env))) _ _ s;refine ε (md (aAu (QV:=fun _ s'=>SP X pins D .next s') ts ys js hc hi hclos hsub hcap hg ht he hkind hcell hnames hhas hs I h ?_) (fun _ s' q=>ω (ω q)) fun _ _ z=>z);intro H2 H3 s2 s4 fp C pins' σ' its xs n I2 f2 I4 hC hDC rv hz e4 nD q;have J:Inv X pins σ (upd H3 s2.heap.objs.size (.lst xs)) { s4 with heap:=s4.heap }:=aAs I2 f2 I4 hC (ι _) hDC (nr.refl _ _) rv hz e4 nD;obtain⟨m,hm,_⟩:=I4.loc;have hm':s4.heap.Ns C m:=hm;have hL:C≠X.env.locals:=fun z=>absurd (ς I2.lt (z ▸ hC)) (nk _);have hn:upd H3 s2.heap.objs.size (.lst xs) C=none:=by
  rw[jT (kc hDC)];exact I4.free
 have hcl:∀x c,X.env.cells.lookup x=some c->c≠C:=fun x c e z=>by
  obtain⟨v,q⟩:=I2.cell x c e;exact absurd (ς q.lt (z ▸ hC)) (nk _)
 have hpin:∀p∈X.pn++pins,p.1≠C:=fun p hp z=>absurd (ς (ψ (I2.pin p hp).1) (z ▸ hC)) (nk _);show Ξ _ _ (assign (.Name y py) X.env _) _ _ _;refine wpAny_assign_Name (tW J hN hiN (.inl hy) (v:=.ref s2.heap.objs.size) rfl (fun s5 J5 zq=>?_) (.inr hy));obtain⟨a,sb,ha⟩:=zq;have hCa:C≠a:=by
  rcases ha with z|z
  ·rw[z];exact hL
  ·exact kc (hcl _ _ z)
 refine⟨m,hm'.sameBut sb hCa,fun h' hs'=>?_⟩;exact⟨_,_,J5.turned (h':=h') (t':=s5.toks) (fun b o hb e=>hs'.extBut b o hb e) hn hL (.inr (jh I2.sz hC)) hcl hpin,q _ nD I2.nsys⟩
end
section
variable {X:Cx}
theorem iK{K:Φ}{n:Nat}(hK:X.K=K)(hc:X.calm=true)(h:PGs X es t)
  (hn:(qv es X.env).length=n:=by rfl)(hst:(qv es X.env).findIdx? (·.1)=none:=by rfl):PG X (.Tuple es k pos) (gTup K n t):=hK ▸ bB hc h hn hst
end
def iB (P:Nat->List V->Hp->Prop) (i k:Nat) (js:List Nat) (σ:St):St->List V->Hp->Prop:=fun σ' ys H=>P (i+1) ys H/\∃os:St,os.length=k/\σ'=os++vM js σ
theorem aCp{K:Φ}{xs:List V}{k:Nat}{g:TG}{tc:TT}{te:TE}{Q:VK}(P:Nat->List V->Hp->Prop)(h0:P 0 [] H1)(hl:∀i ys H,i<=xs.length->P i ys H->SqL K H a xs/\ys.length<=i)(hz:xs.length<ξ)
  (hs:∀i x ys H (os:St),os.length=k->xs[i]?=some x->P i ys H->g x (os++vM js σ) H fun σ3 H3=>tc σ3 H3 fun b H2=>if b=true then te σ3 H2 fun v H3=>iB P i k js σ σ3 (ys++[v]) H3 else iB P i k js σ σ3 ys H2)
  (hd:∀ys H,P xs.length ys H->∀p,H p=none->Q (.ref p) (upd H p (.lst ys))):
  hU (Itl K a) k js g tc te σ Q H1:=by
 refine⟨fun i m σ' ys H=>m=xs.length-i/\i<=xs.length/\P i ys H/\∃os:St,os.length=k/\σ'=os++vM js σ,⟨xs.length,by simp,jg _,h0,xk k none,qg,rfl⟩,?_⟩;rintro i m σ' ys H ⟨rfl,hi,p,os,ho,rfl⟩;obtain⟨q,hy⟩:=hl i ys H hi p
 by_cases hlt:i<xs.length
 ·refine .inr ⟨⟨xs,xs[i],q,by simp[hlt]⟩,by omega,iB P i k js σ,fun σ3 zs H3 z=>⟨xs.length-(i+1),by omega,rfl,hlt,z.1,z.2⟩,fun x H' y=>?_⟩;obtain⟨e,y⟩:=y;subst e;exact hs i x ys _ os ho (y xs q) p
 ·have e:i=xs.length:=by omega
  subst e;exact .inl ⟨⟨xs,q,ι _⟩,fun l n _=>hd ys H p l n⟩
def But (l:Addr) (H H':Hp):Prop:=∀b o,b≠l->H b=some o->H' b=some o
theorem But.trans(a:But l H H1)(b:But l H1 H2):But l H H2:=fun x o n q=>b x o n (a x o n q)
theorem But.refl : But l H H:=fun _ _ _ q=>q
theorem But.of(g:jH H H'):But l H H':=fun x o _ q=>g x o q
theorem But.same{H:Hp}(a:But l H H')(h:H l=none):jH H H':=fun x o q=>a x o (jG q h) q
theorem But.upd : But l H (upd H l o):=fun x u n q=>by rw[jT n];exact q
theorem But.tup{K:Φ}{l:Addr}{H H':Hp}{zs:List V}(e:But l H H')(hl:H l=some (.lst zs)){a:Addr}{xs:List V}(h:SqT K H a xs):SqT K H' a xs:=by
 rcases h with (h|⟨o,h⟩)|h
 ·exact .inl (.inl (e _ _ (fZ h hl (by intro z;cases z)) h))
 ·exact .inl (.inr ⟨o,e _ _ (fZ h hl (by intro z;cases z)) h⟩)
 ·exact .inr h
end L2
namespace L2
open PySem
section
variable {prog:ki}{w:mx}{M:Model}{A:lg}{E:Value->μ->Prop}{h:ky}{g:Array GenState}{d:Drawn}{t:Nat}{os:OsState}
 {nm qn:Str}{C N:Addr}{bs bm:List Value}{hdct:Bool}{sn:List Str}{sub:List Value}{ab:Bool}{col:Option Bool}{dd:Option Addr}{k0 k1 k2 k3 k5:Option Value}
abbrev xcls (nm qn:Str) (C N:Addr) (bs bm:List Value) (hdct:Bool) (sn:List Str) (sub:List Value) (ab:Bool) (col:Option Bool) (dd:Option Addr) (k0 k1 k2 k3 k5:Option Value):Obj :=
 excClassObj nm qn C N bs bm hdct sn sub ab col dd k0 k1 k2 k3 k5 "ValueError.__new__"
end
end L2
namespace L2
open PySem PyProof.Rows
abbrev VB:List Value:=[.type "ValueError",.type "Exception",.type "BaseException",.type "object"]
structure ExCl (K:Φ) (C R fI:Addr):Prop where
 obj:∃(nm qn:Str) (N:Addr) (bs:List Value) (sn:List Str) (sub:List Value) (ab:Bool) (col:Option Bool) (dd:Option Addr) (k0 k1 k2 k3 k5:Option Value),
  K.lookup C=some (xcls nm qn C N bs (.ref R::VB) true sn sub ab col dd k0 k1 k2 k3 k5)/\PySem.W.nsOkIn K N=true/\rh K N "__init__" = some (some (.ref fI))
 fn:isFn K (.ref fI)=true
 kp:keepIn K (.ref C)=true
 sa:uj K (.ref C) "__setattr__" = some (some (.builtin "object.__setattr__"))
 ga:uj K (.ref C) "__getattribute__" = some (some (.builtin "BaseException.__getattribute__"))
 gh:uj K (.ref C) "__getattr__" = some none
theorem aDx{K:Φ}{m:Str->Option Value}(X:K.In h)(G:h.Ns N m)(e:rh K N n=some (some v)):m n=some v:=by
 obtain⟨o,es,ep,ho,hd,_,hf⟩:=G;unfold rh at e;cases q:K.lookup N with
 |none=>rw[q]at e;cases e
 |some o' =>
  have z:=X _ _ q;rw[ho]at z;cases z;rw[q]at e;obtain⟨c,d,dt,sl⟩:=o;cases hd;rw[←hf];unfold nsFind findBy;rw[←Array.find?_toList];dsimp only at e;cases q2:es.toList.find? (fun x=>x.key.isStr n) with
  |some y =>
   rw[q2]at e;exact congrArg (fun z:Option (Option Value)=>z.getD none) e
  |none =>
   rw[q2]at e;dsimp only at e
   split at e <;> cases e
theorem ExCl.cls{K:Φ}(c:ExCl K C R fI)(X:K.In h):
  ∃(nm qn:Str) (N:Addr) (bs:List Value) (sn:List Str) (sub:List Value) (ab:Bool) (col:Option Bool) (dd:Option Addr) (k0 k1 k2 k3 k5:Option Value) (mN:Str->Option Value) (oI:Obj),
   h.get? C=some (xcls nm qn C N bs (.ref R::VB) true sn sub ab col dd k0 k1 k2 k3 k5)/\h.Ns N mN/\mN "__init__" = some (.ref fI)/\h.get? fI=some oI/\oI.cls=.type "function":=by
 obtain⟨nm,qn,N,bs,sn,sub,ab,col,dd,k0,k1,k2,k3,k5,lk,nsok,nsi⟩:=c.obj;have hN:=ky.Ns.of_isNs (PySem.W.isNs_of_in X nsok);have hf:=c.fn;unfold isFn PySem.W.typeIn at hf;have hf':=beq_iff_eq.mp hf;obtain⟨oI,q,r⟩:=uo.mp hf';exact⟨nm,qn,N,bs,sn,sub,ab,col,dd,k0,k1,k2,k3,k5,_,oI,X _ _ lk,hN,aDx X hN nsi,X _ _ q,r⟩
end L2
namespace L2
open PySem PySem.Spec PyProof.Rows
structure XCls (K:Φ) (C:Addr) (bm:List Value):Prop where
 obj:∃(nm q:Str) (N:Addr) (bs:List Value) (hd:Bool) (sn:List Str) (sub:List Value) (ab:Bool) (col:Option Bool) (dd:Option Addr) (k0 k1 k2 k3 k5:Option Value) (ni:String),K.lookup C=some (excClassObj nm q C N bs bm hd sn sub ab col dd k0 k1 k2 k3 k5 ni)
 b:bm.contains (.type "BaseException")=true
structure aOs (K:Φ) (B f:Addr):Prop where
 r:PySem.W.readsIn K B (.type "type")=true
 fd:PySem.W.findCls K (.ref B) (.type "type") "__init__" = some (.val (.ref f))
 g:vf K (.ref B) "__getattribute__" = some (some (.builtin "type.__getattribute__"))
 k:keepIn K (.ref f)=true
section
variable {X:Cx}{CX:CXT}{k:Nat}{f B C R:Addr}{fd:tu}{ps:List Str}{sp:Sp}{dvs:List V}{ds:List Value}{E:XK}{x:Str}{p pos apos:Pos}{e o:Expr}{es:List Expr}{t:TA}
theorem aIv(c:aOs X.K B f)(ho:PE X o (tC (.ref B)))(F:jU X.prog X.w X.K X.mg X.base CX k f fd ps sp)(hr:vY k X.A)(hb:Binds X.K fd ps ds)(hd:jY dvs ds)(hx:yH CX X E)(ha:PA X (e::es) t)
  (hst:iy (e::es) X.env=(false,eval e X.env)::iy es X.env:=by rfl)(hpl:(qh pos (iy es X.env)).any (·.1)=false:=by rfl)
  (ht:eval (.Call (.Attribute o "__init__" apos) (e::es) [] pos) X.env=(do
   let ov ←eval o X.env
   standAt apos.atName
   let (f,first) ←uf [ov] (wz ov "__init__" pl)
   callWith pos f first (qh pos (iy (e::es) X.env)) (xj pos (ua [] X.env))):=by rfl):
  PE X (.Call (.Attribute o "__init__" apos) (e::es) [] pos) (wY sp dvs E t):=by
 intro pins s σ H Q I h;refine su (pl:=pl) (thn (ho pins s σ H (fun v H1=>v=.ref B/\wY sp dvs E t σ H1 Q) I ⟨rfl,h⟩) fun u s1 zq=>?_) ht;obtain⟨x,H1,I1,rx,ex,q⟩:=zq;subst ex;obtain rfl:u=jm B:=rx;refine PySem.W.method_cls I1.kIn c.g (PySem.W.cls_value I1.kIn c.r c.fd rfl ?_);refine uk (first:=[]) (h₀:=X.base) I.ok.mod.kin c.k (thn (ha pos pins _ σ H1 _ (I1.tok _) q) fun us s2 zq=>zq.el fun vs H2 I2 r q2=>⟨I2.kIn,?_⟩) hst hpl;exact lP F hr hb hd hx I2 r q2
end
theorem aSf{v i p}{es:List Expr}: iy (.Subscript v i p::es) env=(false,eval (.Subscript v i p) env)::iy es env:=rfl
theorem dI{l o r p}{es:List Expr}: iy (.BinOp l o r p::es) env=(false,eval (.BinOp l o r p) env)::iy es env:=rfl
section
variable {X:Cx}
theorem nY(hc:PT X c tc)(ha:PSx X a t)(hb:PSs X b u):aBu X (.If c a b pos) (tIfS tc t u):=⟨jZ hc ha.h hb⟩
end
section
variable {X:Cx}
def tyM (K:Φ) (x:V) (H:Hp) (t:String):Prop:=tyN K x H t\/(t = "dict"/\∃p kvs,x=.ref p/\H p=some (.dK kvs))
theorem eQ:vN X (.builtin "isinstance") (fun xs H Q=>∃x T t,xs=[x,.ty T]/\T∈tK/\tyM X.K x H t/\Q (.bl (isa t T)) H):=by
 intro pins s σ H xs us Q I r h;obtain⟨x,T,t,rfl,hT,ht|⟨rfl,p,kvs,rfl,hp⟩,q⟩:=h
 ·exact hJ pins s σ H _ us Q I r ⟨x,T,t,rfl,hT,ht,q⟩
 ·exact tT pins s σ H _ us Q I r ⟨p,T,kvs,rfl,hT,hp,q⟩
end
section
variable {X:Cx}{pins:List (Addr×Obj)}{σ:St}{H:Hp}{s:μ}{h':ky}
theorem Inv.turned2{t':Nat}{e it p:Addr}(I:Inv X pins σ H s)(k:∀b u,b≠e->b≠it->s.heap.get? b=some u->h'.get? b=some u)(fe:dQ X pins H e)(fi:dQ X pins H it)
  (hp:s.heap.objs.size<=p)(new:qZ X.prog X.w (upd H p o) h' p o):Inv X pins σ (upd H p o) { s with heap:=h',toks:=t' }:=by
 have hn:=I.hok.fresh hp;have ne:∀b u,H b=some u->b≠e:=fun b u q=>jG q fe.1;have ni:∀b u,H b=some u->b≠it:=fun b u q=>jG q fi.1;have nx:∀b,b∉[e,it]->b≠e/\b≠it:=fun b hb=>⟨fun z=>hb (by simp[z]),fun z=>hb (by simp[z])⟩;have np:∀b u,s.heap.get? b=some u->b≠p:=fun b u q=>ir (ς (ψ q) hp);have u:Un (frs X.stack) [e,it] H (upd H p o) s.heap h':=by
  refine⟨fun b u q _ _ hx=>k b u (nx b hx).1 (nx b hx).2 q,fun b u q _ _ hx=>⟨u.slots,k b u (nx b hx).1 (nx b hx).2 q⟩,fun b u q n _=>?_,fun b u q hx=>⟨u,k b u (nx b hx).1 (nx b hx).2 q⟩,fun b xs q=>?_,fun b o' u q=>?_,fun b ps q=>⟨#[],?_⟩⟩
  ·rw[jT (np b u q)];exact n
  ·rw[jT (jG q hn)];exact q
  ·rw[jT (jG q hn)];exact q
  ·rw[jT (jG q hn),q];simp
 have hok:HOk X.prog X.w (upd H p o) h':=fun b v eb=>by
  by_cases hb:b=p
  ·subst hb;rw[jI]at eb;cases eb;exact new
  ·rw[jT hb]at eb;refine(I.hok b v eb).stay (fun c w hc q=>k c w ?_ ?_ q) (fun c q=>by rw[jT (jG q hn)];exact q) fun c xs q=>by rw[jT (jG q hn)];exact q
   ·rcases hc with z|z
    ·rw[z];exact ne b v eb
    ·exact ne c _ z
   ·rcases hc with z|z
    ·rw[z];exact ni b v eb
    ·exact ni c _ z
 refine I.call (g':=s.gens) (d':=s.drawn) (t':=t') (ch:=[e,it]) u hok I.bare fun b hb=>?_;have:b=e\/b=it:=by simpa using hb
 rcases this with rfl|rfl
 ·exact⟨fe.2.2.2.1,fe.2.1,fe.2.2.2.2.1,fe.2.2.2.2.2⟩
 ·exact⟨fi.2.2.2.1,fi.2.1,fi.2.2.2.2.1,fi.2.2.2.2.2⟩
end
def Ite (K:Φ) (a:Addr):It :=
 ⟨fun i H=>∃xs x,SqL K H a xs/\xs[i]?=some x,fun i H x H'=>∃y p,x=.ref p/\H p=none/\H'=upd H p (.tup [.int (i:Int),y])/\∀xs,SqL K H a xs->xs[i]?=some y,fun i H=>∃xs,SqL K H a xs/\xs.length<=i⟩
theorem aHg{K:Φ}(a e it:Addr)(hne:e≠it):Turn P w K (.Tuple elts x1 pos) (Ite K a) [e,it] e (fun i h=>(∃old,IsEnum h e it (i:Int) old)/\h.IsListIter it a i) where
 mem:=by simp
 obj:=fun i h st b hb=>by
  have:b=e\/b=it:=by simpa using hb
  obtain⟨⟨old,he⟩,o,ho,hc,hd⟩:=st;rcases this with rfl|rfl
  ·exact⟨_,he,fun v z=>by cases z⟩
  ·exact⟨o,ho,fun v z=>by rw[hd]at z;cases z⟩
 keep:=fun i h h' st k=>by
  obtain⟨⟨old,he⟩,o,ho,r⟩:=st;exact⟨⟨old,k e (by simp) _ he⟩,o,k it (by simp) _ ho,r⟩
 item:=by
  intro X hP hw hK hc i pins s σ H E I hf st hg;subst hP hw hK;obtain⟨xs,x,hq,hx⟩:=hg;obtain⟨its,rv,p,hz⟩:=I.list hq;obtain⟨u,hu,ru⟩:=rv.get hx;have fe:=hf e (by simp);have fi:=hf it (by simp);obtain⟨⟨old,he⟩,hit⟩:=st;refine wpAny_pyNext_enum_item he hit p.isList (x:=u) (by simpa using hu) hne fun h1 heo hit1 ht1 hz1 hk1=>⟨_,rfl,?_⟩;refine wpAny_letOwnedTupleGo_enum heo fun h2 he2 hs2=>?_;replace hs2:nr e h1 h2:=hs2;have ne:s.heap.objs.size≠e:=mz (ψ he);have ht2:h2.get? s.heap.objs.size=some { cls:=.type "tuple",data:=.seq #[.int i s.toks,u] }:=(hs2.2 _ ne).trans ht1;have k2:∀b v,b≠e->b≠it->s.heap.get? b=some v->h2.get? b=some v:=fun b v n1 n2 q=>(hs2.2 b n1).trans (hk1 b v n1 n2 q);refine⟨.ref s.heap.objs.size,upd H s.heap.objs.size (.tup [.int (i:Int),x]),I.turned2 (t':=s.toks+1) k2 fe fi (ι _) ⟨(by show 2<=ξ;decide),[.int i s.toks,u],.cons ⟨_,rfl⟩ (.cons ru .nil),_,ht2,rfl,_,rfl⟩,rfl,⟨x,_,rfl,I.hok.fresh (ι _),rfl,fun ys hy=>by rw[I.list_inj hy hq];exact hx⟩,⟨⟨_,he2⟩,?_⟩,fun b hb=>?_⟩
  ·obtain⟨o,ho,r⟩:=hit1;exact⟨o,(hs2.2 it (kc hne)).trans ho,r⟩
  ·have:b=e\/b=it:=by simpa using hb
   obtain⟨oi,hoi,_⟩:=hit;rcases this with rfl|rfl
   ·rw[jT (kc ne)];exact fe.1
   ·rw[jT (ir (ψ hoi))];exact fi.1
 done:=by
  intro X hP hw hK hc i pins s σ H E I hf st hg;subst hP hw hK;obtain⟨xs,hq,hl⟩:=hg;obtain⟨its,rv,p,hz⟩:=I.list hq;have hlen:=rv.length;obtain⟨f0,f1,f2,f3,f4,f5⟩:=hf it (by simp);obtain⟨⟨old,he⟩,hit⟩:=st;exact wpAny_pyNext_enum_end (I.ok.hd hc) he hit p.isList (by simp;omega) fun h' eb=>⟨rfl,I.turned (t':=s.toks) (fun b o hb e=>eb b o hb e) f0 f1 f3 f4 f5⟩
 self:=fun _ _ _ _ _ st h=>by
  obtain⟨⟨old,he⟩,_⟩:=st;exact wpAny_pyIter_enum he h
def iEnum (K:Φ) (ta:TA):TI:=fun σ H R=>ta σ H fun vs H1=>∃a xs,vs=[.ref a]/\SqL K H1 a xs/\R (Ite K a) H1
theorem oE{a:Expr}(hg:Gl X "enumerate")(hm:X.mg "enumerate" = none)(ha:PA X [a] ta)(hs:iy [a] X.env=[(false,eval a X.env)]:=by rfl):PI X (.Tuple elts x1 tpos) (.Call (.Name "enumerate" p) [a] [] pos) (iEnum X.K ta):=by
 intro pins s σ H R I h;refine Call_ (dR I hg hm boot_enumerate (nu (thn (ha pos pins s σ H _ I h) fun us s1 zq=>?_) hs rfl));obtain⟨vs,H1,I1,r1,q1⟩:=zq;obtain⟨l,xs,e,hl,q⟩:=q1;subst e;obtain⟨u,rfl,rx⟩:=vals1 r1;cases rx;obtain⟨its,rv,pl,hz⟩:=I1.list hl;refine call_enumerate_list pl.isList fun h' he hit hsz hk=>wpAny_pyIter_enum he ?_;refine⟨s1.heap.objs.size+1,[s1.heap.objs.size+1,s1.heap.objs.size],_,_,H1,rfl,I1.kept (t':=s1.toks) hk,aHg l _ _ (Nat.succ_ne_self _),⟨⟨_,he⟩,hit⟩,fun b hb=>?_,q⟩;have:b=s1.heap.objs.size+1\/b=s1.heap.objs.size:=by simpa using hb
 rcases this with rfl|rfl
 ·exact I1.fpOk (vi _) (I1.hok.fresh (vi _))
 ·exact I1.fpOk (ι _) (I1.hok.fresh (ι _))
theorem iH{K:Φ}{xs:List V}{g:TG}{tb:TS}{D:Ends}{σ:St}{H:Hp}(Pv:Nat->St->Hp->Prop)(h0:Pv 0 σ H)(hl:∀i σ H,i<=xs.length->Pv i σ H->SqL K H a xs)
  (hs:∀i x σ H p,xs[i]?=some x->Pv i σ H->H p=none->LpL (let D2:Ends:={ D with nx:=Pv (i+1),ct:=Pv (i+1),bk:=D.nx };g (.ref p) σ (upd H p (.tup [.int (i:Int),x])) fun σ2 H2=>tb D2 σ2 H2))(hd:∀σ H,Pv xs.length σ H->D.nx σ H):
  ∃W:Nat->Nat->St->Hp->Prop,(∃m,W 0 m σ H)/\∀i m σ H,W i m σ H →
   ((Ite K a).stop i H/\D.nx σ H)\/((Ite K a).go i H/\∃N:St->Hp->Prop,(∀σ' H',N σ' H'->∃m',m'<m/\W (i+1) m' σ' H')/\∀x H',(Ite K a).yld i H x H'->g x σ H' fun σ2 H2=>tb { D with nx:=N,ct:=N,bk:=D.nx } σ2 H2):=by
 refine⟨fun i m σ H=>m=xs.length-i/\i<=xs.length/\Pv i σ H,⟨xs.length,by simp,jg _,h0⟩,?_⟩;rintro i m σ H ⟨rfl,hi,p⟩;have q:=hl i σ H hi p
 by_cases hlt:i<xs.length
 ·refine .inr ⟨⟨xs,xs[i],q,by simp[hlt]⟩,Pv (i+1),fun σ' H' p'=>⟨xs.length-(i+1),by omega,rfl,hlt,p'⟩,fun x H' y=>?_⟩;obtain⟨y',pa,rfl,hn,rfl,hy⟩:=y;exact hs i y' σ H pa (hy xs q) p hn
 ·have e:i=xs.length:=by omega
  subst e;exact .inl ⟨⟨xs,q,ι _⟩,hd σ H p⟩
section
variable {X:Cx}
def unlike (ns:List Int):Nat:=(firstMet (fun i=>ns.getD i 0) ns.length).length
end
end L2
namespace L2
open PySem
theorem vY.units1(r:vY k A):A.units+1<sd:=by
 have:=r.units;omega
end L2
namespace L2
open PySem PySem.Spec PyProof.Rows
def Sq2 (K:Φ):Bool->Hp->Addr->List V->Prop
 |false,H,a,xs=>SqL K H a xs
 |true,H,a,xs=>SqT K H a xs
def xZ:Bool->ky->Addr->Addr->Nat->Prop
 |false,h,j,a,i=>h.IsListIter j a i
 |true,h,j,a,i=>h.IsTupleIter j a i
def vE:Bool->ky->Addr->Array Value->Prop
 |false,h,a,xs=>h.IsList a xs
 |true,h,a,xs=>h.IsTuple a xs
theorem xZ.keep{g:ky}(x:xZ b h j a i)(k:∀o,h.get? j=some o->g.get? j=some o):xZ b g j a i:=by
 cases b <;> (obtain⟨o,e,r⟩:=x;exact⟨o,k o e,r⟩)
theorem vE.keep{g:ky}(x:vE b h a xs)(k:∀o,h.get? a=some o->g.get? a=some o):vE b g a xs:=by
 cases b <;> (obtain⟨o,e,r⟩:=x;exact⟨o,k o e,r⟩)
theorem xZ.obj(x:xZ b h j a i):∃o,h.get? j=some o/\∀v,o.data≠.cell v:=by
 cases b <;> (obtain⟨o,e,c,d⟩:=x;exact⟨o,e,fun v z=>by rw[d]at z;cases z⟩)
theorem vE.lt(x:vE b h a xs):a<h.objs.size:=by
 cases b <;> (obtain⟨o,e,_⟩:=x;exact ψ e)
section
variable {P:ki}{w:mx}{A:lg}{E:Value->μ->Prop}{s:μ}
theorem aLr{Q:Value->μ->Prop}(hj:s.heap.IsTupleIter j a n)(ha:s.heap.IsTuple a vs)(hv:vs[n]?=some v)
  (q:∀g,g.IsTupleIter j a (n+1)->nr j s.heap g->Q v { s with heap:=g }):Ξ (je P w) A (jl (.ref j)) Q E s:=by
 obtain⟨oj,ej,cj,dj⟩:=id hj;obtain⟨oa,ea,ca,na,da⟩:=ha;unfold jl;refine ε (wpAny_callSpecial?_slot (name:=ζ "__next__") hj.typeIs sk (qi sk hj.typeIs F.entry_tuple_iterator_next ?_ (F.args_tuple_iterator_next_1 _)));show Ξ _ _ (field (.ref j) 0 >>= _) _ _ s;refine ε (mq ej dj (x:=.ref a) rfl ?_);show Ξ _ _ (if (jm a == se)=true then _ else _) _ _ s;rw[if_neg (show ¬ ((jm a == se)=true) from ρ)];show Ξ _ _ (field (.ref j) 1 >>= _) _ _ s;refine ε (mq ej dj (x:=.int n 0) rfl ?_);show Ξ _ _ (seqItems? (.ref a) >>= _) _ _ s;refine ε (ny ea da ?_);simp only[ub,hv];refine ε (wpAny_setField ej dj (by simp) (ω ⟨v,rfl,ω (q _ ?_ (nr.update ..))⟩));exact⟨_,ky.get?_update_self _ ej (Obj.isFreed_of_fields (Obj.data_mapFields dj _)),(Obj.cls_mapFields ..).trans cj,by rw[Obj.data_mapFields dj];simp[rawInt]⟩
theorem aSo(hh:A.handled=none)(hj:s.heap.IsTupleIter j a n)(ha:s.heap.IsTuple a vs)(hv:vs[n]?=none)
  (hE:∀g x,ky.ExtBut j s.heap g->(∃o,g.get? x=some o/\o.cls=.type "StopIteration")->E (.ref x) { s with heap:=g }):Ξ (je P w) A (jl (.ref j)) Q E s:=by
 obtain⟨oj,ej,cj,dj⟩:=id hj;obtain⟨oa,ea,ca,na,da⟩:=ha;unfold jl;refine ε (wpAny_callSpecial?_slot (name:=ζ "__next__") hj.typeIs sk (qi sk hj.typeIs F.entry_tuple_iterator_next ?_ (F.args_tuple_iterator_next_1 _)));show Ξ _ _ (field (.ref j) 0 >>= _) _ _ s;refine ε (mq ej dj (x:=.ref a) rfl ?_);show Ξ _ _ (if (jm a == se)=true then _ else _) _ _ s;rw[if_neg (show ¬ ((jm a == se)=true) from ρ)];show Ξ _ _ (field (.ref j) 1 >>= _) _ _ s;refine ε (mq ej dj (x:=.int n 0) rfl ?_);show Ξ _ _ (seqItems? (.ref a) >>= _) _ _ s;refine ε (ny ea da ?_);simp only[ub,hv];refine ε (wpAny_rule (ε (wpAny_setField ej dj (by simp) ?_)));show Ξ _ _ (newExc (.type "StopIteration") [] >>= fun x=>raiseNew x) _ _ _;refine ε ?_;simp only[newExc,newTuple];refine ε (ve ?_ (by size_fits));refine ε (m:=firstArgMember _ _) (wpAny_of_eq (a:=se) (by first|rfl|(simp only[firstArgMember];rfl)) ?_);refine ve ?_ (by size_fits);simp only[raiseNew];refine ε (wpAny_handled ?_)
 first|rw[show A.in1.handled=none from hh]|rw[hh]
 exact ε (ω (wpAny_throw (hE _ _ (((nr.update ..).extBut.push _).push _) ⟨_,iw _ rfl,rfl⟩)))
theorem pV{Q:Value->μ->Prop}(hj:xZ b s.heap j a n)(ha:vE b s.heap a vs)(hv:vs[n]?=some v)
  (q:∀g,xZ b g j a (n+1)->nr j s.heap g->Q v { s with heap:=g }):Ξ (je P w) A (jl (.ref j)) Q E s:=by
 cases b
 ·exact wpAny_nextOf_list_item hj ha hv q
 ·exact aLr hj ha hv q
theorem aJz(hh:A.handled=none)(hj:xZ b s.heap j a n)(ha:vE b s.heap a vs)(hv:vs[n]?=none)
  (hE:∀g x,ky.ExtBut j s.heap g->(∃o,g.get? x=some o/\o.cls=.type "StopIteration")->E (.ref x) { s with heap:=g }):Ξ (je P w) A (jl (.ref j)) Q E s:=by
 cases b
 ·exact wpAny_nextOf_list_end hh hj ha hv hE
 ·exact aSo hh hj ha hv hE
end
abbrev itN (b:Bool):String:=if b then "tuple_iterator" else "list_iterator"
abbrev zp1 (b:Bool) (h:ky) (a:Addr):ky:=h.push { cls:=.type (itN b),data:=.fields #[.ref a,.int 0 0] }
section
variable {X:Cx}{pins:List (Addr×Obj)}{σ:St}{H:Hp}{s:μ}{h':ky}
theorem Inv.turnedL{t':Nat}{ch:List Addr}{p:Addr}(I:Inv X pins σ H s)(k:∀b u,b∉ch->s.heap.get? b=some u->h'.get? b=some u)(f:∀b∈ch,dQ X pins H b)
  (hp:s.heap.objs.size<=p)(new:qZ X.prog X.w (upd H p o) h' p o):Inv X pins σ (upd H p o) { s with heap:=h',toks:=t' }:=by
 have hn:=I.hok.fresh hp;have nx:∀b u,H b=some u->b∉ch:=fun b u q z=>jG q (f b z).1 rfl;have np:∀b u,s.heap.get? b=some u->b≠p:=fun b u q=>ir (ς (ψ q) hp);have u:Un (frs X.stack) ch H (upd H p o) s.heap h':=by
  refine⟨fun b u q _ _ hx=>k b u hx q,fun b u q _ _ hx=>⟨u.slots,k b u hx q⟩,fun b u q n _=>?_,fun b u q hx=>⟨u,k b u hx q⟩,fun b xs q=>?_,fun b o' u q=>?_,fun b ps q=>⟨#[],?_⟩⟩
  ·rw[jT (np b u q)];exact n
  ·rw[jT (jG q hn)];exact q
  ·rw[jT (jG q hn)];exact q
  ·rw[jT (jG q hn),q];simp
 have hok:HOk X.prog X.w (upd H p o) h':=fun b v eb=>by
  by_cases hb:b=p
  ·subst hb;rw[jI]at eb;cases eb;exact new
  ·rw[jT hb]at eb;refine(I.hok b v eb).stay (fun c w hc q=>k c w ?_ q) (fun c q=>by rw[jT (jG q hn)];exact q) fun c xs q=>by rw[jT (jG q hn)];exact q
   rcases hc with z|z
   ·rw[z];exact nx b v eb
   ·exact nx c _ z
 exact I.call (g':=s.gens) (d':=s.drawn) (t':=t') (ch:=ch) u hok I.bare fun b hb=>⟨(f b hb).2.2.2.1,(f b hb).2.1,(f b hb).2.2.2.2.1,(f b hb).2.2.2.2.2⟩
theorem Inv.turnedL0{t':Nat}{ch:List Addr}(I:Inv X pins σ H s)(k:∀b u,b∉ch->s.heap.get? b=some u->h'.get? b=some u)(f:∀b∈ch,dQ X pins H b):Inv X pins σ H { s with heap:=h',toks:=t' }:=by
 have nx:∀b u,H b=some u->b∉ch:=fun b u q z=>jG q (f b z).1 rfl;have u:Un (frs X.stack) ch H H s.heap h':=by
  refine⟨fun b u q _ _ hx=>k b u hx q,fun b u q _ _ hx=>⟨u.slots,k b u hx q⟩,fun b u q n _=>n,fun b u q hx=>⟨u,k b u hx q⟩,fun b xs q=>q,fun b o' u q=>q,fun b ps q=>⟨#[],?_⟩⟩;rw[q];simp
 have hok:HOk X.prog X.w H h':=fun b v eb=>by
  refine(I.hok b v eb).stay (fun c w hc q=>k c w ?_ q) (fun c q=>q) fun c xs q=>q;rcases hc with z|z
  ·rw[z];exact nx b v eb
  ·exact nx c _ z
 exact I.call (g':=s.gens) (d':=s.drawn) (t':=t') (ch:=ch) u hok I.bare fun b hb=>⟨(f b hb).2.2.2.1,(f b hb).2.1,(f b hb).2.2.2.2.1,(f b hb).2.2.2.2.2⟩
theorem Inv.seq2(I:Inv X pins σ H s)(h:Sq2 X.K b H a xs):∃its:List Value,jY xs its/\vE b s.heap a its.toArray:=by
 cases b
 ·obtain⟨its,r,p,_⟩:=I.list h;exact⟨its,r,p.isList⟩
 ·obtain⟨its,r,p,_⟩:=I.tuple h;exact⟨its,r,p⟩
theorem Inv.seq2_inj(I:Inv X pins σ H s)(h:Sq2 X.K b H a xs)(h':Sq2 X.K b H a ys):xs=ys:=by
 cases b
 ·exact I.list_inj h h'
 ·exact I.tuple_inj h h'
end
section
variable {X:Cx}
theorem aAm:vN X (.type "int") (fun xs H Q=>∃b:Bool,xs=[.bl b]/\Q (.int (if b then 1 else 0)) H):=by
 intro pins s σ H xs us Q I r h;obtain⟨b,rfl,q⟩:=h;obtain⟨u,rfl,r1⟩:=vals1 r;cases r1;exact call_int_bool ⟨.int _,H,I.tok _,⟨_,rfl⟩,q⟩
end
def aCn (K:Φ) (H:Hp) (x:V) (d:jx):Prop:=Dat K H x d\/(∃a kvs,x=.ref a/\H a=some (.dK kvs))/\d=.dict []
def tyD:jx->String
 |.none=>"NoneType"
 |.bool _=>"bool"
 |.int _=>"int"
 |.str _=>"str"
 |.list _=>"list"
 |.tuple _=>"tuple"
 |.dict _=>"dict"
theorem Dat.ty{K:Φ}(h:Dat K H x d):tyN K x H (tyD d):=by
 cases h with
 |lst h _=>exact .inl ⟨rfl,_,h⟩
 |tup h _=>exact .inr ⟨rfl,_,h⟩
 |_=>rfl
theorem aCn.ty{K:Φ}(h:aCn K H x d):tyM K x H (tyD d):=by
 rcases h with h|⟨⟨a,kvs,rfl,h⟩,rfl⟩
 ·exact .inl h.ty
 ·exact .inr ⟨rfl,a,kvs,rfl,h⟩
theorem aCn.same{K:Φ}(h:aCn K H x d)(g:jH H H'):aCn K H' x d:=by
 rcases h with h|⟨⟨a,kvs,rfl,h⟩,rfl⟩
 ·exact .inl (h.same g)
 ·exact .inr ⟨⟨a,kvs,rfl,g _ _ h⟩,rfl⟩
theorem DatAll.length{K:Φ}: ∀{xs:List V}{ds:List jx},DatAll K H xs ds->xs.length=ds.length
 |_,_,.nil=>rfl
 |_,_,.cons _ t=>congrArg (·+1) (DatAll.length t)
theorem DatAll.get{K:Φ}: ∀{xs:List V}{ds:List jx}{i:Nat}{x:V},DatAll K H xs ds->xs[i]?=some x->∃d,ds[i]?=some d/\Dat K H x d
 |_,_,_,_,.nil,e=>by simp at e
 |_,_,0,_,.cons h _,e=>by simp at e;subst e;exact⟨_,rfl,h⟩
 |_,_,i+1,x,.cons _ t,e=>by
  obtain⟨d,h1,h2⟩:=DatAll.get (i:=i) (x:=x) t (by simpa using e);exact⟨d,by simpa using h1,h2⟩
theorem DatAll.app{K:Φ}: ∀{xs ys:List V}{ds es:List jx},DatAll K H xs ds->DatAll K H ys es->DatAll K H (xs++ys) (ds++es)
 |_,_,_,_,.nil,s=>s
 |_,_,_,_,.cons h t,s=>.cons h (DatAll.app t s)
theorem DatAll.take{K:Φ}: ∀{xs:List V}{ds:List jx}(n:Nat),DatAll K H xs ds->DatAll K H (xs.take n) (ds.take n)
 |_,_,0,_=>.nil
 |_,_,_+1,.nil=>.nil
 |_,_,n+1,.cons h t=>.cons h (DatAll.take n t)
theorem DatAll.drop{K:Φ}: ∀{xs:List V}{ds:List jx}(n:Nat),DatAll K H xs ds->DatAll K H (xs.drop n) (ds.drop n)
 |_,_,0,h=>h
 |_,_,_+1,.nil=>.nil
 |_,_,n+1,.cons _ t=>DatAll.drop n t
end L2
namespace L2
open PySem
theorem qG{H H1:Hp}(e:upd H p o=H1)(hp:H p=none):jH H H1/\H1 p=some o:=by
 subst e;exact⟨fun b u q=>by rw[jT (jG q hp)];exact q,jI⟩
theorem vV{H1:Hp}(e:upd H p o=H1):But p H H1/\H1 p=some o:=by
 subst e;exact⟨But.upd,jI⟩
theorem jH.at{H H1:Hp}(g:jH H H1)(h:H a=some o):H1 a=some o:=g _ _ h
theorem jH.tp{K:Φ}(e:jH H H')(h:SqT K H a xs):SqT K H' a xs:=by
 rcases h with (h|⟨o,h⟩)|h
 ·exact .inl (.inl (e _ _ h))
 ·exact .inl (.inr ⟨o,e _ _ h⟩)
 ·exact .inr h
theorem jH.dt{K:Φ}(g:jH H H')(h:Dat K H x d):Dat K H' x d:=h.same g
theorem jH.dts{K:Φ}(g:jH H H')(h:DatAll K H xs ds):DatAll K H' xs ds:=h.same g
theorem jH.dtt{K:Φ}(g:jH H H')(h:aCn K H x d):aCn K H' x d:=h.same g
theorem join{R:VK}(hk:R v H')(h:∀Q:VK,Q v H'->tIf t ta tb σ H Q):tIf t ta tb σ H R:=h R hk
theorem aOm(P:St->Hp->Prop){D:Ends}{rest:TS}(hk:∀σ' H',P σ' H'->rest D σ' H')(h:∀nx:St->Hp->Prop,(∀σ' H',P σ' H'->nx σ' H')->tIfS c t u { D with nx:=nx } σ H):vB (tIfS c t u) rest D σ H:=h (rest D) hk
end L2
local macro_rules | `(tactic| walk_at"hp") => `(tactic| first
 |assumption
 |exact L2.jI
 |exact L2.jH.refl _
 | (refine' L2.jH.at ?k1 ?_; (case k1=>assumption);walk_at"hp";done)
 | (refine L2.SqL.of ?_;walk_at"hp";done)
 | (refine L2.SqT.of ?_;walk_at"hp";done)
 | (refine' L2.jH.seq ?k1 ?_; (case k1=>assumption);walk_at"hp";done)
 | (refine' L2.jH.tp ?k1 ?_; (case k1=>assumption);walk_at"hp";done)
 | (refine' L2.jH.dt ?k1 ?_; (case k1=>assumption);walk_at"hp";done)
 | (refine' L2.jH.dts ?k1 ?_; (case k1=>assumption);walk_at"hp";done)
 | (refine' L2.jH.dtt ?k1 ?_; (case k1=>assumption);walk_at"hp";done)
 | (refine' L2.jH.trans ?_ ?k1; (case k1=>assumption);walk_at"hp";done))
local macro_rules | `(tactic| walk_at"al") => `(tactic| (intro pX hX;generalize eX : L2.upd _ pX _ = HX;obtain ⟨gX,kX⟩ := L2.qG eX hX;clear eX))
local macro_rules | `(tactic| o_unpack $r:ident) => `(tactic| (intro $r:ident hX;generalize eX : L2.upd _ $r:ident _ = HX;obtain ⟨gX,kX⟩ := L2.qG eX hX;clear eX))
local macro_rules | `(tactic| walk_at"ch") => `(tactic| (generalize eX : L2.upd _ _ _ = HX;obtain ⟨gX,kX⟩ := L2.vV eX;clear eX))
local macro_rules | `(tactic| walk_at"rd") => `(tactic| repeat first
 | (refine⟨_,rfl,?_⟩)
 | (refine⟨_,_,rfl,rfl,?_⟩)
 | (refine⟨_,_,rfl,rfl,⟨by decide,by decide⟩,?_⟩)
 | (refine' ⟨_,_,rfl,.inl ?k1,?_⟩; (case k1=>walk_at"hp"))
 | (refine' ⟨_,_,_,_,rfl,rfl,?k1,?k2,?_⟩; (case k1=>walk_at"hp"); (case k2=>rfl)))
namespace L2
open PySem PySem.Spec PyProof.Rows
section
variable {X:Cx}
theorem rS(hu:X.A.units+64<sd):OpR X (lm .NotEq) (fun x y H Q=>∃(a b:Addr) (xs:List V),x=.ref a/\y=.ref b/\SqL X.K H a xs/\SqL X.K H b []/\Q (.bl (!xs.isEmpty)) H):=by
 intro pins s σ H x y v u Q I rx ry h;obtain⟨a,b,xs,rfl,rfl,ha,hb,q⟩:=h;cases rx;cases ry;obtain⟨i1,r1,p1,_⟩:=I.list ha;obtain⟨i2,r2,p2,_⟩:=I.list hb;cases r2;show Ξ _ _ (richCompare .NotEq (.ref a) (.ref b)) _ _ _;cases xs with
 |nil =>
  cases r1;refine SeqAt.RcNeAt.lists (e:=fun _=>true) p1.isList p2.isList rfl (by omega) (fun j h1 _=>absurd h1 (sy _)) _ _ _ _ ?_;exact⟨.bl false,H,I,rfl,q⟩
 |cons z zs =>
  cases r1 with
  |cons rz rt =>
   refine SeqAt.RcNeAt.lists_lengths p1.isList p2.isList (by simp) (by omega) _ _ _ _ ?_;exact⟨.bl true,H,I,rfl,q⟩
end
end L2
namespace L2
open PySem
theorem oS{n:Nat}(h:n<2 ^ 100):n.log2<100:=by
 by_cases h0:n=0
 ·subst h0;decide
 ·exact(Nat.log2_lt h0).mpr h
end L2
namespace L2
open PySem PySem.Spec PyProof.Rows
theorem zL{x p}{es:List Expr}: iy (.Name x p::es) env=(false,eval (.Name x p) env)::iy es env:=rfl
section
variable {X:Cx}{e:Expr}{es:List Expr}{te:TE}{t:TA}
theorem aLp(h:PAx X es t):PEx X (.List es pos) (tLst t):=⟨qC h.h⟩
theorem bR(h:PEx X e te):aBu X (.Return (some e) pos) (tRet te):=⟨jL h.h⟩
theorem aJd{i:Nat}(hN:X.N.Nodup)(hi:X.N[i]?=some x)(hx:X.env.scope.names.lookup x=some .local)(he:PEx X (.List es p1) te):
  aBu X (.Assign [.Name x pos'] (.List es p1) pos) (aHb te (zS i)):=⟨aEb hN hi (.inl hx) he.h rfl (.inr hx)⟩
end
structure cY (P:ki) (w:mx) (K:Φ) (mg:Str->Option Value) (base:ky) (CX:CXT) (k:Nat) (m:Str) (C:Addr) (sp:Sp):Prop where
 cl:Cls K C
 ex:∃f fd ps,aJw K C m f/\jU P w K mg base CX k f fd ps sp/\Binds K fd ps []
section
variable {X:Cx}{CX:CXT}{k:Nat}{E:XK}{m:Str}{pos apos:Pos}{e o:Expr}{es:List Expr}{ta:TE}{t:TA}{T:Addr->Sp->Prop}
def aHn (T:Addr->Sp->Prop) (m:Str) (E:XK) (ta:TE) (t:TA):TE:=fun σ H Q=>ta σ H fun x H1=>∃a C dx fs sp,x=.ref a/\H1 a=some (.ins C dx fs)/\fs.lookup m=none/\T C sp/\t σ H1 fun vs H2=>sp (x::vs) H2 Q E
theorem aBn(he:PE X o ta)(hT:∀C sp,T C sp->cY X.prog X.w X.K X.mg X.base CX k m C sp)(hr:vY k X.A)(hx:yH CX X E)(ha:PA X (e::es) t)
  (hst:iy (e::es) X.env=(false,eval e X.env)::iy es X.env:=by rfl)(hpl:(qh pos (iy es X.env)).any (·.1)=false:=by rfl)
  (ht:eval (.Call (.Attribute o m apos) (e::es) [] pos) X.env=(do
   let ov ←eval o X.env
   standAt apos.atName
   let (f,first) ←uf [ov] (wz ov m pl)
   callWith pos f first (qh pos (iy (e::es) X.env)) (xj pos (ua [] X.env))):=by rfl):
  PE X (.Call (.Attribute o m apos) (e::es) [] pos) (aHn T m E ta t):=by
 intro pins s σ H Q I h;refine su (pl:=pl) (thn (he pins s σ H _ I h) fun u s1 zq=>?_) ht;obtain⟨x,H1,I1,rx,a,C,dx,fs,sp,ex,ea,l,hC,q⟩:=zq;subst ex;obtain rfl:u=jm a:=rx;obtain⟨c,f,fd,ps,hm,F,hb⟩:=hT C sp hC;refine cQ I1 ea c hm l ?_;refine uk (first:=[.ref a]) (h₀:=X.base) I.ok.mod.kin hm.kp (thn (ha pos pins s1 σ H1 _ I1 q) fun us s2 zq=>zq.el fun vs H2 I2 r q2=>⟨I2.kIn,?_⟩) hst hpl;exact lP (us:=.ref a::us) (vs:=.ref a::vs) (dvs:=[]) F hr hb .nil hx I2 (.cons rfl r) (by rw[jq];exact q2)
theorem bL(he:PE X o ta)(hT:∀C sp,T C sp->cY X.prog X.w X.K X.mg X.base CX k m C sp)(hr:vY k X.A)(hx:yH CX X E)
  (ht:eval (.Call (.Attribute o m apos) [] [] pos) X.env=(do
   let ov ←eval o X.env
   standAt apos.atName
   let (f,first) ←uf [ov] (wz ov m pl)
   callWith pos f first (qh pos (iy [] X.env)) (xj pos (ua [] X.env))):=by rfl):
  PE X (.Call (.Attribute o m apos) [] [] pos) (aHn T m E ta aIq):=by
 intro pins s σ H Q I h;refine su (pl:=pl) (thn (he pins s σ H _ I h) fun u s1 zq=>?_) ht;obtain⟨x,H1,I1,rx,a,C,dx,fs,sp,ex,ea,l,hC,q⟩:=zq;subst ex;obtain rfl:u=jm a:=rx;obtain⟨c,f,fd,ps,hm,F,hb⟩:=hT C sp hC;refine cQ I1 ea c hm l ?_;exact PySem.W.callWith_K0 (first:=[.ref a]) I1.kIn hm.kp (lP (us:=[.ref a]) (vs:=[.ref a]) (dvs:=[]) F hr hb .nil hx I1 (.cons rfl .nil) q)
end
def aCs:V->Option Str
 |.str x=>some x
 |.int i=>if i.natAbs<2 ^ 100 then some (toString i) else none
 |_=>none
def TJ:=St->Hp->Str->(Str->Hp->Prop)->Prop
def PJ (X:Cx) (es:List Expr) (t:TJ):Prop:=∀(pins:List (Addr×Obj)) (s:μ) (σ:St) (H:Hp) (acc:Str) (Q:Str->Hp->Prop),Inv X pins σ H s->t σ H acc Q →
 Ξ (je X.prog X.w) X.A (joinParts acc (evalEach es X.env)) (EP X pins σ fun v H'=>∃z,v=.str z/\Q z H') X.xe s
section
variable {X:Cx}{e e1 e2:Expr}{es:List Expr}{te:TE}{t:TJ}{pos p:Pos}{x:Str}
def jNil:TJ:=fun _ H acc Q=>acc.length<=ξ/\Q acc H
theorem aQn:PJ X [] jNil:=fun _ s _ H acc Q I h=>joinParts_nil ⟨.str acc,H,I.tok _,⟨_,rfl⟩,acc,rfl,h.2⟩ h.1
def jStr (x:Str) (t:TJ):TJ:=fun σ H acc Q=>(acc++x).length<=ξ/\t σ H (acc++x) Q
theorem aQl{j}(ht:PJ X es t):PJ X (.Constant (.str x) j p::es) (jStr x t):=by
 intro pins s σ H acc Q I h;refine joinParts_cons (Calls.Constant_str ⟨h.1,ht pins _ σ H _ Q (I.tok _) h.2⟩)
theorem aIa{s:μ}{R:Value->μ->Prop}(I:Inv X pins σ H s)(r:RelV v u)(hy:aCs v=some y)(hl:y.length<=ξ)
  (h:∀t' tk,Inv X pins σ H { s with toks:=tk }->R (.str y t') { s with toks:=tk }):Ξ (je X.prog X.w) X.A (formatField u Str.empty) R E s:=by
 cases v with
 |str x =>
  obtain⟨t,rfl⟩:=r;cases hy;exact formatField_str (fun t' tk=>h t' tk (I.kept fun _ _ q=>q)) hl
 |int i =>
  obtain⟨t,rfl⟩:=r;have hy':(if i.natAbs<2 ^ 100 then some (ζ (toString i)) else none)=some y:=hy
  by_cases hi:i.natAbs<2 ^ 100
  ·rw[if_pos hi]at hy';cases hy';refine formatField_int_small ?_ (h _ _ (I.kept fun _ _ q=>q));have:=oS hi;omega
  ·rw[if_neg hi]at hy';cases hy'
 |_=>cases hy
def jVal (te:TE) (t:TJ):TJ:=fun σ H acc Q=>te σ H fun v H1=>∃y,aCs v=some y/\y.length<=ξ/\(acc++y).length<=ξ/\t σ H1 (acc++y) Q
theorem aJh(he:PE X e te)(ht:PJ X es t):PJ X (.FormattedValue e (-1) none p::es) (jVal te t):=by
 intro pins s σ H acc Q I h;refine joinParts_cons (FormattedValue_plain (thn (he pins s σ H _ I h) fun u s1 zq=>?_));obtain⟨v,H1,I1,r,y,hy,hl,ha,q⟩:=zq;exact aIa I1 r hy hl fun t' tk I2=>⟨ha,ht pins _ σ H1 _ Q I2 q⟩
def tJoin (t:TJ):TE:=fun σ H Q=>t σ H Str.empty fun z H1=>Q (.str z) H1
theorem aMq(h:PJ X (e1::e2::es) t):PE X (.JoinedStr (e1::e2::es) pos) (tJoin t):=by
 intro pins s σ H Q I hq;exact JoinedStr_many (thn (h pins s σ H Str.empty _ I hq) fun u s1 ⟨v,H1,I1,r,z,ez,q⟩=>⟨v,H1,I1,r,by rw[ez];exact q⟩)
def aSw (te:TE):TE:=fun σ H Q=>te σ H fun v H1=>∃y,aCs v=some y/\y.length<=ξ/\Q (.str y) H1
theorem aIn(he:PE X e te):PE X (.JoinedStr [.FormattedValue e (-1) none p] pos) (aSw te):=by
 intro pins s σ H Q I h;refine JoinedStr_one (FormattedValue_plain (thn (he pins s σ H _ I h) fun u s1 zq=>?_));obtain⟨v,H1,I1,r,y,hy,hl,q⟩:=zq;exact aIa I1 r hy hl fun t' tk I2=>⟨.str y,H1,I2,⟨_,rfl⟩,q⟩
end
end L2
namespace L2
open PySem
def jn (c:Nat):List (List Nat)->List Nat
 |[]=>[]
 |[p]=>p
 |p::q::r=>p++c::jn c (q::r)
theorem aFx{c:Nat}: ∀{p1 p2 t1 t2:List Nat},c∉p1->c∉p2->p1++c::t1=p2++c::t2->p1=p2/\t1=t2
 |[],[],t1,t2,_,_,h=>⟨rfl,(yl h).2⟩
 |[],b::p2,t1,t2,_,h2,h=>absurd (ο.mpr (.inl (yl h).1)) h2
 |a::p1,[],t1,t2,h1,_,h=>absurd (ο.mpr (.inl (yl h).1.symm)) h1
 |a::p1,b::p2,t1,t2,h1,h2,h=>by
  obtain⟨e1,e2⟩:=yl h;obtain⟨e3,e4⟩:=aFx (fun z=>h1 (Ω _ z)) (fun z=>h2 (Ω _ z)) e2;exact⟨by rw[e1,e3],e4⟩
theorem aHw{c:Nat}: ∀{ps qs:List (List Nat)},ps≠[]->qs≠[]->(∀p∈ps,c∉p)->(∀q∈qs,c∉q)->jn c ps=jn c qs->ps=qs
 |[],_,h,_,_,_,_=>absurd rfl h
 |_,[],_,h,_,_,_=>absurd rfl h
 |[p],[q],_,_,_,_,h=>by rw[show p=q from h]
 |[p],q::q2::qs,_,_,hp,_,h=>by
  have e:p=q++c::jn c (q2::qs):=h;exact absurd (by rw[e];simp) (hp p (τ ..))
 |p::p2::ps,[q],_,_,_,hq,h=>by
  have e:p++c::jn c (p2::ps)=q:=h;exact absurd (by rw[←e];simp) (hq q (τ ..))
 |p::p2::ps,q::q2::qs,_,_,hp,hq,h=>by
  obtain⟨e1,e2⟩:=aFx (hp p (τ ..)) (hq q (τ ..)) h;have ih:=aHw (by simp) (by simp) (fun z hz=>hp z (Ω _ hz)) (fun z hz=>hq z (Ω _ hz)) e2;rw[e1,ih]
theorem oH(c:Nat):∀ys:List Str,(jp ⟨#[c]⟩ ys).cps.toList=jn c (ys.map fun y=>y.cps.toList)
 |[]=>rfl
 |[y]=>rfl
 |y::z::ys=>by
  show(y++⟨#[c]⟩++jp ⟨#[c]⟩ (z::ys)).cps.toList=_;rw[vk,vk,vy,vy,oH c (z::ys),jy];rfl
theorem aLa(x y:Str):pz x y≠[]:=fun h=>by
 unfold pz at h
 split at h
 ·cases h
 ·split at h
  ·cases h
  ·rw[StrLaws.partsBetween_eq]at h;obtain⟨p,r,e⟩:=StrLaws.partsFrom_ne x y.length 0 (pw x y 0 x.length (x.length+1));rw[e]at h;cases h
theorem cC{c:Nat}{ys:List Str}(hne:ys≠[])(hf:∀y∈ys,c∉y.cps.toList):pz (jp ⟨#[c]⟩ ys) ⟨#[c]⟩=ys:=by
 have h1:=StrLaws.join_split (jp ⟨#[c]⟩ ys) ⟨#[c]⟩;have h2:=congrArg (fun z:Str=>z.cps.toList) h1;simp only[oH]at h2;have h3:=aHw (by simpa using aLa _ _) (by simpa using hne) (fun p hp=>by
  obtain⟨y,hy,rfl⟩:=jz.mp hp;exact StrLaws.split_free _ c y hy) (fun p hp=>by
  obtain⟨y,hy,rfl⟩:=jz.mp hp;exact hf y hy) h2
 have hi:∀{as bs:List Str},(as.map fun y=>y.cps.toList)=(bs.map fun y=>y.cps.toList)->as=bs:=by
  intro as
  induction as with
  |nil=>intro bs h;cases bs with
   |nil=>rfl
   |cons b bs=>cases h
  |cons a as ih=>intro bs h;cases bs with
   |nil=>cases h
   |cons b bs =>
    obtain⟨e1,e2⟩:=yl h;rw[ih e2,Str.ext' (Array.toList_inj.mp e1)]
 exact hi h3
end L2
namespace L2
open PySem PySem.Spec PyProof.Rows
section
variable {X:Cx}
theorem bQ:MtR X "str.split" (fun x vs H Q=>∃z y:Str,x=.str z/\vs=[.str y]/\(y.length == 0)=false/\z.length+2<=ξ/\∀p,H p=none->Q (.ref p) (upd H p (.lst ((pz z y).map V.str)))):=by
 intro pins s σ H x vs v us Q I rx rv h;obtain⟨z,y,rfl,rfl,h2,h4,q⟩:=h;have hn:(pd.Str.partsBetween z (pw z y 0 z.length (z.length+1)) y.length).length<=ξ:=by
  have e1:=StrLaws.occ_length_le z y 0 z.length (z.length+1);rw[length_partsBetween];omega
 obtain⟨t,rfl⟩:=rx;obtain⟨u,rfl,ru⟩:=vals1 rv;obtain⟨t',rfl⟩:=ru;have fin:∀(tk:Nat) (ws:List Value),jY ((pz z y).map V.str) ws->(pz z y).length<=ξ →
   EP X pins σ Q (.ref s.heap.objs.size) { s with toks:=tk,heap:=s.heap.push { cls:=.type "list",data:=.seq ws.toArray } }:=fun tk ws rw' hl=>by
  refine⟨.ref s.heap.objs.size,_,I.laid (o:=.lst ((pz z y).map V.str)) (fun b o e=>ν _ e) (ι _) ?_,rfl,q _ (I.hok.fresh (ι _))⟩;exact⟨by rw[δ];exact hl,_,0,rw',iw _ rfl⟩
 cases h1:(decide (z.length<y.length)||decide (pd.Str.strKind z<pd.Str.strKind y))
 ·cases hf:(pw z y 0 z.length (z.length+1)).isEmpty
  ·refine vj F.slot_str_split (typeIs_str _ _ _) F.entry_str_split (F.args_str_split_2 _ _) (meets_str_split_sep z y t t' h1 h2 hf (by omega) hn) ?_;have e:pz z y=pd.Str.partsBetween z (pw z y 0 z.length (z.length+1)) y.length:=(if_neg (ne_true_of_eq_false h1)).trans (if_neg (ne_true_of_eq_false hf));exact fin _ _ (by rw[e];exact tI _ _) (by rw[e];exact hn)
  ·have e:pz z y=[z]:=(if_neg (ne_true_of_eq_false h1)).trans (if_pos hf);exact vj F.slot_str_split (typeIs_str _ _ _) F.entry_str_split (F.args_str_split_2 _ _) (meets_str_split_not_found z y t t' h1 h2 hf) (fin s.toks [.str z t] (by rw[e];exact .cons ⟨_,rfl⟩ .nil) (by rw[e];show 1<=ξ;decide))
 ·have e:pz z y=[z]:=if_pos h1;exact vj F.slot_str_split (typeIs_str _ _ _) F.entry_str_split (F.args_str_split_2 _ _) (meets_str_split_cannot_occur z y t t' h1) (fin s.toks [.str z t] (by rw[e];exact .cons ⟨_,rfl⟩ .nil) (by rw[e];show 1<=ξ;decide))
theorem aAh:MtR X "str.join" (fun x vs H Q=>∃(sep:Str) (a:Addr) (ys:List Str),x=.str sep/\vs=[.ref a]/\SqL X.K H a (ys.map V.str)/\(ys.map (·.length)).sum+ys.length*sep.length<=16777216/\Q (.str (jp sep ys)) H):=by
 intro pins s σ H x vs v us Q I rx rv h;obtain⟨sep,a,ys,rfl,rfl,ha,hz,q⟩:=h;obtain⟨t,rfl⟩:=rx;obtain⟨u,rfl,ru⟩:=vals1 rv;cases ru;obtain⟨its,r,pl,_⟩:=I.list ha;refine PyProof.Rows.join_list pl.isList (aDi (by simpa using r)) hz fun t' k=>⟨.str _,H,I.tok _,⟨_,rfl⟩,?_⟩;rw[show Txt.join sep ys=jp sep ys from StrLaws.glued_eq_join sep ys];exact q
end
section
variable {X:Cx}
theorem mU(f:Nat->Int):∀k,argBest (fun i j=>decide (f i > f j)) k<=k/\∀j,j<=k->f j<=f (argBest (fun i j=>decide (f i > f j)) k)
 |0=>⟨ι _,fun j hj=>by rw[show j=0 by omega];exact Int.le_refl _⟩
 |k+1=>by
  obtain⟨h1,h2⟩:=mU f k;unfold argBest
  by_cases h:f (k+1) > f (argBest (fun i j=>decide (f i > f j)) k)
  ·rw[if_pos (decide_eq_true h)];refine⟨ι _,fun j hj=>?_⟩
   by_cases e:j=k+1
   ·rw[e];exact Int.le_refl _
   ·have:=h2 j (by omega);omega
  ·rw[if_neg (by rw[decide_eq_false h];exact ρ)];refine⟨by omega,fun j hj=>?_⟩
   by_cases e:j=k+1
   ·rw[e];omega
   ·exact h2 j (by omega)
theorem mD(hc:X.calm=true):vN X (.builtin "max") (fun xs H Q=>∃(a:Addr) (ns:List Int),xs=[.ref a]/\SqL X.K H a (ns.map V.int)/\ns≠[]/\∀m:Int,m∈ns->(∀n∈ns,n<=m)->Q (.int m) H):=by
 intro pins s σ H xs us Q I r h;obtain⟨a,ns,rfl,ha,hne,q⟩:=h;obtain⟨u,rfl,rx⟩:=vals1 r;cases rx;obtain⟨its,rv,pl,_⟩:=I.list ha;have hi:=intsAre_of rv;obtain⟨ys,hy⟩:=hi.allInts.items;have e1:ns=ys.toList.map (·.1):=by
  rw[←nums_intItems,←hy];exact(show numsOf its.toArray.toList=ns from hi.numsOf).symm
 have hsz:ys.size=ns.length:=by rw[e1,δ,lh]
 have hpos : 0<ns.length:=List.length_pos_iff.mpr hne;have hat:∀j,ns[j]?=ys[j]?.map (fun x:Int×Tok=>x.1):=fun j=>by rw[e1,jv,Array.getElem?_toList]
 have hnum:∀j,j<ns.length->ns[j]?=some (numAt ys j):=fun j hj=>by
  have hj2:j<ys.size:=by omega
  rw[hat,ow hj2];unfold numAt;rw[ow hj2];rfl
 refine max_intList (I.ok.hd hc) (hy ▸ pl.isList) (by omega) fun v h' tk hv hk=>?_;obtain⟨t,rfl⟩:=intItems_at hv;obtain⟨b1,b2⟩:=mU (numAt ys) (ys.size-1);refine⟨.int _,H,I.kept hk,⟨_,rfl⟩,q _ (iq (hnum _ (by omega))) fun n hn=>?_⟩;obtain⟨j,hj⟩:=lw.mp hn;have hjl:j<ns.length:=(η.mp hj).1;rw[hnum j hjl]at hj;cases hj;exact b2 j (by omega)
theorem aKp(hu:X.A.units+64<sd):OpR X (lm .Eq) (fun x y H Q=>∃(a b:Addr) (xs:List V),x=.ref a/\y=.ref b/\SqL X.K H a xs/\SqL X.K H b []/\Q (.bl xs.isEmpty) H):=by
 intro pins s σ H x y v u Q I rx ry h;obtain⟨a,b,xs,rfl,rfl,ha,hb,q⟩:=h;cases rx;cases ry;obtain⟨i1,r1,p1,_⟩:=I.list ha;obtain⟨i2,r2,p2,_⟩:=I.list hb;cases r2;cases xs with
 |nil =>
  cases r1;refine SeqAt.eq_listAt (e:=fun _=>true) p1.isList p2.isList rfl (by omega) (fun j h1 _=>absurd h1 (sy _)) ?_;exact⟨.bl true,H,I,rfl,q⟩
 |cons z zs =>
  cases r1 with
  |cons rz rt =>
   refine SeqAt.eq_list_lengthsAt p1.isList p2.isList (by simp) (by omega) ?_;exact⟨.bl false,H,I,rfl,q⟩
end
def aJn (J:It) (k:Nat) (js:List Nat) (g:TG) (tc:TT) (tk tv:TE) (σ:St) (Q:VK) (H1:Hp):Prop:=∀D,H1 D=none →
 ∃W:Nat->Nat->St->List (Key×V)->Hp->Prop,(∃m,W 0 m (iD k js σ) [] (upd H1 D (.dK [])))/\∀i m σ' kvs H',W i m σ' kvs H' →
  (J.stop i H'/\Q (.ref D) H') ∨
  (J.go i H'/\∃N:St->List (Key×V)->Hp->Prop,(∀σ' ys H',N σ' ys H'->∃m',m'<m/\W (i+1) m' σ' ys H') ∧
   ∀x H2,J.yld i H' x H2->g x σ' H2 fun σ3 H3=>tc σ3 H3 fun b H4=>if b=true then tk σ3 H4 fun y H5=>tv σ3 H5 fun v H6=>∃key,y=kV key/\H6 D=some (.dK kvs)/\kvs.length<ξ/\N σ3 (putK kvs key v) (upd H6 D (.dK (putK kvs key v))) else N σ3 kvs H4)
def aRn (wi:TI) (k:Nat) (js:List Nat) (g:TG) (tc:TT) (tk tv:TE):TE:=fun σ H Q=>wi σ H fun J H1=>aJn J k js g tc tk tv σ Q H1
section
variable {prog:ki}{w:mx}{A:lg}{R:Result->μ->Prop}{s:μ}
theorem sR{iter:Expr}(I:Nat->μ->Prop)
  (turn:∀n s,I n s->Ξ (je prog w) A (vc it) (fun r s₁=>match r with
   |none=>R (.ok .next) s₁
   |some v=>Ξ (je prog w) A (wo target it v) (fun _ s₀=>Ξ (je prog w) A (assign target env v) (fun _ s₂ =>
     Ξ (je prog w) A (forIn ifs true fun c r=>if r=true then do let ok ←isTrue c env (eval c env);pure (ux ok) else pure (ux r)) (fun ok s₃ =>
      if ok=true then Ξ (je prog w) A (eval kx env) (fun kv s₄=>Ξ (je prog w) A (eval vx env) (fun vv s₅ =>
       Ξ (je prog w) A (dictSet D kv vv) (fun _ s₆=>∃m,m<n/\I m s₆) (fun _ _=>False) s₅) (fun _ _=>False) s₄) (fun _ _=>False) s₃
      else ∃m,m<n/\I m s₃) (fun _ _=>False) s₂) (fun _ _=>False) s₀) (fun _ _=>False) s₁) (fun _ _=>False) s)
  (n:Nat)(h:I n s):codeAny (je prog w) A (.compLoop (.DictComp kx vx [⟨target,iter,ifs,0⟩] scope pos) 0 it (.ref D) env) R s:=by
 refine codeAny_loop rfl I (fun n s hI=>?_) n h;show Ξ _ A ((compTurn (.DictComp kx vx [⟨target,iter,ifs,0⟩] scope pos) 0 it (.ref D) env).onRaise (fun x=>do noteFrame x env;theTreesLotGoes x)) _ _ s;refine wpAny_noted ?_;rw[compTurn_dict];refine ε (va (ε (md (turn n s hI) (fun r s₁ h₁=>?_) fun _ _ z=>ke z)));cases r with
 |none=>exact ω h₁
 |some v =>
  refine ε (md h₁ (fun _ s₀ h₀=>?_) fun _ _ z=>ke z);refine ε (md h₀ (fun _ s₂ h₂=>ε (md h₂ (fun ok s₃ h₃=>?_) fun _ _ z=>ke z)) fun _ _ z=>ke z);cases ok with
  |false=>exact ω ⟨rfl,h₃⟩
  |true =>
   exact ε (ε (md h₃ (fun kv s₄ h₄=>ε (kf (md h₄ (fun vv s₅ h₅=>ε (va (kf (md h₅ (fun _ s₆ h₆=>ω ⟨rfl,h₆⟩) fun _ _ z=>ke z)))) fun _ _ z=>ke z))) fun _ _ z=>ke z))
end
section
variable {X:Cx}{elt tg iter:Expr}{ifs:List Expr}{scope:Scope}{cl:List (Str×Addr)}{ts ys:List Str}{js:List Nat}{pos:Pos}{wi:TI}{g:TG}{tc:TT}{te:TE}
theorem aFy{s4:μ}{fp:List Addr}(I2:Inv X pins σ H2 s2)(f2:∀b∈fp,dQ X pins H2 b)
  (I4:Inv (X.comp scope cl N s2 H2 fp C) pins' σ' H3 s4)(hC:s2.heap.objs.size<=C)(hs':nr C s4.heap h'):Inv X pins σ H3 { s4 with heap:=h' }:=by
 have ext:=hs'.extBut;have neC:∀b o,s2.heap.get? b=some o->b≠C:=fun b o e=>ir (ς (ψ e) hC);have hok:HOk X.prog X.w H3 h':=HOk.but (C:=C) I4.hok I4.free fun b o hb e=>ext b o hb e;have B:Un (frs X.stack) fp H2 H3 s2.heap s4.heap:=I4.base;have u:Un (frs X.stack) fp H2 H3 s2.heap h':=by
  refine⟨fun b o e q hb hx=>ext b o (neC b o e) (B.keep b o e q hb hx),fun b o e q hb hx=>?_,B.free,fun b o e hx=>?_,B.tups,B.frzs,B.tbls⟩
  ·obtain⟨sl,e1⟩:=B.slot b o e q hb hx;exact⟨sl,ext b _ (neC b o e) e1⟩
  ·obtain⟨o',e1⟩:=B.there b o e hx;exact⟨o',ext b _ (neC b o e) e1⟩
 have os:s4.os=s2.os:=I4.os;have gb:=I4.bare;obtain⟨hh,gg,dd,tt,os'⟩:=s4;obtain rfl:os'=s2.os:=os;have fin:=I2.call (h':=h') (g':=gg) (d':=dd) (t':=tt) (ch:=fp) u hok gb fun b hb=>⟨(f2 b hb).2.2.2.1,(f2 b hb).2.1,(f2 b hb).2.2.2.2.1,(f2 b hb).2.2.2.2.2⟩;exact fin
theorem aBk(ts ys:List Str)(js:List Nat)(hc:X.calm=true)(hi:PI X tg iter wi)(hclos:closureFor scope X.env=pure cl)(hsub:dE X.env cl)(hcap:nM X scope cl ys js)
  (hg:∀s H fp C,PG (X.comp scope cl (ts++ys) s H fp C) tg g)(ht:∀s H fp C,PIf (X.comp scope cl (ts++ys) s H fp C) ifs tc)(hek:∀s H fp C,PE (X.comp scope cl (ts++ys) s H fp C) kx tk)(hev:∀s H fp C,PE (X.comp scope cl (ts++ys) s H fp C) vx tv)
  (hkind:scope.kind=.function:=by rfl)(hcell:(scope.names.all fun y=>y.2 != .cell)=true:=by rfl)
  (hnames:(scope.names.all fun y=>y.2 != .local||scope.names.lookup y.1 == some .local)=true:=by rfl)
  (hhas:((relabel scope X.env).names.all fun p=>(p.2 != .cell&&p.2 != .free)||(cl.lookup p.1).isSome)=true:=by rfl)
  (hs:∀x,tq iter X.env x=pure x:=by intro _;rfl):PE X (.DictComp kx vx [⟨tg,iter,ifs,0⟩] scope pos) (aRn wi ts.length js g tc tk tv):=by
 intro pins s σ H Q I h;have hcell':∀y∈scope.names,y.2≠.cell:=fun y hy z=>by
  have:=iz.mp hcell y hy;rw[z]at this;exact absurd this (by decide)
 have hnames':∀y∈scope.names,y.2=.local->scope.names.lookup y.1=some .local:=fun y hy z=>by
  have:=iz.mp hnames y hy;rw[z]at this;simpa using this
 have hhas':∀x,((relabel scope X.env).names.lookup x=some .cell\/(relabel scope X.env).names.lookup x=some .free)->∃c,cl.lookup x=some c:=fun x hx=>by
  rcases hx with hx|hx
  ·have:=iz.mp hhas _ (mr hx);exact qk.mp (by simpa using this)
  ·have:=iz.mp hhas _ (mr hx);exact qk.mp (by simpa using this)
 rw[arm_eval_DictComp];refine wpAny_comprehension_free (use:=none) rfl hs hclos hkind hnames' (thn (hi pins s σ H _ I h) fun v s1 h1=>thn h1 fun itv s2 h2=>?_);obtain⟨it,fp,tn,J,H2,e,I2,T,st2,f2,hD⟩:=h2;subst e;have fl:∀b∈fp,b<s2.heap.objs.size:=fun b hb=>by
  obtain⟨o,e,_⟩:=T.obj _ _ st2 b hb;exact ψ e
 refine ve (wpAny_newFunctionEnv hcell' (by intro y hy;simp at hy) (fun h₁ hns₁ hsb₁=>?_) hkind);dsimp only at hns₁ hsb₁ ⊢;have hn2:H2 s2.heap.objs.size=none:=I2.hok.fresh (ι _);obtain⟨W,⟨m0,w0⟩,turn⟩:=hD _ hn2;have I2d:Inv X pins σ (upd H2 s2.heap.objs.size (.dK [])) { s2 with heap:=s2.heap.push { cls:=.type "dict",data:=.dict #[] } } :=
  I2.laid (a:=s2.heap.objs.size) (o:=.dK []) (h':=s2.heap.push { cls:=.type "dict",data:=.dict #[] }) (t':=s2.toks) (fun _ _ q=>ν _ q) (ι _) (pP s2.heap I2.big)
 generalize hHH:s2.heap.push { cls:=.type "dict",dict:=none,data:=.dict #[] }=HH at hns₁ hsb₁ I2d ⊢;have hC:HH.objs.size=s2.heap.objs.size+1:=by rw[←hHH,qp]
 have hlt:s2.heap.objs.size<HH.objs.size:=by rw[hC];exact vo _
 have f2d:∀b∈fp,dQ X pins (upd H2 s2.heap.objs.size (.dK [])) b:=fun b hb=>⟨by rw[jT (ir (fl b hb))];exact(f2 b hb).1,(f2 b hb).2⟩;have fld:∀b∈fp,b<HH.objs.size:=fun b hb=>Nat.lt_trans (fl b hb) hlt;have old:∀b o,HH.get? b=some o->h₁.get? b=some o:=fun b o e=>hsb₁.extBut b o (ir (ψ e)) (ν _ e);have I':Inv (X.comp scope cl (ts++ys) { s2 with heap:=HH } (upd H2 s2.heap.objs.size (.dK [])) fp HH.objs.size) [] (iD ts.length js σ) (upd H2 s2.heap.objs.size (.dK [])) { s2 with heap:=h₁,toks:=s2.toks+([]:List (Str×Value)).length } :=
  aBm (s:={ s2 with heap:=HH }) I2d hsub hcap hkind hhas' f2d fld (ι _) hns₁ old
 have stat:∀{H':Hp},(∀b∈fp,H' b=none)->∀b∈fp,dQ (X.comp scope cl (ts++ys) { s2 with heap:=HH } (upd H2 s2.heap.objs.size (.dK [])) fp HH.objs.size) [] H' b:=fun {H'} hn b hb =>
  ⟨hn b hb,ir (fld b hb),I'.ok.exfs b hb,.inl hb,(I'.ok.exf b hb).2,fun p hq=>absurd (show p∈([]:List (Addr×Obj)) from by simpa using hq) (by simp)⟩
 have tn1:tn 0 h₁:=T.keep _ _ _ st2 fun b _ o e=>old b o (hHH ▸ ν _ e);have loop:∀s₃ : μ,s₃ = { s2 with heap:=h₁,toks:=s2.toks+([]:List (Str×Value)).length } →
   codeAny (je X.prog X.w) X.A (.compLoop (.DictComp kx vx [⟨tg,iter,ifs,0⟩] scope pos) 0 (.ref it) (.ref s2.heap.objs.size) (compEnvC scope cl HH.objs.size X.env))
    (compPost (je X.prog X.w) X.A X.xe none (EP X pins σ Q) (.ref s2.heap.objs.size) HH.objs.size) s₃:=by
  rintro s₃ rfl;refine sR (fun n s'=>∃i σ' kvs H',Inv (X.comp scope cl (ts++ys) { s2 with heap:=HH } (upd H2 s2.heap.objs.size (.dK [])) fp HH.objs.size) [] σ' H' s'/\tn i s'.heap/\(∀b∈fp,H' b=none)/\W i n σ' kvs H') ?_ m0 ⟨0,_,[],_,I',tn1,fun b hb=>(f2d b hb).1,w0⟩;rintro n s3 ⟨i,σ3,kvs,H3,I3,st3,fr3,w3⟩;rcases turn i n σ3 kvs H3 w3 with⟨stop,qn⟩|⟨go,N,hN,step⟩
  ·refine thn (T.done (X.comp scope cl (ts++ys) { s2 with heap:=HH } (upd H2 s2.heap.objs.size (.dK [])) fp HH.objs.size) rfl rfl rfl hc i _ s3 σ3 H3 (fun _ _=>False) I3 (stat fr3) st3 stop) fun r s4 zq=>?_;obtain⟨hr,I4⟩:=zq;subst hr;obtain⟨m,hn,_⟩:=I4.loc;exact⟨m,hn,fun h' hs'=>⟨.ref s2.heap.objs.size,_,aFy (s2:={ s2 with heap:=HH }) I2d f2d I4 (ι _) hs',rfl,qn⟩⟩
  ·refine thn (T.item (X.comp scope cl (ts++ys) { s2 with heap:=HH } (upd H2 s2.heap.objs.size (.dK [])) fp HH.objs.size) rfl rfl rfl hc i _ s3 σ3 H3 (fun _ _=>False) I3 (stat fr3) st3 go) fun r s4 zq=>?_;obtain⟨u,hr,h4⟩:=zq;subst hr;refine thn h4 fun _ s5 zq=>?_;obtain⟨x,H5,I5,r5,y5,st5,fr5⟩:=zq;have I5':=I5.pinned (stat fr5) (T.obj _ _ st5);refine thn (hg _ _ _ _ _ s5 σ3 H5 x u _ I5' r5 (step x H5 y5)) fun _ s6 zq=>?_;obtain⟨σ6,H6,I6,q6⟩:=zq;refine thn (ht _ _ _ _ _ s6 σ6 H6 _ I6 q6) fun b s7 zq=>?_;obtain⟨H7,I7,q7⟩:=zq;have facts:∀{σ':St}{H':Hp}{s':μ},Inv (X.comp scope cl (ts++ys) { s2 with heap:=HH } (upd H2 s2.heap.objs.size (.dK [])) fp HH.objs.size) ([]++dC fp s5.heap) σ' H' s'->tn (i+1) s'.heap/\(∀b∈fp,H' b=none):=fun {σ' H' s'} J=>by
    refine⟨T.keep _ _ _ st5 fun b hb o e=>(J.pin (b,o) (jf _ (jf _ (yL hb e)))).1,fun b hb=>?_⟩;obtain⟨o,e,d⟩:=T.obj _ _ st5 b hb;exact(J.pin (b,o) (jf _ (jf _ (yL hb e)))).2.1
   have bare:∀{σ':St}{H':Hp}{s':μ},Inv (X.comp scope cl (ts++ys) { s2 with heap:=HH } (upd H2 s2.heap.objs.size (.dK [])) fp HH.objs.size) ([]++dC fp s5.heap) σ' H' s'->Inv (X.comp scope cl (ts++ys) { s2 with heap:=HH } (upd H2 s2.heap.objs.size (.dK [])) fp HH.objs.size) [] σ' H' s':=fun J=>J.pins_of fun p hp=>absurd hp (by simp);cases b with
   |false =>
    have q7':N σ6 kvs H7:=by simpa using q7
    obtain⟨m',hm,w7⟩:=hN _ _ _ q7';obtain⟨a3,a4⟩:=facts I7;show ∃m,m<n/\_;exact⟨m',hm,i+1,σ6,kvs,H7,bare I7,a3,a4,w7⟩
   |true =>
    rw[if_pos rfl]at q7;show Ξ _ _ (eval kx _) _ _ s7;refine thn (hek _ _ _ _ _ s7 σ6 H7 _ I7 q7) fun kv s8 zq=>?_;obtain⟨y,H8,I8,r8,q8⟩:=zq;refine thn (hev _ _ _ _ _ s8 σ6 H8 _ I8 q8) fun vv s9 zq=>?_;obtain⟨v,H9,I9,r9,key,ek,eD,hl,n9⟩:=zq;subst ek;obtain⟨m',hm,w9⟩:=hN _ _ _ n9;obtain⟨a3,a4⟩:=facts I9;have I9':=bare I9;obtain⟨z,hd,vs,rel,dd⟩:=mS I9'.hok eD;have hz:vs.length<=ξ:=by rw[←rel.length];exact z
    have hlp:(putK kvs key v).length<=ξ:=by have:=aL kvs key v;omega
    refine wpAny_dictSet_pairs (hsz:=hz) (eZ r8) dd fun h' dd' hs=>?_;have he:∃q,h'.get? s2.heap.objs.size=some q:=let ⟨q,_,_,hq,_⟩:=dd'; ⟨q,hq⟩;exact⟨m',hm,i+1,σ6,putK kvs key v,_,iV I9' (by rw[eD];exact lu) hs he (cZ hlp hd (rel.put key r9) dd'),T.keep _ _ _ a3 fun b hb o e=>(hs.2 b (ir (fl b hb))).trans e,fun b hb=>by rw[jT (ir (fl b hb))];exact a4 b hb,w9⟩
 exact codeAny_compStart_dict (loop _ rfl) (T.self _ 0 _ _ _ tn1 (loop _ rfl))
end
def aDz (P:Nat->List (Key×V)->Hp->Prop) (i:Nat) (js:List Nat) (σ:St):St->List (Key×V)->Hp->Prop:=fun σ' ys H=>P (i+1) ys H/\∃o,σ'=o::vM js σ
theorem pE{K:Φ}{xs:List V}{k:Nat}{tc:TT}{tk tv:TE}{Q:VK}{H1:Hp}(P:Addr->Nat->List (Key×V)->Hp->Prop)(h0:∀D,H1 D=none->P D 0 [] (upd H1 D (.dK [])))(hl:∀D i ys H,i<=xs.length->P D i ys H->SqL K H a xs)
  (hs:∀D i x ys H,xs[i]?=some x->P D i ys H->tc (some x::vM js σ) H fun b H2=>if b=true then tk (some x::vM js σ) H2 fun y H3=>tv (some x::vM js σ) H3 fun v H4=>∃key,y=kV key/\H4 D=some (.dK ys)/\ys.length<ξ/\aDz (P D) i js σ (some x::vM js σ) (putK ys key v) (upd H4 D (.dK (putK ys key v))) else aDz (P D) i js σ (some x::vM js σ) ys H2)
  (hd:∀D ys H,P D xs.length ys H->Q (.ref D) H)(hk:k=1:=by rfl):
  aJn (Itl K a) k js (zS 0) tc tk tv σ Q H1:=by
 subst hk;intro D hD;refine⟨fun i m σ' ys H=>m=xs.length-i/\i<=xs.length/\P D i ys H/\∃o,σ'=o::vM js σ,⟨xs.length,by simp,jg _,h0 D hD,none,rfl⟩,?_⟩;rintro i m σ' ys H ⟨rfl,hi,p,o,rfl⟩;have q:=hl D i ys H hi p
 by_cases hlt:i<xs.length
 ·refine .inr ⟨⟨xs,xs[i],q,by simp[hlt]⟩,aDz (P D) i js σ,fun σ3 zs H3 z=>⟨xs.length-(i+1),by omega,rfl,hlt,z.1,z.2⟩,fun x H' y=>?_⟩;obtain⟨e,y⟩:=y;subst e;exact hs D i x ys _ (y xs q) p
 ·have e:i=xs.length:=by omega
  subst e;exact .inl ⟨⟨xs,q,ι _⟩,hd D ys H p⟩
section
variable {X:Cx}{tg:Expr}
def iSeq (K:Φ) (tl:TE):TI:=fun σ H R=>tl σ H fun x H1=>∃a,x=.ref a/\(((∃xs,SqL K H1 a xs)/\R (Itl K a) H1)\/((∃xs,SqT K H1 a xs)/\R (Itt K a) H1))
theorem aRi(hl:PE X l tl):PI X tg l (iSeq X.K tl):=by
 intro pins s σ H R I h;refine thn (hl pins s σ H _ I h) fun v s1 zq=>?_;obtain⟨x,H1,I1,r1,q1⟩:=zq;obtain⟨a,e,q1⟩:=q1;subst e;cases r1;rcases q1 with⟨⟨xs,hq⟩,q⟩|⟨⟨xs,hq⟩,q⟩
 ·obtain⟨its,rv,p,hz⟩:=I1.list hq;refine oz p.isList ?_;refine⟨s1.heap.objs.size,[s1.heap.objs.size],_,_,H1,rfl,I1.kept (t':=s1.toks) fun b o e=>ν _ e,tN a _,⟨_,iw _ rfl,rfl,rfl⟩,fun b hb=>?_,q⟩;have e:b=s1.heap.objs.size:=by simpa using hb
  subst e;exact I1.fpOk (ι _) (I1.hok.fresh (ι _))
 ·obtain⟨its,rv,p,hz⟩:=I1.tuple hq;refine sf (show s1.heap.IsTuple a its.toArray from p) ?_;refine⟨s1.heap.objs.size,[s1.heap.objs.size],_,_,H1,rfl,I1.kept (t':=s1.toks) fun b o e=>ν _ e,rL a _,⟨_,iw _ rfl,rfl,rfl⟩,fun b hb=>?_,q⟩;have e:b=s1.heap.objs.size:=by simpa using hb
  subst e;exact I1.fpOk (ι _) (I1.hok.fresh (ι _))
theorem oJ{K:Φ}(hK:X.K=K)(he:PE X e ta)(hb:we e f X.env (eval e X.env)=eval e X.env):PE X (.Attribute e f pos) (tFld K ta f):=hK ▸ jW he hb
theorem aKy:OpR X (qo .Add) (fun x y H Q=>∃a b xs ys,x=.ref a/\y=.ref b/\SqT X.K H a xs/\SqT X.K H b ys/\ys≠[]/\xs.length+ys.length<=ξ ∧
  (xs=[]->Q (.ref b) H)/\(xs≠[]->∀p,H p=none->Q (.ref p) (upd H p (.tup (xs++ys))))):=by
 intro pins s σ H x y v u Q I rx ry h;obtain⟨a,b,xs,ys,rfl,rfl,ha,hb,hx,hz,q1,q2⟩:=h
 by_cases hxs:xs=[]
 ·cases rx;cases ry;obtain⟨its,r1,p1,_⟩:=I.tuple ha;obtain⟨its2,r2,p2,_⟩:=I.tuple hb;have e1:its=[]:=r1.nil_iff.mpr hxs;subst e1;obtain⟨⟨cls,dd,data,sl⟩,ho,hc,n,hd⟩:=id p1;obtain⟨⟨cls2,dd2,data2,sl2⟩,ho2,hc2,n2,hd2⟩:=id p2;simp only at hc hd hc2 hd2;subst hc hd hc2 hd2;exact concat_meets ⟨_,ho,rfl⟩ ⟨_,ho2,rfl⟩ noFill_tuple_add seq_tuple_add xl xb (wf _ _)
   (tuple_addW0 a b _ _ n n2 dd dd2 sl sl2 rfl) ⟨ho,ho2,.ref b,H,I,rfl,q1 hxs⟩
 ·exact aNe pins s σ H _ _ v u Q I rx ry ⟨a,b,xs,ys,rfl,rfl,ha,hb,hxs,hz,fun z=>absurd z hx,fun _=>q2 hxs⟩
end
theorem aKu : OpR X (qo .Add) (fun x y H Q=>∃a b xs ys,x=.ref a/\y=.ref b/\SqT X.K H a xs/\SqT X.K H b ys/\ys≠[]/\xs.length+ys.length<=ξ/\∀p H',jH H H'->SqT X.K H' p (xs++ys)->Q (.ref p) H'):=by
 intro pins s σ H x y v u Q I rx ry h;obtain⟨a,b,xs,ys,rfl,rfl,ha,hb,hx,hz,q⟩:=h;refine aKy pins s σ H _ _ v u Q I rx ry ⟨a,b,xs,ys,rfl,rfl,ha,hb,hx,hz,fun e=>?_,fun _ p hp=>?_⟩
 ·subst e;exact q b H (fun _ _ z=>z) hb
 ·exact q p _ (fun b o z=>by rw[jT (jG z hp)];exact z) (SqT.of jI)
theorem eJ{K:Φ}{xs:List V}{k:Nat}{g:TG}{tc:TT}{te:TE}{Q:VK}(P:Nat->List V->Hp->Prop)(h0:P 0 [] H1)(hl:∀i ys H,i<=xs.length->P i ys H->SqT K H a xs/\ys.length<=i)(hz:xs.length<ξ)
  (hs:∀i x ys H (os:St),os.length=k->xs[i]?=some x->P i ys H->g x (os++vM js σ) H fun σ3 H3=>tc σ3 H3 fun b H2=>if b=true then te σ3 H2 fun v H3=>iB P i k js σ σ3 (ys++[v]) H3 else iB P i k js σ σ3 ys H2)
  (hd:∀ys H,P xs.length ys H->∀p,H p=none->Q (.ref p) (upd H p (.lst ys))):
  hU (Itt K a) k js g tc te σ Q H1:=by
 refine⟨fun i m σ' ys H=>m=xs.length-i/\i<=xs.length/\P i ys H/\∃os:St,os.length=k/\σ'=os++vM js σ,⟨xs.length,by simp,jg _,h0,xk k none,qg,rfl⟩,?_⟩;rintro i m σ' ys H ⟨rfl,hi,p,os,ho,rfl⟩;obtain⟨q,hy⟩:=hl i ys H hi p
 by_cases hlt:i<xs.length
 ·refine .inr ⟨⟨xs,xs[i],q,by simp[hlt]⟩,by omega,iB P i k js σ,fun σ3 zs H3 z=>⟨xs.length-(i+1),by omega,rfl,hlt,z.1,z.2⟩,fun x H' y=>?_⟩;obtain⟨e,y⟩:=y;subst e;exact hs i x ys _ os ho (y xs q) p
 ·have e:i=xs.length:=by omega
  subst e;exact .inl ⟨⟨xs,q,ι _⟩,fun l n _=>hd ys H p l n⟩
end L2
namespace L2
open PySem
inductive Kd where
 |num (w:Nat)
 |nest (i:Nat)
 |many (n:Nat) (k:Kd)
 |pick (is:List Nat)
abbrev Shp:=Str×List (Str×Kd)
abbrev Un3:=Str×Nat×Str
def yI:List Nat->Nat
 |[]=>0
 |x::xs=>max x (yI xs)
theorem nZ{n:Nat}: ∀{xs:List Nat},n∈xs->n<=yI xs
 |x::xs,h=>by
  rcases ο.mp h with rfl|h
  ·exact Nat.le_max_left _ _
  ·exact jh (nZ h) (Nat.le_max_right _ _)
theorem aBd:∀{xs:List Nat},xs≠[]->yI xs∈xs
 |[],h=>absurd rfl h
 |[x],_=>by show max x 0∈[x];rw[Nat.max_zero];exact Δ.mpr rfl
 |x::y::xs,_=>by
  have ih:=aBd (xs:=y::xs) (by simp);show max x (yI (y::xs))∈_
  by_cases h:x<=yI (y::xs)
  ·rw[Nat.max_eq_right h];exact Ω _ ih
  ·rw[Nat.max_eq_left (by omega)];exact τ ..
theorem aNd{m:Nat}{xs:List Nat}(h1:m∈xs)(h2:∀n∈xs,n<=m):m=yI xs :=
 Nat.le_antisymm (nZ h1) (h2 _ (aBd fun z=>by rw[z]at h1;cases h1))
def Kd.size (sz:List Nat):Kd->Nat
 |.num w=>w
 |.nest i=>sz.getD i 0
 |.many n k=>n*k.size sz
 |.pick is=>1+yI (is.map fun i=>sz.getD i 0)
def Kd.depth (dp:List Nat):Kd->Nat
 |.num _=>0
 |.nest i=>dp.getD i 0
 |.many _ k=>k.depth dp
 |.pick is=>yI (is.map fun i=>dp.getD i 0)
def pj (p x:Str):Str:=if p.length=0 then x else p++ζ "." ++ x
def Kd.units (sz:List Nat) (ut:List (Str->List Un3)):Kd->Str->List Un3
 |.num w,p=>[(p,w,ζ "num")]
 |.nest i,p=>(ut.getD i fun _=>[]) p
 |.many n k,p=>(ph n).flatMap fun j=>k.units sz ut (pj p (ζ (toString j)))
 |.pick is,p=>[(pj p (ζ "tag"),1,ζ "tag"),(p,yI (is.map fun i=>sz.getD i 0),ζ "pick")]
structure Tab where
 sz:List Nat
 dp:List Nat
 ut:List (Str->List Un3)
def Tab.more (t:Tab) (s:Shp):Tab:=⟨t.sz++[(s.2.map fun f=>f.2.size t.sz).sum],t.dp++[1+yI (s.2.map fun f=>f.2.depth t.dp)],t.ut++[fun p=>s.2.flatMap fun f=>f.2.units t.sz t.ut (pj p f.1)]⟩
def tabs (S:List Shp):Tab:=S.foldl Tab.more ⟨[],[],[]⟩
theorem aGc(S:List Shp)(s:Shp):tabs (S++[s])=(tabs S).more s:=by unfold tabs;rw[List.foldl_append];rfl
def Tab.Ok (t:Tab):Prop:=t.ut.length=t.sz.length/\∀i p,(((t.ut.getD i fun _=>[]) p).map (·.2.1)).sum=t.sz.getD i 0
theorem aCb(f:Nat->List Un3)(m:Nat)(h:∀j,((f j).map (·.2.1)).sum=m):∀n,((((ph n).flatMap f)).map (·.2.1)).sum=n*m
 |0=>by simp
 |n+1=>by
  rw[List.range_succ,qz,Θ,List.sum_append,aCb f m h n,uv,h n,Nat.succ_mul]
theorem Kd.units_sum{t:Tab}(h:t.Ok):∀(k:Kd) (p:Str),((k.units t.sz t.ut p).map (·.2.1)).sum=k.size t.sz
 |.num w,p=>by simp[Kd.units,Kd.size]
 |.nest i,p=>h.2 i p
 |.many n k,p=>aCb _ _ (fun j=>Kd.units_sum h k _) n
 |.pick is,p=>by simp[Kd.units,Kd.size]
theorem rR{t:Tab}(h:t.Ok)(p:Str):∀fs:List (Str×Kd),((fs.flatMap fun f=>f.2.units t.sz t.ut (pj p f.1)).map (·.2.1)).sum=(fs.map fun f=>f.2.size t.sz).sum
 |[]=>rfl
 |f::fs=>by
  rw[xn,Θ,List.sum_append,Kd.units_sum h,rR h p fs,ju,ue]
theorem Tab.Ok.more{t:Tab}(h:t.Ok)(s:Shp):(t.more s).Ok:=by
 refine⟨by show(t.ut++[_]).length=(t.sz++[_]).length;rw[θ,θ,h.1];rfl,fun i p=>?_⟩;show((((t.ut++[_]).getD i fun _=>[]) p).map (fun u:Un3=>u.2.1)).sum=(t.sz++[_]).getD i 0;rw[jb,jb]
 by_cases hi:i<t.ut.length
 ·rw[jd hi,jd (by rw[←h.1];exact hi)];have:=h.2 i p;rw[jb,jb]at this;exact this
 ·rw[iu (by omega),iu (by rw[←h.1];omega),←h.1]
  by_cases e:i-t.ut.length=0
  ·rw[e];exact rR h p s.2
  ·obtain⟨n,hn⟩ : ∃n,i-t.ut.length=n+1:=⟨i-t.ut.length-1,by omega⟩;rw[hn];rfl
def Kd.Below (n:Nat):Kd->Prop
 |.num _=>True
 |.nest i=>i<n
 |.many _ k=>k.Below n
 |.pick is=>∀i∈is,i<n
theorem zP{α : Type}{xs ys:List α}{d : α}{i:Nat}(h:i<xs.length):(xs++ys).getD i d=xs.getD i d:=by
 rw[jb,jb,jd h]
theorem Kd.Below.mono{n m:Nat}(h:n<=m):∀{k:Kd},k.Below n->k.Below m
 |.num _,_=>lu
 |.nest i,q=>ς (show i<n from q) h
 |.many _ k,q=>Kd.Below.mono (k:=k) h q
 |.pick is,q=>fun i hi=>ς (q i hi) h
theorem uW{xs ys is:List Nat}(h:∀i∈is,i<xs.length):(is.map fun i=>(xs++ys).getD i 0)=is.map fun i=>xs.getD i 0 :=
 rg fun i hi=>zP (h i hi)
theorem Kd.size_app{sz more:List Nat}: ∀{k:Kd},k.Below sz.length->k.size (sz++more)=k.size sz
 |.num _,_=>rfl
 |.nest i,q=>zP q
 |.many n k,q=>by show n*_=n*_;rw[Kd.size_app (k:=k) q]
 |.pick is,q=>by show 1+yI _=1+yI _;rw[uW q]
theorem Kd.depth_app{dp more:List Nat}: ∀{k:Kd},k.Below dp.length->k.depth (dp++more)=k.depth dp
 |.num _,_=>rfl
 |.nest i,q=>zP q
 |.many n k,q=>Kd.depth_app (k:=k) q
 |.pick is,q=>by show yI _=yI _;rw[uW q]
theorem Kd.units_app{sz more:List Nat}{ut um:List (Str->List Un3)}(e:ut.length=sz.length):∀{k:Kd},k.Below sz.length->∀p,k.units (sz++more) (ut++um) p=k.units sz ut p
 |.num _,_,_=>rfl
 |.nest i,q,p=>by show((ut++um).getD i _) p=(ut.getD i _) p;rw[zP (by rw[e];exact q)]
 |.many n k,q,p=>by
  show(ph n).flatMap _=(ph n).flatMap _
  congr 1
  funext j
  exact Kd.units_app e (k:=k) q _
 |.pick is,q,p=>by
  show[_,(p,yI _,_)]=[_,(p,yI _,_)];rw[uW q]
theorem eE:∀S:List Shp,(tabs S).sz.length=S.length/\(tabs S).dp.length=S.length/\(tabs S).ut.length=S.length:=fun S=>by
 have:∀(S:List Shp) (t:Tab) (n:Nat),(t.sz.length=n/\t.dp.length=n/\t.ut.length=n)->((S.foldl Tab.more t).sz.length=n+S.length/\(S.foldl Tab.more t).dp.length=n+S.length/\(S.foldl Tab.more t).ut.length=n+S.length):=by
  intro S
  induction S with
  |nil=>intro t n h;exact h
  |cons s S ih =>
   intro t n h;have:=ih (t.more s) (n+1) ⟨by show(t.sz++[_]).length=_;rw[θ,h.1];rfl,by show(t.dp++[_]).length=_;rw[θ,h.2.1];rfl,by show(t.ut++[_]).length=_;rw[θ,h.2.2];rfl⟩;rw[χ,show n+(S.length+1)=n+1+S.length by omega];exact this
 have h:=this S ⟨[],[],[]⟩ 0 ⟨rfl,rfl,rfl⟩;rw[Nat.zero_add]at h;exact h
theorem aAv(S:List Shp):∀R:List Shp,∃a b c,(tabs (S++R)).sz=(tabs S).sz++a/\(tabs (S++R)).dp=(tabs S).dp++b/\(tabs (S++R)).ut=(tabs S).ut++c:=fun R=>by
 have:∀(R:List Shp) (t:Tab),∃a b c,(R.foldl Tab.more t).sz=t.sz++a/\(R.foldl Tab.more t).dp=t.dp++b/\(R.foldl Tab.more t).ut=t.ut++c:=by
  intro R
  induction R with
  |nil=>intro t;exact⟨[],[],[],by simp,by simp,by simp⟩
  |cons s R ih =>
   intro t;obtain⟨a,b,c,h1,h2,h3⟩:=ih (t.more s);exact⟨[_]++a,[_]++b,[_]++c,h1.trans (jy _ _ _),h2.trans (jy _ _ _),h3.trans (jy _ _ _)⟩
 unfold tabs;rw[List.foldl_append];exact this R _
structure Cl5 where
 num:Addr
 nest:Addr
 many:Addr
 pick:Addr
 shape:Addr
inductive KO (c:Cl5) (K:Φ) (H:Hp) (sa:List Addr):Addr->Kd->Prop
 |num {a dx:Addr}{w:Nat} : H a=some (.ins c.num dx [("width",.int w)])->KO c K H sa a (.num w)
 |nest {a dx s:Addr}{i:Nat} : sa[i]?=some s->H a=some (.ins c.nest dx [("shape",.ref s)])->KO c K H sa a (.nest i)
 |many {a dx b:Addr}{n:Nat}{k:Kd} : H a=some (.ins c.many dx [("count",.int n),("kind",.ref b)])->KO c K H sa b k->KO c K H sa a (.many n k)
 |pick {a dx t:Addr}{is:List Nat}{ss:List Addr} : H a=some (.ins c.pick dx [("shapes",.ref t)])->SqT K H t (ss.map V.ref)->ss.length=is.length->(∀(j i:Nat) (s:Addr),is[j]?=some i->ss[j]?=some s->sa[i]?=some s)->KO c K H sa a (.pick is)
theorem KO.same{K:Φ}(h:KO c K H sa a k)(g:jH H H'):KO c K H' sa a k:=by
 induction h with
 |num h=>exact .num (g _ _ h)
 |nest e h=>exact .nest e (g _ _ h)
 |many h _ ih=>exact .many (g _ _ h) ih
 |pick h t l e=>exact .pick (g _ _ h) (g.tp t) l e
theorem wG{sa more:List Addr}{i:Nat}(h:sa[i]?=some s):(sa++more)[i]?=some s:=by
 rw[jd (η.mp h).1];exact h
theorem KO.more{K:Φ}(h:KO c K H sa a k)(more:List Addr):KO c K H (sa++more) a k:=by
 induction h with
 |num h=>exact .num h
 |nest e h=>exact .nest (wG e) h
 |many h _ ih=>exact .many h ih
 |pick h t l e=>exact .pick h t l fun j i s h1 h2=>wG (e j i s h1 h2)
theorem KO.ahead{K:Φ}(h:KO c K H sa a k):k.Below sa.length:=by
 induction h with
 |num h=>exact lu
 |nest e h=>exact(η.mp e).1
 |many h _ ih=>exact ih
 | @pick a dx t is ss h t' l e =>
  intro i hi;obtain⟨j,hj⟩:=lw.mp hi;have hj1:j<is.length:=(η.mp hj).1;exact(η.mp (e j i _ hj (π (by omega)))).1
inductive FO (c:Cl5) (K:Φ) (H:Hp) (sa:List Addr):List Addr->List (Str×Kd)->Prop
 |nil:FO c K H sa [] []
 |cons {p k:Addr}{ps:List Addr}{nm:Str}{kd:Kd}{fs:List (Str×Kd)} : SqT K H p [.str nm,.ref k]->KO c K H sa k kd->FO c K H sa ps fs->FO c K H sa (p::ps) ((nm,kd)::fs)
theorem FO.same{K:Φ}(h:FO c K H sa ps fs)(g:jH H H'):FO c K H' sa ps fs:=by
 induction h with
 |nil=>exact .nil
 |cons t k _ ih=>exact .cons (g.tp t) (k.same g) ih
theorem FO.len{K:Φ}(h:FO c K H sa ps fs):ps.length=fs.length:=by
 induction h with
 |nil=>rfl
 |cons _ _ _ ih=>rw[χ,χ,ih]
theorem FO.snoc{K:Φ}(h:FO c K H sa ps fs)(t:SqT K H p [.str nm,.ref k])(hk:KO c K H sa k kd):FO c K H sa (ps++[p]) (fs++[(nm,kd)]):=by
 induction h with
 |nil=>exact .cons t hk .nil
 |cons t' k' _ ih=>exact .cons t' k' ih
theorem FO.get{K:Φ}(h:FO c K H sa ps fs):∀{i:Nat}{p:Addr},ps[i]?=some p->∃nm kd k,fs[i]?=some (nm,kd)/\SqT K H p [.str nm,.ref k]/\KO c K H sa k kd:=by
 induction h with
 |nil=>intro i p e;simp at e
 |cons t k _ ih =>
  intro i p e;cases i with
  |zero=>cases e;exact⟨_,_,_,rfl,t,k⟩
  |succ i=>exact ih e
def SO (c:Cl5) (K:Φ) (H:Hp) (sa:List Addr) (a:Addr) (s:Shp):Prop:=∃dx t ps,H a=some (.ins c.shape dx [("name",.str s.1),("fields",.ref t)])/\SqT K H t (ps.map V.ref)/\FO c K H sa ps s.2
theorem SO.same{K:Φ}(h:SO c K H sa a s)(g:jH H H'):SO c K H' sa a s:=by
 obtain⟨dx,t,ps,h1,h2,h3⟩:=h;exact⟨dx,t,ps,g _ _ h1,g.tp h2,h3.same g⟩
def SW (c:Cl5) (K:Φ) (H:Hp) (sa:List Addr) (S:List Shp):Prop:=sa.length=S.length/\∀(i:Nat) (a:Addr) (s:Shp),sa[i]?=some a->S[i]?=some s->SO c K H (sa.take i) a s
theorem SW.same{K:Φ}(h:SW c K H sa S)(g:jH H H'):SW c K H' sa S:=⟨h.1,fun i a s h1 h2=>(h.2 i a s h1 h2).same g⟩
theorem SW.nil{K:Φ}: SW c K H [] []:=⟨rfl,fun i a s h _=>by simp at h⟩
theorem SW.snoc{K:Φ}(h:SW c K H sa S)(x:SO c K H sa a s):SW c K H (sa++[a]) (S++[s]):=by
 have hl:sa.length=S.length:=h.1;refine⟨by rw[θ,θ,h.1];rfl,fun i b u h1 h2=>?_⟩
 by_cases hi:i<sa.length
 ·rw[jd hi]at h1;rw[jd (by rw[←h.1];exact hi)]at h2;rw[List.take_append_of_le_length (by omega)];exact h.2 i b u h1 h2
 ·have hi2:i<(sa++[a]).length:=(η.mp h1).1;have e:i=sa.length:=by rw[θ,km]at hi2;omega
  subst e;rw[iu (ι _),nv]at h1;rw[iu (by omega),show sa.length-S.length=0 by omega]at h2;cases h1;cases h2;rw[List.take_left' rfl];exact x
abbrev spS:Str:=⟨#[32]⟩
abbrev nlS:Str:=⟨#[10]⟩
def Kd.words (nm:Nat->Str):Kd->List Str
 |.num w=>[ζ "num",ζ (toString (w:Int))]
 |.nest i=>[nm i]
 |.many n k=>ζ "row" :: ζ (toString (n:Int))::k.words nm
 |.pick is=>ζ "pick" :: is.map nm
theorem Kd.words_ne(nm:Nat->Str):∀k:Kd,k.words nm≠[]
 |.num _=>by simp[Kd.words]
 |.nest _=>by simp[Kd.words]
 |.many _ _=>by simp[Kd.words]
 |.pick _=>by simp[Kd.words]
def kY (S:List Shp) (i:Nat):Str:=(S.getD i (Str.empty,[])).1
def aFw (nm:Nat->Str) (s:Shp):List (List Str):=[ζ "shape",s.1]::s.2.map fun f=>f.1::f.2.words nm
def oO (S:List Shp):List (List Str):=S.flatMap (aFw (kY S))
def Pln (w:Str):Prop:=32∉w.cps.toList/\10∉w.cps.toList
theorem aEu{c d:Nat}(ne:d≠c):∀{ps:List (List Nat)},(∀p∈ps,d∉p)->d∉jn c ps
 |[],_=>by simp[jn]
 |[p],h=>h p (Δ.mpr rfl)
 |p::q::r,h=>by
  have ih:=aEu ne (ps:=q::r) fun x hx=>h x (Ω _ hx);have hp:=h p (τ ..);show d∉p++c::jn c (q::r);simp only[lq,ο,not_or];exact⟨hp,ne,ih⟩
theorem aDm{ws:List Str}(hne:ws≠[])(h:∀w∈ws,Pln w):pz (jp spS ws) spS=ws:=cC hne fun w hw=>(h w hw).1
theorem aAi{ls:List (List Str)}(hne:ls≠[])(h:∀l∈ls,∀w∈l,Pln w):pz (jp nlS (ls.map (jp spS))) nlS=ls.map (jp spS):=by
 refine cC (by simpa using hne) fun y hy=>?_;obtain⟨l,hl,rfl⟩:=jz.mp hy;rw[oH];refine aEu (by decide) fun p hp=>?_;obtain⟨w,hw,rfl⟩:=jz.mp hp;exact(h l hl w hw).2
theorem tJ{y:Str}{ys:List Str}(h:ys≠[]):jp sep (y::ys)=y++sep++jp sep ys:=by
 cases ys with
 |nil=>exact absurd rfl h
 |cons z zs=>rfl
theorem aFs{n:Nat}(h:n<=9):Pln (ζ (toString (n:Int))):=by
 have:∀m:Fin 10,Pln (ζ (toString ((m.val:Nat):Int))):=by
  intro m;unfold Pln;revert m;ac_rfl
 exact this ⟨n,by omega⟩
def Kd.Fit (n:Nat):Kd->Prop
 |.num w=>1<=w/\w<=4
 |.nest i=>i<n
 |.many m k=>1<=m/\m<=6/\((∃w,k=.num w/\1<=w/\w<=4)\/∃i,k=.nest i/\i<n)
 |.pick is=>2<=is.length/\is.length<=4/\is.Nodup/\∀i∈is,i<n
theorem Kd.Fit.below : ∀{k:Kd},k.Fit n->k.Below n
 |.num _,_=>lu
 |.nest _,h=>h
 |.many _ k,h=>by
  rcases h.2.2 with⟨w,rfl,_⟩|⟨i,rfl,hi⟩
  ·exact lu
  ·exact hi
 |.pick _,h=>h.2.2.2
theorem Kd.Fit.plain{n:Nat}{nm:Nat->Str}(hnm:∀i,i<n->Pln (nm i)):∀{k:Kd},k.Fit n->∀w∈k.words nm,Pln w:=by
 have hnum:∀w:Nat,1<=w/\w<=4->∀x∈(Kd.num w).words nm,Pln x:=fun w hw x hx=>by
  simp only[Kd.words,ο,jr,or_false]at hx;rcases hx with rfl|rfl
  ·unfold Pln;ac_rfl
  ·exact aFs (by omega)
 intro k h;cases k with
 |num w=>exact hnum w h
 |nest i =>
  intro x hx;rw[Δ.mp (show x∈[nm i] from hx)];exact hnm i h
 |many m k =>
  intro x hx;simp only[Kd.words,ο]at hx;rcases hx with rfl|rfl|hx
  ·unfold Pln;ac_rfl
  ·exact aFs (by have:=h.2.1;omega)
  ·rcases h.2.2 with⟨w,rfl,hw⟩|⟨i,rfl,hi⟩
   ·exact hnum w hw x hx
   ·rw[Δ.mp (show x∈[nm i] from hx)];exact hnm i hi
 |pick is =>
  intro x hx;simp only[Kd.words,ο,jz]at hx;rcases hx with rfl|⟨i,hi,rfl⟩
  ·unfold Pln;ac_rfl
  ·exact hnm i (h.2.2.2 i hi)
def Kd.Rk (r:Nat):Kd->Prop
 |.num _=>True
 |.nest i=>2*i+2<=r
 |.many _ k=>(∃w,k=.num w/\1<=r)\/∃i,k=.nest i/\2*i+3<=r
 |.pick is=>∀i∈is,2*i+3<=r
theorem Kd.Fit.rk : ∀{k:Kd},k.Fit n->k.Rk (2*n+1)
 |.num _,_=>lu
 |.nest i,h=>by have:i<n:=h;show 2*i+2<=2*n+1;omega
 |.many m k,h=>by
  rcases h.2.2 with⟨w,e,_⟩|⟨i,e,hi⟩
  ·exact .inl ⟨w,e,by omega⟩
  ·exact .inr ⟨i,e,by omega⟩
 |.pick is,h=>fun i hi=>by have:=h.2.2.2 i hi;omega
theorem Kd.Rk.mono{r q:Nat}(h:r<=q):∀{k:Kd},k.Rk r->k.Rk q
 |.num _,_=>lu
 |.nest i,g=>jh (show 2*i+2<=r from g) h
 |.many m k,g=>by
  rcases g with⟨w,e,hw⟩|⟨i,e,hi⟩
  ·exact .inl ⟨w,e,by omega⟩
  ·exact .inr ⟨i,e,by omega⟩
 |.pick is,g=>fun i hi=>jh (g i hi) h
theorem Kd.Fit.mono{n m:Nat}(h:n<=m):∀{k:Kd},k.Fit n->k.Fit m
 |.num _,g=>g
 |.nest i,g=>ς (show i<n from g) h
 |.many _ k,g=>⟨g.1,g.2.1,by
  rcases g.2.2 with g|⟨i,e,hi⟩
  ·exact .inl g
  ·exact .inr ⟨i,e,by omega⟩⟩
 |.pick is,g=>⟨g.1,g.2.1,g.2.2.1,fun i hi=>ς (g.2.2.2 i hi) h⟩
structure Good (S:List Shp):Prop where
 ne:∀(i:Nat) (s:Shp),S[i]?=some s->s.2≠[]
 few:∀(i:Nat) (s:Shp),S[i]?=some s->s.2.length<=6
 fit:∀(i:Nat) (s:Shp),S[i]?=some s->∀f∈s.2,f.2.Fit i/\1<=f.1.length/\f.1.length<=6
 sz:∀i:Nat,(tabs S).sz.getD i 0<=1000
theorem aJp{α : Type}{S:List α}{i:Nat}{s : α}(h:S[i]?=some s):S=S.take i++s::S.drop (i+1)/\(S.take i).length=i:=by
 obtain⟨hi,e⟩:=η.mp h;refine⟨?_,by rw[ji];omega⟩
 conv=>lhs;rw[←ya i S]
 rw[ou hi,e]
theorem pN{α : Type}{xs zs:List α}{y d : α}: (xs++y::zs).getD xs.length d=y:=by
 rw[jb,iu (ι _),nv];rfl
theorem oF{S R:List Shp}{i:Nat}(h:i<S.length):(tabs (S++R)).sz.getD i 0=(tabs S).sz.getD i 0/\(tabs (S++R)).dp.getD i 0=(tabs S).dp.getD i 0/\((tabs (S++R)).ut.getD i fun _=>[])=(tabs S).ut.getD i fun _=>[]:=by
 obtain⟨a,b,c,e1,e2,e3⟩:=aAv S R;obtain⟨l1,l2,l3⟩:=eE S;rw[e1,e2,e3];exact⟨zP (by omega),zP (by omega),zP (by omega)⟩
theorem iP(S:List Shp)(s:Shp)(R:List Shp):(tabs (S++s::R)).sz.getD S.length 0=(s.2.map fun f=>f.2.size (tabs S).sz).sum/\(tabs (S++s::R)).dp.getD S.length 0=1+yI (s.2.map fun f=>f.2.depth (tabs S).dp)/\∀p,((tabs (S++s::R)).ut.getD S.length fun _=>[]) p=s.2.flatMap fun f=>f.2.units (tabs S).sz (tabs S).ut (pj p f.1):=by
 have e:S++s::R=(S++[s])++R:=by rw[jy];rfl
 obtain⟨h1,h2,h3⟩:=oF (S:=S++[s]) (R:=R) (i:=S.length) (by rw[θ];exact vo _);obtain⟨l1,l2,l3⟩:=eE S;rw[e,h1,h2,h3,aGc];refine⟨?_,?_,fun p=>?_⟩
 ·show((tabs S).sz++[_]).getD _ _=_;rw[←l1,pN]
 ·show((tabs S).dp++[_]).getD _ _=_;rw[←l2,pN]
 ·show((tabs S).ut++[_]).getD _ _ p=_;rw[←l3,pN]
theorem Kd.tab_lo{S R:List Shp}{k:Kd}(h:k.Below S.length):k.size (tabs (S++R)).sz=k.size (tabs S).sz/\k.depth (tabs (S++R)).dp=k.depth (tabs S).dp/\∀p,k.units (tabs (S++R)).sz (tabs (S++R)).ut p=k.units (tabs S).sz (tabs S).ut p:=by
 obtain⟨a,b,c,e1,e2,e3⟩:=aAv S R;obtain⟨l1,l2,l3⟩:=eE S;rw[e1,e2,e3];exact⟨Kd.size_app (by rw[l1];exact h),Kd.depth_app (by rw[l2];exact h),fun p=>Kd.units_app (by omega) (by rw[l1];exact h) p⟩
theorem aBp{α β : Type}{f g : α->List β}: ∀{xs:List α},(∀x∈xs,f x=g x)->xs.flatMap f=xs.flatMap g
 |[],_=>rfl
 |x::xs,h=>by rw[xn,xn,h x (τ ..),aBp fun y hy=>h y (Ω _ hy)]
theorem wU{S:List Shp}{i:Nat}(h:S[i]?=some s)(hF:∀f∈s.2,f.2.Below i):(tabs S).sz.getD i 0=(s.2.map fun f=>f.2.size (tabs S).sz).sum/\(tabs S).dp.getD i 0=1+yI (s.2.map fun f=>f.2.depth (tabs S).dp)/\∀p,((tabs S).ut.getD i fun _=>[]) p=s.2.flatMap fun f=>f.2.units (tabs S).sz (tabs S).ut (pj p f.1):=by
 obtain⟨e,hl⟩:=aJp h;generalize S.take i=A at e hl;generalize S.drop (i+1)=B at e;subst e;subst hl;obtain⟨h1,h2,h3⟩:=iP A s B;have q:=fun f hf=>Kd.tab_lo (R:=s::B) (hF f hf);refine⟨?_,?_,fun p=>?_⟩
 ·rw[h1,rg fun f hf=>(q f hf).1]
 ·rw[h2,rg fun f hf=>(q f hf).2.1]
 ·rw[h3 p,aBp fun f hf=>(q f hf).2.2 _]
theorem Kd.units_len{sz:List Nat}{ut:List (Str->List Un3)}{n:Nat}(h:∀i,i<n->1<=sz.getD i 0/\∀p,((ut.getD i fun _=>[]) p).length<=sz.getD i 0):∀{k:Kd},k.Fit n->1<=k.size sz/\∀p,(k.units sz ut p).length<=k.size sz:=by
 have hn:∀w,1<=w->1<=(Kd.num w).size sz/\∀p,((Kd.num w).units sz ut p).length<=(Kd.num w).size sz:=fun w hw=>⟨hw,fun p=>hw⟩;intro k hk;cases k with
 |num w=>exact hn w hk.1
 |nest i=>exact h i hk
 |many m k =>
  have hs : 1<=k.size sz/\∀p,(k.units sz ut p).length<=k.size sz:=by
   rcases hk.2.2 with⟨w,rfl,hw,_⟩|⟨i,rfl,hi⟩
   ·exact hn w hw
   ·exact h i hi
  refine⟨Nat.mul_pos hk.1 hs.1,fun p=>?_⟩;show((ph m).flatMap _).length<=m*_;have:∀m,((ph m).flatMap fun j=>k.units sz ut (pj p (ζ (toString j)))).length<=m*k.size sz:=by
   intro m
   induction m with
   |zero=>exact jg _
   |succ m ih =>
    rw[List.range_succ,qz,θ,uv,Nat.succ_mul];exact Nat.add_le_add ih (hs.2 _)
  exact this m
 |pick is =>
  refine⟨by show 1<=1+_;omega,fun p=>?_⟩;show 2<=1+yI _;cases is with
  |nil=>exact absurd hk.1 (by decide)
  |cons i r =>
   have:=(h i (hk.2.2.2 i (τ ..))).1;have g:=nZ (n:=sz.getD i 0) (xs:=(i::r).map fun i=>sz.getD i 0) (τ ..);omega
theorem fS(p:Str):∀{fs:List (Str×Kd)},(∀f∈fs,1<=f.2.size sz/\∀p,(f.2.units sz ut p).length<=f.2.size sz)->(fs.flatMap fun f=>f.2.units sz ut (pj p f.1)).length<=(fs.map fun f=>f.2.size sz).sum/\fs.length<=(fs.map fun f=>f.2.size sz).sum
 |[],_=>⟨ι _,ι _⟩
 |f::fs,h=>by
  have ih:=fS p (fs:=fs) fun g hg=>h g (Ω _ hg);have h0:=h f (τ ..);rw[xn,θ,ju,ue,χ];exact⟨Nat.add_le_add (h0.2 _) ih.1,by omega⟩
theorem Good.len(h:Good S):∀n i,i<n->i<S.length->1<=(tabs S).sz.getD i 0/\∀p,(((tabs S).ut.getD i fun _=>[]) p).length<=(tabs S).sz.getD i 0
 |0,i,hi,_=>absurd hi (sy _)
 |n+1,i,hi,hl=>by
  have hs:S[i]?=some S[i]:=π hl;have hF:=h.fit i _ hs;obtain⟨e1,e2,e3⟩:=wU hs fun f hf=>(hF f hf).1.below;have q:∀f∈S[i].2,1<=f.2.size (tabs S).sz/\∀p,(f.2.units (tabs S).sz (tabs S).ut p).length<=f.2.size (tabs S).sz:=fun f hf =>
   Kd.units_len (fun j hj=>Good.len h n j (by omega) (by omega)) (hF f hf).1
  have hne:=h.ne i _ hs;have : 1<=S[i].2.length:=by
   cases e:S[i].2 with
   |nil=>exact absurd e hne
   |cons _ _=>exact yh (jg _)
  refine⟨?_,fun p=>?_⟩
  ·rw[e1];exact jh this (fS Str.empty q).2
  ·rw[e1,e3 p];exact(fS p q).1
theorem Good.kd(h:Good S){k:Kd}(hk:k.Fit S.length): 1<=k.size (tabs S).sz/\∀p,(k.units (tabs S).sz (tabs S).ut p).length<=k.size (tabs S).sz:=Kd.units_len (fun j hj=>h.len S.length j hj hj) hk
theorem uC{m:Nat}: ∀{xs:List Nat},(∀x∈xs,x<=m)->yI xs<=m
 |[],_=>jg _
 |x::xs,h=>Nat.max_le.mpr ⟨h x (τ ..),uC fun y hy=>h y (Ω _ hy)⟩
theorem Kd.size_bd{sz:List Nat}{m:Nat}(h:∀i,sz.getD i 0<=m)(hm : 4<=m):∀{k:Kd},k.Fit n->k.size sz<=6*m
 |.num w,hk=>by have:=hk.2;show w<=_;omega
 |.nest i,_=>by have:=h i;show sz.getD i 0<=_;omega
 |.many c k,hk=>by
  have:k.size sz<=m:=by
   rcases hk.2.2 with⟨w,rfl,_,hw⟩|⟨i,rfl,hi⟩
   ·show w<=m;omega
   ·exact h i
  exact Nat.mul_le_mul hk.2.1 this
 |.pick is,_=>by
  have:yI (is.map fun i=>sz.getD i 0)<=m:=uC fun x hx=>by obtain⟨i,_,rfl⟩:=jz.mp hx;exact h i
  show 1+_<=_;omega
def Kd.parts (S:List Shp):Kd->List (Str×Kd)
 |.nest i=>(S.getD i (Str.empty,[])).2
 |.many n k=>(ph n).map fun j=>(ζ (toString j),k)
 |_=>[]
theorem Kd.parts_units(h:Good S){k:Kd}(hk:k.Fit S.length)(hs:(∃i,k=.nest i)\/∃n q,k=.many n q)(p:Str):k.units (tabs S).sz (tabs S).ut p=(k.parts S).flatMap fun f=>f.2.units (tabs S).sz (tabs S).ut (pj p f.1):=by
 rcases hs with⟨i,rfl⟩|⟨n,q,rfl⟩
 ·have hi:i<S.length:=hk;have hs:S[i]?=some S[i]:=π hi;have e:(Kd.nest i).parts S=S[i].2:=by show(S.getD i _).2=_;rw[jb,hs];rfl
  rw[e];exact(wU hs fun f hf=>((h.fit i _ hs) f hf).1.below).2.2 p
 ·show(ph n).flatMap _=((ph n).map _).flatMap _;rw[List.flatMap_map]
def Kd.isNum:Kd->Bool
 |.num _=>true
 |_=>false
def Kd.isNest:Kd->Bool
 |.nest _=>true
 |_=>false
def Kd.isMany:Kd->Bool
 |.many _ _=>true
 |_=>false
def Kd.isPick:Kd->Bool
 |.pick _=>true
 |_=>false
def Nolk (m:Str):Prop:=∀v w:V,[(("width" : Str),v)].lookup m=none/\[(("shape" : Str),v)].lookup m=none/\[(("count" : Str),v),(("kind" : Str),w)].lookup m=none/\[(("shapes" : Str),v)].lookup m=none
def spV (c:Cl5) (K:Φ) (r:Nat) (F:Kd->Bool) (val:Kd->Tab->Nat):Sp:=fun vs H Q _=>∃(a:Addr) (kd:Kd) (sa:List Addr) (S:List Shp),vs=[.ref a]/\F kd=true/\kd.Rk r/\kd.Fit S.length/\KO c K H sa a kd/\SW c K H sa S/\Good S/\∀H',jH H H'->Q (.int (val kd (tabs S))) H'
def TV (c:Cl5) (K:Φ) (r:Nat) (val:Kd->Tab->Nat):Addr->Sp->Prop:=fun C sp=>(C=c.num/\sp=spV c K r Kd.isNum val)\/(C=c.nest/\sp=spV c K r Kd.isNest val)\/(C=c.many/\sp=spV c K r Kd.isMany val)\/(C=c.pick/\sp=spV c K r Kd.isPick val)
theorem aFe{K:Φ}{val:Kd->Tab->Nat}{H:Hp}{kd:Kd}{S:List Shp}{Q:VK}{E:XK}(hm:Nolk m)(hr:kd.Rk r)(hf:kd.Fit S.length)(ho:KO c K H sa a kd)(hw:SW c K H sa S)(hg:Good S)
  (q:∀H',jH H H'->Q (.int (val kd (tabs S))) H'):∃a' C dx fs sp,V.ref a=.ref a'/\H a'=some (.ins C dx fs)/\fs.lookup m=none/\TV c K r val C sp/\sp [.ref a] H Q E:=by
 cases id ho with
 |num h=>exact⟨_,_,_,_,_,rfl,h,(hm _ .non).1,.inl ⟨rfl,rfl⟩,a,_,sa,S,rfl,rfl,hr,hf,ho,hw,hg,q⟩
 |nest e h=>exact⟨_,_,_,_,_,rfl,h,(hm _ .non).2.1,.inr (.inl ⟨rfl,rfl⟩),a,_,sa,S,rfl,rfl,hr,hf,ho,hw,hg,q⟩
 |many h _=>exact⟨_,_,_,_,_,rfl,h,(hm _ _).2.2.1,.inr (.inr (.inl ⟨rfl,rfl⟩)),a,_,sa,S,rfl,rfl,hr,hf,ho,hw,hg,q⟩
 |pick h _ _ _=>exact⟨_,_,_,_,_,rfl,h,(hm _ .non).2.2.2,.inr (.inr (.inr ⟨rfl,rfl⟩)),a,_,sa,S,rfl,rfl,hr,hf,ho,hw,hg,q⟩
inductive aEo (c:Cl5) (K:Φ) (r:Nat) (val:Nat->Tab->Nat) (vs:List V) (H:Hp) (Q:VK):Prop|mk:∀(a:Addr) (i:Nat) (sa:List Addr) (S:List Shp),vs=[.ref a]->sa[i]?=some a->2*i+1<=r->SW c K H sa S->Good S->(∀H',jH H H'->Q (.int (val i (tabs S))) H')->aEo c K r val vs H Q
def mX (c:Cl5) (K:Φ) (r:Nat) (val:Nat->Tab->Nat):Sp:=fun vs H Q _=>aEo c K r val vs H Q
inductive UR (K:Φ) (H:Hp):List Addr->List Un3->Prop
 |nil:UR K H [] []
 |cons {t:Addr}{ts:List Addr}{u:Un3}{us:List Un3} : SqT K H t [.str u.1,.int u.2.1,.str u.2.2]->UR K H ts us->UR K H (t::ts) (u::us)
theorem UR.same{K:Φ}(h:UR K H ts us)(g:jH H H'):UR K H' ts us:=by
 induction h with
 |nil=>exact .nil
 |cons t _ ih=>exact .cons (g.tp t) ih
theorem UR.len{K:Φ}(h:UR K H ts us):ts.length=us.length:=by
 induction h with
 |nil=>rfl
 |cons _ _ ih=>rw[χ,χ,ih]
theorem UR.app{K:Φ}(h:UR K H ts us)(h':UR K H ts' us'):UR K H (ts++ts') (us++us'):=by
 induction h with
 |nil=>exact h'
 |cons t _ ih=>exact .cons t ih
theorem UR.get{K:Φ}(h:UR K H ts us):∀{i:Nat}{t:Addr},ts[i]?=some t->∃u,us[i]?=some u/\SqT K H t [.str u.1,.int u.2.1,.str u.2.2]:=by
 induction h with
 |nil=>intro i t e;simp at e
 |cons t _ ih =>
  intro i a e;cases i with
  |zero=>cases e;exact⟨_,rfl,t⟩
  |succ i=>exact ih e
theorem UR.but{K:Φ}{H:Hp}(h:UR K H ts us)(g:But l H H')(hl:H l=some (.lst zs)):UR K H' ts us:=by
 induction h with
 |nil=>exact .nil
 |cons t _ ih=>exact .cons (g.tup hl t) ih
def UL (K:Φ) (H:Hp) (l:Addr) (us:List Un3):Prop:=∃ts:List Addr,H l=some (.lst (ts.map V.ref))/\UR K H ts us
abbrev un (kd:Kd) (S:List Shp) (p:Str):List Un3:=kd.units (tabs S).sz (tabs S).ut p
theorem Kd.parts_un(h:Good S){k:Kd}(hk:k.Fit S.length)(hs:(∃i,k=.nest i)\/∃n q,k=.many n q){p:Str}: un k S p=(k.parts S).flatMap fun f=>un f.2 S (pj p f.1):=Kd.parts_units h hk hs p
def spU (c:Cl5) (K:Φ) (r:Nat) (F:Kd->Bool):Sp:=fun vs H Q _=>∃(a:Addr) (p:Str) (kd:Kd) (sa:List Addr) (S:List Shp),vs=[.ref a,.str p]/\p.length+8*r<=200/\F kd=true/\kd.Rk r/\kd.Fit S.length/\KO c K H sa a kd/\SW c K H sa S/\Good S ∧
 ∀l H',jH H H'->H l=none->UL K H' l (un kd S p)->Q (.ref l) H'
def TU (c:Cl5) (K:Φ) (r:Nat):Addr->Sp->Prop:=fun C sp=>(C=c.num/\sp=spU c K r Kd.isNum)\/(C=c.nest/\sp=spU c K r Kd.isNest)\/(C=c.many/\sp=spU c K r Kd.isMany)\/(C=c.pick/\sp=spU c K r Kd.isPick)
theorem kdU{K:Φ}{H:Hp}{kd:Kd}{S:List Shp}(hm:Nolk m)(hr:kd.Rk r)(hf:kd.Fit S.length)(ho:KO c K H sa a kd)(hw:SW c K H sa S)(hg:Good S):
  ∃C dx fs sp,H a=some (.ins C dx fs)/\fs.lookup m=none/\TU c K r C sp/\∀(p:Str) (Q:VK) (E:XK),p.length+8*r<=200->(∀l H',jH H H'->H l=none->UL K H' l (un kd S p)->Q (.ref l) H')->sp [.ref a,.str p] H Q E:=by
 cases id ho with
 |num h=>exact⟨_,_,_,_,h,(hm _ .non).1,.inl ⟨rfl,rfl⟩,fun p Q E hp q=>⟨a,p,_,sa,S,rfl,hp,rfl,hr,hf,ho,hw,hg,q⟩⟩
 |nest e h=>exact⟨_,_,_,_,h,(hm _ .non).2.1,.inr (.inl ⟨rfl,rfl⟩),fun p Q E hp q=>⟨a,p,_,sa,S,rfl,hp,rfl,hr,hf,ho,hw,hg,q⟩⟩
 |many h _=>exact⟨_,_,_,_,h,(hm _ _).2.2.1,.inr (.inr (.inl ⟨rfl,rfl⟩)),fun p Q E hp q=>⟨a,p,_,sa,S,rfl,hp,rfl,hr,hf,ho,hw,hg,q⟩⟩
 |pick h _ _ _=>exact⟨_,_,_,_,h,(hm _ .non).2.2.2,.inr (.inr (.inr ⟨rfl,rfl⟩)),fun p Q E hp q=>⟨a,p,_,sa,S,rfl,hp,rfl,hr,hf,ho,hw,hg,q⟩⟩
inductive PR (c:Cl5) (K:Φ) (H:Hp) (sa:List Addr):List Addr->List (Str×Kd)->Prop
 |nil:PR c K H sa [] []
 |cons {t k:Addr}{x:V}{y:Str}{kd:Kd}{ts:List Addr}{ps:List (Str×Kd)} : SqT K H t [x,.ref k]->aCs x=some y->KO c K H sa k kd->PR c K H sa ts ps->PR c K H sa (t::ts) ((y,kd)::ps)
theorem PR.same{K:Φ}(h:PR c K H sa ts ps)(g:jH H H'):PR c K H' sa ts ps:=by
 induction h with
 |nil=>exact .nil
 |cons t x k _ ih=>exact .cons (g.tp t) x (k.same g) ih
theorem PR.len{K:Φ}(h:PR c K H sa ts ps):ts.length=ps.length:=by
 induction h with
 |nil=>rfl
 |cons _ _ _ _ ih=>rw[χ,χ,ih]
theorem PR.snoc{K:Φ}{x:V}(h:PR c K H sa ts ps)(t1:SqT K H t [x,.ref k])(h2:aCs x=some y)(h3:KO c K H sa k kd):PR c K H sa (ts++[t]) (ps++[(y,kd)]):=by
 induction h with
 |nil=>exact .cons t1 h2 h3 .nil
 |cons t x k _ ih=>exact .cons t x k ih
theorem PR.get{K:Φ}(h:PR c K H sa ts ps):∀{i:Nat}{t:Addr},ts[i]?=some t->∃x y kd k,ps[i]?=some (y,kd)/\SqT K H t [x,.ref k]/\aCs x=some y/\KO c K H sa k kd:=by
 induction h with
 |nil=>intro i t e;simp at e
 |cons t x k _ ih =>
  intro i a e;cases i with
  |zero=>cases e;exact⟨_,_,_,_,rfl,t,x,k⟩
  |succ i=>exact ih e
theorem FO.parts{K:Φ}(h:FO c K H sa ps fs)(more:List Addr):PR c K H (sa++more) ps fs:=by
 induction h with
 |nil=>exact .nil
 |cons t k _ ih=>exact .cons t rfl (k.more more) ih
def PL (c:Cl5) (K:Φ) (H:Hp) (sa:List Addr) (l:Addr) (ps:List (Str×Kd)):Prop:=∃ts:List Addr,H l=some (.lst (ts.map V.ref))/\PR c K H sa ts ps
def spP (c:Cl5) (K:Φ) (F:Kd->Bool):Sp:=fun vs H Q _=>∃(a:Addr) (kd:Kd) (sa:List Addr) (S:List Shp),vs=[.ref a]/\F kd=true/\kd.Fit S.length/\KO c K H sa a kd/\SW c K H sa S/\Good S/\∀l H',jH H H'->H l=none->PL c K H' sa l (kd.parts S)->Q (.ref l) H'
def TPt (c:Cl5) (K:Φ):Addr->Sp->Prop:=fun C sp=>(C=c.nest/\sp=spP c K Kd.isNest)\/(C=c.many/\sp=spP c K Kd.isMany)
theorem callP{K:Φ}{H:Hp}{kd:Kd}{S:List Shp}{Q:VK}{E:XK}(hm:Nolk m)(hs:(∃i,kd=.nest i)\/∃n q,kd=.many n q)(hf:kd.Fit S.length)(ho:KO c K H sa a kd)(hw:SW c K H sa S)(hg:Good S)
  (q:∀l H',jH H H'->H l=none->PL c K H' sa l (kd.parts S)->Q (.ref l) H'):∃a' C dx fs sp,V.ref a=.ref a'/\H a'=some (.ins C dx fs)/\fs.lookup m=none/\TPt c K C sp/\sp [.ref a] H Q E:=by
 cases id ho with
 |num h=>rcases hs with⟨_,z⟩|⟨_,_,z⟩ <;> cases z
 |nest e h=>exact⟨_,_,_,_,_,rfl,h,(hm _ .non).2.1,.inl ⟨rfl,rfl⟩,a,_,sa,S,rfl,rfl,hf,ho,hw,hg,q⟩
 |many h _=>exact⟨_,_,_,_,_,rfl,h,(hm _ _).2.2.1,.inr ⟨rfl,rfl⟩,a,_,sa,S,rfl,rfl,hf,ho,hw,hg,q⟩
 |pick h _ _ _=>rcases hs with⟨_,z⟩|⟨_,_,z⟩ <;> cases z
theorem SW.at{K:Φ}(h:SW c K H sa S){i:Nat}(e:sa[i]?=some a):∃s,S[i]?=some s/\SO c K H (sa.take i) a s:=by
 have hi:i<S.length:=by rw[←h.1];exact(η.mp e).1
 exact⟨S[i],π hi,h.2 i a _ e (π hi)⟩
theorem SO.fields{K:Φ}{H:Hp}{sa:List Addr}(h:SO c K H (sa.take i) a s):∃dx t ps,H a=some (.ins c.shape dx [("name",.str s.1),("fields",.ref t)])/\SqT K H t (ps.map V.ref)/\PR c K H sa ps s.2:=by
 obtain⟨dx,t,ps,h1,h2,h3⟩:=h;refine⟨dx,t,ps,h1,h2,?_⟩;have:=h3.parts (sa.drop i);rw[ya]at this;exact this
theorem aGf:∀j:Nat,j<6->(ζ (toString j)).length=1:=by ac_rfl
theorem Kd.parts_ok(h:Good S){k:Kd}{r:Nat}(hk:k.Fit S.length)(hr:k.Rk (r+1)){f:Str×Kd}(hf:f∈k.parts S):f.2.Rk r/\f.2.Fit S.length/\1<=f.1.length/\f.1.length<=6:=by
 cases k with
 |num w=>cases hf
 |nest i =>
  have hi:i<S.length:=hk;have hs:S[i]?=some S[i]:=π hi;have e:(Kd.nest i).parts S=S[i].2:=by show(S.getD i _).2=_;rw[jb,hs];rfl
  rw[e]at hf;obtain⟨g1,g2,g3⟩:=h.fit i _ hs f hf;exact⟨g1.rk.mono (by have : 2*i+2<=r+1:=hr;omega),g1.mono (by omega),g2,g3⟩
 |many n q =>
  obtain⟨j,hj,rfl⟩:=jz.mp hf;have hj':j<6:=ς (List.mem_range.mp hj) hk.2.1;have:=aGf j hj';refine⟨?_,?_,by show 1<=(ζ (toString j)).length;omega,by show(ζ (toString j)).length<=6;omega⟩
  ·rcases hr with⟨w,rfl,_⟩|⟨i,rfl,hi⟩
   ·exact lu
   ·show 2*i+2<=r;omega
  ·rcases hk.2.2 with⟨w,rfl,hw⟩|⟨i,rfl,hi⟩
   ·exact hw
   ·exact hi
 |pick is=>cases hf
def Kd.lv:Kd->Nat
 |.many _ _=>1
 |_=>0
def vSz (kd:Kd) (t:Tab):Nat:=kd.size t.sz
def vDp (kd:Kd) (t:Tab):Nat:=kd.depth t.dp
def sSz (i:Nat) (t:Tab):Nat:=t.sz.getD i 0
def sDp (i:Nat) (t:Tab):Nat:=t.dp.getD i 0
theorem KO.but{K:Φ}{H:Hp}(g:But l H H')(hl:H l=some (.lst zs))(h:KO c K H sa a k):KO c K H' sa a k:=by
 have n:∀{a C dx fs},H a=some (.ins C dx fs)->H' a=some (.ins C dx fs):=fun h=>g _ _ (fZ h hl (by intro z;cases z)) h
 induction h with
 |num h=>exact .num (n h)
 |nest e h=>exact .nest e (n h)
 |many h _ ih=>exact .many (n h) ih
 |pick h t l e=>exact .pick (n h) (g.tup hl t) l e
theorem FO.but{K:Φ}{H:Hp}(g:But l H H')(hl:H l=some (.lst zs))(h:FO c K H sa ps fs):FO c K H' sa ps fs:=by
 induction h with
 |nil=>exact .nil
 |cons t k _ ih=>exact .cons (g.tup hl t) (k.but g hl) ih
theorem SO.but{K:Φ}{H:Hp}(g:But l H H')(hl:H l=some (.lst zs))(h:SO c K H sa a s):SO c K H' sa a s:=by
 obtain⟨dx,t,ps,h1,h2,h3⟩:=h;exact⟨dx,t,ps,g _ _ (fZ h1 hl (by intro z;cases z)) h1,g.tup hl h2,h3.but g hl⟩
theorem SW.but{K:Φ}{H:Hp}(g:But l H H')(hl:H l=some (.lst zs))(h:SW c K H sa S):SW c K H' sa S:=⟨h.1,fun i a s h1 h2=>(h.2 i a s h1 h2).but g hl⟩
theorem But.from{H:Hp}(g:jH H H1)(hl:H l=none)(b:But l H1 H2):jH H H2:=fun x o q=>b x o (jG q hl) (g x o q)
theorem aO{H:Hp}(hx:H x=none)(hd:H dx=none):jH H (upd (upd H dx o) x u):=fun b v q=>by
 rw[jT (jG q hx),jT (jG q hd)];exact q
theorem jH.putn{H:Hp}(g:jH H H1)(h:H a=none):jH H (upd H1 a o):=fun b v q=>by
 rw[jT (jG q h)];exact g _ _ q
theorem vU{ss:List Addr}{i:Nat}(h:(ss.map V.ref)[i]?=some x):∃s,ss[i]?=some s/\x=.ref s:=by
 rw[jv]at h;cases e:ss[i]? with
 |none=>rw[e]at h;cases h
 |some c=>rw[e]at h;cases h;exact⟨c,rfl,rfl⟩
theorem zW{α β : Type}{f : α->β}{l:List α}{i:Nat}{a : α}(h:l[i]?=some a):(l.take (i+1)).map f=(l.take i).map f++[f a]:=by
 rw[jk,h,Θ];rfl
theorem aFc{α β : Type}{f : α->List β}{l:List α}{i:Nat}{a : α}(h:l[i]?=some a):(l.take (i+1)).flatMap f=(l.take i).flatMap f++f a:=by
 rw[jk,h,qz];show _++[a].flatMap f=_;rw[uv]
theorem vT{α : Type}{l:List α}: l.take l.length=l:=qc
theorem maxI{ns:List Nat}{m:Int}(h1:m∈ns.map fun n:Nat=>(n:Int))(h2:∀n∈ns.map fun n:Nat=>(n:Int),n<=m):m=((yI ns:Nat):Int):=by
 obtain⟨n,hn,rfl⟩:=jz.mp h1;rw[←aNd hn fun k hk=>by have:=h2 (k:Int) (List.mem_map_of_mem hk);omega]
theorem sumI:∀ns:List Nat,(ns.map fun n:Nat=>(n:Int)).sum=((ns.sum:Nat):Int)
 |[]=>rfl
 |n::ns=>by rw[ju,ue,ue,sumI ns];omega
theorem Kd.Rk.zero : ∀{k:Kd},k.Rk 0->k.Fit n->k.isNum=true
 |.num _,_,_=>rfl
 |.nest i,h,_=>by have : 2*i+2<=0:=h;omega
 |.many _ _,h,_=>by
  rcases h with⟨_,_,h⟩|⟨i,_,h⟩ <;> omega
 |.pick is,h,q=>by
  cases is with
  |nil=>exact absurd q.1 (by decide)
  |cons i _=>have:=h i (τ ..);omega
theorem Kd.Rk.sub{r:Nat}(h:(Kd.many n k).Rk (r+1)):k.Rk r:=by
 rcases h with⟨w,rfl,_⟩|⟨i,rfl,hi⟩
 ·exact lu
 ·show 2*i+2<=r;omega
theorem Kd.Fit.sub(h:(Kd.many n k).Fit m):k.Fit m:=by
 rcases h.2.2 with⟨w,rfl,hw⟩|⟨i,rfl,hi⟩
 ·exact hw
 ·exact hi
theorem aGk{os:St}(h:os.length=2):∃a b,os=[a,b]:=by
 match os,h with
 |[a,b],_=>exact⟨a,b,rfl⟩
theorem aDo{m:Str}(h:m = "size" ∨ m = "depth" ∨ m = "units_at" ∨ m = "parted"):Nolk m:=by
 rcases h with rfl|rfl|rfl|rfl <;> exact fun _ _=>⟨rfl,rfl,rfl,rfl⟩
theorem cY.mono{K:Φ}{k:Nat}(h:cY P w K mg base CX j m C sp)(hk:j<=k):cY P w K mg base CX k m C sp:=by
 obtain⟨c,f,fd,ps,h1,h2,h3⟩:=h;exact⟨c,f,fd,ps,h1,h2.mono hk,h3⟩
theorem noFn{K:Φ}{sp:Sp}(h:∀vs H Q E,sp vs H Q E->False):jU P w K mg base CX k f fd ps sp:=⟨fun vs H Q E q=>(h vs H Q E q).elim,fun _ _ _ H _ _ vs Q E _ _ _ _ q=>(h vs H Q E q).elim⟩
theorem noV{K:Φ}{F:Kd->Bool}(hF:∀k,F k=true->k.isNum=true->False):∀vs H Q E,spV c K 0 F val vs H Q E->False:=fun vs H Q E h=>by obtain⟨a,kd,sa,S,_,h1,h2,h3,_⟩:=h;exact hF kd h1 (h2.zero h3)
theorem noU{K:Φ}{F:Kd->Bool}(hF:∀k,F k=true->k.isNum=true->False):∀vs H Q E,spU c K 0 F vs H Q E->False:=fun vs H Q E h=>by obtain⟨a,p,kd,sa,S,_,_,h1,h2,h3,_⟩:=h;exact hF kd h1 (h2.zero h3)
theorem nn1:∀k:Kd,k.isNest=true->k.isNum=true->False:=fun k h g=>by cases k <;> first|exact ρ h|exact ρ g
theorem nn2:∀k:Kd,k.isMany=true->k.isNum=true->False:=fun k h g=>by cases k <;> first|exact ρ h|exact ρ g
theorem nn3:∀k:Kd,k.isPick=true->k.isNum=true->False:=fun k h g=>by cases k <;> first|exact ρ h|exact ρ g
theorem ff1:∀k:Kd,k.isNest=true->(∃i,k=.nest i)\/∃n q,k=.many n q:=fun k h=>by
 cases k <;> first|exact .inl ⟨_,rfl⟩|cases h
theorem ff2:∀k:Kd,k.isMany=true->(∃i,k=.nest i)\/∃n q,k=.many n q:=fun k h=>by
 cases k <;> first|exact .inr ⟨_,_,rfl⟩|cases h
inductive Itm where
 |sh (n:Str)
 |fd (n:Str) (k:Kd)
def rZ (s:Shp):List Itm:=.sh s.1::s.2.map fun f=>.fd f.1 f.2
def xJ (S:List Shp):List Itm:=S.flatMap rZ
def Itm.line (nm:Nat->Str):Itm->List Str
 |.sh n=>[ζ "shape",n]
 |.fd n k=>n::k.words nm
theorem fW(S:List Shp):oO S=(xJ S).map (Itm.line (kY S)):=by
 unfold oO xJ;rw[List.map_flatMap]
 congr 1
 funext s
 unfold aFw rZ;rw[ju,nh];rfl
theorem dX(A B:List Shp):xJ (A++B)=xJ A++xJ B:=qz
def nG (S:List Shp) (j:Nat) (T:List Shp):Prop:=(∃S2,S=T++S2/\j=(xJ T).length)\/∃S1 s S2 f1 f2,S=S1++s::S2/\s.2=f1++f2/\T=S1++[(s.1,f1)]/\j=(xJ S1).length+1+f1.length
theorem nG.start(S:List Shp):nG S 0 []:=.inl ⟨S,rfl,rfl⟩
theorem nG.next(h:nG S j T)(hj:j<(xJ S).length):∃S1 s S2,S=S1++s::S2 ∧
  (((xJ S)[j]?=some (.sh s.1)/\T=S1/\nG S (j+1) (S1++[(s.1,[])]))\/∃f1 n k f2,s.2=f1++(n,k)::f2/\(xJ S)[j]?=some (.fd n k)/\T=S1++[(s.1,f1)]/\nG S (j+1) (S1++[(s.1,f1++[(n,k)])])):=by
 have one:∀{T:List Shp}{S2:List Shp},S=T++S2->j=(xJ T).length->∃S1 s S2,S=S1++s::S2 ∧
  (((xJ S)[j]?=some (.sh s.1)/\T=S1/\nG S (j+1) (S1++[(s.1,[])]))\/∃f1 n k f2,s.2=f1++(n,k)::f2/\(xJ S)[j]?=some (.fd n k)/\T=S1++[(s.1,f1)]/\nG S (j+1) (S1++[(s.1,f1++[(n,k)])])):=by
  intro T S2 e ej;cases S2 with
  |nil=>rw[e,jq,←ej]at hj;exact absurd hj (nk _)
  |cons s S2 =>
   refine⟨T,s,S2,e,.inl ⟨?_,rfl,.inr ⟨T,s,S2,[],s.2,e,rfl,rfl,by rw[ej];rfl⟩⟩⟩;rw[e,dX,iu (by omega),ej,nv];rfl
 rcases h with⟨S2,e,ej⟩|⟨S1,s,S2,f1,f2,e,ef,eT,ej⟩
 ·exact one e ej
 ·cases f2 with
  |nil =>
   rw[jq]at ef;have e2:T=S1++[s]:=by rw[eT,←ef]
   refine one (S2:=S2) (by rw[e,e2,jy];rfl) ?_;rw[e2,dX,θ,ej];show _=_+([s].flatMap rZ).length;rw[uv];unfold rZ;rw[χ,δ,ef];omega
  |cons f f2 =>
   refine⟨S1,s,S2,e,.inr ⟨f1,f.1,f.2,f2,ef,?_,eT,.inr ⟨S1,s,S2,f1++[(f.1,f.2)],f2,e,by rw[ef,jy];rfl,rfl,by rw[ej,θ];rfl⟩⟩⟩;rw[e,dX,iu (by omega),show j-(xJ S1).length=f1.length+1 by omega];show((rZ s)++xJ S2)[f1.length+1]?=_;unfold rZ;rw[List.cons_append,List.getElem?_cons_succ,jd (by rw[δ,ef,θ,χ];omega),jv,ef,iu (ι _),nv];rfl
theorem uK{A:List Shp}(h:A≠[]): 0<(xJ A).length:=by
 cases A with
 |nil=>exact absurd rfl h
 |cons a A=>exact Nat.succ_pos _
theorem nG.done(h:nG S (xJ S).length T):T=S:=by
 rcases h with⟨S2,e,ej⟩|⟨S1,s,S2,f1,f2,e,ef,eT,ej⟩
 ·cases S2 with
  |nil=>rw[e,jq]
  |cons s S2 =>
   rw[e,dX,θ]at ej;have:=uK (A:=s::S2) (by simp);omega
 ·rw[e,dX,θ,show xJ (s::S2)=rZ s++xJ S2 from rfl,θ]at ej;unfold rZ at ej;rw[χ,δ,ef,θ]at ej;have h2:f2=[]:=ug.mp (by omega);have h3:S2=[]:=by
   cases S2 with
   |nil=>rfl
   |cons a A=>have:=uK (A:=a::A) (by simp);omega
  rw[eT,e,h3];subst h2;rw[jq]at ef;rw[←ef]
theorem zM(sa:List Addr)(z:Addr):atI ((sa++[z]).map V.ref) (-1)=some (.ref z):=by
 have l:((sa++[z]).map V.ref).length=sa.length+1:=by rw[δ,θ];rfl
 have e:ixN (sa.length+1) (-1)=some sa.length:=by
  unfold ixN;rw[if_neg (by omega),if_pos (by omega)]
  congr 1
  omega
 unfold atI;rw[l,e];show((sa++[z]).map V.ref)[sa.length]?=_;rw[Θ,iu (by rw[δ];exact ι _),δ,nv];rfl
theorem aKg(sa:List Addr)(z:Addr):ixN ((sa++[z]).map V.ref).length (-1)=some sa.length:=by
 rw[δ,θ,km];unfold ixN;rw[if_neg (by omega),if_pos (by omega)]
 congr 1
 omega
theorem aKb(sa:List Addr)(z y:Addr):((sa++[z]).map V.ref).set sa.length (.ref y)=(sa++[y]).map V.ref:=by
 rw[Θ,Θ,List.set_append_right _ _ (by rw[δ];exact ι _),δ,nv];rfl
theorem cutA(xs:List V)(k:Nat):bF xs (some (k:Int)) none=xs.drop k:=by
 unfold bF;rw[HT.sIx_none,HT.sIx_nat];have e:xs.drop (min k xs.length)=xs.drop k:=by
  by_cases h:k<=xs.length
  ·rw[tf h]
  ·rw[vq (by omega),List.drop_length,List.drop_eq_nil_of_le (by omega)]
 rw[e,li];rw[vp];omega
theorem aBo(x:V)(xs:List V):bF (x::xs) (some 1) none=xs:=cutA (x::xs) 1
theorem aPl(x y:V)(xs:List V):bF (x::y::xs) (some 2) none=xs:=cutA (x::y::xs) 2
theorem at0{x:V}{xs:List V}: atI (x::xs) 0=some x:=yE (j:=0) rfl
theorem at1{x y:V}{xs:List V}: atI (x::y::xs) 1=some y:=yE (j:=1) rfl
theorem cutB(xs:List V)(k:Nat):bF xs none (some (k:Int))=xs.take k:=by
 unfold bF;rw[HT.sIx_none,HT.sIx_nat,List.drop_zero,Nat.sub_zero]
 by_cases h:k<=xs.length
 ·rw[tf h]
 ·rw[vq (by omega),qc,li (by omega)]
theorem cutC(sa:List Addr)(z:Addr):bF ((sa++[z]).map V.ref) none (some (-1))=sa.map V.ref:=by
 unfold bF;rw[HT.sIx_none,List.drop_zero,Nat.sub_zero];have l:((sa++[z]).map V.ref).length=sa.length+1:=by rw[δ,θ];rfl
 have e:HT.sIx ((sa++[z]).map V.ref).length ((sa++[z]).map V.ref).length (some (-1))=(sa.map V.ref).length:=by
  rw[l,δ];show(if (-1:Int)<0 then ((-1:Int)+((sa.length+1:Nat):Int)).toNat else min (-1:Int).toNat (sa.length+1))=_;rw[if_pos (by decide)];omega
 rw[e,Θ,List.take_left' rfl]
def dk (T:List Shp) (sa:List Addr):List (Key×V):=ja (fun (s:Shp) (a:Addr)=>((.inr s.1:Key),V.ref a)) T sa
theorem aKc{T:List Shp}{sa:List Addr}(hn:(T.map (·.1)).Nodup):∀{i:Nat}{s:Shp}{a:Addr},T[i]?=some s->sa[i]?=some a->vZ (dk T sa) (.inr s.1)=some (.ref a):=by
 induction T generalizing sa with
 |nil=>intro i s a h;simp at h
 |cons t T ih =>
  intro i s a h1 h2;cases sa with
  |nil=>simp at h2
  |cons b sa =>
   cases i with
   |zero =>
    cases h1;cases h2;unfold dk vZ;rw[oo,xo (by simp)];rfl
   |succ i =>
    have hn':=pe.mp (show(t.1::T.map (·.1)).Nodup from hn);have:=ih hn'.2 (sa:=sa) h1 h2;unfold dk vZ at this ⊢;rw[oo,uw]
    ·exact this
    ·intro z;have z2:t.1=s.1:=wy (show(jj t.1:Key)=.inr s.1 from of_decide_eq_true z);have h1':T[i]?=some s:=h1;exact hn'.1 (by rw[z2];exact List.mem_map_of_mem (iq h1'))
theorem aHd{kvs:List (Key×V)}{k:Key}(h:∀x∈kvs,x.1≠k):putK kvs k v=kvs++[(k,v)]:=by
 unfold putK
 first
 |rw[if_neg (by simp only[uh,not_exists];rintro x ⟨hx,z⟩;exact h x hx (of_decide_eq_true z))]
 | (split
    · rename_i z
      simp only[uh]at z;obtain⟨x,hx,z⟩:=z;exact absurd (by simpa using z) (h x hx)
    · rfl)
theorem dP{α β γ : Type}(f : α->β->γ):∀{xs:List α}{ys:List β}{x : α}{y : β},xs.length=ys.length->ja f (xs++[x]) (ys++[y])=ja f xs ys++[f x y]
 |[],[],_,_,_=>rfl
 |a::xs,b::ys,x,y,h=>by
  rw[List.cons_append,List.cons_append,oo,oo,dP f (vt h)];rfl
theorem aNm{T:List Shp}{sa:List Addr}{j:Nat}(h1:T[j]?=some s)(h2:sa[j]?=some a):dk (T.take (j+1)) (sa.take (j+1))=dk (T.take j) (sa.take j)++[(.inr s.1,.ref a)]:=by
 unfold dk;rw[jk,jk,h1,h2];refine dP _ ?_;rw[ji,ji];have:=(η.mp h1).1;have:=(η.mp h2).1;omega
theorem aMi{T:List Shp}{sa:List Addr}: ∀x∈dk T sa,∃s∈T,x.1=.inr s.1:=by
 induction T generalizing sa with
 |nil=>intro x hx;cases sa <;> simp[dk]at hx
 |cons t T ih =>
  intro x hx;cases sa with
  |nil=>simp[dk]at hx
  |cons a sa =>
   unfold dk at hx;rw[oo]at hx;rcases ο.mp hx with rfl|hx
   ·exact⟨t,τ ..,rfl⟩
   ·obtain⟨s,hs,e⟩:=ih x hx;exact⟨s,Ω _ hs,e⟩
theorem SW.init{K:Φ}{sa:List Addr}{z:Addr}{T:List Shp}{s:Shp}(h:SW c K H (sa++[z]) (T++[s])):SW c K H sa T/\SO c K H sa z s:=by
 have hl:sa.length=T.length:=by have:=h.1;rw[θ,θ]at this;exact vt this
 refine⟨⟨hl,fun i a u h1 h2=>?_⟩,?_⟩
 ·have hi:i<sa.length:=(η.mp h1).1;have:=h.2 i a u (wG h1) (by rw[jd (by omega)];exact h2);rw[List.take_append_of_le_length (by omega)]at this;exact this
 ·have:=h.2 sa.length z s (by rw[iu (ι _),nv];rfl) (by rw[hl,iu (ι _),nv];rfl);rw[List.take_left' rfl]at this;exact this
theorem aJf(c:Nat):∀ps:List (List Nat),(jn c ps).length<=(ps.map (·.length)).sum+ps.length
 |[]=>ι _
 |[p]=>by show p.length<=(p.length+0)+1;omega
 |p::q::r=>by
  have ih:=aJf c (q::r);show(p++c::jn c (q::r)).length<=_;rw[θ,χ,ju,ue,χ];omega
theorem aCq{α : Type}{f : α->Nat}{m:Nat}: ∀{l:List α},(∀x∈l,f x<=m)->(l.map f).sum<=l.length*m
 |[],_=>jg _
 |x::l,h=>by
  have h1:=h x (τ ..);have h2:=aCq (f:=f) (l:=l) fun y hy=>h y (Ω _ hy);rw[ju,ue,χ,Nat.succ_mul];omega
theorem rQ{c:Nat}{ws:List Str}{m:Nat}(h:∀w∈ws,w.length<=m):(jp ⟨#[c]⟩ ws).length<=ws.length*(m+1):=by
 have e:(jp ⟨#[c]⟩ ws).length=(jn c (ws.map fun w=>w.cps.toList)).length:=by
  rw[←oH];exact(lh).symm
 rw[e];refine jh (aJf _ _) ?_;rw[nh,δ,Nat.mul_add,Nat.mul_one];exact Nat.add_le_add_right (aCq fun w hw=>by show w.cps.toList.length<=m;rw[lh];exact h w hw) _
def offs (xs:List Addr) (H:Hp):Hp:=fun b=>if b∈xs then none else H b
theorem xH{xs:List Addr}{a:Addr}{H:Hp}(n:a∉xs)(h:H a=some o):offs xs H a=some o:=by unfold offs;rw[if_neg n];exact h
theorem kK : jH (offs xs H) H:=fun b o q=>by
 unfold offs at q
 split at q
 ·cases q
 ·exact q
theorem aC{xs:List Addr}{H H':Hp}(h:∀b o,b∉xs->H b=some o->H' b=some o):jH (offs xs H) (offs xs H'):=fun b o q=>by
 unfold offs at q ⊢
 split at q
 ·cases q
 ·rename_i n;rw[if_neg n];exact h b o n q
theorem vW(g:jH H H'):jH (offs xs H) (offs xs H'):=aC fun b o _ q=>g b o q
def Al (xs:List Addr) (H:Hp):Prop:=∀b∈xs,∃o,H b=some o
theorem Al.same(h:Al xs H)(g:jH H H'):Al xs H':=fun b hb=>by
 obtain⟨o,ho⟩:=h b hb;exact⟨o,g _ _ ho⟩
theorem Al.new{H:Hp}(h:Al xs H)(ht:H t=none):t∉xs:=fun z=>by
 obtain⟨o,ho⟩:=h t z;rw[ht]at ho;cases ho
abbrev Hold:=Str×Nat
abbrev wR:=Str×Nat×Nat×List Hold
def lj (p x:Str):Str:=if p.length=0 then x else if x.length=0 then p else p++ζ "." ++ x
def ahd (st:Str) (m:Int) (x:wR):wR:=(lj st x.1,x.2.1,((x.2.2.1:Int)+m).toNat,x.2.2.2.map fun h=>(lj st h.1,h.2))
def ahead (st:Str) (rows:List wR) (m:Int):List wR:=rows.map (ahd st m)
def insF (S:List Shp) (f:Kd->List wR):Nat->List (Str×Kd)->List wR
 |_,[]=>[]
 |o,x::xs=>ahead x.1 (f x.2) o++insF S f (o+x.2.size (tabs S).sz) xs
def pickR (n:Nat) (x:wR):wR:=(x.1,x.2.1,x.2.2.1,(Str.empty,n)::x.2.2.2)
def ins (S:List Shp):Nat->Kd->List wR
 |0,.num w=>[(Str.empty,w,0,[])]
 |0,_=>[]
 |r+1,.num w=>[(Str.empty,w,0,[])]
 |r+1,.nest i=>insF S (ins S r) 0 ((Kd.nest i).parts S)
 |r+1,.many n k=>insF S (ins S r) 0 ((Kd.many n k).parts S)
 |r+1,.pick is=>(ζ "tag",1,0,[])::(ph is.length).flatMap fun n=>(ahead (kY S (is.getD n 0)) (ins S r (.nest (is.getD n 0))) 1).map (pickR n)
end L2
namespace L2
open PySem PySem.Spec PyProof.Rows
theorem aJk(h:(kJ P w).is k u=true):RelV (kV k) u:=by
 rcases qX (show rX k u=true from h) with⟨i,t,rfl,rfl⟩|⟨x,t,rfl,rfl⟩
 ·exact⟨t,rfl⟩
 ·exact⟨t,rfl⟩
def epOf (o:Obj):Nat:=match o.data with | .dict _ ep=>ep|_=>0
theorem Inv.frozen{H:Hp}(I:Inv X pins σ H s)(e:H a=some (.dK kvs)):∃o,s.heap.get? a=some o/\Inv X pins σ (upd H a (.frz o (.dK kvs))) s:=by
 obtain⟨z,hd,vs,rel,dd⟩:=mS I.hok e;obtain⟨o,es,ep,ho,r⟩:=id dd;exact⟨o,ho,I.write (x:=a) (e:=a) (h':=s.heap) (t':=s.toks) (by rw[e];exact lu) (.inl rfl) (fun _ _ _ q=>q) ⟨o,ho⟩ ⟨ho,cZ z hd rel dd⟩⟩
theorem uD{H:Hp}(ok:HOk P w H h)(e:H a=some (.frz o (.dK kvs))):(a == mi)=false/\∃vs,KV kvs vs/\h.DictAt (kJ P w) a vs (epOf o):=by
 obtain⟨h1,z,hd,vs,rel,q,es,ep,hq,h2,h3,r⟩:=(show qZ P w H h a (.frz o (.dK kvs)) from ok a _ e);rw[h1]at hq;cases hq;refine⟨hd,vs,rel,o,es,h1,h2,?_,r⟩;rw[h3];unfold epOf;rw[h3]
theorem KV.get:∀{kvs:List (Key×V)}{vs:List (Key×Value)},KV kvs vs->∀{i:Nat}{kv:Key×V},kvs[i]?=some kv->∃u,vs[i]?=some (kv.1,u)
 |_,_,.nil,_,_,e=>by simp at e
 |_,_,.cons (a:=p) (b:=q) r _,0,kv,e=>by
  simp at e;subst e;exact⟨q.2,by simp[r.1]⟩
 |_,_,.cons _ t,i+1,kv,e=>by
  obtain⟨u,h⟩:=KV.get t (i:=i) (kv:=kv) (by simpa using e);exact⟨u,by simpa using h⟩
def Itd (a:Addr) (o:Obj) (kvs:List (Key×V)):It :=
 ⟨fun i H=>H a=some (.frz o (.dK kvs))/\i<kvs.length,fun i H x H'=>H'=H/\∃kv,kvs[i]?=some kv/\x=kV kv.1,fun i H=>H a=some (.frz o (.dK kvs))/\kvs.length<=i⟩
theorem tX{K:Φ}(a it:Addr)(o:Obj)(kvs:List (Key×V)):Turn P w K tg (Itd a o kvs) [it] it (fun i h=>h.IsKeyIter it a i kvs.length (epOf o)) where
 mem:=by simp
 obj:=fun i h st b hb=>by
  have e:b=it:=by simpa using hb
  subst e;obtain⟨o,e,c,d⟩:=st;exact⟨o,e,fun v z=>by rw[d]at z;cases z⟩
 keep:=fun i h h' st k=>st.at fun o e=>k it (by simp) o e
 item:=by
  intro X hP hw hK hc i pins s σ H E I hf st hg;subst hP hw hK;obtain⟨hq,hi⟩:=hg;obtain⟨_,vs,rel,dd⟩:=uD I.hok hq;obtain⟨u,hu⟩:=KV.get rel (i:=i) (kv:=kvs[i]) (by simp[hi]);obtain⟨f0,f1,f2,f3,f4,f5⟩:=hf it (by simp);have hl:kvs.length=vs.length:=ud rel;rw[hl]at st;refine wpAny_pyNext_dict_item st dd hu fun key h' hk st' sb=>?_;have I1:Inv X pins σ H { s with heap:=h' }:=I.turned (t':=s.toks) (fun b o hb e=>(sb.2 b hb).trans e) f0 f1 f3 f4 f5;exact⟨key,rfl,letGo_keyiter st' ⟨kV kvs[i].1,H,I1,aJk hk,⟨rfl,kvs[i],by simp[hi],rfl⟩,by rw[hl];exact st',fun b hb=>(hf b hb).1⟩⟩
 done:=by
  intro X hP hw hK hc i pins s σ H E I hf st hg;subst hP hw hK;obtain⟨hq,hi⟩:=hg;obtain⟨_,vs,rel,dd⟩:=uD I.hok hq;obtain⟨f0,f1,f2,f3,f4,f5⟩:=hf it (by simp);have hl:kvs.length=vs.length:=ud rel;rw[hl]at st hi;exact wpAny_pyNext_dict_end (I.ok.hd hc) st dd (by simp;omega) fun h' eb=>⟨rfl,I.turned (t':=s.toks) (fun b o hb e=>eb b o hb e) f0 f1 f3 f4 f5⟩
 self:=fun _ _ _ _ _ st h=>wpAny_pyIter_keyiter st h
def iDict (tl:TE):TI:=fun σ H R=>tl σ H fun x H1=>∃a kvs,x=.ref a/\H1 a=some (.dK kvs)/\∀o,R (Itd a o kvs) (upd H1 a (.frz o (.dK kvs)))
theorem aMl(hl:PE X l tl):PI X tg l (iDict tl):=by
 intro pins s σ H R I h;refine thn (hl pins s σ H _ I h) fun v s1 zq=>?_;obtain⟨x,H1,I1,r1,q1⟩:=zq;obtain⟨a,kvs,e,hq,q⟩:=q1;subst e;cases r1;obtain⟨o,ho,I2⟩:=I1.frozen hq;obtain⟨hd,vs,rel,dd⟩:=uD I2.hok (jI);have hl:kvs.length=vs.length:=ud rel;refine wpAny_pyIter_dict hd dd ?_;refine⟨s1.heap.objs.size,[s1.heap.objs.size],_,_,_,rfl,I2.kept (t':=s1.toks) fun b o e=>ν _ e,tX a _ o kvs,⟨_,iw _ rfl,rfl,?_⟩,fun b hb=>?_,q o⟩
 ·rw[hl];rfl
 have e:b=s1.heap.objs.size:=by simpa using hb
 subst e;exact I2.fpOk (ι _) (I2.hok.fresh (ι _))
end L2
namespace L2.TX
open PySem PySem.Spec PyProof.Rows
def firstMet (val:Nat->Str) (i:Nat):List Str:=((ph i).map val).foldl step_dedup []
section
variable {prog:ki}{w:mx}{A:lg}{R:Result->μ->Prop}{I:Addr}{fp wr:List Addr}{G:Array GenState->Array GenState->Prop}{n:Nat}{P:Nat->Value->Prop}{St:Nat->μ->Prop}
end
end L2.TX
namespace L2
open PySem PySem.Spec PyProof.Rows
theorem bN{kvs:List (Key×V)}{k:Nat}{tc:TT}{te:TE}{Q:VK}(P:Nat->List V->Hp->Prop)(h0:P 0 [] H1)(hl:∀i ys H,i<=kvs.length->P i ys H->H a=some (.frz o (.dK kvs))/\ys.length<=i)(hz:kvs.length<ξ)
  (hs:∀i kv ys H,kvs[i]?=some kv->P i ys H->tc (some (kV kv.1)::vM js σ) H fun b H2=>if b=true then te (some (kV kv.1)::vM js σ) H2 fun v H3=>aB P i js σ (some (kV kv.1)::vM js σ) (ys++[v]) H3 else aB P i js σ (some (kV kv.1)::vM js σ) ys H2)
  (hd:∀ys H,P kvs.length ys H->∀p,H p=none->Q (.ref p) (upd H p (.lst ys)))(hk:k=1:=by rfl):
  hU (Itd a o kvs) k js (zS 0) tc te σ Q H1:=by
 subst hk;refine⟨fun i m σ' ys H=>m=kvs.length-i/\i<=kvs.length/\P i ys H/\∃o,σ'=o::vM js σ,⟨kvs.length,by simp,jg _,h0,none,rfl⟩,?_⟩;rintro i m σ' ys H ⟨rfl,hi,p,o,rfl⟩;obtain⟨q,hy⟩:=hl i ys H hi p
 by_cases hlt:i<kvs.length
 ·refine .inr ⟨⟨q,hlt⟩,by omega,aB P i js σ,fun σ3 zs H3 z=>⟨kvs.length-(i+1),by omega,rfl,hlt,z.1,z.2⟩,fun x H' y=>?_⟩;obtain⟨e,kv,y,rfl⟩:=y;subst e;exact hs i kv ys _ y p
 ·have e:i=kvs.length:=by omega
  subst e;exact .inl ⟨⟨q,ι _⟩,fun l n _=>hd ys H p l n⟩
structure InsC (K:Φ) (C:Addr):Prop where
 cl:Cls K C
 ha:uj K (.ref C) "__class__" = some (some (.builtin "object.__class__"))
 hn:vf K (.builtin "object.__class__") "__get__" = some (some (.builtin "getset_descriptor.__get__"))
 htk:PySem.W.takesIn K (.builtin "object.__class__")=some true
 hm:PySem.W.mroIn K C (.type "object")=some true
theorem InsC.ty{K:Φ}(c:InsC K C){H:Hp}(e:H a=some (.ins C dx fs)):iE K H (.ref a) (.ref C):=.ins e c.cl c.ha c.hn c.htk c.hm
theorem pW{X:Cx}{K:Φ}(hK:X.K=K):vN X (.builtin "isinstance") (fun xs H Q=>∃(x:V) (D:Addr) (t:Value) (b:Bool),xs=[x,.ref D]/\iE K H x t/\si K t (.ref D)=some b/\Q (.bl b) H):=by
 intro pins s σ H xs us Q I r h;obtain⟨x,D,t,b,rfl,ht,hk,q⟩:=h;subst hK;obtain⟨u,w',rfl,rx,rD⟩:=vals2 r;cases rD;exact aGr I rx ht hk fun tk=>⟨.bl b,H,I.tok tk,rfl,q⟩
section
variable {P:ki}{w:mx}{A:lg}{E:Value->μ->Prop}{s:μ}
structure ZpM (b c2:Bool) (h:ky) (z ti to j1 j2 a1 a2:Addr) (n:Nat):Prop where
 z:IsZip h z ti to .none
 ti:IsPair h ti (.ref j1) (.ref j2)
 to:∃p q,IsPair h to p q
 i1:xZ b h j1 a1 n
 i2:xZ c2 h j2 a2 n
theorem aFp{Q:Option Value->μ->Prop}(D:wj z ti to j1 j2 a1 a2)(hz:ZpM b c2 s.heap z ti to j1 j2 a1 a2 n)
  (g1:vE b s.heap a1 us)(g2:vE c2 s.heap a2 vs)(hu:us[n]?=some u)(hv:vs[n]?=some v)
  (k:∀g,IsZip g z ti to (rawInt s.heap.objs.size)->IsPair g to u v->xZ b g j1 a1 (n+1)->xZ c2 g j2 a2 (n+1)->IsPair g s.heap.objs.size u v →
   (∀c o,c∉[z,to,j1,j2]->s.heap.get? c=some o->g.get? c=some o)->Q (some (.ref s.heap.objs.size)) { s with heap:=g }):Ξ (je P w) A (vc (.ref z)) Q E s:=by
 obtain⟨hz,hi,⟨p,q,ho⟩,h1,h2⟩:=hz;have ty:s.TypeIs (.ref z) "zip":=⟨_,hz,rfl⟩;unfold vc;refine ε (wpAny_attempt (wpAny_callSpecial?_slot (name:=ζ "__next__") ty qy (qi qy ty yi ?_ (xq _))));show Ξ _ _ (field (.ref z) 2 >>= fun _=>_) _ _ _;refine ε (mq hz rfl (x:=.bool false) rfl ?_);show Ξ _ _ (field (.ref z) 3 >>= fun _=>_) _ _ _;refine ε (mq hz rfl (x:=.ref ti) rfl ?_);refine ε (ny hi rfl ?_);show Ξ _ _ (jw (.ref z) >>= fun _=>_) _ _ _;refine ε ?_;unfold jw;refine ε (mq hz rfl (x:=se) rfl (ω ?_));simp only[if_true];refine ε (wpAny_rule ?_);refine ε (mq hz rfl (x:=.ref to) rfl ?_);refine ε (qj hz (by simp) fun e1 z1 s1=>?_);replace z1:IsZip e1 z ti to .ellipsis:=z1;refine ε ?_;simp only[List.zipIdx_cons,List.zipIdx_nil,List.forIn_cons,List.forIn_nil];have x1:=s1.extBut;refine ε (ε (wpAny_onRaise ?_));show Ξ _ _ (jl (.ref j1) >>= fun _=>_) _ _ _;refine ε (pV (h1.keep fun o e=>x1 _ o D.i1z e) (g1.keep fun o e=>x1 _ o D.l1z e) hu fun e2 m2 s2=>ω ?_);have x2:=s2.extBut;have o2:IsPair e2 to p q:=x2 _ _ D.TOi1 (x1 _ _ D.TOz ho);refine ε (ny o2 rfl ?_);refine ε (yn o2 fun e3 o3 s3=>?_);replace o3:IsPair e3 to u q:=o3;have x3:=s3.extBut;refine ε (wpAny_letGo (ω ?_));refine ε (ε (wpAny_onRaise ?_));show Ξ _ _ (jl (.ref j2) >>= fun _=>_) _ _ _;refine ε (pV (h2.keep fun o e=>x3 _ o D.TOi2.symm (x2 _ o D.i12.symm (x1 _ o D.i2z e))) (g2.keep fun o e=>x3 _ o D.l2TO (x2 _ o D.l2i1 (x1 _ o D.l2z e))) hv fun e4 m4 s4=>ω ?_);have x4:=s4.extBut;have o4:IsPair e4 to u q:=x4 _ _ D.TOi2 o3;refine ε (ny o4 rfl ?_);refine ε (yn o4 fun e5 o5 s5=>?_);replace o5:IsPair e5 to u v:=o5;have x5:=s5.extBut;refine ε (wpAny_letGo (ω (ω ?_)));refine ε (ny o5 rfl ?_);refine ε (wpAny_newTuple ?_);have sz:e5.objs.size=s.heap.objs.size:=by rw[s5.1,s4.1,s3.1,s2.1,s1.1]
 have z5:IsZip e5 z ti to .ellipsis:=x5 _ _ D.TOz.symm (x4 _ _ D.i2z.symm (x3 _ _ D.TOz.symm (x2 _ _ D.i1z.symm z1)));have k5:∀c o,c∉[z,to,j1,j2]->s.heap.get? c=some o->e5.get? c=some o:=fun c o hc e=>by
  simp only[ο,jr,or_false,not_or]at hc;exact x5 _ _ hc.2.1 (x4 _ _ hc.2.2.2 (x3 _ _ hc.2.1 (x2 _ _ hc.2.2.1 (x1 _ _ hc.1 e))))
 have m25:xZ b e5 j1 a1 (n+1):=m2.keep fun o e=>x5 _ o D.TOi1.symm (x4 _ o D.i12 (x3 _ o D.TOi1.symm e));have m45:xZ c2 e5 j2 a2 (n+1):=m4.keep fun o e=>x5 _ o D.TOi2.symm e;have lz:z<e5.objs.size:=ψ z5;show Ξ _ _ (vz (.ref z) (.ref e5.objs.size) >>= fun _=>_) _ _ _;refine ε ?_;unfold vz;have z6:IsZip (e5.push { cls:=.type "tuple",data:=.seq #[u,v] }) z ti to .ellipsis:=ν _ z5;refine ε (qj z6 (by simp) fun e7 z7 s7=>?_);replace z7:IsZip e7 z ti to (rawInt e5.objs.size):=z7;refine qj z7 (by simp) fun e8 z8 s8=>?_;replace z8:IsZip e8 z ti to (rawInt e5.objs.size):=z8;have up:∀c o,c≠z->e5.get? c=some o->e8.get? c=some o:=fun c o c1 e=>s8.extBut _ _ c1 (s7.extBut _ _ c1 (ν _ e));have t8:IsPair e8 e5.objs.size u v:=s8.extBut _ _ (mz lz) (s7.extBut _ _ (mz lz) (iw _ rfl));rw[sz]at z8 t8;refine ω ⟨_,rfl,ω ?_⟩;rw[sz];exact k e8 z8 (up _ _ D.TOz o5) (m25.keep fun o e=>up _ o D.i1z e) (m45.keep fun o e=>up _ o D.i2z e) t8 fun c o hc e=>up c o (fun x=>hc (by simp[x])) (k5 c o hc e)
theorem aLj{Q:Option Value->μ->Prop}(hh:A.handled=none)(D:wj z ti to j1 j2 a1 a2)(hz:ZpM b c2 s.heap z ti to j1 j2 a1 a2 n)
  (g1:vE b s.heap a1 us)(g2:vE c2 s.heap a2 vs)(hend:us[n]?=none\/vs[n]?=none)
  (k:∀g,(∀c o,c∉[z,to,j1,j2]->s.heap.get? c=some o->g.get? c=some o)->Q none { s with heap:=g }):Ξ (je P w) A (vc (.ref z)) Q E s:=by
 obtain⟨hz,hi,⟨p,q,ho⟩,h1,h2⟩:=hz;have ty:s.TypeIs (.ref z) "zip":=⟨_,hz,rfl⟩;have nx:∀c,c∉[z,to,j1,j2]->c≠z/\c≠to/\c≠j1/\c≠j2:=fun c hc=>by simpa only[ο,jr,or_false,not_or] using hc
 unfold vc;refine ε (wpAny_attempt (wpAny_callSpecial?_slot (name:=ζ "__next__") ty qy (qi qy ty yi ?_ (xq _))));show Ξ _ _ (field (.ref z) 2 >>= fun _=>_) _ _ _;refine ε (mq hz rfl (x:=.bool false) rfl ?_);show Ξ _ _ (field (.ref z) 3 >>= fun _=>_) _ _ _;refine ε (mq hz rfl (x:=.ref ti) rfl ?_);refine ε (ny hi rfl ?_);show Ξ _ _ (jw (.ref z) >>= fun _=>_) _ _ _;refine ε ?_;unfold jw;refine ε (mq hz rfl (x:=se) rfl (ω ?_));simp only[if_true];refine ε (wpAny_rule ?_);refine ε (mq hz rfl (x:=.ref to) rfl ?_);refine ε (qj hz (by simp) fun e1 z1 s1=>?_);replace z1:IsZip e1 z ti to .ellipsis:=z1;refine ε ?_;simp only[List.zipIdx_cons,List.zipIdx_nil,List.forIn_cons,List.forIn_nil];have x1:=s1.extBut;refine ε (ε (wpAny_onRaise ?_));show Ξ _ _ (jl (.ref j1) >>= fun _=>_) _ _ _;cases hu:us[n]? with
 |none =>
  refine ε (aJz hh (h1.keep fun o e=>x1 _ o D.i1z e) (g1.keep fun o e=>x1 _ o D.l1z e) hu fun e2 x s2 hx=>?_);obtain⟨ox,ex,cx⟩:=hx;have z2:IsZip e2 z ti to .ellipsis:=s2 _ _ D.i1z.symm z1;have nz:x≠z:=fun y=>by subst y;rw[z2]at ex;cases ex;simp at cx
  refine qj z2 (by simp) fun e3 _ s3=>?_;refine ε (vw (T:="StopIteration") (b:=true) ⟨ox,s3.extBut _ _ nz ex,cx⟩ isSubtype_stop ?_);refine ω (k _ fun c o hc e=>?_);exact s3.extBut _ _ (nx c hc).1 (s2 _ _ (nx c hc).2.2.1 (x1 _ _ (nx c hc).1 e))
 |some u =>
  have hv:vs[n]?=none:=by
   rcases hend with y|y
   ·rw[hu]at y;cases y
   ·exact y
  refine ε (pV (h1.keep fun o e=>x1 _ o D.i1z e) (g1.keep fun o e=>x1 _ o D.l1z e) hu fun e2 m2 s2=>ω ?_);have x2:=s2.extBut;have o2:IsPair e2 to p q:=x2 _ _ D.TOi1 (x1 _ _ D.TOz ho);refine ε (ny o2 rfl ?_);refine ε (yn o2 fun e3 o3 s3=>?_);have x3:=s3.extBut;refine ε (wpAny_letGo (ω ?_));refine ε (ε (wpAny_onRaise ?_));show Ξ _ _ (jl (.ref j2) >>= fun _=>_) _ _ _;refine ε (aJz hh (h2.keep fun o e=>x3 _ o D.TOi2.symm (x2 _ o D.i12.symm (x1 _ o D.i2z e))) (g2.keep fun o e=>x3 _ o D.l2TO (x2 _ o D.l2i1 (x1 _ o D.l2z e))) hv fun e4 x s4 hx=>?_);obtain⟨ox,ex,cx⟩:=hx;have z4:IsZip e4 z ti to .ellipsis:=s4 _ _ D.i2z.symm (x3 _ _ D.TOz.symm (x2 _ _ D.i1z.symm z1));have nz:x≠z:=fun y=>by subst y;rw[z4]at ex;cases ex;simp at cx
  refine qj z4 (by simp) fun e5 _ s5=>?_;refine ε (vw (T:="StopIteration") (b:=true) ⟨ox,s5.extBut _ _ nz ex,cx⟩ isSubtype_stop ?_);refine ω (k _ fun c o hc e=>?_);exact s5.extBut _ _ (nx c hc).1 (s4 _ _ (nx c hc).2.2.2 (x3 _ _ (nx c hc).2.1 (x2 _ _ (nx c hc).2.2.1 (x1 _ _ (nx c hc).1 e))))
end
abbrev zp3M (b c2:Bool) (h:ky) (a1 a2:Addr):ky:=(zp1 c2 (zp1 b h a1) a2).push { cls:=.type "tuple",data:=.seq #[.ref h.objs.size,.ref (zp1 b h a1).objs.size] }
abbrev zp4M (b c2:Bool) (h:ky) (a1 a2:Addr):ky:=(zp3M b c2 h a1 a2).push { cls:=.type "tuple",data:=.seq #[.none,.none] }
abbrev aHc (b c2:Bool) (h:ky) (a1 a2:Addr):ky:=(zp4M b c2 h a1 a2).push { cls:=.type "zip",data:=.fields #[.none,.bool false,.bool false,.ref (zp1 c2 (zp1 b h a1) a2).objs.size,.ref (zp3M b c2 h a1 a2).objs.size] }
theorem aKm(b c2:Bool)(a1 a2:Addr)(us vs:Array Value):Meets (pd.«zip.__new__» ⟨[.type "zip",.ref a1,.ref a2],[]⟩) (fun _ R s=>vE b s.heap a1 us/\vE c2 s.heap a2 vs/\R (.ok (.ret (.ref (zp4M b c2 s.heap a1 a2).objs.size))) { s with heap:=aHc b c2 s.heap a1 a2 }) :=
 .of_wp fun prog w A R s h=>by
  obtain⟨hp,g,d,tk,os⟩:=s;obtain⟨k1,k2,h⟩:=h;have hsub:=sub_zip;cases b <;> cases c2
  ·have y1:ky.IsList (vm ⟨hp,g,d,tk,os⟩) a1 us:=k1;have y2:ky.IsList (vm ⟨hp.push { cls:=.type "list_iterator",data:=.fields #[.ref a1,.int 0 0] },g,d,tk,os⟩) a2 vs:=ky.IsList.push k2 _
   wp_walk using oz y1,oz y2
   exact⟨_,rfl,h⟩
  ·have y1:ky.IsList (vm ⟨hp,g,d,tk,os⟩) a1 us:=k1;have y2:xt (vm ⟨hp.push { cls:=.type "list_iterator",data:=.fields #[.ref a1,.int 0 0] },g,d,tk,os⟩) a2 vs:=xt.push k2 _
   wp_walk using oz y1,sf y2
   exact⟨_,rfl,h⟩
  ·have y1:xt (vm ⟨hp,g,d,tk,os⟩) a1 us:=k1;have y2:ky.IsList (vm ⟨hp.push { cls:=.type "tuple_iterator",data:=.fields #[.ref a1,.int 0 0] },g,d,tk,os⟩) a2 vs:=ky.IsList.push k2 _
   wp_walk using sf y1,oz y2
   exact⟨_,rfl,h⟩
  ·have y1:xt (vm ⟨hp,g,d,tk,os⟩) a1 us:=k1;have y2:xt (vm ⟨hp.push { cls:=.type "tuple_iterator",data:=.fields #[.ref a1,.int 0 0] },g,d,tk,os⟩) a2 vs:=xt.push k2 _
   wp_walk using sf y1,sf y2
   exact⟨_,rfl,h⟩
section
variable {P:ki}{w:mx}{A:lg}{E:Value->μ->Prop}{s:μ}
theorem aEk{Q:Value->μ->Prop}(k1:vE b s.heap a1 us)(k2:vE c2 s.heap a2 vs)
  (h:∀g,ZpM b c2 g (s.heap.objs.size+4) (s.heap.objs.size+2) (s.heap.objs.size+3) s.heap.objs.size (s.heap.objs.size+1) a1 a2 0->(∀c o,s.heap.get? c=some o->g.get? c=some o)->Q (.ref (s.heap.objs.size+4)) { s with heap:=g }):
  Ξ (je P w) A (call (.type "zip") [.ref a1,.ref a2]) Q E s:=by
 refine callType_new F.called_zip (by decide) (F.typeCall_zip_2 _ _) (F.newCall_zip_2 _ _) (fun obj=>F.args_object_init_3 obj _ _) F.entry_zip_new (aKm b c2 a1 a2 us vs) ⟨k1,k2,?_⟩;have z1:(zp1 b s.heap a1).objs.size=s.heap.objs.size+1:=qp ..;have z2:(zp1 c2 (zp1 b s.heap a1) a2).objs.size=s.heap.objs.size+2:=by rw[qp,z1]
 have z3:(zp3M b c2 s.heap a1 a2).objs.size=s.heap.objs.size+3:=by rw[qp,z2]
 have z4:(zp4M b c2 s.heap a1 a2).objs.size=s.heap.objs.size+4:=by rw[qp,z3]
 have up:=fun {h:ky}{c:Addr}{x:Obj}(o:Obj) (e:h.get? c=some x)=>ν o e;have g5:(aHc b c2 s.heap a1 a2).get? (zp4M b c2 s.heap a1 a2).objs.size=some _:=iw _ rfl;have g4:(aHc b c2 s.heap a1 a2).get? (zp3M b c2 s.heap a1 a2).objs.size=some _:=up _ (iw _ rfl);have g3:(aHc b c2 s.heap a1 a2).get? (zp1 c2 (zp1 b s.heap a1) a2).objs.size=some _:=up _ (up _ (iw _ rfl));have g2:(aHc b c2 s.heap a1 a2).get? (zp1 b s.heap a1).objs.size=some _:=up _ (up _ (up _ (iw _ rfl)));have g1:(aHc b c2 s.heap a1 a2).get? s.heap.objs.size=some _:=up _ (up _ (up _ (up _ (iw _ rfl))));show _/\_;rw[z2,z3,z4]at g5;rw[z1,z2]at g3;rw[z3]at g4;rw[z1]at g2;rw[z4];refine⟨⟨_,g5,rfl⟩,h _ ⟨g5,g3,⟨_,_,g4⟩,?_,?_⟩ fun c o x=>up _ (up _ (up _ (up _ (up _ x))))⟩
 ·cases b <;> exact⟨_,g1,rfl,rfl⟩
 ·cases c2 <;> exact⟨_,g2,rfl,rfl⟩
end
def aGn (K:Φ) (b c2:Bool) (a1 a2:Addr):It :=
 ⟨fun i H=>∃xs ys x y,Sq2 K b H a1 xs/\Sq2 K c2 H a2 ys/\xs[i]?=some x/\ys[i]?=some y,
   fun i H v H'=>∃x y p,v=.ref p/\H p=none/\H'=upd H p (.tup [x,y])/\(∀xs,Sq2 K b H a1 xs->xs[i]?=some x)/\∀ys,Sq2 K c2 H a2 ys->ys[i]?=some y,
   fun i H=>∃xs ys,Sq2 K b H a1 xs/\Sq2 K c2 H a2 ys/\(xs.length<=i\/ys.length<=i)⟩
theorem aHf{K:Φ}(D:wj z ti to j1 j2 a1 a2):
  Turn P w K (.Tuple elts x1 pos) (aGn K b c2 a1 a2) [z,ti,to,j1,j2] z (fun i h=>ZpM b c2 h z ti to j1 j2 a1 a2 i) where
 mem:=by simp
 obj:=fun i h st c hc=>by
  obtain⟨hz,hi,⟨p,q,ho⟩,h1,h2⟩:=st;have:c=z\/c=ti\/c=to\/c=j1\/c=j2:=by simpa using hc
  rcases this with rfl|rfl|rfl|rfl|rfl
  ·exact⟨_,hz,fun v z=>by cases z⟩
  ·exact⟨_,hi,fun v z=>by cases z⟩
  ·exact⟨_,ho,fun v z=>by cases z⟩
  ·exact h1.obj
  ·exact h2.obj
 keep:=fun i h h' st k=>by
  obtain⟨hz,hi,⟨p,q,ho⟩,h1,h2⟩:=st;exact⟨k z (by simp) _ hz,k ti (by simp) _ hi,⟨p,q,k to (by simp) _ ho⟩,h1.keep fun o e=>k j1 (by simp) o e,h2.keep fun o e=>k j2 (by simp) o e⟩
 item:=by
  intro X hP hw hK hc i pins s σ H E I hf st hg;subst hP hw hK;obtain⟨xs,ys,x,y,hq1,hq2,hx,hy⟩:=hg;obtain⟨is1,r1,p1⟩:=I.seq2 hq1;obtain⟨is2,r2,p2⟩:=I.seq2 hq2;obtain⟨u,hu,ru⟩:=r1.get hx;obtain⟨v,hv,rv⟩:=r2.get hy;refine aFp D st p1 p2 (u:=u) (v:=v) (by simpa using hu) (by simpa using hv) fun g gz go g1 g2 gn gk=>⟨_,rfl,?_⟩;refine wpAny_letOwnedTupleGo_zip gz fun h2 z2 s2=>?_;replace s2:nr z g h2:=s2;have nz:s.heap.objs.size≠z:=mz (ψ st.z);have t2:IsPair h2 s.heap.objs.size u v:=(s2.2 _ nz).trans gn;have k2:∀c o,c∉[z,to,j1,j2]->s.heap.get? c=some o->h2.get? c=some o:=fun c o hc e=>(s2.2 c (fun q=>hc (by simp[q]))).trans (gk c o hc e);have mem:∀c∈[z,to,j1,j2],c∈[z,ti,to,j1,j2]:=fun c hc=>by
   simp only[ο,jr,or_false]at hc ⊢;rcases hc with q|q|q|q <;> simp[q]
  refine⟨.ref s.heap.objs.size,upd H s.heap.objs.size (.tup [x,y]),I.turnedL (t':=s.toks) k2 (fun c hc=>hf c (mem c hc)) (ι _) ⟨(by show 2<=ξ;decide),[u,v],.cons ru (.cons rv .nil),_,t2,rfl,_,rfl⟩,rfl,
   ⟨x,y,_,rfl,I.hok.fresh (ι _),rfl,fun zs hz=>by rw[I.seq2_inj hz hq1];exact hx,fun zs hz=>by rw[I.seq2_inj hz hq2];exact hy⟩,
   ⟨z2,k2 ti _ (by simp[D.TIz,D.TITO,D.TIi1,D.TIi2]) st.ti,⟨_,_,(s2.2 to D.TOz).trans go⟩,g1.keep fun o e=>(s2.2 j1 D.i1z).trans e,g2.keep fun o e=>(s2.2 j2 D.i2z).trans e⟩,fun c hc=>?_⟩
  obtain⟨oc,ec,_⟩ : ∃o,s.heap.get? c=some o/\∀v,o.data≠.cell v:=by
   obtain⟨hz,hi,⟨p,q,ho⟩,h1,h2⟩:=st;have:c=z\/c=ti\/c=to\/c=j1\/c=j2:=by simpa using hc
   rcases this with rfl|rfl|rfl|rfl|rfl
   ·exact⟨_,hz,fun v z=>by cases z⟩
   ·exact⟨_,hi,fun v z=>by cases z⟩
   ·exact⟨_,ho,fun v z=>by cases z⟩
   ·exact h1.obj
   ·exact h2.obj
  rw[jT (ir (ψ ec))];exact(hf c hc).1
 done:=by
  intro X hP hw hK hc i pins s σ H E I hf st hg;subst hP hw hK;obtain⟨xs,ys,hq1,hq2,hl⟩:=hg;obtain⟨is1,r1,p1⟩:=I.seq2 hq1;obtain⟨is2,r2,p2⟩:=I.seq2 hq2;have e1:=r1.length;have e2:=r2.length;have mem:∀c∈[z,to,j1,j2],c∈[z,ti,to,j1,j2]:=fun c hc=>by
   simp only[ο,jr,or_false]at hc ⊢;rcases hc with q|q|q|q <;> simp[q]
  refine aLj (I.ok.hd hc) D st p1 p2 ?_ fun g gk=>⟨rfl,I.turnedL0 (t':=s.toks) gk fun c hc=>hf c (mem c hc)⟩;rcases hl with q|q
  ·exact .inl (by simp;omega)
  ·exact .inr (by simp;omega)
 self:=fun _ _ _ _ _ st h=>wpAny_pyIter_zip st.z h
def iZipM (K:Φ) (b c2:Bool) (ta:TA):TI:=fun σ H R=>ta σ H fun vs H1=>∃a1 a2 xs ys,vs=[.ref a1,.ref a2]/\Sq2 K b H1 a1 xs/\Sq2 K c2 H1 a2 ys/\R (aGn K b c2 a1 a2) H1
def aQx (K:Φ) (ta:TA):TI:=fun σ H R=>∃b c2,iZipM K b c2 ta σ H R
theorem aEn{a c:Expr}(hg:Gl X "zip")(hm:X.mg "zip" = none)(ha:PA X [a,c] ta)(hs:iy [a,c] X.env=(false,eval a X.env)::iy [c] X.env:=by rfl)(hs2:iy [c] X.env=[(false,eval c X.env)]:=by rfl):
  PI X (.Tuple elts x1 tpos) (.Call (.Name "zip" p) [a,c] [] pos) (aQx X.K ta):=by
 intro pins s σ H R I h;obtain⟨b,c2,h⟩:=h;refine Call_ (dR I hg hm (show om "zip" = some (.type "zip") from by ac_rfl) (nu (thn (ha pos pins s σ H _ I h) fun us s1 zq=>?_) (by rw[hs,hs2]) (by rw[hs2];rfl)));obtain⟨vs,H1,I1,r1,q1⟩:=zq;obtain⟨a1,a2,xs,ys,e,h1,h2,q⟩:=q1;subst e;obtain⟨u,v,rfl,rx,ry⟩:=vals2 r1;cases rx;cases ry;obtain⟨is1,v1,p1⟩:=I1.seq2 h1;obtain⟨is2,v2,p2⟩:=I1.seq2 h2;have l1:=p1.lt;have l2:=p2.lt;refine aEk p1 p2 fun g gz gk=>wpAny_pyIter_zip gz.z ?_;have D:wj (s1.heap.objs.size+4) (s1.heap.objs.size+2) (s1.heap.objs.size+3) s1.heap.objs.size (s1.heap.objs.size+1) a1 a2:=by
  have A1:(s1.heap.objs.size:Nat)+4=s1.heap.objs.size+4:=rfl;constructor <;> simp <;> first|exact ir (ς l1 (qd _ _))|exact ir (ς l2 (qd _ _))|exact ir l1|exact ir l2|decide
 refine⟨_,_,_,_,H1,rfl,I1.kept (t':=s1.toks) gk,aHf D,gz,fun c hc=>?_,q⟩;have:c=s1.heap.objs.size+4\/c=s1.heap.objs.size+2\/c=s1.heap.objs.size+3\/c=s1.heap.objs.size\/c=s1.heap.objs.size+1:=by simpa using hc
 have ge:s1.heap.objs.size<=c:=by
  rcases this with rfl|rfl|rfl|rfl|rfl <;> first|exact qd _ _|exact ι _
 exact I1.fpOk ge (I1.hok.fresh ge)
theorem aIx{K:Φ}{xs ys:List V}{g:TG}{tb:TS}{D:Ends}{σ:St}{H:Hp}(Pv:Nat->St->Hp->Prop)(he:ys.length=xs.length)(h0:Pv 0 σ H)(hl:∀i σ H,i<=xs.length->Pv i σ H->Sq2 K b H a1 xs/\Sq2 K c2 H a2 ys)
  (hs:∀i x y σ H p,xs[i]?=some x->ys[i]?=some y->Pv i σ H->H p=none->LpL (let D2:Ends:={ D with nx:=Pv (i+1),ct:=Pv (i+1),bk:=D.nx };g (.ref p) σ (upd H p (.tup [x,y])) fun σ2 H2=>tb D2 σ2 H2))(hd:∀σ H,Pv xs.length σ H->D.nx σ H):
  ∃W:Nat->Nat->St->Hp->Prop,(∃m,W 0 m σ H)/\∀i m σ H,W i m σ H →
   ((aGn K b c2 a1 a2).stop i H/\D.nx σ H)\/((aGn K b c2 a1 a2).go i H/\∃N:St->Hp->Prop,(∀σ' H',N σ' H'->∃m',m'<m/\W (i+1) m' σ' H')/\∀x H',(aGn K b c2 a1 a2).yld i H x H'->g x σ H' fun σ2 H2=>tb { D with nx:=N,ct:=N,bk:=D.nx } σ2 H2):=by
 refine⟨fun i m σ H=>m=xs.length-i/\i<=xs.length/\Pv i σ H,⟨xs.length,by simp,jg _,h0⟩,?_⟩;rintro i m σ H ⟨rfl,hi,p⟩;obtain⟨q1,q2⟩:=hl i σ H hi p
 by_cases hlt:i<xs.length
 ·have hl2:i<ys.length:=by omega
  refine .inr ⟨⟨xs,ys,xs[i],ys[i],q1,q2,by simp[hlt],by simp[hl2]⟩,Pv (i+1),fun σ' H' p'=>⟨xs.length-(i+1),by omega,rfl,hlt,p'⟩,fun v H' y=>?_⟩;obtain⟨x,y,pa,rfl,hn,rfl,hx,hy⟩:=y;exact hs i x y σ H pa (hx xs q1) (hy ys q2) p hn
 ·have e:i=xs.length:=by omega
  subst e;exact .inl ⟨⟨xs,ys,q1,q2,.inl (ι _)⟩,hd σ H p⟩
theorem aHh{K:Φ}{b:Bool}{xs ys:List V}{k:Nat}{g:TG}{tc:TT}{te:TE}{Q:VK}(P:Nat->List V->Hp->Prop)(he:ys.length=xs.length)(h0:P 0 [] H1)(hl:∀i zs H,i<=xs.length->P i zs H->Sq2 K b H a1 xs/\Sq2 K c2 H a2 ys/\zs.length<=i)(hz:xs.length<ξ)
  (hs:∀i x y zs H p (os:St),os.length=k->xs[i]?=some x->ys[i]?=some y->P i zs H->H p=none->g (.ref p) (os++vM js σ) (upd H p (.tup [x,y])) fun σ3 H3=>tc σ3 H3 fun b H2=>if b=true then te σ3 H2 fun v H3=>iB P i k js σ σ3 (zs++[v]) H3 else iB P i k js σ σ3 zs H2)
  (hd:∀zs H,P xs.length zs H->∀p,H p=none->Q (.ref p) (upd H p (.lst zs))):
  hU (aGn K b c2 a1 a2) k js g tc te σ Q H1:=by
 refine⟨fun i m σ' zs H=>m=xs.length-i/\i<=xs.length/\P i zs H/\∃os:St,os.length=k/\σ'=os++vM js σ,⟨xs.length,by simp,jg _,h0,xk k none,qg,rfl⟩,?_⟩;rintro i m σ' zs H ⟨rfl,hi,p,os,ho,rfl⟩;obtain⟨q1,q2,hy⟩:=hl i zs H hi p
 by_cases hlt:i<xs.length
 ·have hl2:i<ys.length:=by omega
  refine .inr ⟨⟨xs,ys,xs[i],ys[i],q1,q2,by simp[hlt],by simp[hl2]⟩,by omega,iB P i k js σ,fun σ3 zs H3 z=>⟨xs.length-(i+1),by omega,rfl,hlt,z.1,z.2⟩,fun v H' y=>?_⟩;obtain⟨x,y,pa,rfl,hn,rfl,hx,hy⟩:=y;exact hs i x y zs H pa os ho (hx xs q1) (hy ys q2) p hn
 ·have e:i=xs.length:=by omega
  subst e;exact .inl ⟨⟨xs,ys,q1,q2,.inl (ι _)⟩,fun l n _=>hd zs H p l n⟩
section
variable {P:ki}{w:mx}{A:lg}{E:Value->μ->Prop}{s:μ}
theorem iS{s:μ}{a:Addr}{Q:Option Obj->μ->Prop}(h:Q (s.heap.get? a) s):Ξ M A (loadIfAlive a) Q E s:=fun Γ p hΓ=>by
 unfold loadIfAlive;rw[Sem.wp_loadIfAlive];exact h
abbrev pT (h:ky) (z TI TO:Addr) (f0:Value) (b:Bool):Prop :=
 h.get? z=some { cls:=.type "zip",dict:=none,data:=.fields #[f0,.bool b,.bool false,.ref TI,.ref TO],slots:=#[] }
structure ZpB (b c2 f:Bool) (T:Addr) (h:ky) (z ti to j1 j2 a1 a2:Addr) (n:Nat):Prop where
 z:pT h z ti to (rawInt T) f
 ti:IsPair h ti (.ref j1) (.ref j2)
 t:∃o,h.get? T=some o
 i1:xZ b h j1 a1 n
 i2:xZ c2 h j2 a2 n
theorem aJo{T:Addr}{f:Bool}{z ti to:Addr}{Q:Bool->μ->Prop}(hz:pT s.heap z ti to (rawInt T) f)(ht:∃o,s.heap.get? T=some o)(nz:T≠z)
  (k:∀g,pT g z ti to (rawInt T) true->(∀c o,c≠z->s.heap.get? c=some o->g.get? c=some o)->g.objs.size=s.heap.objs.size->Q false { s with heap:=g }):Ξ (je P w) A (jw (.ref z)) Q E s:=by
 obtain⟨o,ho⟩:=ht;unfold jw;refine ε (mq hz rfl (x:=rawInt T) rfl ?_);show Ξ _ _ (loadIfAlive T >>= fun _=>_) _ _ _;refine ε (iS ?_);rw[ho];simp only[Option.isNone_some,pk,if_false];cases f with
 |false =>
  refine ε (mq hz rfl (x:=.bool false) rfl ?_);rw[if_pos (by decide)];refine ε (qj hz (by simp) fun e1 z1 s1=>?_);exact ω (k _ z1 (fun c o hc e=>s1.extBut _ _ hc e) s1.1)
 |true =>
  refine ε (mq hz rfl (x:=.bool true) rfl ?_);rw[if_neg (by decide)];exact ω (k _ hz (fun c o _ e=>e) rfl)
theorem aMv{T:Addr}{Q:Option Value->μ->Prop}(D:wj z ti to j1 j2 a1 a2)(nz:T≠z)(hz:ZpB b c2 f T s.heap z ti to j1 j2 a1 a2 n)
  (g1:vE b s.heap a1 us)(g2:vE c2 s.heap a2 vs)(hu:us[n]?=some u)(hv:vs[n]?=some v)
  (k:∀g,pT g z ti to (rawInt T) true->xZ b g j1 a1 (n+1)->xZ c2 g j2 a2 (n+1)->IsPair g s.heap.objs.size u v->g.objs.size=s.heap.objs.size+1 →
   (∀c o,c∉[z,j1,j2]->s.heap.get? c=some o->g.get? c=some o)->Q (some (.ref s.heap.objs.size)) { s with heap:=g }):Ξ (je P w) A (vc (.ref z)) Q E s:=by
 obtain⟨hz,hi,ht,h1,h2⟩:=hz;have ty:s.TypeIs (.ref z) "zip":=⟨_,hz,rfl⟩;unfold vc;refine ε (wpAny_attempt (wpAny_callSpecial?_slot (name:=ζ "__next__") ty qy (qi qy ty yi ?_ (xq _))));show Ξ _ _ (field (.ref z) 2 >>= fun _=>_) _ _ _;refine ε (mq hz rfl (x:=.bool false) rfl ?_);show Ξ _ _ (field (.ref z) 3 >>= fun _=>_) _ _ _;refine ε (mq hz rfl (x:=.ref ti) rfl ?_);refine ε (ny hi rfl ?_);show Ξ _ _ (jw (.ref z) >>= fun _=>_) _ _ _;refine ε (aJo hz ht nz fun e1 z1 x1 sz1=>?_);simp only[pk,if_false];refine ε ?_;simp only[←Array.forIn_toList,List.forIn_cons,List.forIn_nil];refine ε (ε (kf ?_));show Ξ _ _ (jl (.ref j1) >>= fun _=>_) _ _ _;refine ε (pV (h1.keep fun o e=>x1 _ o D.i1z e) (g1.keep fun o e=>x1 _ o D.l1z e) hu fun e2 m2 s2=>ω ?_);have x2:=s2.extBut;refine ω ?_;refine ε (ε (kf ?_));show Ξ _ _ (jl (.ref j2) >>= fun _=>_) _ _ _;refine ε (pV (h2.keep fun o e=>x2 _ o D.i12.symm (x1 _ o D.i2z e)) (g2.keep fun o e=>x2 _ o D.l2i1 (x1 _ o D.l2z e)) hv fun e4 m4 s4=>ω ?_);have x4:=s4.extBut;refine ω (ω ?_);show Ξ _ _ (newTuple [u,v] >>= fun _=>_) _ _ _;refine ε (wpAny_newTuple ?_);refine ω ⟨_,rfl,ω ?_⟩;have sz:e4.objs.size=s.heap.objs.size:=by rw[s4.1,s2.1,sz1]
 show Q (some (.ref e4.objs.size)) _;have lt:∀{c:Addr}{o:Obj},e4.get? c=some o->(e4.push { cls:=.type "tuple",data:=.seq #[u,v] }).get? c=some o:=fun e=>ν _ e;have up:∀c o,c∉[z,j1,j2]->s.heap.get? c=some o->e4.get? c=some o:=fun c o hc e=>by
  simp only[ο,jr,or_false,not_or]at hc;exact x4 _ _ hc.2.2 (x2 _ _ hc.2.1 (x1 _ _ hc.1 e))
 have z4:pT e4 z ti to (rawInt T) true:=x4 _ _ D.i2z.symm (x2 _ _ D.i1z.symm z1);have m24:xZ b e4 j1 a1 (n+1):=m2.keep fun o e=>x4 _ o D.i12 e;have tp:(e4.push { cls:=.type "tuple",data:=.seq #[u,v] }).get? e4.objs.size=some { cls:=.type "tuple",data:=.seq #[u,v] }:=iw _ rfl;have szp:(e4.push { cls:=.type "tuple",data:=.seq #[u,v] }).objs.size=e4.objs.size+1:=qp ..;rw[sz]at tp szp;rw[sz];exact k _ (lt z4) (m24.keep fun o e=>lt e) (m4.keep fun o e=>lt e) tp szp fun c o hc e=>lt (up c o hc e)
theorem aTa{T:Addr}{Q:Option Value->μ->Prop}(hh:A.handled=none)(D:wj z ti to j1 j2 a1 a2)(nz:T≠z)(hz:ZpB b c2 f T s.heap z ti to j1 j2 a1 a2 n)
  (g1:vE b s.heap a1 us)(g2:vE c2 s.heap a2 vs)(hend:us[n]?=none)
  (k:∀g,(∀c o,c∉[z,j1,j2]->s.heap.get? c=some o->g.get? c=some o)->Q none { s with heap:=g }):Ξ (je P w) A (vc (.ref z)) Q E s:=by
 obtain⟨hz,hi,ht,h1,h2⟩:=hz;have ty:s.TypeIs (.ref z) "zip":=⟨_,hz,rfl⟩;unfold vc;refine ε (wpAny_attempt (wpAny_callSpecial?_slot (name:=ζ "__next__") ty qy (qi qy ty yi ?_ (xq _))));show Ξ _ _ (field (.ref z) 2 >>= fun _=>_) _ _ _;refine ε (mq hz rfl (x:=.bool false) rfl ?_);show Ξ _ _ (field (.ref z) 3 >>= fun _=>_) _ _ _;refine ε (mq hz rfl (x:=.ref ti) rfl ?_);refine ε (ny hi rfl ?_);show Ξ _ _ (jw (.ref z) >>= fun _=>_) _ _ _;refine ε (aJo hz ht nz fun e1 z1 x1 sz1=>?_);simp only[pk,if_false];refine ε ?_;simp only[←Array.forIn_toList,List.forIn_cons,List.forIn_nil];refine ε (ε (kf ?_));show Ξ _ _ (jl (.ref j1) >>= fun _=>_) _ _ _;refine ε (aJz hh (h1.keep fun o e=>x1 _ o D.i1z e) (g1.keep fun o e=>x1 _ o D.l1z e) hend fun e2 x s2 hx=>?_);obtain⟨ox,ex,cx⟩:=hx;refine ε (vw (T:="StopIteration") (b:=true) ⟨ox,ex,cx⟩ isSubtype_stop ?_);refine ω (k _ fun c o hc e=>?_);simp only[ο,jr,or_false,not_or]at hc;exact s2 _ _ hc.2.1 (x1 _ _ hc.1 e)
end
theorem eY:typeLookup (.type "zip") "__getattr__" = pure none:=by rw[typeLookup_type,yb];kernel_rfl
theorem lW:typeLookup (.type "zip") "keys" = pure none:=by rw[typeLookup_type,yb];kernel_rfl
theorem aH:entryFor table "zip.__getattribute__" = some pd.«object.__getattribute__» :=
 entryFor_alias (id':="object.__getattribute__") (by kernel_rfl) (by ac_rfl) (by ac_rfl) (by kernel_rfl)
theorem zK(a:Addr)(fs:Array Value)(sl:Array (Option Value))(name:Str)(u:Tok)(hmiss:typeLookup (.type "zip") name=pure none)(hname:(["__module__","__name__","__qualname__","__doc__","__annotations__"]:List Str).contains name=false)(hsz:name.length+100<=ξ:=by size_fits):
  Meets (pd.«object.__getattribute__» ⟨[.ref a,.str name u],[]⟩) (fun A R s=>s.heap.get? a=some { cls:=.type "zip",dict:=none,data:=.fields fs,slots:=sl }/\raisesAttr (.ref a) name A R s) :=
 Meets.of_wp fun prog w A R s hs=>by
  obtain⟨hp,g,d,tk,os⟩:=s;obtain⟨hx,hs⟩:=hs;have hT:(⟨hp,g,d,tk,os⟩ : μ).TypeIs (.ref a) "zip":=⟨_,hx,rfl⟩;unfold pd.«object.__getattribute__»
  repeat (any_goals (first|assumption|wp_step))
  simp only[hname,pk,if_false]
  repeat (any_goals (first|assumption|wp_step))
  exact wpAny_raiseAttrError hs.1 hs.2 (attrMsg_fits (by ac_rfl) hsz)
theorem aAw{A:lg}{s:μ}{a:Addr}{Q:Option Value->μ->Prop}
  (hx:s.heap.get? a=some { cls:=.type "zip",dict:=none,data:=.fields fs,slots:=#[] })(hA:A.handled=none)
  (h:∀h' tk e,ky.NewExcOf s.heap h' e "AttributeError"->Q none { s with heap:=h',toks:=tk }):
  Ξ (je prog w) A (getAttr? (.ref a) "keys") Q E s:=by
 obtain⟨hp,g,d,tk,os⟩:=s;have hT:∀tk',(⟨hp,g,d,tk',os⟩ : μ).TypeIs (.ref a) "zip":=fun _=>⟨_,hx,rfl⟩;have f1:=sub_AttributeError;have f3:=xh.lookup;have f4:=xh.bind (.ref a);have f5:=eY;unfold getAttr? getAttrBy? getAttrBy
 repeat (any_goals (first|assumption|exact hT _|((with_reducible show Ξ _ _ (call (Value.builtin "zip.__getattribute__") _ _) _ _ _);refine vj xh (hT _) aH (F.args_zip_getattribute_2 _ _) (zK a fs #[] "keys" _ lW (by decide) (by size_fits)) ⟨hx,hA,fun h' tk' e hx'=>?_⟩)|wp_step))
 obtain⟨t',u',he⟩:=hx'.there;show Ξ _ _ (ww _ _ _ _ _ _ _) _ _ _;unfold ww
 repeat (any_goals (first|assumption|wp_step))
 exact h _ _ _ hx'.of
theorem eK:entryFor table "dict.update.loop" = some pd.«dict.update.loop»:=entryFor_of_tree (by kernel_rfl)
theorem xU:plainId "dict.update.loop" = true:=by ac_rfl
def ZS (b c2:Bool) (h:ky) (z ti to j1 j2 a1 a2:Addr) (n:Nat):Prop:=ZpM b c2 h z ti to j1 j2 a1 a2 n\/∃f T,T≠z/\T∉[to,j1,j2]/\(∃o,h.get? to=some o)/\ZpB b c2 f T h z ti to j1 j2 a1 a2 n
section
variable {P:ki}{w:mx}{A:lg}{E:Value->μ->Prop}{s:μ}
theorem aTc{Q:Option Value->μ->Prop}(D:wj z ti to j1 j2 a1 a2)(hz:ZS b c2 s.heap z ti to j1 j2 a1 a2 n)
  (g1:vE b s.heap a1 us)(g2:vE c2 s.heap a2 vs)(hu:us[n]?=some u)(hv:vs[n]?=some v)
  (k:∀g,ZS b c2 g z ti to j1 j2 a1 a2 (n+1)->IsPair g s.heap.objs.size u v->(∀c o,c∉[z,to,j1,j2]->s.heap.get? c=some o->g.get? c=some o)->Q (some (.ref s.heap.objs.size)) { s with heap:=g }):Ξ (je P w) A (vc (.ref z)) Q E s:=by
 have tin:ti∉[z,to,j1,j2]:=by simp[D.TIz,D.TITO,D.TIi1,D.TIi2]
 rcases hz with hz|⟨f,T,nz,nT,⟨o',ho'⟩,hz⟩
 ·have l0:z<s.heap.objs.size:=ψ hz.z;obtain⟨p,q,hto⟩:=hz.to;have l1:to<s.heap.objs.size:=ψ hto;obtain⟨o1,e1,_⟩:=hz.i1.obj;obtain⟨o2,e2,_⟩:=hz.i2.obj;have l2:=ψ e1;have l3:=ψ e2;refine aFp D hz g1 g2 hu hv fun g gz go i1 i2 gn fr=>k g (.inr ⟨false,s.heap.objs.size,mz l0,?_,⟨_,go⟩,gz,fr _ _ tin hz.ti,⟨_,gn⟩,i1,i2⟩) gn fr;simp only[ο,jr,or_false,not_or];exact⟨mz l1,mz l2,mz l3⟩
 ·obtain⟨ot,ht⟩:=hz.t;have nT':T∉[z,j1,j2]:=by
   simp only[ο,jr,or_false,not_or]at nT ⊢;exact⟨nz,nT.2.1,nT.2.2⟩
  have tin':ti∉[z,j1,j2]:=by simp[D.TIz,D.TIi1,D.TIi2]
  have to':to∉[z,j1,j2]:=by simp[D.TOz,D.TOi1,D.TOi2]
  refine aMv D nz hz g1 g2 hu hv fun g gz i1 i2 gn _ fr=>k g (.inr ⟨true,T,nz,nT,⟨_,fr _ _ to' ho'⟩,gz,fr _ _ tin' hz.ti,⟨_,fr _ _ nT' ht⟩,i1,i2⟩) gn fun c o hc e=>fr c o (fun m=>hc ?_) e;simp only[ο,jr,or_false]at m ⊢;rcases m with m|m|m
  ·exact .inl m
  ·exact .inr (.inr (.inl m))
  ·exact .inr (.inr (.inr m))
theorem zsEnd{Q:Option Value->μ->Prop}(hh:A.handled=none)(D:wj z ti to j1 j2 a1 a2)(hz:ZS b c2 s.heap z ti to j1 j2 a1 a2 n)
  (g1:vE b s.heap a1 us)(g2:vE c2 s.heap a2 vs)(hend:us[n]?=none)
  (k:∀g,(∀c o,c∉[z,to,j1,j2]->s.heap.get? c=some o->g.get? c=some o)->Q none { s with heap:=g }):Ξ (je P w) A (vc (.ref z)) Q E s:=by
 rcases hz with hz|⟨f,T,nz,nT,_,hz⟩
 ·exact aLj hh D hz g1 g2 (.inl hend) k
 ·refine aTa hh D nz hz g1 g2 hend fun g fr=>k g fun c o hc e=>fr c o (fun m=>hc ?_) e;simp only[ο,jr,or_false]at m ⊢;rcases m with m|m|m
  ·exact .inl m
  ·exact .inr (.inr (.inl m))
  ·exact .inr (.inr (.inr m))
end
def aEf (xs:List Str) (vs:List Value) (kvs:List (Key×Value)):List (Key×Value):=(xs.zip vs).foldl (fun acc p=>stored acc (.inr p.1) p.2) kvs
section
variable {P:ki}{w:mx}{A:lg}{R:Result->μ->Prop}
theorem aSs{d:Addr}{xs:List Str}{us vs:Array Value}(hh:A.handled=none)(D:wj z ti to j1 j2 a1 a2)(hd:d∉[z,ti,to,j1,j2,a1,a2])(hx:∀(i:Nat) (x:Str),xs[i]?=some x->∃t,us[i]?=some (.str x t))(hl:xs.length=us.size)(hv:vs.size=us.size)(hb:us.size<=100):
  ∀(m n:Nat) (i:Int) (kvs:List (Key×Value)) (s:μ),us.size-n=m->n<=us.size->kvs.length<=n->ZS b c2 s.heap z ti to j1 j2 a1 a2 n->vE b s.heap a1 us->vE c2 s.heap a2 vs->s.heap.DictOf (kJ P w) d kvs →
   (∀(h':ky) (tk:Nat),h'.DictOf (kJ P w) d (aEf (xs.drop n) (vs.toList.drop n) kvs)->(∀c o,c∉[z,to,j1,j2,d]->s.heap.get? c=some o->h'.get? c=some o)->R (.ok (.ret .none)) { s with heap:=h',toks:=tk }) →
   codeAny (je P w) A (.builtin "dict.update.loop" ⟨[.ref d,.ref z,rawInt i,.none],[]⟩) R s:=by
 intro m
 induction m with
 |zero =>
  intro n i kvs s hm hn hk zs g1 g2 dd hR;have hin:n=us.size:=by omega
  refine uy eK ?_;rw[qq xU _];show Ξ _ A.in1 (vc (.ref z) >>= _) _ _ s;refine ε (zsEnd hh D zs g1 g2 (by rw[hin];simp) fun g fr=>?_);show Ξ _ _ (pd.Dict.addKeywords d [] >>= _) _ _ _;refine ε (ω (ω ?_));have e0:aEf (xs.drop n) (vs.toList.drop n) kvs=kvs:=by
   rw[xu (by omega)];rfl
  refine hR g s.toks ?_ fun c o hc e=>fr c o (fun m=>hc ?_) e
  ·rw[e0];obtain⟨o,es,ep,ho,rest⟩:=dd;refine⟨o,es,ep,fr _ _ (fun m=>hd ?_) ho,rest⟩;simp only[ο,jr,or_false]at m ⊢;rcases m with m|m|m|m <;> simp[m]
  ·simp only[ο,jr,or_false]at m ⊢;rcases m with m|m|m|m <;> simp[m]
 |succ m ih =>
  intro n i kvs s hm hn hk zs g1 g2 dd hR;have hlt:n<us.size:=by omega
  have hxn:n<xs.length:=by omega
  obtain⟨t,hu⟩:=hx n xs[n] (π hxn);have hvn:vs[n]?=some vs[n]:=by simp[hv,hlt]
  refine uy eK ?_;rw[qq xU _];show Ξ _ A.in1 (vc (.ref z) >>= _) _ _ s;refine ε (aTc D zs g1 g2 hu hvn fun g zs' pr fr=>?_);show Ξ _ _ (uf [jm s.heap.objs.size] _ >>= _) _ _ _;refine ε (kf (ε (wpAny_tryCatch ?_)));unfold pd.Dict.pairItems;have hT:({ s with heap:=g } : μ).TypeIs (.ref s.heap.objs.size) "tuple":=⟨_,pr,rfl⟩;refine ε (wpAny_typeOf hT ?_);rw[if_pos (by decide)];refine ε (ny pr rfl (ω ?_));show Ξ _ _ (uf [Value.str xs[n] t,vs[n]] (dictSet d (.str xs[n] t) vs[n])) _ _ _;have frd:∀{c:Addr},c∈[z,to,j1,j2]->c∈[z,to,j1,j2,d]:=fun {c} m=>by
   simp only[ο,jr,or_false]at m ⊢;rcases m with m|m|m|m <;> simp[m]
  have dd':g.DictOf (kJ P w) d kvs:=by
   obtain⟨o,es,ep,ho,rest⟩:=dd;refine⟨o,es,ep,fr _ _ (fun m=>hd ?_) ho,rest⟩;simp only[ο,jr,or_false]at m ⊢;rcases m with m|m|m|m <;> simp[m]
  refine kf (wpAny_dictSet_pairs (knd:=kJ P w) (k:=jj xs[n]) (eZ (k:=jj xs[n]) ⟨t,rfl⟩) dd' (fun h' dd2 sb=>?_) (by rw[jc];omega));have ls:(stored kvs (jj xs[n]) vs[n]).length<=n+1:=by
   unfold stored
   split
   ·rw[δ];omega
   ·rw[θ,km];omega
  have nd:∀c,c∈[z,ti,to,j1,j2,a1,a2]->c≠d:=fun c hc e=>hd (e ▸ hc);have kp:∀c o,c≠d->g.get? c=some o->h'.get? c=some o:=fun c o hc e=>sb.extBut _ _ hc e;have zs2:ZS b c2 h' z ti to j1 j2 a1 a2 (n+1):=by
   rcases zs' with q|⟨f,T,nz,nT,⟨o',ho'⟩,q⟩
   ·obtain⟨p,q',ho⟩:=q.to;exact .inl ⟨kp _ _ (nd _ (by simp)) q.z,kp _ _ (nd _ (by simp)) q.ti,⟨p,q',kp _ _ (nd _ (by simp)) ho⟩,q.i1.keep fun o e=>kp _ _ (nd _ (by simp)) e,q.i2.keep fun o e=>kp _ _ (nd _ (by simp)) e⟩
   ·refine .inr ⟨f,T,nz,nT,⟨o',kp _ _ (nd _ (by simp)) ho'⟩,kp _ _ (nd _ (by simp)) q.z,kp _ _ (nd _ (by simp)) q.ti,?_,q.i1.keep fun o e=>kp _ _ (nd _ (by simp)) e,q.i2.keep fun o e=>kp _ _ (nd _ (by simp)) e⟩;obtain⟨o,ho⟩:=q.t
    by_cases e:T=d
    ·rw[e];obtain⟨o2,_,_,h2,_⟩:=dd2;exact⟨o2,h2⟩
    ·exact⟨o,kp _ _ e ho⟩
  have a1n:a1∉[z,to,j1,j2]:=by simp[D.l1z,D.l1TO,D.l1i1,D.l1i2]
  have a2n:a2∉[z,to,j1,j2]:=by simp[D.l2z,D.l2TO,D.l2i1,D.l2i2]
  refine ω ⟨wk xU _,ih (n+1) (i+1) _ _ (by omega) (by omega) ls zs2 (g1.keep fun o e=>kp _ _ (nd _ (by simp)) (fr _ _ a1n e)) (g2.keep fun o e=>kp _ _ (nd _ (by simp)) (fr _ _ a2n e)) dd2 fun h2 tk dd3 fr2=>?_⟩;refine hR h2 tk ?_ fun c o hc e=>fr2 c o hc (kp _ _ (fun z=>hc (by simp[z])) (fr _ _ (fun m=>hc (frd m)) e));have e1:xs.drop n=xs[n]::xs.drop (n+1):=ou hxn;have e2:vs.toList.drop n=vs[n]::vs.toList.drop (n+1):=ou (by simpa using (show n<vs.size by omega));rw[e1,e2];exact dd3
end
section
variable {P:ki}{w:mx}{A:lg}{E:Value->μ->Prop}{s:μ}
theorem sX{xs:List Str}{Q:Value->μ->Prop}(hh:A.handled=none)(D:wj z ti to j1 j2 a1 a2)(hz:ZpM b c2 s.heap z ti to j1 j2 a1 a2 0)(g1:vE b s.heap a1 us)(g2:vE c2 s.heap a2 vs)
  (hx:∀(i:Nat) (x:Str),xs[i]?=some x->∃t,us[i]?=some (.str x t))(hl:xs.length=us.size)(hv:vs.size=us.size)(hb:us.size<=100)
  (h:∀(h':ky) (tk:Nat),h'.DictOf (kJ P w) s.heap.objs.size (aEf xs vs.toList [])->(∀c o,c∉[z,to,j1,j2]->s.heap.get? c=some o->h'.get? c=some o)->Q (.ref s.heap.objs.size) { s with heap:=h',toks:=tk }):
  Ξ (je P w) A (call (.type "dict") [.ref z]) Q E s:=by
 refine callType_codes (Q₁:=fun obj s₁=>obj=.ref s.heap.objs.size/\s₁ = { s with heap:=s.heap.push { cls:=.type "dict",data:=.dict #[] } }) F.kt_called_dict (F.kt_typeCall_dict_1 _) F.entry_dict_init (kt_code_dict_new _ ⟨rfl,rfl⟩) ?_;rintro obj s₁ ⟨rfl,rfl⟩;have hnew:(s.heap.push { cls:=.type "dict",data:=.dict #[] }).DictOf (kJ P w) s.heap.objs.size []:=ky.DictOf.new s.heap;have up:∀c o,s.heap.get? c=some o->(s.heap.push { cls:=.type "dict",data:=.dict #[] }).get? c=some o:=fun c o e=>ν _ e;have hz':IsZip (s.heap.push { cls:=.type "dict",data:=.dict #[] }) z ti to .none:=up _ _ hz.z;refine⟨hnew.typeIs,F.args_dict_init_2 _ _,?_⟩;unfold pd.«dict.__init__»;refine ε ?_;unfold pd.Dict.selfAndRest;refine ε (vd hnew.typeIs ?_);show Ξ _ _ (pure (s.heap.objs.size,[jm z])) _ _ _;refine ω ?_;show Ξ _ _ (ui "dict.__init__" s.heap.objs.size (.ref z) [] .none) _ _ _;unfold ui;refine ε (wpAny_typeOf (T:="zip") ⟨_,hz',rfl⟩ ?_);rw[if_pos (by decide)];refine ε (aAw hz' hh fun h1 tk e ne=>?_);simp only[Option.isNone_none,if_true];have kp:∀c o,s.heap.get? c=some o->h1.get? c=some o:=fun c o q=>ne.keeps _ _ (up _ _ q);refine ε (wpAny_rule ?_);refine ε (wpAny_pyIter_zip (kp _ _ hz.z) ?_);obtain⟨p,q,ho⟩:=hz.to;have z1:ZpM b c2 h1 z ti to j1 j2 a1 a2 0:=⟨kp _ _ hz.z,kp _ _ hz.ti,⟨p,q,kp _ _ ho⟩,hz.i1.keep fun o e=>kp _ _ e,hz.i2.keep fun o e=>kp _ _ e⟩;have dd1:h1.DictOf (kJ P w) s.heap.objs.size []:=by
  obtain⟨o,es,ep,ho,rest⟩:=hnew;exact⟨o,es,ep,ne.keeps _ _ ho,rest⟩
 obtain⟨o1,e1,_⟩:=hz.i1.obj;obtain⟨o2,e2,_⟩:=hz.i2.obj;have hd:s.heap.objs.size∉[z,ti,to,j1,j2,a1,a2]:=by
  simp only[ο,jr,or_false,not_or];exact⟨mz (ψ hz.z),mz (ψ hz.ti),mz (ψ ho),mz (ψ e1),mz (ψ e2),mz g1.lt,mz g2.lt⟩
 refine ω ⟨wk xU _,aSs (A:=A.in1) hh D hd hx hl hv hb us.size 0 0 [] _ rfl (jg _) (ι _) (.inl z1) (g1.keep fun o e=>kp _ _ e) (g2.keep fun o e=>kp _ _ e) dd1 fun h' tk' dd fr=>⟨rfl,h h' tk' dd fun c o hc e=>fr c o (fun m=>?_) (kp _ _ e)⟩⟩;simp only[ο,jr,or_false]at m hc;rcases m with m|m|m|m|m
 ·exact hc (.inl m)
 ·exact hc (.inr (.inl m))
 ·exact hc (.inr (.inr (.inl m)))
 ·exact hc (.inr (.inr (.inr m)))
 ·exact absurd (ψ e) (by rw[m];exact nk _)
end
theorem wX:∀{xs ys:List Str}{us:List Value}{kvs:List (Key×V)}{vs:List (Key×Value)},xs.length=ys.length->jY (ys.map V.str) us->KV kvs vs->KV (qY kvs (ja (fun x y=>((.inr x:Key),V.str y)) xs ys)) (aEf xs us vs)
 |[],_,_,_,_,_,_,r=>r
 |x::xs,[],_,_,_,h,_,_=>by simp at h
 |x::xs,y::ys,us,kvs,vs,h,hv,r=>by
  rw[ju]at hv;cases hv with
  | @cons _ _ u us' ru rs =>
   exact wX (xs:=xs) (ys:=ys) (by simpa using h) rs (r.put (.inr x) ru)
def tDZip (K:Φ) (ta:TA):TE:=fun σ H Q=>ta σ H fun vs H1=>∃(b c2:Bool) (a1 a2:Addr) (xs ys:List Str),vs=[.ref a1,.ref a2]/\Sq2 K b H1 a1 (xs.map V.str)/\Sq2 K c2 H1 a2 (ys.map V.str)/\xs.length=ys.length/\xs.length<=100 ∧
 ∀d,H1 d=none->Q (.ref d) (upd H1 d (.dK (qY [] (ja (fun x y=>((.inr x:Key),V.str y)) xs ys))))
theorem aNw{a c:Expr}(hgd:Gl X "dict")(hmd:X.mg "dict" = none)(hg:Gl X "zip")(hm:X.mg "zip" = none)(hc:X.calm=true)(ha:PA X [a,c] ta)
  (hs:iy [a,c] X.env=(false,eval a X.env)::iy [c] X.env:=by rfl)(hs2:iy [c] X.env=[(false,eval c X.env)]:=by rfl)
  (hs3:iy [.Call (.Name "zip" p2) [a,c] [] pos2] X.env=(false,eval (.Call (.Name "zip" p2) [a,c] [] pos2) X.env)::iy [] X.env:=by rfl):
  PE X (.Call (.Name "dict" p) [.Call (.Name "zip" p2) [a,c] [] pos2] [] pos) (tDZip X.K ta):=by
 intro pins s σ H Q I h;refine sj (dR I hgd hmd (show om "dict" = some (.type "dict") from by ac_rfl) ?_ (by decide) (by decide));refine nu ?_ hs3 rfl;rw[hs3];show Ξ _ _ (spliced ((false,eval (.Call (.Name "zip" p2) [a,c] [] pos2) X.env)::qh pos (iy [] X.env))) _ _ s;refine wt ?_;refine sj (dR I hg hm (show om "zip" = some (.type "zip") from by ac_rfl) ?_ (by decide) (by decide));refine nu (thn (ha pos2 pins s σ H _ I h) fun us s1 zq=>?_) hs (by rw[hs2];rfl);obtain⟨vs,H1,I1,r1,q1⟩:=zq;obtain⟨b,c2,a1,a2,xs,ys,e,h1,h2,hl,hb,q⟩:=q1;subst e;obtain⟨u,v,rfl,rx,ry⟩:=vals2 r1;cases rx;cases ry;obtain⟨is1,v1,k1⟩:=I1.seq2 h1;obtain⟨is2,v2,k2⟩:=I1.seq2 h2;have l1:=k1.lt;have l2:=k2.lt;have n1:=v1.length;have n2:=v2.length;rw[δ]at n1 n2;refine aEk k1 k2 fun g gz gk=>?_;have D:wj (s1.heap.objs.size+4) (s1.heap.objs.size+2) (s1.heap.objs.size+3) s1.heap.objs.size (s1.heap.objs.size+1) a1 a2:=by
  constructor <;> simp <;> first|exact ir (ς l1 (qd _ _))|exact ir (ς l2 (qd _ _))|exact ir l1|exact ir l2|decide
 refine Calls.spliced_nil ?_;refine sX (xs:=xs) (I1.ok.hd hc) D gz (k1.keep fun o e=>gk _ _ e) (k2.keep fun o e=>gk _ _ e) (fun i x hx=>?_) (by rw[υ];omega) (by rw[υ,υ];omega) (by rw[υ];omega) fun h' tk dd fr=>?_
 ·obtain⟨u,hu,ru⟩:=v1.get (x:=V.str x) (i:=i) (by rw[jv,hx];rfl);obtain⟨t,rfl⟩:=ru;exact⟨t,by simpa using hu⟩
 have gs:s1.heap.objs.size<=g.objs.size:=by
  have:=ψ gz.z;exact tm (mj (qd _ _) this)
 have keep:∀b o,s1.heap.get? b=some o->h'.get? b=some o:=fun b o e=>by
  have lb:=ψ e;refine fr b o ?_ (gk _ _ e);simp only[ο,jr,or_false,not_or];exact⟨ir (ς lb (qd _ _)),ir (ς lb (qd _ _)),ir lb,ir (ς lb (qd _ _))⟩
 have hz:(qY [] (ja (fun x y=>((.inr x:Key),V.str y)) xs ys)).length<=ξ:=by
  have h1:=xO (ja (fun x y=>((.inr x:Key),V.str y)) xs ys) [];rw[List.length_nil,wc]at h1;rw[jc];omega
 refine⟨.ref g.objs.size,_,I1.laid (a:=g.objs.size) (o:=.dK (qY [] (ja (fun x y=>((.inr x:Key),V.str y)) xs ys))) (t':=tk) keep gs ?_,rfl,q _ (I1.hok.fresh gs)⟩;exact cZ hz (beq_eq_false_iff_ne.mpr (kc (ir (ς I1.big gs)))) (wX hl v2 .nil) (by simpa using dd)
theorem aDs{X:Cx}{K:Φ}(hK:X.K=K):OpR X (lm .In) (rIn K false):=hK ▸ vJ
theorem aMs{X:Cx}(hu:X.A.units+64<sd):OpR X (lm .NotEq) (fun x y H Q=>∃(a b:Addr) (o:Option Str) (z:Str),x=.ref a/\y=.ref b/\SqL X.K H a (o.toList.map V.str)/\SqL X.K H b [.str z]/\Q (.bl (!decide (o=some z))) H):=by
 intro pins s σ H x y v u Q I rx ry h;obtain⟨a,b,o,z,rfl,rfl,ha,hb,q⟩:=h;cases rx;cases ry;obtain⟨i1,r1,p1,_⟩:=I.list ha;obtain⟨i2,r2,p2,_⟩:=I.list hb;show Ξ _ _ (richCompare .NotEq (.ref a) (.ref b)) _ _ _;cases r2 with
 |cons rz rt =>
  cases rt;obtain⟨t,rfl⟩:=rz;cases o with
  |none =>
   cases r1;refine SeqAt.RcNeAt.lists_lengths p1.isList p2.isList (by simp) (by omega) _ _ _ _ ?_;exact⟨.bl true,H,I,rfl,q⟩
  |some w =>
   cases r1 with
   |cons rw' rt' =>
    cases rt';obtain⟨t',rfl⟩:=rw';refine SeqAt.RcNeAt.lists (e:=fun _=>w == z) p1.isList p2.isList rfl (by omega) (fun j h1 h2=>?_) _ _ _ _ ?_
    ·obtain rfl:j=0:=by simp at h1;omega
     exact my.str_str w t' z t
    ·refine⟨.bl (!decide (w=z)),H,I,?_,?_⟩
     ·show RelV _ _
      by_cases e:w=z
      ·subst e;simp[RelV]
      ·simp[RelV,e]
     ·rw[show(decide (w=z))=decide (some w=some z) by simp];exact q
section
variable {X:Cx}
theorem aGi:MtR X "dict.update" (fun x vs H Q=>∃(a b:Addr) (kvs more:List (Key×V)),x=.ref a/\vs=[.ref b]/\a≠b/\H a=some (.dK kvs)/\H b=some (.dK more)/\kvs.length+more.length<=ξ/\Q .non (upd H a (.dK (qY kvs more)))):=by
 intro pins s σ H x vs v us Q I rx rv h;obtain⟨a,b,kvs,more,rfl,rfl,ne,ha,hb,hz,q⟩:=h;cases rx;obtain⟨u,rfl,ru⟩:=vals1 rv;cases ru;obtain⟨z1,hd1,vs1,r1,dd1⟩:=mS I.hok ha;obtain⟨z2,hd2,vs2,r2,dd2⟩:=mS I.hok hb;refine call_meetsIn PySem.F.slot_dict_update dd1.typeIs PySem.F.entry_dict_update (PySem.F.args_dict_update_2 _ _) (meets_dict_update (kJ X.prog X.w) a b ne hd2)
  ⟨vs1,vs2,dd1,dd2,(by rw[←r1.length,←r2.length];exact hz),fun h' dd' _ hs=>⟨.non,_,?_,rfl,q⟩⟩
 have he:∃q,h'.get? a=some q:=let ⟨q,_,_,hq,_⟩:=dd'; ⟨q,hq⟩;exact iV (t':=s.toks) I (by rw[ha];exact lu) hs he (cZ (jh (xO more kvs) hz) hd1 (r2.merge r1) dd')
end
end L2
namespace L2
open PySem
def nx (p:Str) (b:Int):List jx->Option Int
 |.tuple [.str q,.int v]::_=>if q=p/\0<=v/\v<b then some v else none
 |_=>none
end L2
namespace L2
open PySem PySem.Spec PyProof.Rows
mutual
inductive Dt (z:Bool) (K:Φ) (H:Hp):V->jx->Prop
 |non:Dt z K H .non .none
 |bl (b:Bool):Dt z K H (.bl b) (.bool b)
 |int (i:Int):Dt z K H (.int i) (.int i)
 |str (x:Str):Dt z K H (.str x) (.str x)
 |lst {a:Addr}{xs:List V}{ds:List jx} : SqL K H a xs->(z=true->a≠mi)->Dts z K H xs ds->Dt z K H (.ref a) (.list ds)
 |tup {a:Addr}{xs:List V}{ds:List jx} : SqT K H a xs->Dts z K H xs ds->Dt z K H (.ref a) (.tuple ds)
 |dct {a:Addr}{ks:List Str}{xs:List V}{ds:List jx} : H a=some (.dK (ja (fun k v=>((.inr k:Key),v)) ks xs))->ks.length=xs.length->Dts z K H xs ds->Dt z K H (.ref a) (.dict (ja (fun k d=>(jx.str k,d)) ks ds))
inductive Dts (z:Bool) (K:Φ) (H:Hp):List V->List jx->Prop
 |nil:Dts z K H [] []
 |cons {x:V}{xs:List V}{d:jx}{ds:List jx} : Dt z K H x d->Dts z K H xs ds->Dts z K H (x::xs) (d::ds)
end
mutual
theorem Dt.same{K:Φ}(g:jH H H'):∀{x:V}{d:jx},Dt z K H x d->Dt z K H' x d
 |_,_,.non=>.non
 |_,_,.bl b=>.bl b
 |_,_,.int i=>.int i
 |_,_,.str x=>.str x
 |_,_,.lst h n t=>.lst (g.seq h) n (Dts.same g t)
 |_,_,.tup h t=>.tup (g.tp h) (Dts.same g t)
 |_,_,.dct h l t=>.dct (g _ _ h) l (Dts.same g t)
theorem Dts.same{K:Φ}(g:jH H H'):∀{xs:List V}{ds:List jx},Dts z K H xs ds->Dts z K H' xs ds
 |_,_,.nil=>.nil
 |_,_,.cons h t=>.cons (Dt.same g h) (Dts.same g t)
end
mutual
theorem Dt.any{K:Φ}: ∀{x:V}{d:jx},Dt z K H x d->Dt false K H x d
 |_,_,.non=>.non
 |_,_,.bl b=>.bl b
 |_,_,.int i=>.int i
 |_,_,.str x=>.str x
 |_,_,.lst h n t=>.lst h (fun z=>nomatch z) (Dts.any t)
 |_,_,.tup h t=>.tup h (Dts.any t)
 |_,_,.dct h l t=>.dct h l (Dts.any t)
theorem Dts.any{K:Φ}: ∀{xs:List V}{ds:List jx},Dts z K H xs ds->Dts false K H xs ds
 |_,_,.nil=>.nil
 |_,_,.cons h t=>.cons (Dt.any h) (Dts.any t)
end
mutual
theorem Dat.dt{K:Φ}: ∀{x:V}{d:jx},Dat K H x d->Dt false K H x d
 |_,_,.non=>.non
 |_,_,.bl b=>.bl b
 |_,_,.int i=>.int i
 |_,_,.str x=>.str x
 |_,_,.lst h t=>.lst h (fun z=>nomatch z) (DatAll.dt t)
 |_,_,.tup h t=>.tup h (DatAll.dt t)
theorem DatAll.dt{K:Φ}: ∀{xs:List V}{ds:List jx},DatAll K H xs ds->Dts false K H xs ds
 |_,_,.nil=>.nil
 |_,_,.cons h t=>.cons (Dat.dt h) (DatAll.dt t)
end
theorem Dts.length{K:Φ}: ∀{xs:List V}{ds:List jx},Dts z K H xs ds->xs.length=ds.length
 |_,_,.nil=>rfl
 |_,_,.cons _ t=>congrArg (·+1) (Dts.length t)
theorem Dts.get{K:Φ}: ∀{xs:List V}{ds:List jx}{i:Nat}{d:jx},Dts z K H xs ds->ds[i]?=some d->∃x,xs[i]?=some x/\Dt z K H x d
 |_,_,_,_,.nil,e=>by simp at e
 |_,_,0,_,.cons h _,e=>by simp at e;subst e;exact⟨_,rfl,h⟩
 |_,_,i+1,d,.cons _ t,e=>by
  obtain⟨x,h1,h2⟩:=Dts.get (i:=i) (d:=d) t (by simpa using e);exact⟨x,by simpa using h1,h2⟩
theorem Dts.snoc{K:Φ}: ∀{xs:List V}{ds:List jx}{x:V}{d:jx},Dts z K H xs ds->Dt z K H x d->Dts z K H (xs++[x]) (ds++[d])
 |_,_,_,_,.nil,h=>.cons h .nil
 |_,_,_,_,.cons h t,g=>.cons h (Dts.snoc t g)
theorem Dt.ty{K:Φ}(h:Dt z K H x d):tyM K x H (tyD d):=by
 cases h with
 |lst h _ _=>exact .inl (.inl ⟨rfl,_,h⟩)
 |tup h _=>exact .inl (.inr ⟨rfl,_,h⟩)
 |dct h _ _=>exact .inr ⟨rfl,_,_,rfl,h⟩
 |_=>exact .inl rfl
section
variable {X:Cx}{pins:List (Addr×Obj)}{σ:St}{H:Hp}{s:μ}
theorem Inv.dkz(I:Inv X pins σ H s)(h:H a=some (.dK (ja (fun k v=>((.inr k:Key),v)) ks xs)))(hl:ks.length=xs.length):(a == mi)=false/\∃us:List Value,jY xs us/\s.heap.DictOf (kJ X.prog X.w) a (ja (fun k v=>((.inr k:Key),v)) ks us):=by
 obtain⟨_,hsm,vs,kv,dd⟩:=mS I.hok h;have:∀(ks:List Str) (xs:List V) (vs:List (Key×Value)),ks.length=xs.length->KV (ja (fun k v=>((.inr k:Key),v)) ks xs) vs->∃us,jY xs us/\vs=ja (fun k v=>((.inr k:Key),v)) ks us:=by
  intro ks
  induction ks with
  |nil=>intro xs vs e h;cases xs with
   |nil=>cases h;exact⟨[],.nil,rfl⟩
   |cons _ _=>cases e
  |cons k ks ih=>intro xs vs e h;cases xs with
   |nil=>cases e
   |cons x xs =>
    have h':KV (((.inr k:Key),x)::ja (fun k v=>((.inr k:Key),v)) ks xs) vs:=h;cases h' with
    | @cons p q ps qs h1 h2 =>
     obtain⟨us,r,e2⟩:=ih xs qs (vt e) h2;refine⟨q.2::us,.cons h1.2 r,?_⟩;rw[e2];show q::_=((.inr k:Key),q.2)::_;have:q.1=(.inr k:Key):=h1.1.symm;rw[←this]
 obtain⟨us,r,e⟩:=this ks xs vs hl kv;exact⟨hsm,us,r,e ▸ dd⟩
end
end L2
namespace L2
open PySem PySem.Spec PyProof.Rows PySem.SeqAt
open AutoSeq1 (wpAny_loadPart')
open MeetsSeq MeetsSeq2 MeetsSeq3 SeqRoads2
def EqP (P:ki) (w:mx) (A:lg) (s:μ) (y x:Value):Prop:=∀(E:Value->μ->Prop) (Q:Bool->μ->Prop),Q true s->Ξ (je P w) A (eqBool y x) Q E s
def RcP (P:ki) (w:mx) (A:lg) (s:μ) (y x:Value):Prop:=∀(E:Value->μ->Prop) (Q:Value->μ->Prop),Q (.bool true) s->Ξ (je P w) A (richCompare .Eq y x) Q E s
section
variable {P:ki}{w:mx}{A:lg}{s:μ}
theorem EqP.of(h:EqAt A s y x true):EqP P w A s y x:=fun E Q q=>h P w E Q q
theorem EqP.refs{l b:Addr}(h:l≠b->RcP P w A s (.ref l) (.ref b)):EqP P w A s (.ref l) (.ref b):=by
 by_cases e:l=b
 ·subst e;exact .of (EqAt.same _)
 ·intro E Q q;unfold eqBool;refine kf (wpAny_ite_split (fun hab=>absurd (by have:=eq_of_beq hab;injection this) e) fun _=>?_);exact ε (h e E _ (mh q))
theorem loopP(l b:Addr)(xs ys:Array Value)(n m:Nat)(d1 d2:Option Addr)(s1 s2:Array (Option Value))(hz:xs.size=ys.size)(k:Nat):
  ∀i:Nat,xs.size-i=k->MeetsIn P w (pd.«list.__eq__.loop» ⟨[.ref l,.ref b,rawInt i,rawInt 2],[]⟩)
   (fun A R s=>s.heap.get? l=some ⟨.type "list",d1,.seq xs n,s1⟩/\s.heap.get? b=some ⟨.type "list",d2,.seq ys m,s2⟩/\(∀j (h1:j<xs.size) (h2:j<ys.size),EqP P w A.in1 s xs[j] ys[j])/\R (.ok (.ret (.bool true))) s):=by
 induction k with
 |zero =>
  intro i hk A R s ⟨hl,hb,he,h⟩;obtain⟨hp,g,d,tk,os⟩:=s
  wp_walk using nj hl,nj hb
  rw[show xs[((i:Nat):Int).toNat]?=none by simp;omega,show ys[((i:Nat):Int).toNat]?=none by simp;omega]
  wp_walk using nj hl,nj hb
  show R (.ok (.ret (.bool (xs.size == ys.size)))) _;rw[hz];simpa using h
 |succ k ih =>
  intro i hk A R s ⟨hl,hb,he,h⟩;obtain⟨hp,g,d,tk,os⟩:=s
  wp_walk using nj hl,nj hb
  have q1:i<xs.size:=by omega
  have q2:i<ys.size:=by omega
  have hc:((i:Int)+1)=((i+1:Nat):Int):=by push_cast;rfl
  rw[show xs[((i:Nat):Int).toNat]?=some xs[i] by simp[q1],show ys[((i:Nat):Int).toNat]?=some ys[i] by simp[q2]];refine ε (he i q1 q2 _ _ ?_)
  wp_walk
  rw[hc];exact⟨wk plain_eq_loop _,uy entry_eq_loop (by
   rw[qq plain_eq_loop _];exact ih (i+1) (by omega) A R _ ⟨hl,hb,he,h⟩)⟩
theorem RcP.lists(hl:s.heap.IsList l xs)(hb:s.heap.IsList b ys)(hz:xs.size=ys.size)(hu:A.units<sd)(he:∀j (h1:j<xs.size) (h2:j<ys.size),EqP P w A.in1 s xs[j] ys[j]):RcP P w A s (.ref l) (.ref b):=fun E Q q=>by
 obtain⟨⟨c1,d1,t1,s1⟩,ho,hc,n,hd⟩:=hl;obtain⟨⟨c2,d2,t2,s2⟩,ho2,hc2,m,hd2⟩:=hb;simp only at hc hd hc2 hd2;subst hc hd hc2 hd2;refine rj (op:=.Eq) ⟨_,ho,rfl⟩ ⟨_,ho2,rfl⟩ F.slot_list_eq (call_meetsIn F.slot_list_eq ⟨_,ho,rfl⟩ F.entry_list_eq (F.args_list_eq_2 _ _) (S:=fun A R s=>s.heap.get? l=some ⟨.type "list",d1,.seq xs n,s1⟩/\s.heap.get? b=some ⟨.type "list",d2,.seq ys m,s2⟩/\(∀j (h1:j<xs.size) (h2:j<ys.size),EqP P w A.in1 s xs[j] ys[j])/\R (.ok (.ret (.bool true))) s) ?_ ⟨ho,ho2,he,(fun x=>nomatch x),q⟩) hu;intro A R s ⟨hl,hb,he,h⟩;obtain⟨hp,g,d,tk,os⟩:=s;have f3:=AutoSeq1.sub_list_list;have hne:¬ (xs.size != ys.size)=true:=by simp[hz]
 wp_walk using nj hl,nj hb
 exact⟨wk plain_eq_loop _,uy entry_eq_loop (by
  rw[qq plain_eq_loop _];exact loopP l b xs ys n m d1 d2 s1 s2 hz _ 0 rfl A R _ ⟨hl,hb,he,h⟩)⟩
theorem RcP.tups(hl:s.heap.IsTuple l xs)(hb:s.heap.IsTuple b ys)(hz:xs.size=ys.size)(hu:A.units<sd)(he:∀j (h1:j<xs.size) (h2:j<ys.size),EqP P w A.in1 s xs[j] ys[j]):RcP P w A s (.ref l) (.ref b):=fun E Q q=>by
 obtain⟨⟨c1,d1,t1,s1⟩,ho,hc,n,hd⟩:=hl;obtain⟨⟨c2,d2,t2,s2⟩,ho2,hc2,m,hd2⟩:=hb;simp only at hc hd hc2 hd2;subst hc hd hc2 hd2;refine rj (op:=.Eq) ⟨_,ho,rfl⟩ ⟨_,ho2,rfl⟩ F.slot_tuple_eq (call_meetsIn F.slot_tuple_eq ⟨_,ho,rfl⟩ F.entry_tuple_eq (F.args_tuple_eq_2 _ _) (S:=fun A R s=>s.heap.get? l=some ⟨.type "tuple",d1,.seq xs n,s1⟩/\s.heap.get? b=some ⟨.type "tuple",d2,.seq ys m,s2⟩/\(∀j (h1:j<xs.size) (h2:j<ys.size),EqP P w A.in1 s xs[j] ys[j])/\R (.ok (.ret (.bool true))) s) ?_ ⟨ho,ho2,he,(fun x=>nomatch x),q⟩) hu;refine .of_wp fun A R s zq=>?_;obtain⟨hl,hb,he,h⟩:=zq;obtain⟨hp,g,d,tk,os⟩:=s;have f2:=AutoSeq1.sub_tuple_tuple
 wp_walk using nj hl,nj hb,wpAny_forIn_list _ (fun rest b s'=>b.1=none/\s'=⟨hp,g,d,tk,os⟩/\∃i,rest=(xs.toList.zip ys.toList).drop i) _
 case turn =>
  rintro ⟨y,x⟩ rest b s' ⟨hb',rfl,i,hz'⟩;have hlt:i<(xs.toList.zip ys.toList).length:=by
   rcases Nat.lt_or_ge i (xs.toList.zip ys.toList).length with h'|h'
   ·exact h'
   ·rw[xu h']at hz';cases hz'
  have hm:i<min xs.size ys.size:=by simpa using hlt
  rw[ou hlt]at hz';injection hz' with hyx hrest;have e1:y=xs[i]'(ς hm (og _ _)):=by have:=congrArg Prod.fst hyx;simpa using this
  have e2:x=ys[i]'(ς hm (Nat.min_le_right _ _)):=by have:=congrArg Prod.snd hyx;simpa using this
  subst e1 e2;refine ε (he i _ _ _ _ ?_)
  wp_walk
  exact⟨rfl,rfl,i+1,hrest⟩
 case fin =>
  rintro ⟨b1,b2⟩ s' ⟨hb',rfl,i,_⟩;simp only at hb';subst hb'
  wp_walk
  exact⟨_,rfl,by simpa [pd.Tuple.tupleCompareSizes,hz] using h⟩
 case h=>exact⟨rfl,rfl,0,rfl⟩
theorem aHp{κ : Type}[DecidableEq κ]{knd:KeyKind P w κ}{nm:String}{a b:Addr}{ka kb:List (κ×Value)}{E:Value->μ->Prop}{Q:Bool->μ->Prop}(ha:(a == mi)=false)(hb:(b == mi)=false)
  (da:s.heap.DictOf knd a ka)(db:s.heap.DictOf knd b kb)(hl:ka.length=kb.length)(hits:∀(i:Nat) (k : κ) (v:Value),ka[i]?=some (k,v)->∃y,wq kb k=some y/\EqP P w A s v y)(h:Q true s):
  Ξ (je P w) A (pd.Dict.samePairs nm a b) Q E s:=by
 obtain⟨oa,es,ep,hoa,_,hda,hka,hpa,_⟩:=da;obtain⟨ob,fs,fp,hob,_,hdb,hkb,hpb,_⟩:=db;have la:ka.length=es.size:=by rw[←hpa.length];exact lh
 have lb:kb.length=fs.size:=by rw[←hpb.length];exact lh
 have hz:es.size=fs.size:=by omega
 have hfind:∀k,findBy knd.is fs k=wq kb k:=fun k=>by
  rw[←hpb.find k];clear lb hpb hkb hdb hob hz;obtain⟨l⟩:=fs;simp[findBy]
 unfold pd.Dict.samePairs pd.Dict.showsAll;rw[if_neg (by rw[ha];exact ρ),if_neg (by rw[hb];exact ρ)];refine ε (ω (ε (ω (ε (xw hoa hda ?_)))));dsimp only;refine ε (xw hob hdb ?_);rw[if_neg (by rw[hz];simp)];refine ε (wpAny_dictEpoch hoa hda (ε ?_));rw[Std.Legacy.Range.forIn_eq_forIn_range'];simp only[Std.Legacy.Range.size,Nat.sub_zero,Nat.add_sub_cancel,Nat.div_one];refine wpAny_forIn_list _ (fun rest q s'=>s'=s/\q=(none,())/\∃i,rest=List.range' i (es.size-i)/\i<=es.size) _ ?_ ?_ _ _ ⟨rfl,rfl,0,by simp,jg _⟩
 ·rintro x rest q s' ⟨rfl,rfl,i,hr,hi⟩;have hlt:i<es.size:=by
   rcases Nat.lt_or_ge i es.size with z|z
   ·exact z
   ·rw[Nat.sub_eq_zero_of_le z]at hr;simp at hr
  obtain⟨rfl,hrest⟩ : x=i/\rest=List.range' (i+1) (es.size-(i+1)):=by
   rw[show es.size-i=(es.size-(i+1))+1 by omega,List.range'_succ]at hr;injection hr with h1 h2;exact⟨h1,h2⟩
  refine ε (xw hoa hda ?_);rw[ow hlt];have hlt':x<ka.length:=by rw[la];exact hlt
  obtain⟨k,v,hkv⟩ : ∃k v,ka[x]=(k,v):=⟨_,_,rfl⟩;have hg:ka[x]?=some (k,v):=by rw[π hlt',hkv]
  obtain⟨hkey,hval⟩:=hpa.get? (i:=x) (e:=es[x]) (k:=k) (v:=v) (by rw[Array.getElem?_toList];exact ow hlt) hg;obtain⟨k',hk',hh⟩:=hka es[x] (Array.getElem_mem hlt);rw[knd.inj _ _ _ hk' hkey]at hh;obtain⟨y,hy,he⟩:=hits x k v hg;show Ξ _ _ (uf [es[x].key,es[x].val] _ >>= _) _ _ _;rw[hh];refine ε (kf (ε (wpAny_dictFind_of hkey hob hdb hkb ?_)));cases hj:fs.findIdx? fun e=>knd.is k e.key with
  |none=>exact absurd hy (by rw[←hfind k,findBy_of_findIdx?,hj];exact fun z=>nomatch z)
  |some j =>
   obtain⟨hjlt,_,_⟩:=Array.findIdx?_eq_some_iff_getElem.mp hj;have hv':wq kb k=some fs[j].val:=by
    rw[←hfind k,findBy_of_findIdx?,hj];simp[ow hjlt]
   refine ε (xw hob hdb ?_);rw[ow hjlt];have ey:fs[j].val=y:=mw (hv'.symm.trans hy);rw[←ey,←hval]at he;refine kf (he _ _ ?_);show Ξ _ _ (if (!true)=true then _ else _) _ _ _;rw[if_neg (by decide)];refine ε (wpAny_dictEpoch hoa hda ?_);rw[if_neg (by simp)];exact ω ⟨rfl,rfl,x+1,hrest,hlt⟩
 ·rintro q s' ⟨rfl,rfl,_⟩;exact ω h
theorem cmpP{κ : Type}[DecidableEq κ]{knd:KeyKind P w κ}{a b:Addr}{ka kb:List (κ×Value)}(ng:Bool){E:Value->μ->Prop}{Q:Value->μ->Prop}(ha:(a == mi)=false)(hb:(b == mi)=false)
  (da:s.heap.DictOf knd a ka)(db:s.heap.DictOf knd b kb)(hl:ka.length=kb.length)(hu:A.units<sd)(hits:∀(i:Nat) (k : κ) (v:Value),ka[i]?=some (k,v)->∃y,wq kb k=some y/\EqP P w A.in1 s v y)(h:Q (.bool (!ng)) s):
  Ξ (je P w) A (lm (if ng then .NotEq else .Eq) (.ref a) (.ref b)) Q E s:=by
 cases ng
 ·refine rj (op:=.Eq) da.typeIs db.typeIs PySem.F.slot_dict_eq (qi PySem.F.slot_dict_eq da.typeIs PySem.F.entry_dict_eq ?_ (PySem.F.args_dict_eq_2 _ _)) hu;show Ξ _ _ (sv "__eq__" ⟨[.ref a,.ref b],[]⟩ >>= _) _ _ s;unfold sv;refine ε (ε (vd da.typeIs ?_));refine ω (ε (vw (T:="dict") db.typeIs PySem.F.sub_dict_dict ?_));simp only[Bool.not_true,pk,if_false];refine ε (ω (ε (ω (ε (aHp ha hb da db hl hits (ω ⟨_,rfl,(fun x=>nomatch x),h⟩))))))
 ·refine rj (op:=.NotEq) da.typeIs db.typeIs PySem.F.slot_dict_ne (qi PySem.F.slot_dict_ne da.typeIs PySem.F.entry_dict_ne ?_ (PySem.F.args_dict_ne_2 _ _)) hu;show Ξ _ _ (sv "__ne__" ⟨[.ref a,.ref b],[]⟩ >>= _) _ _ s;unfold sv;refine ε (ε (vd da.typeIs ?_));refine ω (ε (vw (T:="dict") db.typeIs PySem.F.sub_dict_dict ?_));simp only[Bool.not_true,pk,if_false];refine ε (ω (ε (ω (ε (aHp ha hb da db hl hits (ω ⟨_,rfl,(fun x=>nomatch x),h⟩))))))
end
theorem zip_get{κ : Type}: ∀{ks:List Str}{us:List κ}{i:Nat}{k:Key}{v : κ},(ja (fun k v=>((.inr k:Key),v)) ks us)[i]?=some (k,v)->us[i]?=some v/\∃x,ks[i]?=some x/\k=.inr x
 |[],_,_,_,_,e=>by simp at e
 |_::_,[],_,_,_,e=>by simp at e
 |x::_,_::_,0,_,_,e=>by simp at e;obtain⟨rfl,rfl⟩:=e;exact⟨rfl,x,rfl,rfl⟩
 |_::ks,_::us,i+1,k,v,e=>zip_get (ks:=ks) (us:=us) (i:=i) (k:=k) (v:=v) (by simpa using e)
theorem aIg{κ : Type}: ∀{ks:List Str}{us:List κ}{i:Nat}{x:Str}{v : κ},((ja (fun k v=>((.inr k:Key),v)) ks us).map (·.1)).Nodup->ks[i]?=some x->us[i]?=some v->(ja (fun k v=>((.inr k:Key),v)) ks us).find? (fun kv=>decide (kv.1=(.inr x:Key)))=some (.inr x,v)
 |[],_,_,_,_,_,e,_=>by simp at e
 |_::_,[],_,_,_,_,_,e=>by simp at e
 |y::_,_::_,0,_,_,_,e,e2=>by simp at e e2;subst e e2;show List.find? _ (_::_)=_;rw[xo (by simp)]
 |y::ks,u::us,i+1,x,v,n,e,e2=>by
  have n':((.inr y:Key)::(ja (fun k v=>((.inr k:Key),v)) ks us).map (·.1)).Nodup:=n;have ih:=aIg (ks:=ks) (us:=us) (i:=i) (x:=x) (v:=v) (pe.mp n').2 (by simpa using e) (by simpa using e2);show List.find? _ (((.inr y:Key),u)::_)=_;rw[uw]
  ·exact ih
  ·simp only[decide_eq_true_eq];intro z;refine(pe.mp n').1 ?_;rw[z];exact jz.mpr ⟨_,List.mem_of_find?_eq_some ih,rfl⟩
section
variable {X:Cx}{pins:List (Addr×Obj)}{σ:St}{H:Hp}{s:μ}
theorem Inv.hits{us:List Value}(hd:((ja (fun k v=>((.inr k:Key),v)) ks vs).map (·.1)).Nodup)(e:us.length=vs.length)(h:∀j (h1:j<us.length) (h2:j<vs.length),EqP X.prog X.w A s us[j] vs[j]):
  ∀(i:Nat) (k:Key) (v:Value),(ja (fun k v=>((.inr k:Key),v)) ks us)[i]?=some (k,v)->∃y,wq (ja (fun k v=>((.inr k:Key),v)) ks vs) k=some y/\EqP X.prog X.w A s v y:=by
 intro i k v hi;obtain⟨hu,x,hx,rfl⟩:=zip_get hi;obtain⟨h1,rfl⟩:=η.mp hu;have h2:i<vs.length:=by omega
 exact⟨vs[i],by unfold wq;rw[aIg hd hx (π h2)];rfl,h i h1 h2⟩
theorem aEd(A:lg){d:jx}{ds:List jx}(h:A.units+lr (d::ds)<sd):A.units+d.depth<sd/\A.units+lr ds<sd:=by
 have e:lr (d::ds)=max d.depth (lr ds):=rfl;rw[e]at h;omega
theorem aOq:∀{ks:List Str}{ds:List jx},ks.length=ds.length->jx.depthKv (ja (fun k d=>(jx.str k,d)) ks ds)=lr ds
 |[],[],_=>rfl
 |_::ks,d::ds,e=>by
  show max (max 0 d.depth) (jx.depthKv (ja (fun k d=>(jx.str k,d)) ks ds))=max d.depth (lr ds);rw[aOq (vt e),Nat.zero_max]
theorem aOg{ks ks':List Str}{ds ds':List jx}(l:ks.length=ds.length)(l':ks'.length=ds'.length)(e:ja (fun k d=>(jx.str k,d)) ks ds=ja (fun k d=>(jx.str k,d)) ks' ds'):ks=ks'/\ds=ds':=by
 induction ks generalizing ds ks' ds' with
 |nil=>cases ds with
  |nil=>cases ks' with
   |nil=>cases ds' with
    |nil=>exact⟨rfl,rfl⟩
    |cons _ _=>cases l'
   |cons _ _=>cases ds' with
    |nil=>cases l'
    |cons _ _=>cases e
  |cons _ _=>cases l
 |cons k ks ih=>cases ds with
  |nil=>cases l
  |cons d ds=>cases ks' with
   |nil=>cases e
   |cons k' ks'=>cases ds' with
    |nil=>cases e
    |cons d' ds' =>
     injection e with e1 e2;injection e1 with e3 e4;injection e3 with e5;obtain⟨z1,z2⟩:=ih (vt l) (vt l') e2;exact⟨by rw[e5,z1],by rw[e4,z2]⟩
mutual
theorem Inv.eqT(I:Inv X pins σ H s):∀{A:lg}{x y:V}{d d':jx}{u v:Value},Dt false X.K H x d->d=d'->Dt false X.K H y d'->RelV x u->RelV y v->A.units+d.depth<sd->EqP X.prog X.w A s u v
 |_,_,_,_,_,_,_,.non,e,h2,r1,r2,hu=>by subst e;cases h2;cases r1;cases r2;exact .of (EqAt.same _)
 |_,_,_,_,_,_,_,.bl b,e,h2,r1,r2,hu=>by subst e;cases h2;cases r1;cases r2;exact .of (EqAt.same _)
 |_,_,_,_,_,_,_,.int i,e,h2,r1,r2,hu=>by
  subst e;cases h2;obtain⟨t,rfl⟩:=r1;obtain⟨t',rfl⟩:=r2;exact .of (by simpa using EqAt.int_int i t i t')
 |_,_,_,_,_,_,_,.str x,e,h2,r1,r2,hu=>by
  subst e;cases h2;obtain⟨t,rfl⟩:=r1;obtain⟨t',rfl⟩:=r2;exact .of (by simpa using EqAt.str_str x t x t')
 |A,_,_,_,_,_,_,.lst h _ ds,e,h2,r1,r2,hu=>by
  subst e;cases h2 with
  |lst h' _ ds' =>
   cases r1;cases r2;obtain⟨its,rv,⟨o,m,g1,g2,_,g3⟩,_⟩:=I.list h;obtain⟨its',rv',⟨o',m',g1',g2',_,g3'⟩,_⟩:=I.list h';have hz:its.toArray.size=its'.toArray.size:=by rw[υ,υ,←rv.length,←rv'.length,ds.length,ds'.length]
   have hu':A.units+lr _+1<sd:=hu;exact .refs fun _=>.lists ⟨_,g1,g2,_,g3⟩ ⟨_,g1',g2',_,g3'⟩ hz (by omega) fun j h1 h2=>by
    have:=Inv.eqTs I (A:=A.in1) ds rfl ds' rv rv' (by show A.units+1+_<sd;omega) j (by simpa using h1) (by simpa using h2);simpa using this
 |A,_,_,_,_,_,_,.tup h ds,e,h2,r1,r2,hu=>by
  subst e;cases h2 with
  |tup h' ds' =>
   cases r1;cases r2;obtain⟨its,rv,⟨o,g1,g2,m,g3⟩,_⟩:=I.tuple h;obtain⟨its',rv',⟨o',g1',g2',m',g3'⟩,_⟩:=I.tuple h';have hz:its.toArray.size=its'.toArray.size:=by rw[υ,υ,←rv.length,←rv'.length,ds.length,ds'.length]
   have hu':A.units+lr _+1<sd:=hu;exact .refs fun _=>.tups ⟨_,g1,g2,_,g3⟩ ⟨_,g1',g2',_,g3'⟩ hz (by omega) fun j h1 h2=>by
    have:=Inv.eqTs I (A:=A.in1) ds rfl ds' rv rv' (by show A.units+1+_<sd;omega) j (by simpa using h1) (by simpa using h2);simpa using this
 |A,_,_,_,_,_,_,.dct h l ds,e,h2,r1,r2,hu=>by
  cases h2 with
  |non=>cases e
  |bl=>cases e
  |int=>cases e
  |str=>cases e
  |lst=>cases e
  |tup=>cases e
  |dct h' l' ds' =>
   injection e with hd;obtain⟨rfl,e2⟩:=aOg (l.trans ds.length) (l'.trans ds'.length) hd;cases r1;cases r2;obtain⟨n1,us,rv,dd1⟩:=I.dkz h l;obtain⟨n2,us',rv',dd2⟩:=I.dkz h' l';have e3:us.length=us'.length:=by rw[←rv.length,←rv'.length,←l,←l']
   obtain⟨_,_,_,_,_,_,_,_,nd⟩:=id dd2;have hu':A.units+(jx.depthKv _+1)<sd:=hu;rw[aOq (l.trans ds.length)]at hu';refine .refs fun _ E Q q=>cmpP false n1 n2 dd1 dd2 (by simp[e3]) (by omega) (Inv.hits nd e3 ?_) q;exact Inv.eqTs I (A:=A.in1) ds e2 ds' rv rv' (by show A.units+1+_<sd;omega)
theorem Inv.eqTs(I:Inv X pins σ H s):∀{A:lg}{xs ys:List V}{ds ds':List jx}{us vs:List Value},Dts false X.K H xs ds->ds=ds'->Dts false X.K H ys ds'->jY xs us->jY ys vs->A.units+lr ds<sd->∀j (h1:j<us.length) (h2:j<vs.length),EqP X.prog X.w A s us[j] vs[j]
 |_,_,_,_,_,_,_,.nil,e,_,r1,_,_=>by cases r1;exact fun j h1=>absurd h1 (sy _)
 |A,_,_,_,_,_,_,.cons h t,e,h2,r1,r2,hu=>by
  subst e;cases h2 with
  |cons h' t' =>
   cases r1 with
   |cons q1 q2 =>
    cases r2 with
    |cons q1' q2' =>
     intro j h1 h2;cases j with
     |zero=>exact Inv.eqT I h rfl h' q1 q1' (aEd A hu).1
     |succ j=>exact Inv.eqTs I t rfl t' q2 q2' (aEd A hu).2 j (Nat.lt_of_succ_lt_succ h1) (Nat.lt_of_succ_lt_succ h2)
end
end
end L2
namespace L2
open PySem PySem.Spec PyProof.Rows
def aI:List Str:=["A","B","C","I","J"]
def eW:List Str:=["+","-","*","<","=","&"]
def begL:List Str:=["each","span","if"]
def aJ:List (Str×List Str):=[("number",["A","=","NUMBER"]),("name",["A","=","B"]),("OP",["A","=","B","OP","C"]),("look",["A","=","look","I","PATH"]),("store",["store","I","PATH","B"]),("which",["A","=","which","I","PATH"]),("choose",["choose","I","PATH","B"]),("copy",["copy","I","J"]),("put",["A","=","put"]),("take",["take","I"]),("many",["A","=","many"]),("out",["out","A"]),("each",["each","I"]),("span",["span","I","B","C"]),("if",["if","A"]),("else",["else"]),("end",["end"])]
def oR (K:Φ) (H:Hp) (fas:List Addr) (fs:List (Str×List Str)):Prop:=fas.length=fs.length/\∀(i:Nat) (fa:Addr) (f:Str×List Str),fas[i]?=some fa->fs[i]?=some f->∃ga,SqT K H fa [.str f.1,.ref ga]/\SqT K H ga (f.2.map V.str)
def txN (n:Nat):Str:=ζ (toString (n:Int))
theorem eR(n:Nat):(txN n).cps.toList=(Nat.toDigits 10 n).map Char.toNat:=PySem.W.KIN.signs_num n
theorem eM(n:Nat):∀c∈(txN n).cps.toList,48<=c/\c<=57:=by
 rw[eR];intro c hc;obtain⟨d,hd,rfl⟩:=jz.mp hc;exact PyProof.Rows.digit_range (Nat.isDigit_of_mem_toDigits (by decide) (by decide) hd)
theorem gY{n:Nat}(h:n<4294967296):(txN n).length<=10:=by
 have e:(txN n).length=(txN n).cps.toList.length:=by rw[lh];rfl
 rw[e,eR,δ];exact PyProof.Rows.digits10_le (by decide) (by omega)
theorem uZ(n:Nat): 1<=(txN n).length:=by
 have e:(txN n).length=(txN n).cps.toList.length:=by rw[lh];rfl
 rw[e,eR,δ];exact PyProof.Rows.tDigits_len_ge 10 n
theorem aPq:∀(k:Nat) (cs:List Nat),cs.length=k->(∀c∈cs,48<=c/\c<=57)->qr cs<10 ^ k
 |0,cs,hl,_=>by rw[ug.mp hl];decide
 |k+1,cs,hl,h=>by
  have hne:cs≠[]:=fun z=>by rw[z]at hl;cases hl
  have e:=List.dropLast_concat_getLast hne;have h1:=aPq k cs.dropLast (by rw[List.length_dropLast];omega) fun c hc=>h c ((List.dropLast_sublist cs).subset hc);have h2:=h _ (List.getLast_mem hne);rw[←e,PySem.NumText.digitsVal_snoc,Nat.pow_succ];omega
theorem aKa(h:(txN n).cps.toList[0]?=some 48):(txN n).length=1:=by
 have e:(txN n).length=(txN n).cps.toList.length:=by rw[lh];rfl
 have hd:=eM n;have hv:qr (txN n).cps.toList=n:=by rw[eR];exact PySem.W.KIN.val_back n
 have hl:(txN n).cps.toList.length=(Nat.toDigits 10 n).length:=by rw[eR,δ]
 cases ec:(txN n).cps.toList with
 |nil=>rw[ec]at h;cases h
 |cons c cs =>
  rw[ec]at h hd hv hl;cases h;rw[PySem.NumText.digitsVal_zero]at hv;have h1:=aPq cs.length cs rfl fun c hc=>hd c (Ω _ hc);rw[hv]at h1;rw[e,ec,χ]
  by_cases hz:cs.length=0
  ·rw[hz]
  ·have:=PyProof.Rows.digits10_le (k:=cs.length) (n:=n) (by omega) h1;rw[←hl,χ]at this;omega
theorem aLn(n:Nat):qr (txN n).cps.toList=n:=by rw[eR];exact PySem.W.KIN.val_back n
theorem aFi{n:Nat}(h:n<4294967296):xm (txN n)=some (n:Int):=PySem.W.KIN.num_reads (by omega) (by omega)
theorem aOa(a b k:Nat):(a &&& b) / 2 ^ k % 2=(a / 2 ^ k % 2)*(b / 2 ^ k % 2):=by
 have h:=Nat.testBit_and a b k;rw[uc,uc,uc]at h;rcases qf (a / 2 ^ k) with ha|ha <;> rcases qf (b / 2 ^ k) with hb|hb <;> rcases qf ((a &&& b) / 2 ^ k) with hc|hc <;> rw[ha,hb,hc]at h ⊢ <;> simp at h ⊢
theorem aJm(a b k:Nat):(a &&& b) % 2 ^ (k+1)=(a &&& b) % 2 ^ k+(a / 2 ^ k % 2)*(b / 2 ^ k % 2)*2 ^ k:=by
 rw[Nat.mod_pow_succ,aOa,Nat.mul_comm]
theorem aMt(x:Nat):kh (x:Int) 1=((x % 2:Nat):Int):=by
 unfold kh;rw[decide_eq_true (show(0:Int)<=(x:Int) by omega)];show(((x:Int).toNat &&& (1:Int).toNat:Nat):Int)=_;rw[ub];show((x &&& 1:Nat):Int)=_;rw[Nat.and_one_is_mod]
theorem aEs(x y:Nat):kh (x:Int) (y:Int)=((x &&& y:Nat):Int):=by
 unfold kh;rw[decide_eq_true (show(0:Int)<=(x:Int) by omega),decide_eq_true (show(0:Int)<=(y:Int) by omega)];show(((x:Int).toNat &&& (y:Int).toNat:Nat):Int)=_;rw[ub,ub]
section
variable {X:Cx}
theorem aLo{h0:ExceptHandler}{hs:List ExceptHandler}(hb:PSs X body tb)(he:PSs X orelse te)(hx:∀v s,X.xe v s->False:=by intro _ _ h;exact h):PS X (.Try body (h0::hs) orelse [] pos) (vB tb te):=by
 intro pins s σ H D I h;refine wpAny_Try_except (md (hb pins s σ H { D with nx:=te D } I h) (fun f s1 hf=>?_) fun ev s1 z=>(hx _ _ z).elim);cases f with
 |next =>
  obtain⟨σ',H',J,q⟩:=hf;exact he pins s1 σ' H' D J q
 |ret v=>exact hf
 |brk=>exact hf
 |cont=>exact hf
theorem aBb : ∀{xs:List V}{us:List Value},jY xs us->RelV y u->∀i:Nat,jY (xs.take i++y::xs.drop i) (us.take i++u::us.drop i)
 |_,_,.nil,ru,i=>by rw[List.take_nil,List.drop_nil,List.take_nil,List.drop_nil];exact .cons ru .nil
 |_,_,.cons r rs,ru,0=>.cons ru (.cons r rs)
 |_,_,.cons r rs,ru,i+1=>.cons r (aBb rs ru i)
def aHa:V->List V->Hp->VK->Prop:=fun x vs H Q=>∃(l:Addr) (xs:List V) (y:V) (i:Nat) (j:Int),x=.ref l/\vs=[.int j,y]/\j=i/\H l=some (.lst xs)/\i<=xs.length/\xs.length<ξ/\Q .non (upd H l (.lst (xs.take i++y::xs.drop i)))
theorem aRx{its:List Value}{i:Nat}{x:Int}{u:Value}(hx:x=i)(hi:i<=its.length)(hz:its.length<ξ):Meets (pd.«list.insert» ⟨[.ref l,.int x t0,u],[]⟩) (fun _ R s=>s.heap.get? l=some { cls:=.type "list",dict:=none,data:=.seq its.toArray n,slots:=#[] }/\∀f:Array Value->Array Value,f its.toArray=(its.take i++u::its.drop i).toArray->R (.ok (.ret se)) { s with heap:=s.heap.update l (wu f),toks:=s.toks }):=by
 have hz':its.length<16777216:=by rw[jc]at hz;exact hz
 have hfit:pd.List.listFitsIndex x=true:=by
  unfold pd.List.listFitsIndex;rw[jo];exact⟨decide_eq_true (by omega),decide_eq_true (by omega)⟩
 have hm:=PySem.AutoSeq1.list_insert_list_int_val_1 l its.toArray n x t0 u (fun z=>by rw[hfit]at z;cases z) (by rw[υ];exact tm hz);refine fun prog w A R s ⟨h1,h2⟩=>hm prog w A R s ⟨h1,h2 _ ?_⟩;dsimp only;rw[if_neg (by omega),show x.toNat=i by omega,υ,tf hi];apply Array.toList_inj.mp;simp;exact li (by rw[vp];exact ι _)
theorem aCh:MtM X "list.insert" aHa:=by
 intro pins s σ H x vs v us Q I rx rv h;obtain⟨l,xs,y,i,j,rfl,rfl,hj,hH,hi,hz,q⟩:=h;cases rx;obtain⟨u0,u,rfl,⟨t0,rfl⟩,ru⟩:=rv.two;obtain⟨z,its,n,r,hl,e⟩:=I.lstM hH;have hlen:=r.length;refine vj F.slot_list_insert ⟨_,e,rfl⟩ F.entry_list_insert (F.args_list_insert_3 _ _ _) (aRx (n:=n) (i:=i) hj (hlen ▸ hi) (hlen ▸ hz)) ⟨e,fun f hf=>?_⟩;refine⟨.non,_,I.lset (its':=its.take i++u::its.drop i) hH e hf (aBb r ru i) ?_,rfl,q⟩;rw[θ,χ,ji,vp];omega
theorem tG:∀{ss:List Str}{us:List Value},jY (ss.map V.str) us->StrsAre us ss
 |[],us,h=>by cases h;exact .nil
 |x::ss,us,h=>by
  rw[ju]at h;cases h with
  |cons r rs =>
   obtain⟨t,rfl⟩:=r;exact .cons _ _ (tG rs)
theorem aCo(h:StrsAre us ss):jY (ss.map V.str) us:=by
 induction h with
 |nil=>exact .nil
 |cons y t _ ih=>exact .cons ⟨t,rfl⟩ ih
theorem uH:vN X (.builtin "sorted") (fun xs H Q=>∃(a:Addr) (ss:List Str),xs=[.ref a]/\SqL X.K H a (ss.map V.str)/\ss.length<64/\∀(l:Addr) (ss':List Str),ss'.Perm ss->H l=none->Q (.ref l) (upd H l (.lst (ss'.map V.str)))):=by
 intro pins s σ H xs us Q I r h;obtain⟨a,ss,rfl,hS,hl,q⟩:=h;obtain⟨u,rfl,ru⟩:=r.one;cases ru;obtain⟨its,rv,pl,_⟩:=I.list hS;have hlen:=rv.length;rw[δ]at hlen;refine sorted_strs pl.isList (tG rv) (by omega) fun out ss' h1 hp _=>?_;have hf:H (s.heap.objs.size+1)=none:=I.hok.fresh (vi _);obtain⟨e,he⟩:=sortedAll_at s.heap its out;have hv:=aCo h1;refine⟨.ref (s.heap.objs.size+1),_,I.laid (t':=s.toks) (fun b o z=>sortedAll_old z) (vi _) ?_,rfl,q _ ss' hp hf⟩;have hz:(ss'.map V.str).length<=ξ:=by rw[δ,hp.length_eq,jc];omega
 exact⟨hz,out.toList,e,hv,by simpa [seqObj] using he⟩
theorem pQ:vN X (.type "dict") (fun xs H Q=>∃(a:Addr) (kvs:List (Key×V)),xs=[.ref a]/\H a=some (.dK kvs)/\∀l,H l=none->Q (.ref l) (upd H l (.dK kvs))):=by
 intro pins s σ H xs us Q I r h;obtain⟨a,kvs,rfl,ha,q⟩:=h;obtain⟨u,rfl,ru⟩:=r.one;cases ru;obtain⟨z,hd,vs,rel,dd⟩:=mS I.hok ha;refine kt_call_dict hd dd (by rw[←rel.length];exact z) fun h' dd' hs=>?_;refine⟨.ref s.heap.objs.size,_,I.laid (t':=s.toks) (fun b o e=>?_) (ι _) (cZ z (beq_eq_false_iff_ne.mpr (kc (ir I.big))) rel dd'),rfl,q _ (I.hok.fresh (ι _))⟩;exact(hs.2 b (ir (ψ e))).trans (ν _ e)
end
section
variable {P:ki}{w:mx}{A:lg}{R:Result->μ->Prop}
def aOk (ps:List (Str×Value)) (kvs:List (Key×Value)):List (Key×Value):=ps.foldl (fun acc p=>stored acc (.inr p.1) p.2) kvs
def PrAt (h:ky) (its:List Value) (ps:List (Str×Value)):Prop:=its.length=ps.length/\∀(j:Nat) (x:Str) (v:Value),ps[j]?=some (x,v)->∃(t:Addr) (tk:Tok),its[j]?=some (.ref t)/\IsTup h t #[.str x tk,v]
theorem aSq{it l d:Addr}{its:List Value}{ps:List (Str×Value)}(hh:A.handled=none)(nl:l≠it)(nd:l≠d)(nx:it≠d)(hb:ps.length<=100):
  ∀(m n:Nat) (i:Int) (kvs:List (Key×Value)) (s:μ),ps.length-n=m->n<=ps.length->kvs.length<=n->s.heap.IsListIter it l n->s.heap.IsList l its.toArray->PrAt s.heap its ps->(∀(j:Nat) (t:Addr),its[j]?=some (.ref t)->t≠it/\t≠d)->s.heap.DictOf (kJ P w) d kvs →
   (∀(h':ky) (tk:Nat),h'.DictOf (kJ P w) d (aOk (ps.drop n) kvs)->(∀c o,c≠it->c≠d->s.heap.get? c=some o->h'.get? c=some o)->R (.ok (.ret .none)) { s with heap:=h',toks:=tk }) →
   codeAny (je P w) A (.builtin "dict.update.loop" ⟨[.ref d,.ref it,rawInt i,.none],[]⟩) R s:=by
 intro m
 induction m with
 |zero =>
  intro n i kvs s hm hn hk hit hl hp ha dd hR;have hin:n=ps.length:=by omega
  refine uy eK ?_;rw[qq xU _];show Ξ _ A.in1 (vc (.ref it) >>= _) _ _ s;refine ε (xx hh hit hl (by rw[hin,←hp.1];simp) fun g fr=>?_);show Ξ _ _ (pd.Dict.addKeywords d [] >>= _) _ _ _;refine ε (ω (ω ?_));refine hR g s.toks ?_ fun c o h1 _ e=>fr c o h1 e;rw[xu (by omega)];obtain⟨o,es,ep,ho,rest⟩:=dd;exact⟨o,es,ep,fr _ _ (kc nx) ho,rest⟩
 |succ m ih =>
  intro n i kvs s hm hn hk hit hl hp ha dd hR;have hlt:n<ps.length:=by omega
  have hpn:ps[n]?=some (ps[n].1,ps[n].2):=π hlt;obtain⟨t,tk,hi,htup⟩:=hp.2 n _ _ hpn;obtain⟨n1,n2⟩:=ha n t hi;refine uy eK ?_;rw[qq xU _];show Ξ _ A.in1 (vc (.ref it) >>= _) _ _ s;refine ε (xi hit hl (by simpa using hi) fun g hit' sb=>?_);show Ξ _ _ (uf [jm t] _ >>= _) _ _ _;have kg:∀c o,c≠it->s.heap.get? c=some o->g.get? c=some o:=fun c o hc e=>(sb.2 c hc).trans e;obtain⟨ot,hot,oc,on,od⟩:=htup;have hot':=kg _ _ n1 hot;refine ε (kf (ε (wpAny_tryCatch ?_)));unfold pd.Dict.pairItems;have hT:({ s with heap:=g } : μ).TypeIs (.ref t) "tuple":=⟨_,hot',oc⟩;refine ε (wpAny_typeOf hT ?_);rw[if_pos (by decide)];refine ε (ny hot' od (ω ?_));show Ξ _ _ (uf [Value.str ps[n].1 tk,ps[n].2] (dictSet d (.str ps[n].1 tk) ps[n].2)) _ _ _;have dd':g.DictOf (kJ P w) d kvs:=by
   obtain⟨o,es,ep,ho,rest⟩:=dd;exact⟨o,es,ep,kg _ _ (kc nx) ho,rest⟩
  refine kf (wpAny_dictSet_pairs (knd:=kJ P w) (k:=jj ps[n].1) (eZ (k:=jj ps[n].1) ⟨tk,rfl⟩) dd' (fun h' dd2 sb2=>?_) (by rw[jc];omega));have ls:(stored kvs (jj ps[n].1) ps[n].2).length<=n+1:=by
   unfold stored
   split
   ·rw[δ];omega
   ·rw[θ,km];omega
  have kp:∀c o,c≠d->g.get? c=some o->h'.get? c=some o:=fun c o hc e=>sb2.extBut _ _ hc e;have kk:∀c o,c≠it->c≠d->s.heap.get? c=some o->h'.get? c=some o:=fun c o h1 h2 e=>kp _ _ h2 (kg _ _ h1 e);obtain⟨oi,hoi,ri⟩:=hit';obtain⟨ol,hol,rl⟩:=hl;have hp':PrAt h' its ps:=⟨hp.1,fun j x v e=>by
   obtain⟨t',tk',h1,o',h2,r'⟩:=hp.2 j x v e;obtain⟨m1,m2⟩:=ha j t' h1;exact⟨t',tk',h1,o',kk _ _ m1 m2 h2,r'⟩⟩
  refine ω ⟨wk xU _,ih (n+1) (i+1) _ _ (by omega) (by omega) ls ⟨oi,kp _ _ nx hoi,ri⟩ ⟨ol,kk _ _ nl nd hol,rl⟩ hp' ha dd2 fun h2 tk' dd3 fr2=>?_⟩;refine hR h2 tk' ?_ fun c o h1 h3 e=>fr2 c o h1 h3 (kk _ _ h1 h3 e);rw[ou hlt];exact dd3
theorem wS{A:lg}{s:μ}{a:Addr}{sl:Array (Option Value)}{Q:Option Value->μ->Prop}
  (hx:s.heap.get? a=some { cls:=.type "list",dict:=none,data:=.seq xs k,slots:=sl })(hA:A.handled=none)
  (h:∀h' tk e,ky.NewExcOf s.heap h' e "AttributeError"->Q none { s with heap:=h',toks:=tk }):
  Ξ (je prog w) A (getAttr? (.ref a) "keys") Q E s:=by
 have am:typeLookup (.type "list") "keys" = pure none:=by rw[typeLookup_type,yb];kernel_rfl
 obtain⟨hp,g,d,tk,os⟩:=s;have hT:∀tk',(⟨hp,g,d,tk',os⟩ : μ).TypeIs (.ref a) "list":=fun _=>⟨_,hx,rfl⟩;have f1:=sub_AttributeError;have f3:=wm.lookup;have f4:=wm.bind (.ref a);have f5:=am_list_getattr_none;unfold getAttr? getAttrBy? getAttrBy
 repeat (any_goals (first|assumption|exact hT _|((with_reducible show Ξ _ _ (call (Value.builtin "list.__getattribute__") _ _) _ _ _);refine vj wm (hT _) am_entry_list_getattribute (F.args_list_getattribute_2 _ _) (meets_getattribute_miss_list a xs k sl "keys" _ am (by decide) (by size_fits)) ⟨hx,hA,fun h' tk' e hx'=>?_⟩)|wp_step))
 obtain⟨t',u',he⟩:=hx'.there;show Ξ _ _ (ww _ _ _ _ _ _ _) _ _ _;unfold ww
 repeat (any_goals (first|assumption|wp_step))
 exact h _ _ _ hx'.of
end
section
variable {X:Cx}
inductive Ppr:List (Str×V)->List (Str×Value)->Prop
 |nil:Ppr [] []
 |cons {x:Str}{y:V}{u:Value}{ps:List (Str×V)}{us:List (Str×Value)} : RelV y u->Ppr ps us->Ppr ((x,y)::ps) ((x,u)::us)
theorem aKd(h:Ppr ps us):∀{kvs:List (Key×V)}{vs:List (Key×Value)},KV kvs vs->KV (qY kvs (ps.map fun p=>((.inr p.1:Key),p.2))) (aOk us vs):=by
 induction h with
 |nil=>intro kvs vs r;exact r
 | @cons x y u ps us ry _ ih=>intro kvs vs r;exact ih (r.put (.inr x) ry)
theorem Ppr.len(h:Ppr ps us):ps.length=us.length:=by
 induction h with
 |nil=>rfl
 |cons _ _ ih=>rw[χ,χ,ih]
theorem aJs : ∀{its:List Value}{ts:List Addr}{ps:List (Str×V)},jY (ts.map V.ref) its->ts.length=ps.length->(∀(j:Nat) (t:Addr) (p:Str×V),ts[j]?=some t->ps[j]?=some p->∃tk u,RelV p.2 u/\IsTup h t #[.str p.1 tk,u])->∃us,Ppr ps us/\PrAt h its us
 |_,[],[],r,_,_=>by
  cases r;exact⟨[],.nil,rfl,fun j x v e=>by simp at e⟩
 |_,[],_::_,_,hl,_=>by simp at hl
 |_,_::_,[],_,hl,_=>by simp at hl
 |_,t::ts,(x,y)::ps,r,hl,hT=>by
  rw[ju]at r;cases r with
  | @cons _ u _ us' ru rs =>
   obtain rfl:u=.ref t:=ru;obtain⟨tk,v,rv,ht⟩:=hT 0 t (x,y) rfl rfl;obtain⟨us,h1,h2,h3⟩:=aJs rs (by simpa using hl) fun j t' p e1 e2=>hT (j+1) t' p e1 e2;refine⟨(x,v)::us,.cons rv h1,by rw[χ,χ,h2],fun j x' v' e=>?_⟩;cases j with
   |zero=>cases e;exact⟨t,tk,rfl,ht⟩
   |succ j=>exact h3 j x' v' e
theorem aCm(hc:X.calm=true):vN X (.type "dict") (fun xs H Q=>∃(a:Addr) (ts:List Addr) (ps:List (Str×V)),xs=[.ref a]/\SqL X.K H a (ts.map V.ref)/\ts.length=ps.length/\(∀(j:Nat) (t:Addr) (p:Str×V),ts[j]?=some t->ps[j]?=some p->SqT X.K H t [.str p.1,p.2])/\ps.length<=100/\∀l,H l=none->Q (.ref l) (upd H l (.dK (qY [] (ps.map fun p=>((.inr p.1:Key),p.2)))))):=by
 intro pins s σ H xs us Q I r h;obtain⟨a,ts,ps,rfl,hS,hl,hT,hb,q⟩:=h;obtain⟨u,rfl,ru⟩:=r.one;cases ru;obtain⟨its,rv,pl,_⟩:=I.list hS;obtain⟨ol,nn,hol,hcl,hdt,hdc⟩:=id pl;have hsl:∃sl,ol={ cls:=.type "list",dict:=none,data:=.seq its.toArray nn,slots:=sl }:=by
  obtain⟨c,dct,dat,sl⟩:=ol;simp only at hcl hdt hdc;exact⟨sl,by rw[hcl,hdt,hdc]⟩
 obtain⟨sl,rfl⟩:=hsl;obtain⟨us,pp,pr⟩:=aJs (h:=s.heap) rv hl fun j t p e1 e2=>by
  obtain⟨is,r2,ht,_⟩:=I.tuple (hT j t p e1 e2);obtain⟨u1,u2,rfl,⟨tk,rfl⟩,rb⟩:=r2.two;exact⟨tk,u2,rb,ht⟩
 have hdd:=I.ok.hd hc;refine callType_codes (Q₁:=fun obj s₁=>obj=.ref s.heap.objs.size/\s₁ = { s with heap:=s.heap.push { cls:=.type "dict",data:=.dict #[] } }) F.kt_called_dict (F.kt_typeCall_dict_1 _) F.entry_dict_init (kt_code_dict_new _ ⟨rfl,rfl⟩) ?_;rintro obj s₁ ⟨rfl,rfl⟩;have hnew:(s.heap.push { cls:=.type "dict",data:=.dict #[] }).DictOf (kJ X.prog X.w) s.heap.objs.size []:=ky.DictOf.new s.heap;have up:∀c o,s.heap.get? c=some o->(s.heap.push { cls:=.type "dict",data:=.dict #[] }).get? c=some o:=fun c o e=>ν _ e;have ho':=up _ _ hol;refine⟨hnew.typeIs,F.args_dict_init_2 _ _,?_⟩;unfold pd.«dict.__init__»;refine ε ?_;unfold pd.Dict.selfAndRest;refine ε (vd hnew.typeIs ?_);show Ξ _ _ (pure (s.heap.objs.size,[jm a])) _ _ _;refine ω ?_;show Ξ _ _ (ui "dict.__init__" s.heap.objs.size (.ref a) [] .none) _ _ _;unfold ui;refine ε (wpAny_typeOf (T:="list") ⟨_,ho',rfl⟩ ?_);rw[if_pos (by decide)];refine ε (wS ho' hdd fun h1 tk e ne=>?_);simp only[Option.isNone_none,if_true];have kp:∀c o,s.heap.get? c=some o->h1.get? c=some o:=fun c o q=>ne.keeps _ _ (up _ _ q);refine ε (wpAny_rule ?_);refine ε (oz (⟨_,kp _ _ hol,rfl,nn,rfl⟩ : h1.IsList a its.toArray) ?_);have dd1:h1.DictOf (kJ X.prog X.w) s.heap.objs.size []:=by
  obtain⟨o,es,ep,ho,rest⟩:=hnew;exact⟨o,es,ep,ne.keeps _ _ ho,rest⟩
 have l1:s.heap.objs.size<h1.objs.size:=by
  obtain⟨o,es,ep,ho,_⟩:=dd1;exact ψ ho
 have lt:∀{c:Addr}{o:Obj},s.heap.get? c=some o->c≠s.heap.objs.size/\c≠h1.objs.size:=fun {c o} e=>⟨ir (ψ e),ir (Nat.lt_trans (ψ e) l1)⟩;have kq:∀c o,s.heap.get? c=some o->(h1.push { cls:=.type "list_iterator",data:=.fields #[.ref a,.int 0 0] }).get? c=some o:=fun c o e=>ν _ (kp _ _ e);have hl':=pp.len;refine ω ⟨wk xU _,aSq (A:=X.A.in1) (it:=h1.objs.size) (l:=a) (its:=its) (ps:=us) hdd (lt hol).2 (lt hol).1 (kc (ir l1)) (by omega) us.length 0 0 [] _ rfl (jg _) (ι _) ⟨_,iw _ rfl,rfl,rfl⟩ ⟨_,kq _ _ hol,rfl,nn,rfl⟩ ⟨pr.1,fun j x v e=>?_⟩ (fun j t e=>?_) (dd1.push _) fun h' tk' dd fr=>⟨rfl,?_⟩⟩
 ·obtain⟨t,tk,h2,o,h3,r3⟩:=pr.2 j x v e;exact⟨t,tk,h2,o,kq _ _ h3,r3⟩
 ·obtain⟨hj,_⟩:=η.mp e;have hj':j<us.length:=by rw[←pr.1];exact hj
  obtain⟨t',tk,h2,o,h3,r3⟩:=pr.2 j us[j].1 us[j].2 (π hj');rw[e]at h2;cases h2;exact⟨(lt h3).2,(lt h3).1⟩
 ·have kv:=aKd pp (kvs:=[]) (vs:=[]) .nil;rw[List.drop_zero]at dd;refine⟨.ref s.heap.objs.size,_,I.laid (fun b o e=>fr b o (lt e).2 (lt e).1 (kq _ _ e)) (ι _) (cZ ?_ (beq_eq_false_iff_ne.mpr (kc (ir I.big))) kv dd),rfl,q _ (I.hok.fresh (ι _))⟩;have:=xO (ps.map fun p=>((.inr p.1:Key),p.2)) [];rw[δ,List.length_nil]at this;rw[jc];omega
def aSy (tl:TE):TI:=fun σ H R=>tl σ H fun x H1=>∃a kvs,x=.ref a/\((H1 a=some (.dK kvs)/\∀o,R (Itd a o kvs) (upd H1 a (.frz o (.dK kvs))))\/∃o,H1 a=some (.frz o (.dK kvs))/\R (Itd a o kvs) H1)
theorem aAj(hl:PE X l tl):PI X tg l (aSy tl):=by
 intro pins s σ H R I h;refine thn (hl pins s σ H _ I h) fun v s1 zq=>?_;obtain⟨x,H1,I1,r1,q1⟩:=zq;obtain⟨a,kvs,e,q⟩:=q1;subst e;cases r1;have go:∀(H2:Hp) (o:Obj),Inv X pins σ H2 s1->H2 a=some (.frz o (.dK kvs))->R (Itd a o kvs) H2->Ξ (je X.prog X.w) X.A (pyIter (.ref a)) (PIE X pins σ tg R) X.xe s1:=fun H2 o I2 e q=>by
  obtain⟨hd,vs,rel,dd⟩:=uD I2.hok e;have hl:kvs.length=vs.length:=ud rel;refine wpAny_pyIter_dict hd dd ?_;refine⟨s1.heap.objs.size,[s1.heap.objs.size],_,_,_,rfl,I2.kept (t':=s1.toks) fun b o e=>ν _ e,tX a _ o kvs,⟨_,iw _ rfl,rfl,?_⟩,fun b hb=>?_,q⟩
  ·rw[hl];rfl
  have e:b=s1.heap.objs.size:=by simpa using hb
  subst e;exact I2.fpOk (ι _) (I2.hok.fresh (ι _))
 rcases q with⟨hq,q⟩|⟨o,hq,q⟩
 ·obtain⟨o,ho,I2⟩:=I1.frozen hq;exact go _ o I2 jI (q o)
 ·exact go _ o I1 hq q
theorem Inv.dkzR(I:Inv X pins σ H s)(h:Rd H a (.dK (ja (fun k v=>((.inr k:Key),v)) ks xs)))(hl:ks.length=xs.length):(a == mi)=false/\∃us:List Value,jY xs us/\s.heap.DictOf (kJ X.prog X.w) a (ja (fun k v=>((.inr k:Key),v)) ks us):=by
 obtain⟨_,hsm,vs,kv,dd⟩:=mR I.hok h;have:∀(ks:List Str) (xs:List V) (vs:List (Key×Value)),ks.length=xs.length->KV (ja (fun k v=>((.inr k:Key),v)) ks xs) vs->∃us,jY xs us/\vs=ja (fun k v=>((.inr k:Key),v)) ks us:=by
  intro ks
  induction ks with
  |nil=>intro xs vs e h;cases xs with
   |nil=>cases h;exact⟨[],.nil,rfl⟩
   |cons _ _=>cases e
  |cons k ks ih=>intro xs vs e h;cases xs with
   |nil=>cases e
   |cons x xs =>
    have h':KV (((.inr k:Key),x)::ja (fun k v=>((.inr k:Key),v)) ks xs) vs:=h;cases h' with
    | @cons p q ps qs h1 h2 =>
     obtain⟨us,r,e2⟩:=ih xs qs (vt e) h2;refine⟨q.2::us,.cons h1.2 r,?_⟩;rw[e2];show q::_=((.inr k:Key),q.2)::_;have:q.1=(.inr k:Key):=h1.1.symm;rw[←this]
 obtain⟨us,r,e⟩:=this ks xs vs hl kv;exact⟨hsm,us,r,e ▸ dd⟩
theorem aMr(hu:X.A.units+64<sd):OpR X (lm .NotEq) (fun x y H Q=>∃(a b:Addr) (ks:List Str) (xs:List V) (ds:List jx),x=.ref a/\y=.ref b/\Rd H a (.dK (ja (fun k v=>((.inr k:Key),v)) ks xs))/\Rd H b (.dK (ja (fun k v=>((.inr k:Key),v)) ks xs))/\ks.length=xs.length/\Dts false X.K H xs ds/\lr ds<=50/\Q (.bl false) H):=by
 intro pins s σ H x y v u Q I rx ry h;obtain⟨a,b,ks,xs,ds,rfl,rfl,h,h',l,d1,hd,q⟩:=h;cases rx;cases ry;obtain⟨n1,us,rv,dd1⟩:=I.dkzR h l;obtain⟨n2,us',rv',dd2⟩:=I.dkzR h' l;have e3:us.length=us'.length:=by rw[←rv.length,←rv'.length]
 obtain⟨_,_,_,_,_,_,_,_,nd⟩:=id dd2;exact cmpP true n1 n2 dd1 dd2 (by simp[e3]) (by omega) (Inv.hits nd e3 (Inv.eqTs I (A:=X.A.in1) d1 rfl d1 rv rv' (by show X.A.units+1+_<sd;omega))) ⟨.bl false,H,I,rfl,q⟩
end
end L2
namespace K36
open PySem L2
theorem cK : 0<=ξ:=by decide
theorem aKx : 1<=ξ:=by decide
theorem xM : 2<=ξ:=by decide
theorem mF : 3<=ξ:=by decide
theorem aIr : 4<=ξ:=by decide
theorem aKz : 5<=ξ:=by decide
def top (i : Nat) : Stmt := PySem.Challenge.pw_roomslaid_k36_words_reckoned.main.body.getD i (.Pass ⟨0,0,0,0⟩)
def inClass:Stmt->Nat->Stmt
 |.ClassDef _ _ _ body _ _ _ _ _ _ _,j=>body.getD j (.Pass ⟨0,0,0,0⟩)
 |s,_=>s
theorem vR{c A B:Prop}[Decidable c](hc:c)(h:A):if c then A else B:=by rw[if_pos hc];exact h
theorem qR{c A B:Prop}[Decidable c](hc:¬ c)(h:B):if c then A else B:=by rw[if_neg hc];exact h
structure Blt (mg:Str->Option Value):Prop where
 range:mg "range" = none
 len:mg "len" = none
 isinstance:mg "isinstance" = none
 int:mg "int" = none
 bool:mg "bool" = none
 list:mg "list" = none
 all:mg "all" = none
 max:mg "max" = none
 min:mg "min" = none
 reversed:mg "reversed" = none
 tuple:mg "tuple" = none
 divmod:mg "divmod" = none
 str:mg "str" = none
 sum:mg "sum" = none
 zip:mg "zip" = none
 enumerate:mg "enumerate" = none
 dict:mg "dict" = none
 sorted:mg "sorted" = none
structure Df (K:Φ) (mg:Str->Option Value) (x:Str) (f:Addr) (fd:tu) (ps:List Str):Prop where
 m:mg x=some (.ref f)
 k:keepIn K (.ref f)=true
 b:Binds K fd ps []
def St3 (H:Hp) (p:Addr):Prop:=∃a b c:Int,H p=some (.lst [.int a,.int b,.int c])
def Drawn (p:Addr) (H H':Hp):Prop:=St3 H' p/\∀b o,b≠p->H b=some o->H' b=some o
theorem Drawn.trans(a:Drawn p H H1)(b:Drawn p H1 H2):Drawn p H H2:=⟨b.1,fun c o n h=>b.2 c o n (a.2 c o n h)⟩
theorem Drawn.refl(h:St3 H p):Drawn p H H:=⟨h,fun _ _ _ q=>q⟩
theorem Drawn.new{H1:Hp}(a:Drawn p H H1)(hl:H1 l=none):Drawn p H (upd H1 l o):=by
 obtain⟨⟨x,y,z,e⟩,h⟩:=a;refine⟨⟨x,y,z,by rw[jT (jG e hl)];exact e⟩,fun b u n q=>?_⟩;have:=h b u n q;rw[jT (jG this hl)];exact this
theorem Drawn.same{H:Hp}(a:Drawn p H H')(hp:H p=none):jH H H':=fun b o h=>a.2 b o (jG h hp) h
theorem xY{H:Hp}(h:H p=none)(o:HO):jH H (upd H p o):=fun b u q=>by rw[jT (jG q h)];exact q
theorem aAq(ns:List Int){i:Int}(h0 : 0<=i)(h1:i<ns.length):∃v:Int,atI (ns.map V.int) i=some (.int v):=by
 have hk:i.toNat<ns.length:=by omega
 have e:i=((i.toNat:Nat):Int):=by omega
 have q:atI (ns.map V.int) ((i.toNat:Nat):Int)=some (.int ns[i.toNat]):=yE (by rw[jv,π hk] <;> rfl);rw[←e]at q;exact⟨_,q⟩
theorem small{n:Nat}(h:n<=1000):n<=ξ:=tm (qM h)
def aFb (K:Φ):Sp:=fun vs H Q _=>∃(a:Addr) (ns:List Int),vs=[.ref a]/\SqL K H a (ns.map V.int)/\ns.length<=63/\∀H',Q (.bl true) H'
theorem jH.tup{K:Φ}{H H':Hp}{a:Addr}{xs:List V}(e:jH H H')(h:SqT K H a xs):SqT K H' a xs:=by
 rcases h with (h|⟨o,h⟩)|h
 ·exact .inl (.inl (e _ _ h))
 ·exact .inl (.inr ⟨o,e _ _ h⟩)
 ·exact .inr h
theorem Drawn.tup{K:Φ}{p:Addr}{H H':Hp}{a:Addr}{xs:List V}(hs:St3 H p)(e:Drawn p H H')(h:SqT K H a xs):SqT K H' a xs:=by
 obtain⟨x,y,z,hp⟩:=hs;rcases h with (h|⟨o,h⟩)|h
 ·exact .inl (.inl (e.2 _ _ (fZ h hp (by intro z;cases z)) h))
 ·exact .inl (.inr ⟨o,e.2 _ _ (fZ h hp (by intro z;cases z)) h⟩)
 ·exact .inr h
structure fM (K:Φ) (mg:Str->Option Value) (x:Str) (C fI:Addr) (as:List Str):Prop where
 m:mg x=some (.ref C)
 cl:Cls K C
 ma:Mk K C fI
 na:∀a∈as,yM K C a
structure DfM (K:Φ) (C:Addr) (m:Str) (f:Addr) (fd:tu) (ps:List Str):Prop where
 me:aJw K C m f
 b:Binds K fd ps []
structure DfI (K:Φ) (fd:tu) (ps:List Str):Prop where
 b:Binds K fd ps []
structure TX (K:Φ) (mg:Str->Option Value) (x:Str) (C R fI:Addr) (as:List Str):Prop where
 m:mg x=some (.ref C)
 c:ExCl K C R fI
 x:XCls K C (.ref R::VB)
 n:∀a∈as,uj K (.ref C) a=some none
def Cal (P:ki) (w:mx) (K:Φ) (mg:Str->Option Value) (base:ky) (CX:CXT) (k:Nat) (x:Str) (sp:Sp):Prop:=∃f fd ps,Df K mg x f fd ps/\jU P w K mg base CX k f fd ps sp
def vG (P:ki) (w:mx) (K:Φ) (mg:Str->Option Value) (base:ky) (CX:CXT) (k:Nat) (C:Addr) (x:Str) (sp:Sp):Prop:=∃f fd ps,DfM K C x f fd ps/\jU P w K mg base CX k f fd ps sp
def xX (P:ki) (w:mx) (K:Φ) (mg:Str->Option Value) (base:ky) (CX:CXT) (k:Nat) (f:Addr) (sp:Sp):Prop:=∃fd ps,DfI K fd ps/\jU P w K mg base CX k f fd ps sp
section
variable {P:ki}{w:mx}{K:Φ}{mg:Str->Option Value}{base:ky}{CX:CXT}{j k:Nat}{x:Str}{sp:Sp}{f C:Addr}{fd:tu}{ps:List Str}
variable {f:Addr}{fd:tu}
theorem Cal.of(D:Df K mg x f fd ps)(F:jU P w K mg base CX k f fd ps sp):Cal P w K mg base CX k x sp:=⟨_,_,_,D,F⟩
theorem vG.of(D:DfM K C x f fd ps)(F:jU P w K mg base CX k f fd ps sp):vG P w K mg base CX k C x sp:=⟨_,_,_,D,F⟩
theorem xX.of(D:DfI K fd ps)(F:jU P w K mg base CX k f fd ps sp):xX P w K mg base CX k f sp:=⟨_,_,D,F⟩
theorem Cal.o(F:Cal P w K mg base CX j x sp)(h:j<=k:=by omega):Cal P w K mg base CX k x sp:=let ⟨_,_,_,D,G⟩:=F; ⟨_,_,_,D,G.mono h⟩
theorem vG.o(F:vG P w K mg base CX j C x sp)(h:j<=k:=by omega):vG P w K mg base CX k C x sp:=let ⟨_,_,_,D,G⟩:=F; ⟨_,_,_,D,G.mono h⟩
theorem xX.o(F:xX P w K mg base CX j f sp)(h:j<=k:=by omega):xX P w K mg base CX k f sp:=let ⟨_,_,D,G⟩:=F; ⟨_,_,D,G.mono h⟩
end
section
variable {X:Cx}{CX:CXT}{E:XK}{k:Nat}{x:Str}{sp:Sp}{C fI R:Addr}{as:List Str}{S:St->Prop}{e o:Expr}{es:List Expr}{t:TA}{ta:TE}{p pos:Pos}
theorem aSk(F:Cal X.prog X.w X.K X.mg X.base CX k x sp)(hr:vY k X.A)(hg:Gl X x)(hx:yH CX X E)(ha:PA X (e::es) t)(hdb:(x == ("__debug__" : Str))=false:=by decide)(he:iy (e::es) X.env=(false,eval e X.env)::iy es X.env:=by rfl)(hpl:(qh pos (iy es X.env)).any (·.1)=false:=by rfl):
  PE X (.Call (.Name x p) (e::es) [] pos) (wY sp [] E t):=let ⟨_,_,_,D,G⟩:=F;aNl G hr hg D.m D.k D.b .nil hx ha hdb he hpl
theorem xQ(he:PE X o ta)(c:Cls X.K C)(F:vG X.prog X.w X.K X.mg X.base CX k C m sp)(hr:vY k X.A)(hx:yH CX X E)
  (ht:eval (.Call (.Attribute o m apos) [] [] pos) X.env=(do
   let ov ←eval o X.env
   standAt apos.atName
   let (f,first) ←uf [ov] (wz ov m pl)
   callWith pos f first (qh pos (iy [] X.env)) (xj pos (ua [] X.env))):=by rfl):
  PE X (.Call (.Attribute o m apos) [] [] pos) (aFo C m sp [] E ta aIq):=let ⟨_,_,_,D,G⟩:=F;aHm he c D.me G hr D.b .nil hx ht
theorem lX(he:PE X o ta)(c:Cls X.K C)(F:vG X.prog X.w X.K X.mg X.base CX k C m sp)(hr:vY k X.A)(hx:yH CX X E)(ha:PA X (e::es) t)
  (hst:iy (e::es) X.env=(false,eval e X.env)::iy es X.env:=by rfl)(hpl:(qh pos (iy es X.env)).any (·.1)=false:=by rfl)
  (ht:eval (.Call (.Attribute o m apos) (e::es) [] pos) X.env=(do
   let ov ←eval o X.env
   standAt apos.atName
   let (f,first) ←uf [ov] (wz ov m pl)
   callWith pos f first (qh pos (iy (e::es) X.env)) (xj pos (ua [] X.env))):=by rfl):
  PE X (.Call (.Attribute o m apos) (e::es) [] pos) (aFo C m sp [] E ta t):=let ⟨_,_,_,D,G⟩:=F;aOf he c D.me G hr D.b .nil hx ha hst hpl ht
theorem yK(T:fM X.K X.mg x C fI as)(F:xX X.prog X.w X.K X.mg X.base CX k fI sp)(hr:vY (k+1) X.A)(hg:Gl X x)(hx:yH CX X E)
  (ha:PA X (e::es) t)(hdb:(x == ("__debug__" : Str))=false:=by decide)(he:iy (e::es) X.env=(false,eval e X.env)::iy es X.env:=by rfl)(hpl:(qh pos (iy es X.env)).any (·.1)=false:=by rfl):
  PE X (.Call (.Name x p) (e::es) [] pos) (aPc C sp [] E t):=let ⟨_,_,D,G⟩:=F;aNx T.ma G hr hg T.m D.b .nil hx ha hdb he hpl
end
section
variable {X:Cx}{k:Nat}{x:Str}{sp:Sp}{C fI:Addr}{as:List Str}{e o a b:Expr}{es:List Expr}{t:TA}{te ta tb:TE}{p p' pos:Pos}{r:R2}{op:CmpOp}{i:Nat}
theorem jK(F:Cal X.prog X.w X.K X.mg X.base CX0 k x sp)(hr:vY k X.A)(ha:PA X (e::es) t)(hg:Gl X x:=by rfl)(hdb:(x == ("__debug__" : Str))=false:=by decide)(he:iy (e::es) X.env=(false,eval e X.env)::iy es X.env:=by rfl)(hpl:(qh pos (iy es X.env)).any (·.1)=false:=by rfl):
  PE X (.Call (.Name x p) (e::es) [] pos) (wY sp [] E0 t):=aSk F hr hg qH ha hdb he hpl
theorem jV(hr:IxR X r)(ha:PE X a ta)(hb:PE X b tb)(hs:wF b:=by exact fun _ _=>rfl):PE X (.Subscript a b pos) (tOp r ta tb):=aPt hr ha hb hs
theorem jP(ho:OpR X (lm op) r)(ha:PE X a ta)(hb:PE X b tb)(h:op≠.In:=by decide)(h2:op≠.NotIn:=by decide):PT X (.Compare a [op] [b] pos) (aJr (tOp r ta tb)):=vF ho ha hb (xL _ h h2)
theorem jQ(i:Nat)(hN:X.N.Nodup)(he:PE X e te)(hi:X.N[i]?=some x:=by rfl)(hx:Loc X.env.scope x:=by first|exact Or.inl rfl|exact Or.inr rfl)(hs:swapsWith e (some (.Name x p')) pos.line X.env=pure false:=by rfl)(hf:X.fn x=true\/X.env.scope.names.lookup x=some .local:=by first|exact .inl rfl|exact .inr rfl|assumption):
  PS X (.Assign [.Name x p'] e pos) (aHb te (zS i)):=aEb hN hi hx he hs hf
theorem qJ(i:Nat)(hN:X.N.Nodup)(hi:X.N[i]?=some x:=by rfl)(hx:Loc X.env.scope x:=by exact Or.inl rfl)(hf:X.fn x=true\/X.env.scope.names.lookup x=some .local:=by first|exact .inl rfl|exact .inr rfl|assumption):PG X (.Name x pos) (zS i):=wB hN hi hx hf
theorem qN{ys:List Str}(hN:X.N=x::ys)(hx:Loc X.env.scope x:=by exact Or.inl rfl)(hd:(x::ys).Nodup:=by ac_rfl)(hf:X.fn x=true\/X.env.scope.names.lookup x=some .local:=by first|exact .inl rfl|exact .inr rfl|assumption):PG X (.Name x pos) (zS 0):=wB (i:=0) (hN ▸ hd) (by rw[hN];rfl) hx hf
theorem rF{y:Str}{ys:List Str}(hN:X.N=y::x::ys)(hx:Loc X.env.scope x:=by exact Or.inl rfl)(hd:(y::x::ys).Nodup:=by ac_rfl)(hf:X.fn x=true\/X.env.scope.names.lookup x=some .local:=by first|exact .inl rfl|exact .inr rfl|assumption):PG X (.Name x pos) (zS 1):=wB (i:=1) (hN ▸ hd) (by rw[hN];rfl) hx hf
theorem qP{c A B:Prop}[Decidable c](h:B)(hc:¬ c:=by decide):if c then A else B:=qR hc h
theorem fB{c A B:Prop}[Decidable c](h:A)(hc:c:=by decide):if c then A else B:=vR hc h
theorem fM.nd{K:Φ}{m:Str}(T:fM K mg x C fI as)(h:m∈as:=by decide):yM K C m:=T.na _ h
end
def ownL:List Str:=["shape","num","row","pick","tag","room","things","part","tags","put","take","many","look","which","store","choose","copy","each","span","if","else","end","out"]
abbrev zU:Str:="abcdefghijklmnopqrstuvwxyz"
abbrev aG:Str:="0123456789"
structure Cst (K:Φ) (mg:Str->Option Value) (t1 t2 t3 t4 t5 t6 t7 t8 t9 t10 t11 t12 t13 t14 t15 t16 t17 t18:Tok) (ts tNa tSi tBe tFo:Addr):Prop where
 SMALL_LETTERS:mg "SMALL_LETTERS" = some (.str "abcdefghijklmnopqrstuvwxyz" t1)
 FIGURES:mg "FIGURES" = some (.str "0123456789" t2)
 MOST_LETTERS:mg "MOST_LETTERS" = some (.int 6 t3)
 MOST_FIGURES:mg "MOST_FIGURES" = some (.int 10 t4)
 MOST_SHAPES:mg "MOST_SHAPES" = some (.int 8 t5)
 MOST_FIELDS:mg "MOST_FIELDS" = some (.int 6 t6)
 MOST_CELLS:mg "MOST_CELLS" = some (.int 64 t7)
 MOST_UNITS:mg "MOST_UNITS" = some (.int 40 t8)
 MOST_DEPTH:mg "MOST_DEPTH" = some (.int 4 t9)
 MOST_WIDTH:mg "MOST_WIDTH" = some (.int 4 t10)
 MOST_COUNT:mg "MOST_COUNT" = some (.int 6 t11)
 LEAST_PICKED:mg "LEAST_PICKED" = some (.int 2 t12)
 MOST_PICKED:mg "MOST_PICKED" = some (.int 4 t13)
 WORD_CELLS:mg "WORD_CELLS" = some (.int 4 t14)
 MOST_LINES:mg "MOST_LINES" = some (.int 60 t15)
 MOST_NAMES:mg "MOST_NAMES" = some (.int 12 t16)
 MOST_BEGUN:mg "MOST_BEGUN" = some (.int 3 t17)
 MOST_BUDGET:mg "MOST_BUDGET" = some (.int 5000 t18)
 NAMES:mg "NAMES" = some (.ref tNa)
 nams:∀H,SqT K H tNa (aI.map V.str)
 SIGNS:mg "SIGNS" = some (.ref tSi)
 sgns:∀H,SqT K H tSi (eW.map V.str)
 BEGINNINGS:mg "BEGINNINGS" = some (.ref tBe)
 begs:∀H,SqT K H tBe (begL.map V.str)
 FORMS:mg "FORMS" = some (.ref tFo)
 frms:∀H,∃fas:List Addr,SqT K H tFo (fas.map V.ref)/\oR K H fas aJ
 OWN_WORDS:mg "OWN_WORDS" = some (.ref ts)
 words:∀H,SqT K H ts (ownL.map V.str)
def tyA (K:Φ) (x:V) (H:Hp) (t:String):Prop:=tyN K x H t\/(t = "dict"/\∃p kvs,x=.ref p/\H p=some (.dK kvs))
theorem jH.tyA{K:Φ}(g:jH H H')(h:tyA K x H t):tyA K x H' t:=by
 rcases h with h|⟨e,p,kvs,ex,h⟩
 ·left;cases x with
  |ref p =>
   rcases h with⟨e,xs,h⟩|⟨e,xs,h⟩
   ·exact .inl ⟨e,xs,g.seq h⟩
   ·exact .inr ⟨e,xs,jH.tup g h⟩
  |_=>exact h
 ·exact .inr ⟨e,p,kvs,ex,g _ _ h⟩
def within (x:Str) (most:Int):Bool:=decide (1<=(x.length:Int))&&decide ((x.length:Int)<=most)
def aBi (x signs:Str):Bool:=x.cps.toList.all fun c=>decide (c∈signs.cps.toList)
def qB (x:Str):Bool:=within x 6&&aBi x zU&&!decide (x∈ownL)
def tZ (x:Str):Bool:=decide (x.cps.toList[0]?=some 48)&&decide (1<(x.length:Int))
def iG (x:Str):Option Int:=if (within x 10&&aBi x aG&&!tZ x)=true then some ((qr x.cps.toList:Nat):Int) else none
def optV:Option Int->V
 |none=>.non
 |some n=>.int n
def zB (o:Option Int) (lo hi:Int):Option Int:=match o with
 |none=>none
 |some n=>if lo<=n/\n<=hi then some n else none
def rO (K:Φ):Sp:=fun vs H Q _=>∃(x:V) (signs:Str) (most:Int),vs=[x,.str signs,.int most] ∧
 ((∃z:Str,x=.str z/\z.length<=1000/\∀H',jH H H'->Q (.bl (within z most&&aBi z signs)) H')\/(∃t,tyA K x H t/\t ≠ "str"/\Q (.bl false) H))
inductive pF (K:Φ) (vs:List V) (H:Hp) (Q:VK):Prop|mk:∀x:V,vs=[x]->(((∃z:Str,x=.str z/\z.length<=1000/\∀H',jH H H'->Q (.bl (qB z)) H')\/(∃t,tyA K x H t/\t ≠ "str"/\∀H',jH H H'->Q (.bl false) H')))->pF K vs H Q
def zT (K:Φ):Sp:=fun vs H Q _=>pF K vs H Q
inductive iI (K:Φ) (vs:List V) (H:Hp) (Q:VK):Prop|mk:∀(x:V) (lo hi:Int),vs=[x,.int lo,.int hi]->(((∃z:Str,x=.str z/\z.length<=1000/\∀H',jH H H'->Q (optV (zB (iG z) lo hi)) H')\/(∃t,tyA K x H t/\t ≠ "str"/\∀H',jH H H'->Q .non H')))->iI K vs H Q
def cF (K:Φ):Sp:=fun vs H Q _=>iI K vs H Q
theorem qK(x:Str)(ys:List Str):inV (.str x) (ys.map V.str)=decide (x∈ys):=by
 rw[qw];simp only[inV,List.any_map,uh,Function.comp,decide_eq_true_eq,eqV,beq_iff_eq];constructor
 ·rintro ⟨y,hy,rfl⟩;exact hy
 ·intro h;exact⟨x,h,rfl⟩
theorem qF(ys:List Str):(ys.map V.str).all iQ=true:=by
 rw[iz];intro x hx;obtain⟨n,_,rfl⟩:=jz.mp hx;rfl
theorem uX:zU.cps.toList=List.range' 97 26:=by ac_rfl
theorem uU:aG.cps.toList=List.range' 48 10:=by ac_rfl
theorem mW(c:Nat):c∈zU.cps.toList ↔ 97<=c/\c<=122:=by
 rw[uX,List.mem_range'_1];omega
theorem aBc(c:Nat):c∈aG.cps.toList ↔ 48<=c/\c<=57:=by
 rw[uU,List.mem_range'_1];omega
theorem aJv(f:Nat->Bool)(l:List Nat)(i:Nat)(h:l[i]?=some c):((l.take (i+1)).map f)=(l.take i).map f++[f c]:=by
 rw[jk,h,Θ] <;> rfl
theorem all_map(f:Nat->Bool)(l:List Nat):(l.map f).all id=l.all f:=by
 rw[List.all_map];rfl
theorem isa3{t:String}(h:t ≠ "str"):isa t "str" = false:=by
 unfold isa;simp[h]
theorem is_0{c:Nat}: decide (V.str ⟨#[c]⟩=V.str (ζ "0"))=decide (c=48):=by
 have e:(ζ "0")=⟨#[48]⟩:=by ac_rfl
 rw[e,qw,decide_eq_true_eq,decide_eq_true_eq];constructor
 ·intro h;injection h with h;injection h with h;simpa using h
 ·rintro rfl;rfl
theorem jH.st3(g:jH H H')(h:St3 H p):St3 H' p:=by
 obtain⟨x,y,z,e⟩:=h;exact⟨x,y,z,g _ _ e⟩
theorem Drawn.keep(d:Drawn p H H1)(g:jH H1 H2):Drawn p H H2:=⟨jH.st3 g d.1,fun b o n e=>g _ _ (d.2 b o n e)⟩
theorem len_list(z:Str):z.cps.toList.length=z.length:=lh
theorem oN(p:Str):Str.empty++p=p:=Str.ext' (by rw[vk];simp[Str.empty])
theorem aHv{a:Nat}(h:a<=5000):a<=ξ:=by rw[jc];omega
def rK:Sp:=fun vs H Q _=>∃(p:Str) (x:V) (y:Str),vs=[.str p,x]/\aCs x=some y/\p.length<=1000/\y.length<=1000/\Q (.str (pj p y)) H
inductive aAt (vs:List V) (H:Hp) (Q:VK):Prop|mk:∀(p:Addr) (m:Int),vs=[.ref p,.int m]->0<m->m<1099511627776->St3 H p->(∀(v:Nat) (H':Hp),(v:Int)<m->Drawn p H H'->Q (.int v) H')->aAt vs H Q
def uM:Sp:=fun vs H Q _=>aAt vs H Q
def aPn:Sp:=fun vs H Q _=>∃c:Int,vs=[.int c]/\∀(p:Addr) (H':Hp),H p=none->Drawn p H H'->Q (.ref p) H'
structure Wds (K:Φ) (H:Hp) (a:Addr) (ws:List Str):Prop where
 l:SqL K H a (ws.map V.str)
 s:∀w∈ws,w.length<=1000
 n:ws.length<=1000
theorem Wds.same{K:Φ}(h:Wds K H a ws)(g:jH H H'):Wds K H' a ws:=⟨g.seq h.l,h.s,h.n⟩
def aCe:List Str->Bool
 |[x,y]=>decide (x=ζ "shape")&&qB y
 |_=>false
def aPx (K:Φ):Sp:=fun vs H Q _=>∃(a:Addr) (ws:List Str),vs=[.ref a]/\Wds K H a ws/\∀H',jH H H'->Q (.bl (aCe ws)) H'
inductive aLi (C:Addr) (n:Str) (vs:List V) (H:Hp) (Q:VK):Prop|mk:∀(a dx:Addr) (v:V) (H1:Hp),vs=[.ref a,v]->H a=some (.ins C dx [])->jH H1 H->H1 a=none->(∀H',jH H1 H'->H' a=some (.ins C dx [(n,v)])->Q .non H')->aLi C n vs H Q
def aJj (C:Addr) (n:Str):Sp:=fun vs H Q _=>aLi C n vs H Q
def spI2 (C:Addr) (n m:Str):Sp:=fun vs H Q _=>∃(a dx:Addr) (v u:V) (H1:Hp),vs=[.ref a,v,u]/\H a=some (.ins C dx [])/\jH H1 H/\H1 a=none/\∀H',jH H1 H'->H' a=some (.ins C dx [(n,v),(m,u)])->Q .non H'
def spIT (K:Φ) (C:Addr) (n:Str):Sp:=fun vs H Q _=>∃(a dx l:Addr) (ys:List V) (H1:Hp),vs=[.ref a,.ref l]/\H a=some (.ins C dx [])/\jH H1 H/\H1 a=none/\SqL K H1 l ys/\∀t H',jH H1 H'->H' a=some (.ins C dx [(n,.ref t)])->SqT K H' t ys->Q .non H'
def aIf (c:Cl5) (K:Φ):Sp:=fun vs H Q _=>∃(a dx fl:Addr) (nm:Str) (ps:List Addr) (fs:List (Str×Kd)) (sa:List Addr) (H1:Hp),vs=[.ref a,.str nm,.ref fl]/\H a=some (.ins c.shape dx [])/\jH H1 H/\H1 a=none/\(SqL K H1 fl (ps.map V.ref)\/SqT K H1 fl (ps.map V.ref))/\FO c K H1 sa ps fs/\fs.length<=100 ∧
 ∀t ps' H',jH H1 H'->H' a=some (.ins c.shape dx [("name",.str nm),("fields",.ref t)])->SqT K H' t (ps'.map V.ref)->FO c K H' sa ps' fs->Q .non H'
def spGr (c:Cl5) (K:Φ) (r:Nat):Sp:=fun vs H Q _=>∃(a:Addr) (is:List Nat) (sa:List Addr) (S:List Shp),vs=[.ref a]/\(Kd.pick is).Rk r/\(Kd.pick is).Fit S.length/\KO c K H sa a (.pick is)/\SW c K H sa S/\Good S/\∀H',jH H H'->Q (.int ((yI (is.map fun i=>(tabs S).sz.getD i 0):Nat):Int)) H'
def aPh (c:Cl5) (K:Φ) (r:Nat):Sp:=fun vs H Q _=>∃(a:Addr) (i:Nat) (sa:List Addr) (S:List Shp),vs=[.ref a]/\sa[i]?=some a/\2*i+2<=r/\8*r<=200/\SW c K H sa S/\Good S/\∀l H',jH H H'->H l=none->UL K H' l (un (.nest i) S Str.empty)->Q (.ref l) H'
theorem FO.insD{K:Φ}{H:Hp}{x:V}(h:FO c K H sa ps fs)(ha:H a=some (.ins C dx [("name",x)])):FO c K (upd H a o) sa ps fs:=by
 have n:∀{b C' dx' fs'},H b=some (.ins C' dx' fs')->fs'.head?.map (·.1)≠some ("name" : Str)->upd H a o b=some (.ins C' dx' fs'):=fun hb z=>by
  rw[jT (fun e=>z (by rw[e,ha]at hb;cases hb;rfl))];exact hb
 have t:∀{b xs},SqT K H b xs->SqT K (upd H a o) b xs:=fun h=>by
  rcases h with (h|⟨o',h⟩)|h
  ·exact .inl (.inl (by rw[jT (fZ h ha (by intro z;cases z))];exact h))
  ·exact .inl (.inr ⟨o',by rw[jT (fZ h ha (by intro z;cases z))];exact h⟩)
  ·exact .inr h
 have kk:∀{b kd},KO c K H sa b kd->KO c K (upd H a o) sa b kd:=fun h=>by
  induction h with
  |num h=>exact .num (n h (by show some (ζ "width")≠some (ζ "name");decide))
  |nest e h=>exact .nest e (n h (by show some (ζ "shape")≠some (ζ "name");decide))
  |many h _ ih=>exact .many (n h (by show some (ζ "count")≠some (ζ "name");decide)) ih
  |pick h h2 l e=>exact .pick (n h (by show some (ζ "shapes")≠some (ζ "name");decide)) (t h2) l e
 induction h with
 |nil=>exact .nil
 |cons h1 h2 _ ih=>exact .cons (t h1) (kk h2) ih
def NOk (nm:Nat->Str) (n:Nat):Prop:=∀i,i<n->qB (nm i)=true
theorem yR(h:qB x=true): 1<=x.length/\x.length<=6:=by
 unfold qB within at h;simp only[jo,decide_eq_true_eq]at h;omega
theorem cH{y:Str}(h:qB x=true)(hy:y∈ownL):x≠y:=by
 rintro rfl;unfold qB at h;simp only[jo,Bool.not_eq_true',decide_eq_false_iff_not]at h;exact h.2 hy
theorem dig{w:Nat}(h:w<=9):iG (ζ (toString (w:Int)))=some (w:Int)/\(ζ (toString (w:Int))).length=1/\qB (ζ (toString (w:Int)))=false/\xm (ζ (toString (w:Int)))=some (w:Int):=by
 have:∀m:Fin 10,iG (ζ (toString ((m.val:Nat):Int)))=some ((m.val:Nat):Int)/\(ζ (toString ((m.val:Nat):Int))).length=1/\qB (ζ (toString ((m.val:Nat):Int)))=false/\xm (ζ (toString ((m.val:Nat):Int)))=some ((m.val:Nat):Int):=by ac_rfl
 exact this ⟨w,by omega⟩
theorem oZ:qB (ζ "num")=false/\qB (ζ "row")=false/\qB (ζ "pick")=false:=by ac_rfl
def Kd.named (nm:Nat->Str):Kd->List Str
 |.num _=>[]
 |.nest i=>[nm i]
 |.many _ k=>Kd.named nm k
 |.pick is=>is.map nm
theorem wD(hn:NOk nm n):∀{k:Kd},k.Fit n->(k.words nm).filter qB=Kd.named nm k:=by
 have hnum:∀w,w<=9->((Kd.num w).words nm).filter qB=[]:=fun w hw=>by
  show[ζ "num",ζ (toString (w:Int))].filter qB=[];rw[qe (by rw[oZ.1];decide),qe (by rw[(dig hw).2.2.1];decide)];rfl
 have hnest:∀i,i<n->((Kd.nest i).words nm).filter qB=[nm i]:=fun i hi=>by
  show[nm i].filter qB=_;rw[List.filter_cons_of_pos (hn i hi)];rfl
 intro k hk;cases k with
 |num w=>exact hnum w (by have:=hk.2;omega)
 |nest i=>exact hnest i hk
 |many m k =>
  show(ζ "row" :: ζ (toString (m:Int))::k.words nm).filter qB=Kd.named nm k;rw[qe (by rw[oZ.2.1];decide),qe (by rw[(dig (by have:=hk.2.1;omega)).2.2.1];decide)];rcases hk.2.2 with⟨w,rfl,hw⟩|⟨i,rfl,hi⟩
  ·exact hnum w (by omega)
  ·exact hnest i hi
 |pick is =>
  show(ζ "pick" :: is.map nm).filter qB=is.map nm;rw[qe (by rw[oZ.2.2];decide),List.filter_eq_self.mpr];intro x hx;obtain⟨i,hi,rfl⟩:=jz.mp hx;exact hn i (hk.2.2.2 i hi)
theorem tR{nm:Nat->Str}{n:Nat}(hn:NOk nm n):∀{k:Kd},k.Fit n->(∀w∈k.words nm,w.length<=6)/\(k.words nm).length<=5:=by
 have hnum:∀w,w<=9->∀x∈(Kd.num w).words nm,x.length<=6:=fun w hw x hx=>by
  simp only[Kd.words,ο,jr,or_false]at hx;rcases hx with rfl|rfl
  ·decide
  ·rw[(dig hw).2.1];decide
 have hnest:∀i,i<n->∀x∈(Kd.nest i).words nm,x.length<=6:=fun i hi x hx=>by
  rw[Δ.mp (show x∈[nm i] from hx)];exact(yR (hn i hi)).2
 intro k hk;cases k with
 |num w=>exact⟨hnum w (by have:=hk.2;omega),by show 2<=5;decide⟩
 |nest i=>exact⟨hnest i hk,by show 1<=5;decide⟩
 |many m k =>
  have:(∀x∈k.words nm,x.length<=6)/\(k.words nm).length<=2:=by
   rcases hk.2.2 with⟨w,rfl,hw⟩|⟨i,rfl,hi⟩
   ·exact⟨hnum w (by omega),by show 2<=2;decide⟩
   ·exact⟨hnest i hi,by show 1<=2;decide⟩
  refine⟨fun x hx=>?_,by show(k.words nm).length+1+1<=5;omega⟩;simp only[Kd.words,ο]at hx;rcases hx with rfl|rfl|hx
  ·decide
  ·rw[(dig (by have:=hk.2.1;omega)).2.1];decide
  ·exact this.1 x hx
 |pick is =>
  refine⟨fun x hx=>?_,by show(is.map nm).length+1<=5;rw[δ];have:=hk.2.1;omega⟩;simp only[Kd.words,ο,jz]at hx;rcases hx with rfl|⟨i,hi,rfl⟩
  ·decide
  ·exact(yR (hn i (hk.2.2.2 i hi))).2
def spSg (K:Φ):Sp:=fun vs H Q _=>∃(a:Addr) (ws:List Str),vs=[.ref a]/\SqL K H a (ws.map V.str)/\((∃w:Nat,1<=w/\w<=4/\ws=[ζ "num",ζ (toString (w:Int))])\/∃x,qB x=true/\ws=[x])/\∀H',jH H H'->Q (.bl true) H'
def spKd (K:Φ):Sp:=fun vs H Q _=>∃(a:Addr) (nm:Nat->Str) (n:Nat) (kd:Kd),vs=[.ref a]/\SqL K H a ((kd.words nm).map V.str)/\kd.Fit n/\NOk nm n/\∀H',jH H H'->Q (.bl true) H'
def spFl (K:Φ):Sp:=fun vs H Q _=>∃(a:Addr) (nm:Nat->Str) (n:Nat) (kd:Kd) (f:Str),vs=[.ref a]/\SqL K H a ((f::kd.words nm).map V.str)/\qB f=true/\kd.Fit n/\NOk nm n/\∀H',jH H H'->Q (.bl true) H'
def aEg (K:Φ):Sp:=fun vs H Q _=>∃(a:Addr) (nm:Nat->Str) (n:Nat) (kd:Kd) (f:Str),vs=[.ref a]/\SqL K H a ((f::kd.words nm).map V.str)/\kd.Fit n/\NOk nm n/\∀l H',jH H H'->H l=none->H' l=some (.lst ((Kd.named nm kd).map V.str))->Q (.ref l) H'
theorem tL{f:Str->Bool}{l:List Str}{i:Nat}(h:l[i]?=some a):(l.take (i+1)).filter f=(l.take i).filter f++(if f a=true then [a] else []):=by
 rw[jk,h,List.filter_append]
 congr 1
 show[a].filter f=_
 by_cases z:f a=true
 ·rw[if_pos z,List.filter_cons_of_pos z];rfl
 ·rw[if_neg z,qe z];rfl
theorem qE{ns:List Str}{i:Nat}(h:(ns.map V.str)[i]?=some x):∃c,ns[i]?=some c/\x=.str c:=by
 rw[jv]at h;cases e:ns[i]? with
 |none=>rw[e]at h;cases h
 |some c=>rw[e]at h;cases h;exact⟨c,rfl,rfl⟩
structure Wel (S:List Shp):Prop where
 good:Good S
 nm:∀s∈S,qB s.1=true
 fnm:∀s∈S,∀f∈s.2,qB f.1=true
 nd:(S.map (·.1)).Nodup
 fnd:∀s∈S,(s.2.map (·.1)).Nodup
 len:S.length<=5
 bd:∀(i:Nat) (s:Shp),S[i]?=some s->(tabs S).sz.getD i 0<=64/\(un (.nest i) S Str.empty).length<=40/\(tabs S).dp.getD i 0<=4/\s.2.length<=5
theorem zN{α : Type}{S:List α}{x y : α}{i:Nat}(h:(S++[x])[i]?=some y):S[i]?=some y\/(i=S.length/\y=x):=by
 by_cases hi:i<S.length
 ·rw[jd hi]at h;exact .inl h
 ·rw[iu (by omega)]at h;have:i-S.length<1:=(η.mp h).1;have e:i=S.length:=by omega
  subst e;rw[nv]at h;cases h;exact .inr ⟨rfl,rfl⟩
theorem Good.snoc{s:Shp}(h:Good S1)(h1:s.2≠[])(h2:s.2.length<=6)(h3:∀f∈s.2,f.2.Fit S1.length/\1<=f.1.length/\f.1.length<=6)(h4:(s.2.map fun f=>f.2.size (tabs S1).sz).sum<=1000):Good (S1++[s]):=by
 refine⟨fun i t e=>?_,fun i t e=>?_,fun i t e=>?_,fun i=>?_⟩
 ·rcases zN e with e|⟨_,rfl⟩
  ·exact h.ne i t e
  ·exact h1
 ·rcases zN e with e|⟨_,rfl⟩
  ·exact h.few i t e
  ·exact h2
 ·rcases zN e with e|⟨rfl,rfl⟩
  ·exact h.fit i t e
  ·exact h3
 ·by_cases hi:i<S1.length
  ·rw[(oF hi).1];exact h.sz i
  ·by_cases e:i=S1.length
   ·subst e;rw[(iP S1 s []).1];exact h4
   ·have hl:=(eE (S1++[s])).1;rw[θ,km]at hl;rw[jb,List.getElem?_eq_none (by omega)];exact jg _
theorem Good.pre{S1 S2:List Shp}(h:Good (S1++S2)):Good S1:=by
 refine⟨fun i t e=>h.ne i t ?_,fun i t e=>h.few i t ?_,fun i t e=>h.fit i t ?_,fun i=>?_⟩
 ·rw[jd (η.mp e).1];exact e
 ·rw[jd (η.mp e).1];exact e
 ·rw[jd (η.mp e).1];exact e
 ·by_cases hi:i<S1.length
  ·rw[←(oF (R:=S2) hi).1];exact h.sz i
  ·have hl:=(eE S1).1;rw[jb,List.getElem?_eq_none (by omega)];exact jg _
def Smal (S:List Shp) (i:Nat):Prop:=(tabs S).sz.getD i 0<=64/\(un (.nest i) S Str.empty).length<=40/\(tabs S).dp.getD i 0<=4
theorem Wel.pre{S S1 S2:List Shp}{s:Shp}{f1 f2:List (Str×Kd)}(h:Wel S)(e:S=S1++s::S2)(ef:s.2=f1++f2)(hne:f1≠[]):Good (S1++[(s.1,f1)])/\Smal (S1++[(s.1,f1)]) S1.length/\f1.length<=5:=by
 subst e;have hi:(S1++s::S2)[S1.length]?=some s:=by rw[iu (ι _),nv];rfl
 obtain⟨b1,b2,b3,b4⟩:=h.bd _ _ hi;obtain⟨t1,t2,t3⟩:=iP S1 s S2;obtain⟨u1,u2,u3⟩:=iP S1 (s.1,f1) [];rw[ef,θ]at b4;have z1:(f1.map fun f=>f.2.size (tabs S1).sz).sum<=64:=by
  rw[t1,ef,Θ,List.sum_append]at b1;omega
 have hfit:=h.good.fit _ _ hi;refine⟨Good.snoc (Good.pre h.good) hne (by show f1.length<=6;omega) (fun f hf=>hfit f (by rw[ef];exact mf _ hf)) (by show(f1.map _).sum<=1000;omega),⟨by rw[u1];exact z1,?_,?_⟩,by omega⟩
 ·have e1:un (.nest S1.length) (S1++[(s.1,f1)]) Str.empty=_:=u3 Str.empty;have e2:un (.nest S1.length) (S1++s::S2) Str.empty=_:=t3 Str.empty;rw[e2,ef,qz,θ]at b2;rw[e1];show(f1.flatMap _).length<=40;omega
 ·rw[u2];rw[t2,ef,Θ]at b3;have:yI (f1.map fun f=>f.2.depth (tabs S1).dp)<=yI ((f1.map fun f=>f.2.depth (tabs S1).dp)++(f2.map fun f=>f.2.depth (tabs S1).dp)):=uC fun x hx=>nZ (mf _ hx);show 1+yI (f1.map fun f=>f.2.depth (tabs S1).dp)<=4;omega
theorem yF{S:List Shp}{i:Nat}(h:S[i]?=some s):kY S i=s.1:=by
 unfold kY;rw[jb,h];rfl
theorem aLk{S1 S2:List Shp}{i:Nat}(h:i<S1.length):kY (S1++S2) i=kY S1 i:=by
 have e:S1[i]?=some S1[i]:=π h;rw[yF e,yF (by rw[jd h];exact e)]
theorem mV{nm nm':Nat->Str}{n:Nat}(h:∀i,i<n->nm i=nm' i):∀{k:Kd},k.Below n->k.words nm=k.words nm'
 |.num _,_=>rfl
 |.nest i,hk=>by show[nm i]=[nm' i];rw[h i hk]
 |.many m k,hk=>by show _::_::k.words nm=_::_::k.words nm';rw[mV h (k:=k) hk]
 |.pick is,hk=>by
  show _::is.map nm=_::is.map nm';rw[rg fun i hi=>h i (hk i hi)]
theorem aHy{S:List Shp}(h:∀s∈S,qB s.1=true):NOk (kY S) S.length:=fun i hi=>by
 have e:S[i]?=some S[i]:=π hi;rw[yF e];exact h _ (yg hi)
theorem aLf{S:List Shp}(h:(S.map (·.1)).Nodup){i j:Nat}(hi:i<S.length)(hj:j<S.length)(e:kY S i=kY S j):i=j:=by
 have ei:S[i]?=some S[i]:=π hi;have ej:S[j]?=some S[j]:=π hj;rw[yF ei,yF ej]at e;have hp:=List.pairwise_iff_getElem.mp h;rcases Nat.lt_trichotomy i j with hl|hl|hl
 ·exact absurd (by rw[yj,yj];exact e) (hp i j (by rw[δ];exact hi) (by rw[δ];exact hj) hl)
 ·exact hl
 ·exact absurd (by rw[yj,yj];exact e.symm) (hp j i (by rw[δ];exact hj) (by rw[δ];exact hi) hl)
theorem aAn{S:List Shp}(h:(S.map (·.1)).Nodup):∀{k:Kd},k.Fit S.length->(Kd.named (kY S) k).Nodup/\(Kd.named (kY S) k).length<=4/\∀x∈Kd.named (kY S) k,∃i,i<S.length/\x=kY S i:=by
 have hs:∀{k:Kd},(∃w,k=.num w/\1<=w/\w<=4)\/(∃i,k=.nest i/\i<S.length)->(Kd.named (kY S) k).Nodup/\(Kd.named (kY S) k).length<=4/\∀x∈Kd.named (kY S) k,∃i,i<S.length/\x=kY S i:=by
  rintro k (⟨w,rfl,_⟩|⟨i,rfl,hi⟩)
  ·exact⟨List.Pairwise.nil,jg _,fun x hx=>by cases hx⟩
  ·exact⟨List.pairwise_singleton _ _,(by show 1<=4;decide),fun x hx=>⟨i,hi,Δ.mp hx⟩⟩
 intro k hk;cases k with
 |num w=>exact hs (.inl ⟨w,rfl,hk⟩)
 |nest i=>exact hs (.inr ⟨i,rfl,hk⟩)
 |many m k=>exact hs (k:=k) hk.2.2
 |pick is =>
  refine⟨?_,by show(is.map _).length<=4;rw[δ];exact hk.2.1,fun x hx=>?_⟩
  ·show(is.map (kY S)).Pairwise (·≠·);rw[List.pairwise_map];exact hk.2.2.1.imp_of_mem fun ha hb ne e=>ne (aLf h (hk.2.2.2 _ ha) (hk.2.2.2 _ hb) e)
  ·obtain⟨i,hi,rfl⟩:=jz.mp hx;exact⟨i,hk.2.2.2 i hi,rfl⟩
theorem aNg{ws:List Str}(h:qB n=true):aCe (n::ws)=false:=by
 match ws with
 |[]=>rfl
 |[y] =>
  show(decide (n=ζ "shape")&&qB y)=false;rw[decide_eq_false (cH h (by decide)),qm]
 |_::_::_=>rfl
def aOi (c:Cl5) (K:Φ):Sp:=fun vs H Q _=>∃(tl:Addr) (x:V) (nm:Str) (sa:List Addr) (T:List Shp),vs=[.ref tl,x,.str nm]/\H tl=some (.lst (sa.map V.ref))/\SW c K H sa T/\(∀s∈T,s.2≠[])/\nm∉T.map (·.1)/\T.length<8/\∀H',jH H H'->Q .non H'
def spWh (c:Cl5) (K:Φ):Sp:=fun vs H Q _=>∃(tl z:Addr) (sa:List Addr) (T:List Shp) (s:Shp),vs=[.ref tl]/\H tl=some (.lst ((sa++[z]).map V.ref))/\SW c K H (sa++[z]) (T++[s])/\(T.map (·.1)).Nodup/\T.length<=100/\∀d H',jH H H'->H d=none->H' d=some (.dK (dk T sa))->Q (.ref d) H'
def spNF (c:Cl5) (K:Φ):Sp:=fun vs H Q _=>∃(tl a z:Addr) (x:V) (sa:List Addr) (T:List Shp) (s:Shp) (fn:Str) (kd:Kd),vs=[.ref tl,x,.ref a]/\H tl=some (.lst ((sa++[z]).map V.ref))/\SW c K H (sa++[z]) (T++[s])/\SqL K H a ((fn::kd.words (kY T)).map V.str)/\qB fn=true/\fn∉s.2.map (·.1)/\s.2.length<=100/\kd.Fit T.length/\NOk (kY T) T.length/\(T.map (·.1)).Nodup/\T.length<=100/\∀H',jH H H'->Q .non H'
inductive aEm (c:Cl5) (K:Φ) (n:Nat) (vs:List V) (H:Hp) (Q:VK):Prop|mk:∀(a d:Addr) (kd:Kd) (sa:List Addr) (T:List Shp),vs=[.ref a,.ref d]->kd.lv<n->SqL K H a ((kd.words (kY T)).map V.str)->H d=some (.dK (dk T sa))->kd.Fit T.length->NOk (kY T) T.length->(T.map (·.1)).Nodup->sa.length=T.length->(∀k H',jH H H'->KO c K H' sa k kd->Q (.ref k) H')->aEm c K n vs H Q
def aFa (c:Cl5) (K:Φ) (n:Nat):Sp:=fun vs H Q _=>aEm c K n vs H Q
def spTM (c:Cl5) (K:Φ) (r:Nat):Sp:=fun vs H Q _=>∃(a:Addr) (i:Nat) (sa:List Addr) (S:List Shp),vs=[.ref a]/\sa[i]?=some a/\2*i+2<=r/\8*r<=200/\SW c K H sa S/\Good S/\Smal S i/\∀H',jH H H'->Q (.bl false) H'
def spWF (c:Cl5) (K:Φ) (r:Nat):Sp:=fun vs H Q _=>∃(tl a z:Addr) (x:V) (sa:List Addr) (T:List Shp) (s:Shp) (fn:Str) (kd:Kd),vs=[.ref tl,x,.ref a]/\H tl=some (.lst ((sa++[z]).map V.ref))/\SW c K H (sa++[z]) (T++[s])/\SqL K H a ((fn::kd.words (kY T)).map V.str)/\kd.Fit T.length/\NOk (kY T) T.length/\(T.map (·.1)).Nodup/\T.length<=100/\2*T.length+2<=r/\8*r<=200/\s.2.length<=50/\Good (T++[(s.1,s.2++[(fn,kd)])])/\Smal (T++[(s.1,s.2++[(fn,kd)])]) T.length ∧
 ∀y H',jH H H'->SO c K H' sa y (s.1,s.2++[(fn,kd)])->Q (.ref y) H'
def txt (S:List Shp):Str:=jp nlS ((oO S).map (jp spS))
def spRd (c:Cl5) (CS:Addr) (K:Φ) (r:Nat):Sp:=fun vs H Q _=>∃S:List Shp,vs=[.str (txt S)]/\Wel S/\S≠[]/\12<=r/\8*r<=200/\∀(a dx t:Addr) (sa:List Addr) H',jH H H'->H' a=some (.ins CS dx [("shapes",.ref t)])->SqT K H' t (sa.map V.ref)->SW c K H' sa S->Q (.ref a) H'
theorem pD(h:qB x=true):Pln x:=by
 unfold qB at h;simp only[jo]at h;have ha:x.cps.toList.all (fun c=>decide (c∈zU.cps.toList))=true:=h.1.2;have hc:∀c∈x.cps.toList,97<=c/\c<=122:=fun c hc=>(mW c).mp (of_decide_eq_true (iz.mp ha c hc));exact⟨fun z=>by have:=hc _ z;omega,fun z=>by have:=hc _ z;omega⟩
theorem aEl(hW:Wel S):∀it∈xJ S,(∀w∈it.line (kY S),Pln w/\w.length<=6)/\(it.line (kY S)).length<=6/\it.line (kY S)≠[]:=by
 intro it hit;obtain⟨s,hs,hit⟩:=List.mem_flatMap.mp hit;have hn:=aHy hW.nm;unfold rZ at hit;rcases ο.mp hit with rfl|hit
 ·refine⟨fun w hw=>?_,(by show 2<=6;decide),(by simp[Itm.line])⟩;simp only[Itm.line,ο,jr,or_false]at hw;rcases hw with rfl|rfl
  ·exact⟨by unfold Pln;ac_rfl,by decide⟩
  ·exact⟨pD (hW.nm s hs),(yR (hW.nm s hs)).2⟩
 ·obtain⟨f,hf,rfl⟩:=jz.mp hit;obtain⟨i,hi⟩:=lw.mp hs;have hfit:f.2.Fit S.length:=(hW.good.fit i s hi f hf).1.mono (tm (η.mp hi).1);have hnm:=hW.fnm s hs f hf;obtain⟨w6,w5⟩:=tR hn hfit;refine⟨fun w hw=>?_,(by show(f.2.words (kY S)).length+1<=6;omega),(by simp[Itm.line])⟩;rcases ο.mp (show w∈f.1::f.2.words (kY S) from hw) with rfl|hw
  ·exact⟨pD hnm,(yR hnm).2⟩
  ·exact⟨hfit.plain (fun j hj=>pD (hn j hj)) w hw,w6 w hw⟩
theorem aRk{S:List Shp}(hW:Wel S)(hne:S≠[]):(xJ S).length<=30/\(∀it∈xJ S,(jp spS (it.line (kY S))).length<=100/\pz (jp spS (it.line (kY S))) spS=it.line (kY S))/\(txt S).length<=4000/\pz (txt S) nlS=(xJ S).map fun it=>jp spS (it.line (kY S)):=by
 have hl:=aEl hW;have h30:(xJ S).length<=30:=by
  unfold xJ;rw[List.length_flatMap];have h1:(S.map fun s=>(rZ s).length).sum<=S.length*6:=aCq fun s hs=>by
   obtain⟨i,hi⟩:=lw.mp hs;have:=(hW.bd i s hi).2.2.2;unfold rZ;rw[χ,δ];omega
  have:=hW.len;omega
 have hrow:∀it∈xJ S,(jp spS (it.line (kY S))).length<=100:=fun it hit=>by
  obtain⟨h1,h2,_⟩:=hl it hit;have h3:(jp spS (it.line (kY S))).length<=_:=rQ (c:=32) (m:=6) fun w hw=>(h1 w hw).2;omega
 have e:(oO S).map (jp spS)=(xJ S).map fun it=>jp spS (it.line (kY S)):=by rw[fW,nh];rfl
 refine⟨h30,fun it hit=>⟨hrow it hit,aDm (hl it hit).2.2 fun w hw=>((hl it hit).1 w hw).1⟩,?_,?_⟩
 ·unfold txt;rw[e];have h3:(jp nlS ((xJ S).map fun it=>jp spS (it.line (kY S)))).length<=_:=rQ (c:=10) (m:=100) (ws:=(xJ S).map fun it=>jp spS (it.line (kY S))) fun w hw=>by
   obtain⟨it,hit,rfl⟩:=jz.mp hw;exact hrow it hit
  rw[δ]at h3;omega
 ·unfold txt;rw[aAi,e]
  ·rw[fW];intro z;have h0:=uK hne;rw[List.map_eq_nil_iff]at z;rw[z]at h0;exact absurd h0 (by decide)
  ·intro l hl' w hw;rw[fW]at hl';obtain⟨it,hit,rfl⟩:=jz.mp hl';exact((hl it hit).1 w hw).1
theorem aFq{sa:List Addr}{T:List Shp}{s:Shp}(h:sa.length=(T++[s]).length):∃sa0 z,sa=sa0++[z]:=by
 rcases yc sa with rfl|⟨sa0,z,rfl⟩
 ·rw[θ]at h;exact absurd h (by simp)
 ·exact⟨sa0,z,yd ..⟩
theorem Al.drawn(h:Al xs H)(d:Drawn p H H'):Al xs H':=fun b hb=>by
 by_cases e:b=p
 ·obtain⟨x,y,z,q⟩:=d.1;exact⟨_,by rw[e];exact q⟩
 ·obtain⟨o,ho⟩:=h b hb;exact⟨o,d.2 b o e ho⟩
theorem Drawn.offs{xs:List Addr}(d:Drawn p H H')(hp:p∈xs):jH (offs xs H) (offs xs H'):=aC fun b o n q=>d.2 b o (fun z=>n (by rw[z];exact hp)) q
def c1L:Str:=ζ "bfgjkqvxyzwh"
def c1 (a k:Nat):Nat:=c1L.cps.toList.getD ((a+k) % 12) 0
theorem Drawn.free{H H1:Hp}(d:Drawn p H H1)(h:H1 l=none):H l=none:=by
 cases e:H l with
 |none=>rfl
 |some o =>
  by_cases z:l=p
  ·obtain⟨x,y,w,q⟩:=d.1;rw[z,q]at h;cases h
  ·rw[d.2 l o z e]at h;cases h
theorem Wel.nil:Wel []:=⟨⟨fun i s h=>by simp at h,fun i s h=>by simp at h,fun i s h=>by simp at h,fun i=>by show(([]:List Nat).getD i 0)<=1000;simp⟩,fun s h=>by simp at h,fun s h=>by simp at h,List.Pairwise.nil,fun s h=>by simp at h,jg _,fun i s h=>by simp at h⟩
theorem Wel.snoc{S:List Shp}{nm:Str}{fs:List (Str×Kd)}(h:Wel S)(h1:qB nm=true)(h2:nm∉S.map (·.1))(h3:S.length<=4)(h4:fs≠[])(h5:fs.length<=5)(h6:∀f∈fs,f.2.Fit S.length/\qB f.1=true)(h7:(fs.map (·.1)).Nodup)(h8:Smal (S++[(nm,fs)]) S.length):Wel (S++[(nm,fs)]):=by
 have hz:=h8.1;rw[(iP S (nm,fs) []).1]at hz;refine⟨Good.snoc h.good h4 (by show fs.length<=6;omega) (fun f hf=>⟨(h6 f hf).1,yR (h6 f hf).2⟩) (by show(fs.map _).sum<=1000;exact jh hz (by decide)),fun s hs=>?_,fun s hs=>?_,?_,fun s hs=>?_,by rw[θ,km];omega,fun i s e=>?_⟩
 ·rcases lq.mp hs with hs|hs
  ·exact h.nm s hs
  ·rw[Δ.mp hs];exact h1
 ·rcases lq.mp hs with hs|hs
  ·exact h.fnm s hs
  ·rw[Δ.mp hs];exact fun f hf=>(h6 f hf).2
 ·rw[Θ,vg];refine⟨h.nd,List.pairwise_singleton _ _,fun a ha b hb e=>h2 ?_⟩;rw[←show b=nm from Δ.mp hb,←e];exact ha
 ·rcases lq.mp hs with hs|hs
  ·exact h.fnd s hs
  ·rw[Δ.mp hs];exact h7
 ·rcases zN e with e|⟨rfl,rfl⟩
  ·have hi:i<S.length:=(η.mp e).1;obtain⟨t1,t2,t3⟩:=oF (R:=[(nm,fs)]) hi;obtain⟨b1,b2,b3,b4⟩:=h.bd i s e;refine⟨by rw[t1];exact b1,?_,by rw[t2];exact b3,b4⟩;have e1:un (.nest i) (S++[(nm,fs)]) Str.empty=un (.nest i) S Str.empty:=by
    show((tabs (S++[(nm,fs)])).ut.getD i fun _=>[]) Str.empty=((tabs S).ut.getD i fun _=>[]) Str.empty;rw[t3]
   rw[e1];exact b2
  ·exact⟨h8.1,h8.2.1,h8.2.2,h5⟩
def RO (c:Cl5) (CS:Addr) (K:Φ) (H:Hp) (ra:Addr) (sa:List Addr) (S:List Shp):Prop:=∃dx t,H ra=some (.ins CS dx [("shapes",.ref t)])/\SqT K H t (sa.map V.ref)/\SW c K H sa S
theorem aNc{K:Φ}(h:RO c CS K H ra sa S)(g:jH H H'):RO c CS K H' ra sa S:=by
 obtain⟨dx,t,a,b,w⟩:=h;exact⟨dx,t,g _ _ a,g.tp b,w.same g⟩
def spMn (c:Cl5) (CS:Addr) (K:Φ):Sp:=fun vs H Q _=>∃(ra z:Addr) (sa:List Addr) (S:List Shp),vs=[.ref ra]/\RO c CS K H ra (sa++[z]) S/\Q (.ref z) H
def cW (p w:Str):Bool:=if p∈aI then qB w else if p = "NUMBER" then (zB (iG w) 0 4294967295).isSome else if p = "OP" then decide (w∈eW) else if p = "PATH" then !decide (w = "") else decide (w=p)
def bO (ws:List Str) (f:Str×List Str):Bool:=decide (f.2.length=ws.length)&&(ja cW f.2 ws).all id
def rdF (goal:Str):List (Str×Str)->List Str
 |[]=>[]
 |p::r=>if p.1∈aI/\(p.1 ≠ "A" ∨ goal = "") then p.2::rdF goal r else rdF goal r
def nmF:List (Str×Str)->List Str
 |[]=>[]
 |p::r=>if p.1∈aI then p.2::nmF r else nmF r
theorem aEq(a b:List (Str×Str)):nmF (a++b)=nmF a++nmF b:=by
 induction a with
 |nil=>rfl
 |cons p r ih =>
  show(if p.1∈aI then p.2::nmF (r++b) else nmF (r++b))=(if p.1∈aI then p.2::nmF r else nmF r)++nmF b
  split
  ·rw[ih];rfl
  ·exact ih
theorem aJq:∀(a b:List Str) (k:Str),vZ (ja (fun x y=>((.inr x:Key),V.str y)) a b) (.inr k)=((a.zip b).lookup k).map V.str
 |[],_,_=>rfl
 |_::_,[],_=>rfl
 |x::a,y::b,k=>by
  show vZ (((.inr x:Key),V.str y)::ja _ a b) (.inr k)=(((x,y)::a.zip b).lookup k).map V.str
  by_cases e:x=k
  ·subst e;rw[iO rfl,List.lookup_cons_self];rfl
  ·rw[hV (fun z=>e (wy z)),List.lookup_cons,show(k == x)=false from beq_false_of_ne (kc e),aJq a b k]
theorem len_app{x y:Str}: (x++y).length=x.length+y.length:=by
 show(x++y).cps.size=x.cps.size+y.cps.size;rw[vk,Array.size_append]
theorem join_one{x:Str}: jp sep [x]=x:=rfl
def spBo:Sp:=fun vs H Q _=>vs=[.int 4]/\Q (.int 4294967296) H
def spFi:Sp:=fun vs H Q _=>∃p w:Str,vs=[.str p,.str w]/\w.length<=1000/\∀H',jH H H'->Q (.bl (cW p w)) H'
def spI4 (C:Addr) (n1 n2 n3 n4:Str):Sp:=fun vs H Q _=>∃(a dx:Addr) (v1 v2 v3 v4:V) (H1:Hp),vs=[.ref a,v1,v2,v3,v4]/\H a=some (.ins C dx [])/\jH H1 H/\H1 a=none/\∀H',jH H1 H'->H' a=some (.ins C dx [(n1,v1),(n2,v2),(n3,v3),(n4,v4)])->Q .non H'
def spI6 (C:Addr) (n1 n2 n3 n4 n5 n6:Str):Sp:=fun vs H Q _=>∃(a dx:Addr) (v1 v2 v3 v4 v5 v6:V) (H1:Hp),vs=[.ref a,v1,v2,v3,v4,v5,v6]/\H a=some (.ins C dx [])/\jH H1 H/\H1 a=none/\∀H',jH H1 H'->H' a=some (.ins C dx [(n1,v1),(n2,v2),(n3,v3),(n4,v4),(n5,v5),(n6,v6)])->Q .non H'
theorem aMj{f:Str×List Str->Bool}{j:Nat}(hj:aJ[j]?=some x)(hx:f x=true)(h:∀m y,m<j->aJ[m]?=some y->f y=false):aJ.find? f=some x:=by
 rw[List.find?_eq_some_iff_getElem];obtain⟨hl,e⟩:=η.mp hj;exact⟨hx,j,hl,e,fun m hm=>by rw[h m _ hm (π (by omega))];rfl⟩
theorem aEt{f:Str×List Str->Bool}{j:Nat}(hj:aJ[j]?=some x)(hx:f x=false)(h:∀m y,m<j->aJ[m]?=some y->f y=false):∀m y,m<j+1->aJ[m]?=some y->f y=false:=fun m y hm hy=>by
 by_cases z:m=j
 ·subst z;rw[hj]at hy;cases hy;exact hx
 ·exact h m y (by omega) hy
theorem dP{a b:List Str}{j:Nat}(hu:a[j]?=some u)(hv:b[j]?=some v):(a.zip b).take (j+1)=(a.zip b).take j++[(u,v)]:=by
 rw[jk]
 congr 1
 show(ja Prod.mk a b)[j]?.toList=_;rw[ye,hu,hv];rfl
theorem aEp:∀{a b:List Str}{k:Str},k∉a->(a.zip b).lookup k=none
 |[],_,_,_=>rfl
 |_::_,[],_,_=>rfl
 |x::a,y::b,k,h=>by
  rw[List.zip_cons_cons,List.lookup_cons,show(k == x)=false from beq_false_of_ne (fun z=>h (by rw[z];exact τ ..))];exact aEp fun z=>h (Ω _ z)
theorem aFm:∀{a b:List Str}{j:Nat}{u v:Str},a.Nodup->a[j]?=some u->b[j]?=some v->(a.zip b).lookup u=some v
 |[],_,_,_,_,_,h,_=>by simp at h
 |_::_,[],_,_,_,_,_,h=>by simp at h
 |x::a,y::b,0,u,v,_,hu,hv=>by
  cases hu;cases hv;rw[List.zip_cons_cons,List.lookup_cons_self]
 |x::a,y::b,j+1,u,v,hd,hu,hv=>by
  obtain⟨h1,h2⟩:=pe.mp hd;have hu':a[j]?=some u:=hu;rw[List.zip_cons_cons,List.lookup_cons,show(u == x)=false from beq_false_of_ne (fun z=>h1 (by rw[←z];exact iq hu'))];exact aFm h2 hu' hv
theorem mM:∀(a b:List Str) (acc:List (Key×V)),a.Nodup->(∀x∈a,∀kv∈acc,kv.1≠.inr x)->qY acc (ja (fun x y=>((.inr x:Key),V.str y)) a b)=acc++ja (fun x y=>((.inr x:Key),V.str y)) a b
 |[],_,acc,_,_=>by simp[qY]
 |_::_,[],acc,_,_=>by simp[qY]
 |x::a,y::b,acc,hd,hn=>by
  obtain⟨h1,h2⟩:=pe.mp hd;have e:putK acc (.inr x) (V.str y)=acc++[(.inr x,V.str y)]:=by
   unfold putK;rw[if_neg];rw[uh];rintro ⟨kv,hkv,z⟩;exact hn x (τ ..) kv hkv (of_decide_eq_true z)
  have:=mM a b (acc++[(.inr x,V.str y)]) h2 (fun z hz kv hkv=>by
   rcases lq.mp hkv with hkv|hkv
   ·exact hn z (Ω _ hz) kv hkv
   ·rw[Δ.mp hkv];intro q;rw[wy q]at h1;exact h1 hz)
  show qY (putK acc (.inr x) (V.str y)) _=_;rw[e,this,jy];rfl
theorem uN{ks p}{es:List Expr}: iy (.Call f as ks p::es) env=(false,eval (.Call f as ks p) env)::iy es env:=rfl
theorem ifJ{Q:VK}(v:V)(hq:Q v H)(h:∀Q':VK,Q' v H->tIf t ta tb σ H Q'):tIf t ta tb σ H Q:=h Q hq
theorem aNz(a b:List (Str×Str)):rdF g (a++b)=rdF g a++rdF g b:=by
 induction a with
 |nil=>rfl
 |cons p r ih =>
  show(if p.1∈aI/\(p.1 ≠ "A" ∨ g = "") then p.2::rdF g (r++b) else rdF g (r++b))=(if p.1∈aI/\(p.1 ≠ "A" ∨ g = "") then p.2::rdF g r else rdF g r)++rdF g b
  split
  ·rw[ih];rfl
  ·exact ih
theorem aLm{a b:List Str}{j:Nat}(hu:a[j]?=some u)(hv:b[j]?=some v):rdF g ((a.zip b).take (j+1))=rdF g ((a.zip b).take j)++(if u∈aI/\(u ≠ "A" ∨ g = "") then [v] else []):=by
 rw[dP hu hv,aNz];rfl
theorem dJ{H:Hp}(e:H a=some (.frz o (.dK kvs))):vX H a (kV k) (vZ kvs k):=.inl ⟨kvs,k,.inr ⟨o,e⟩,rfl,rfl⟩
theorem aKr{xs:List Addr}{l:Addr}: offs (l::xs) (upd H l o)=offs (l::xs) H:=by
 funext b
 unfold offs
 by_cases z:b∈l::xs
 ·rw[if_pos z,if_pos z]
 ·rw[if_neg z,if_neg z,jT (fun e=>z (by rw[e];exact τ ..))]
theorem aQt(h:Al xs H):Al xs (L2.upd H l o):=fun b hb=>by
 by_cases z:b=l
 ·rw[z,jI];exact⟨_,rfl⟩
 ·rw[jT z];exact h b hb
theorem aEw{as:List Addr}{n:Nat}(h:as[n]?=some a):atI (as.map V.ref) (n:Int)=some (.ref a):=yE (by rw[jv,h];rfl)
theorem aJu{H:Hp}(h:H l=none)(g:jH H G):jH H (offs [l] G):=fun b o e=>xH (fun z=>by rw[Δ.mp z,h]at e;cases e) (g b o e)
theorem aQm{X:Cx}{K:Φ}{o e:Expr}{es:List Expr}{name:Str}{T id:String}{apos cpos:Pos}{r:V->List V->Hp->VK->Prop}{to:TE}{t:TA}(hK:X.K=K)(pa:PlainAttrs T)(slot:Slot T name id)(hty:typeOf (.builtin id)=pure (.type "method_descriptor"))(hm:MtR X id r)(ho:PE X o to)(ha:PA X (e::es) t)
  (hbase:we o name X.env (eval o X.env)=eval o X.env:=by rfl)
  (hfew:((qh cpos (iy (e::es) X.env)).all (fun x=>!x.1)&&(xj cpos (ua [] X.env)).all (fun x=>x.1.isSome)
   && decide ((e::es).length+([]:List Keyword).length+(if ([]:List Keyword).isEmpty then 0 else 1)<30))=true:=by rfl)
  (hline:(apos.endLine == cpos.line)=true:=by rfl)(hs:iy (e::es) X.env=(false,eval e X.env)::iy es X.env:=by rfl)(hplain:(qh cpos (iy es X.env)).any (·.1)=false:=by rfl):
  PE X (.Call (.Attribute o name apos) (e::es) [] cpos) (tBM K T r to t):=by
 subst hK;exact yJ pa slot hty hm ho ha hbase hfew hline hs hplain
inductive aLg (K:Φ) (vs:List V) (H:Hp) (Q:VK):Prop|mk:∀(a:Addr) (ns:List Int) (k:Int),vs=[.ref a,.int k]->SqL K H a (ns.map V.int)->0<=k->k<=100->(∀v H',jH H H'->Q (.int v) H')->aLg K vs H Q
def spLc (K:Φ):Sp:=fun vs H Q _=>aLg K vs H Q
def spMx:Sp:=fun vs H Q _=>∃c k:Int,vs=[.int c,.int k]/\∀v:Int,Q (.int v) H
theorem aDr{H:Hp}(d:Drawn p H H')(h:H p=none):jH H H':=fun b o e=>d.2 b o (jG e h) e
theorem aGt{K:Φ}: oR K H [] []:=⟨rfl,fun i fa f h=>by simp at h⟩
theorem kP{K:Φ}{f:Str×List Str}(h:∃ga,SqT K H fa [.str f.1,.ref ga]/\SqT K H ga (f.2.map V.str))(r:oR K H fas fs):oR K H (fa::fas) (f::fs):=by
 refine⟨congrArg (·+1) r.1,fun i fa' f' h1 h2=>?_⟩;cases i with
 |zero=>cases h1;cases h2;exact h
 |succ i=>exact r.2 i fa' f' (by simpa using h1) (by simpa using h2)
theorem fY:∀{a b:List Str},a.Nodup->(∀x∈a,x∈b)->a.length<=b.length
 |[],_,_,_=>jg _
 |x::xs,b,h,hs=>by
  obtain⟨h1,h2⟩:=pe.mp h;have hx:=hs x (τ ..);have:=fY (b:=b.erase x) h2 fun y hy=>(List.mem_erase_of_ne (a:=y) (b:=x) (fun z=>h1 (by rw[←z];exact hy))).mpr (hs y (Ω _ hy));rw[List.length_erase_of_mem hx]at this;have:=List.length_pos_of_mem hx;rw[χ];omega
def wT:List Str:=["A","B","C","I","J","=","NUMBER","OP","look","PATH","store","which","choose","copy","put","take","many","out","each","span","if","else","end"]
theorem aOd:(aJ.all fun f=>f.2.all fun p=>decide (p∈wT))=true:=by ac_rfl
def Eqv (w v:Str):Prop:=∀p∈wT,cW p w=cW p v
theorem aEi:∀{ps ws vs:List Str},(∀p∈ps,p∈wT)->yo Eqv ws vs->ja cW ps ws=ja cW ps vs
 |[],_,_,_,_=>by simp
 |_::_,_,_,_,.nil=>rfl
 |p::ps,_,_,hp,.cons h t=>by
  rw[oo,oo,h p (hp p (τ ..)),aEi (fun q hq=>hp q (Ω _ hq)) t]
theorem aHt:∀{ws vs:List Str},yo Eqv ws vs->ws.length=vs.length
 |_,_,.nil=>rfl
 |_,_,.cons _ t=>congrArg (·+1) (aHt t)
theorem aMy(h:yo Eqv ws vs){f:Str×List Str}(hf:f∈aJ):bO ws f=bO vs f:=by
 unfold bO;have hp:∀p∈f.2,p∈wT:=fun p hp=>of_decide_eq_true (iz.mp (iz.mp aOd f hf) p hp);rw[aEi hp h,aHt h]
theorem iR(h:yo Eqv ws vs):aJ.find? (bO ws)=aJ.find? (bO vs):=by
 have:∀(l:List (Str×List Str)),(∀f∈l,f∈aJ)->l.find? (bO ws)=l.find? (bO vs):=fun l=>by
  induction l with
  |nil=>intro _;rfl
  |cons f r ih =>
   intro hl;rw[qx,qx,aMy h (hl f (τ ..)),ih fun g hg=>hl g (Ω _ hg)]
 exact this aJ fun _ h=>h
def alike (w v:Str):Bool:=wT.all fun p=>cW p w == cW p v
theorem aQf(h:alike w v=true):Eqv w v:=fun p hp=>eq_of_beq (iz.mp h p hp)
def unS (ys:List Str) (acc:List Str) (x:Str):List Str:=if x∉ys/\x∉acc then acc++[x] else acc
def unq (ys xs:List Str):List Str:=xs.foldl (unS ys) []
theorem aIl{xs:List Str}{j:Nat}(h:xs[j]?=some x):unq ys (xs.take (j+1))=unS ys (unq ys (xs.take j)) x:=by
 unfold unq;rw[jk,h,List.foldl_append];rfl
theorem aDu{ys:List Str}: ∀(xs acc:List Str),(ys++acc).Nodup->(ys++xs.foldl (unS ys) acc).Nodup/\(∀x,x∈ys++xs.foldl (unS ys) acc ↔ x∈ys++acc\/x∈xs)/\(xs.foldl (unS ys) acc).length<=acc.length+xs.length
 |[],acc,h=>⟨h,fun x=>by simp,ι _⟩
 |x::xs,acc,h=>by
  have hf:(x::xs).foldl (unS ys) acc=xs.foldl (unS ys) (unS ys acc x):=rfl;rw[hf,χ]
  by_cases hx:x∉ys/\x∉acc
  ·have e:unS ys acc x=acc++[x]:=if_pos hx;rw[e];have h':(ys++(acc++[x])).Nodup:=by
    rw[←jy];refine vg.mpr ⟨h,by simp,fun a ha b hb z=>?_⟩;rw[Δ.mp hb]at z;rw[z]at ha;exact(lq.mp ha).elim hx.1 hx.2
   obtain⟨a1,a2,a3⟩:=aDu xs _ h';refine⟨a1,fun y=>(a2 y).trans ⟨fun z=>?_,fun z=>?_⟩,?_⟩
   ·rcases z with z|z
    ·rw[←jy]at z;rcases lq.mp z with z|z
     ·exact .inl z
     ·rw[Δ.mp z];exact .inr (τ ..)
    ·exact .inr (Ω _ z)
   ·rw[←jy];rcases z with z|z
    ·exact .inl (mf _ z)
    ·rcases ο.mp z with rfl|z
     ·exact .inl (jf _ (τ ..))
     ·exact .inr z
   ·rw[θ,km]at a3;omega
  ·have e:unS ys acc x=acc:=if_neg hx;rw[e];obtain⟨a1,a2,a3⟩:=aDu xs acc h;have hm:x∈ys++acc:=by
    rw[lq];rcases Classical.em (x∈ys) with z|z
    ·exact .inl z
    ·rcases Classical.em (x∈acc) with z2|z2
     ·exact .inr z2
     ·exact absurd ⟨z,z2⟩ hx
   refine⟨a1,fun y=>(a2 y).trans ⟨fun z=>?_,fun z=>?_⟩,by omega⟩
   ·rcases z with z|z
    ·exact .inl z
    ·exact .inr (Ω _ z)
   ·rcases z with z|z
    ·exact .inl z
    ·rcases ο.mp z with rfl|z
     ·exact .inl hm
     ·exact .inr z
theorem aJb{ys:List Str}(h:ys.Nodup):(ys++unq ys xs).Nodup/\(∀x,x∈ys++unq ys xs ↔ x∈ys\/x∈xs)/\(unq ys xs).length<=xs.length:=by
 have:=aDu (ys:=ys) xs [] (by rw[jq];exact h);rw[jq]at this;exact⟨this.1,this.2.1,by simpa [unq] using this.2.2⟩
def spLi:Sp:=fun vs H Q _=>∃xs:List Str,vs=[.str (jp nlS xs)]/\xs≠[]/\(∀x∈xs,10∉x.cps.toList/\x.length<=800/\x.length≠0)/\xs.length<=100/\∀p,H p=none->Q (.ref p) (upd H p (.lst (xs.map V.str)))
def spUn (K:Φ):Sp:=fun vs H Q _=>∃(a b:Addr) (xs ys:List Str),vs=[.ref a,.ref b]/\SqL K H a (xs.map V.str)/\SqL K H b (ys.map V.str)/\ys.Nodup/\xs.length<=2000/\∀l H',jH H H'->H' l=some (.lst ((unq ys xs).map V.str))->Q (.ref l) H'
theorem aEr{c d:Nat}(hcd:c≠d):∀{ys:List Str},(∀y∈ys,c∉y.cps.toList)->c∉(jp ⟨#[d]⟩ ys).cps.toList
 |[],_,h=>by cases h
 |[y],hy,h=>hy y (τ ..) h
 |y::z::ys,hy,h=>by
  have e:(jp ⟨#[d]⟩ (y::z::ys)).cps.toList=y.cps.toList++([d]++(jp ⟨#[d]⟩ (z::ys)).cps.toList):=by
   show(y++⟨#[d]⟩++jp ⟨#[d]⟩ (z::ys)).cps.toList=_;rw[vk,vk,vy,vy,jy]
  rw[e]at h;rcases lq.mp h with h|h
  ·exact hy y (τ ..) h
  ·rcases lq.mp h with h|h
   ·exact hcd (Δ.mp h)
   ·exact aEr hcd (fun w hw=>hy w (Ω _ hw)) h
theorem tF{X:Cx}{K:Φ}(hK:X.K=K):vN X (.builtin "isinstance") (fun xs H Q=>∃x T t,xs=[x,.ty T]/\T∈tK/\tyN K x H t/\Q (.bl (isa t T)) H):=hK ▸ hJ
inductive L6 where
 |op (a b c s:Str)
 |num (a:Str) (n:Nat)
 |nam (a b:Str)
 |out (a:Str)
def nmT:List Str:=["auq","buq","cuq","duq","guq","huq","iuq","juq","kuq","luq","muq","nuq","ouq","puq","quq","ruq"]
def L6.ws:L6->List Str
 |.op a b c s=>[a,"=",b,s,c]
 |.num a n=>[a,"=",txN n]
 |.nam a b=>[a,"=",b]
 |.out a=>["out",a]
def L6.fd:L6->Str
 |.op ..=>"OP"
 |.num ..=>"number"
 |.nam ..=>"name"
 |.out ..=>"out"
def L6.ps:L6->List Str
 |.op ..=>["A","=","B","OP","C"]
 |.num ..=>["A","=","NUMBER"]
 |.nam ..=>["A","=","B"]
 |.out ..=>["out","A"]
def L6.d:L6->Str
 |.op _ _ _ s=>s
 |.num ..=>"number"
 |.nam ..=>"name"
 |.out ..=>"out"
def L6.g:L6->Str
 |.op a _ _ _=>a
 |.num a _=>a
 |.nam a _=>a
 |.out _=>""
def L6.rs:L6->List Str
 |.op _ b c _=>[b,c]
 |.num ..=>[]
 |.nam _ b=>[b]
 |.out a=>[a]
def L6.n:L6->Nat
 |.num _ n=>n
 |_=>0
def L6.ns:L6->List Str
 |.op a b c _=>[a,b,c]
 |.num a _=>[a]
 |.nam a b=>[a,b]
 |.out a=>[a]
def L6.tx (l:L6):Str:=jp spS l.ws
def L6.Ok (ns:List Str):L6->Prop
 |.op a b c s=>a∈ns/\b∈ns/\c∈ns/\s∈eW
 |.num a n=>a∈ns/\n<4294967296
 |.nam a b=>a∈ns/\b∈ns
 |.out a=>a∈ns
theorem L6.Ok.mono{ns ms:List Str}(h:∀x∈ns,x∈ms):∀{l:L6},l.Ok ns->l.Ok ms
 |.op ..,z=>⟨h _ z.1,h _ z.2.1,h _ z.2.2.1,z.2.2.2⟩
 |.num ..,z=>⟨h _ z.1,z.2⟩
 |.nam ..,z=>⟨h _ z.1,h _ z.2⟩
 |.out ..,z=>h _ z
theorem L6.Ok.ns{ns:List Str}: ∀{l:L6},l.Ok ns->∀x∈l.ns,x∈ns
 |.op ..,z,x,hx=>by
  rcases ο.mp hx with rfl|hx
  ·exact z.1
  rcases ο.mp hx with rfl|hx
  ·exact z.2.1
  rw[Δ.mp hx];exact z.2.2.1
 |.num ..,z,x,hx=>by rw[Δ.mp hx];exact z.1
 |.nam ..,z,x,hx=>by
  rcases ο.mp hx with rfl|hx
  ·exact z.1
  rw[Δ.mp hx];exact z.2
 |.out ..,z,x,hx=>by rw[Δ.mp hx];exact z
structure Wd6 (w:Str):Prop where
 l:w.length<=10
 z:w.length≠0
 b : 32∉w.cps.toList
 n : 10∉w.cps.toList
def wd6B (w:Str):Bool:=decide (w.length<=10)&&decide (w.length≠0)&&decide (32∉w.cps.toList)&&decide (10∉w.cps.toList)
theorem lZ(h:wd6B w=true):Wd6 w:=by
 unfold wd6B at h;simp only[jo,decide_eq_true_eq]at h;exact⟨h.1.1.1,h.1.1.2,h.1.2,h.2⟩
theorem wd6_a:nmT.all wd6B=true:=by ac_rfl
theorem wd6_b:eW.all wd6B=true:=by ac_rfl
theorem xS{x:Str}(h:x∈nmT):Wd6 x:=lZ (iz.mp wd6_a x h)
theorem aLe{x:Str}(h:x∈eW):Wd6 x:=lZ (iz.mp wd6_b x h)
theorem aMk{n:Nat}(h:n<4294967296):Wd6 (txN n):=⟨gY h,by have:=uZ n;omega,fun z=>by have:=eM n _ z;omega,fun z=>by have:=eM n _ z;omega⟩
theorem L6.wd:∀{l:L6},l.Ok nmT->∀w∈l.ws,Wd6 w
 |.op ..,z,x,hx=>by
  rcases ο.mp hx with rfl|hx
  ·exact xS z.1
  rcases ο.mp hx with rfl|hx
  ·exact lZ (by ac_rfl)
  rcases ο.mp hx with rfl|hx
  ·exact xS z.2.1
  rcases ο.mp hx with rfl|hx
  ·exact aLe z.2.2.2
  rw[Δ.mp hx];exact xS z.2.2.1
 |.num ..,z,x,hx=>by
  rcases ο.mp hx with rfl|hx
  ·exact xS z.1
  rcases ο.mp hx with rfl|hx
  ·exact lZ (by ac_rfl)
  rw[Δ.mp hx];exact aMk z.2
 |.nam ..,z,x,hx=>by
  rcases ο.mp hx with rfl|hx
  ·exact xS z.1
  rcases ο.mp hx with rfl|hx
  ·exact lZ (by ac_rfl)
  rw[Δ.mp hx];exact xS z.2
 |.out ..,z,x,hx=>by
  rcases ο.mp hx with rfl|hx
  ·exact lZ (by ac_rfl)
  rw[Δ.mp hx];exact xS z
theorem ps_nd:([["A","=","B","OP","C"],["A","=","NUMBER"],["A","=","B"],["out","A"]]:List (List Str)).all (fun l=>decide l.Nodup)=true:=by ac_rfl
theorem L6.len(l:L6):l.ws.length<=5/\l.ws≠[]/\l.ps.length=l.ws.length/\l.ps.Nodup:=by
 have h:=fun x hx=>of_decide_eq_true (iz.mp ps_nd x hx);cases l <;> exact⟨(by simp[L6.ws]),(fun z=>by cases z),rfl,h _ (by simp[L6.ps])⟩
theorem aQc:(nmT.all fun x=>alike x "auq")=true:=by ac_rfl
theorem fO{x:Str}(h:x∈nmT):Eqv x "auq":=aQf (iz.mp aQc x h)
theorem aNj{n:Nat}(h:n<4294967296):iG (txN n)=some (n:Int):=by
 have h1:=gY h;have h0:=uZ n;unfold iG;rw[aLn,if_pos];rw[jo,jo];refine⟨⟨?_,?_⟩,?_⟩
 ·unfold within;rw[jo];exact⟨decide_eq_true (by omega),decide_eq_true (by omega)⟩
 ·unfold aBi;refine iz.mpr fun c hc=>decide_eq_true ?_;have:=eM n c hc;have:∀m:Fin 10,(48+m.val)∈(aG:Str).cps.toList:=by ac_rfl
  have h2:=this ⟨c-48,by omega⟩
  rwa [show 48+(c-48)=c by omega]at h2
 ·unfold tZ;rw[Bool.not_eq_true']
  by_cases hz:(txN n).cps.toList[0]?=some 48
  ·rw[decide_eq_true hz,aKa hz];rfl
  ·rw[decide_eq_false hz];rfl
structure PrC6 (K:Φ) (mg:Str->Option Value) (CR CL CC:Addr):Prop where
 ml:mg "Loop" = some (.ref CL)
 mc:mg "Choice" = some (.ref CC)
 i:InsC K CR
 r:si K (.ref CR) (.ref CR)=some true
 l:si K (.ref CR) (.ref CL)=some false
 c:si K (.ref CR) (.ref CC)=some false
structure TB (K:Φ) (mg:Str->Option Value) (x:Str) (C fI:Addr):Prop where
 m:mg x=some (.ref C)
 i:aOs K C fI
theorem aIb{x:Str}(hc:x.cps.toList[0]?=some c)(h:c<97):qB x=false:=by
 by_cases e:qB x=true
 ·have hm:c∈x.cps.toList:=iq hc;unfold qB at e;simp only[jo]at e;have:=of_decide_eq_true (iz.mp (show x.cps.toList.all (fun c=>decide (c∈zU.cps.toList))=true from e.1.2) c hm);have:=(mW c).mp this;omega
 ·exact qt.mpr e
theorem aMn{n:Nat}(h:n<4294967296):Eqv (txN n) "0":=by
 obtain⟨c,hc⟩ : ∃c,(txN n).cps.toList[0]?=some c:=by
  have h0:=uZ n;have e:(txN n).length=(txN n).cps.toList.length:=by rw[lh];rfl
  exact⟨_,π (by omega)⟩
 have hd:=eM n c (iq hc);have hn:=aIb hc (by omega);have hne:∀p:Str,(∀c',p.cps.toList[0]?=some c'->c'<48\/57<c')->txN n≠p:=fun p hp z=>by
  rw[z]at hc;rcases hp c hc with h|h <;> omega
 have hb:(zB (iG (txN n)) 0 4294967295).isSome=true:=by
  rw[aNj h];show(if (0:Int)<=(n:Int)/\(n:Int)<=4294967295 then some (n:Int) else none).isSome=true;rw[if_pos ⟨by omega,by omega⟩];rfl
 have key:∀p∈wT,cW p "0" = (decide (p = "NUMBER")||decide (p = "PATH")):=fun p hp=>eq_of_beq (iz.mp (show(wT.all fun p=>cW p "0" == (decide (p = "NUMBER")||decide (p = "PATH")))=true by ac_rfl) p hp);have sg:∀p∈eW,txN n≠p:=fun p hp=>hne p fun c' hc'=>by
  have:=iz.mp (show(eW.all fun p=>p.cps.toList[0]?.all fun c=>decide (c<48\/57<c))=true by ac_rfl) p hp;rw[hc']at this;exact of_decide_eq_true this
 have pr:∀p∈wT,txN n≠p:=fun p hp=>hne p fun c' hc'=>by
  have:=iz.mp (show(wT.all fun p=>p.cps.toList[0]?.all fun c=>decide (c<48\/57<c))=true by ac_rfl) p hp;rw[hc']at this;exact of_decide_eq_true this
 intro p hp;rw[key p hp];unfold cW
 by_cases h1:p∈aI
 ·rw[if_pos h1,hn];have:=iz.mp (show(aI.all fun p=>!(decide (p=("NUMBER" : Str))||decide (p=("PATH" : Str))))=true by ac_rfl) p h1;simpa using this
 rw[if_neg h1]
 by_cases h2:p = "NUMBER"
 ·rw[if_pos h2,hb,decide_eq_true h2];rfl
 rw[if_neg h2,decide_eq_false h2]
 by_cases h3:p = "OP"
 ·rw[if_pos h3,h3,decide_eq_false (fun z=>sg _ z rfl)];ac_rfl
 rw[if_neg h3]
 by_cases h4:p = "PATH"
 ·rw[if_pos h4,decide_eq_true h4,decide_eq_false (fun z=>by rw[z]at hc;cases hc)];rfl
 rw[if_neg h4,decide_eq_false h4,decide_eq_false (pr p hp)];rfl
theorem L6.find{l:L6}(h:l.Ok nmT):aJ.find? (bO l.ws)=some (l.fd,l.ps):=by
 have rf:∀w:Str,Eqv w w:=fun _ _ _=>rfl;cases l with
 |op a b c s =>
  obtain⟨ha,hb,hc,hs⟩:=h;rw[show(L6.op a b c s).ws=[a,"=",b,s,c] from rfl,iR (.cons (fO ha) (.cons (rf _) (.cons (fO hb) (.cons (rf _) (.cons (fO hc) .nil)))))];have:=iz.mp (show(eW.all fun s=>decide (aJ.find? (bO ["auq","=","auq",s,"auq"])=some ((L6.op "auq" "auq" "auq" "+").fd,(L6.op "auq" "auq" "auq" "+").ps)))=true by ac_rfl) s hs;exact of_decide_eq_true this
 |num a n =>
  rw[show(L6.num a n).ws=[a,"=",txN n] from rfl,iR (.cons (fO h.1) (.cons (rf _) (.cons (aMn h.2) .nil)))];show aJ.find? (bO ["auq","=","0"])=some ((L6.num "auq" 0).fd,(L6.num "auq" 0).ps);ac_rfl
 |nam a b =>
  rw[show(L6.nam a b).ws=[a,"=",b] from rfl,iR (.cons (fO h.1) (.cons (rf _) (.cons (fO h.2) .nil)))];show aJ.find? (bO ["auq","=","auq"])=some ((L6.nam "auq" "auq").fd,(L6.nam "auq" "auq").ps);ac_rfl
 |out a =>
  rw[show(L6.out a).ws=[("out" : Str),a] from rfl,iR (.cons (rf _) (.cons (fO h) .nil))];show aJ.find? (bO ["out","auq"])=some ((L6.out "auq").fd,(L6.out "auq").ps);ac_rfl
def aHs (d:Str):Prop:=d∉begL/\d ≠ "else"/\d ≠ "end"
theorem aKs:((["OP","number","name","out"]:List Str)++eW).all (fun d=>decide (d∉begL)&&decide (d ≠ "else")&&decide (d ≠ "end"))=true:=by ac_rfl
theorem iL{d:Str}(h:d∈(["OP","number","name","out"]:List Str)++eW):aHs d:=by
 have:=iz.mp aKs d h;simp only[jo,decide_eq_true_eq]at this;exact⟨this.1.1,this.1.2,this.2⟩
theorem L6.fl2(l:L6):aHs l.fd:=iL (mf _ (by cases l <;> simp[L6.fd]))
theorem L6.fl1{l:L6}(h:l.Ok nmT):aHs l.d:=by
 cases l with
 |op a b c s=>exact iL (jf _ h.2.2.2)
 |num a n=>exact iL (mf _ (by simp[L6.d]))
 |nam a b=>exact iL (mf _ (by simp[L6.d]))
 |out a=>exact iL (mf _ (by simp[L6.d]))
theorem aK{x:Str}(h:x∈nmT):x ≠ "":=fun z=>(xS h).z (by rw[z];rfl)
def iN (l:L6):List (Key×V):=ja (fun x y=>((.inr x:Key),V.str y)) l.ps l.ws
theorem l6_at{j:Nat}(h:(iN l)[j]?=some kv):∃u v,l.ps[j]?=some u/\l.ws[j]?=some v/\kv=(.inr u,.str v):=by
 unfold iN at h;rw[ye]at h;cases hu:l.ps[j]? with
 |none=>rw[hu]at h;cases h
 |some u =>
  cases hv:l.ws[j]? with
  |none=>rw[hu,hv]at h;cases h
  |some v=>rw[hu,hv]at h;cases h;exact⟨u,v,rfl,rfl,rfl⟩
theorem l6_eq(l:L6):(∃v,(l.ps.zip l.ws).lookup ("A" : Str)=some l.g/\(l.ps.zip l.ws).lookup ("=" : Str)=some v)\/(("=" : Str)∉l.ps/\l.g = ""):=by
 cases l with
 |op a b c s=>exact .inl ⟨_,rfl,rfl⟩
 |num a n=>exact .inl ⟨_,rfl,rfl⟩
 |nam a b=>exact .inl ⟨_,rfl,rfl⟩
 |out a=>exact .inr ⟨(by show("=" : Str)∉(["out","A"]:List Str);ac_rfl),rfl⟩
theorem aOr(l:L6):("PATH" : Str)∉l.ps:=by
 have h:∀x∈([["A","=","B","OP","C"],["A","=","NUMBER"],["A","=","B"],["out","A"]]:List (List Str)),("PATH" : Str)∉x:=fun x hx=>of_decide_eq_true (iz.mp (show([["A","=","B","OP","C"],["A","=","NUMBER"],["A","=","B"],["out","A"]]:List (List Str)).all (fun x=>decide (("PATH" : Str)∉x))=true by ac_rfl) x hx);cases l <;> exact h _ (by simp[L6.ps])
theorem aSr{l:L6}(h:l.Ok nmT):(∃x,(l.ps.zip l.ws).lookup ("NUMBER" : Str)=some x/\xm x=some (l.n:Int)/\x.length<=640)\/(("NUMBER" : Str)∉l.ps/\l.n=0):=by
 cases l with
 |op a b c s=>exact .inr ⟨(by show("NUMBER" : Str)∉(["A","=","B","OP","C"]:List Str);ac_rfl),rfl⟩
 |num a n=>exact .inl ⟨txN n,rfl,aFi h.2,by have:=gY h.2;omega⟩
 |nam a b=>exact .inr ⟨(by show("NUMBER" : Str)∉(["A","=","B"]:List Str);ac_rfl),rfl⟩
 |out a=>exact .inr ⟨(by show("NUMBER" : Str)∉(["out","A"]:List Str);ac_rfl),rfl⟩
theorem l6_op(l:L6):(l.ps.zip l.ws).lookup ("OP" : Str)=some l.d\/(("OP" : Str)∉l.ps/\l.d=l.fd):=by
 cases l with
 |op a b c s=>exact .inl rfl
 |num a n=>exact .inr ⟨(by show("OP" : Str)∉(["A","=","NUMBER"]:List Str);ac_rfl),rfl⟩
 |nam a b=>exact .inr ⟨(by show("OP" : Str)∉(["A","=","B"]:List Str);ac_rfl),rfl⟩
 |out a=>exact .inr ⟨(by show("OP" : Str)∉(["out","A"]:List Str);ac_rfl),rfl⟩
theorem l6_rd{l:L6}(h:l.Ok nmT):rdF l.g (l.ps.zip l.ws)=l.rs:=by
 cases l with
 |op a b c s=>simp(decide:=true) [rdF,aI,L6.g,L6.ps,L6.ws,L6.rs,aK h.1]
 |num a n=>simp(decide:=true) [rdF,aI,L6.g,L6.ps,L6.ws,L6.rs,aK h.1]
 |nam a b=>simp(decide:=true) [rdF,aI,L6.g,L6.ps,L6.ws,L6.rs,aK h.1]
 |out a=>simp(decide:=true) [rdF,aI,L6.g,L6.ps,L6.ws,L6.rs]
theorem l6_nm(l:L6):nmF (l.ps.zip l.ws)=l.ns:=by
 cases l <;> simp(decide:=true) [nmF,aI,L6.ps,L6.ws,L6.ns]
theorem aBv{l:L6}(h:l.Ok nmT):pz l.tx (ζ " ")=l.ws:=cC (c:=32) (l.len).2.1 (fun w hw=>(L6.wd h w hw).b)
theorem aFg:∀{ys:List Str},(∀y∈ys,y.length<=10)->(jp spS ys).length<=ys.length*11
 |[],_=>ι _
 |[y],hy=>by have:=hy y (τ ..);show y.length<=1*11;omega
 |y::z::ys,hy=>by
  have h1:=hy y (τ ..);have h2:=aFg (ys:=z::ys) fun w hw=>hy w (Ω _ hw);rw[show jp spS (y::z::ys)=y++spS++jp spS (z::ys) from rfl,vb,vb,show spS.length=1 from rfl];rw[χ]at h2 ⊢;rw[χ];omega
theorem aFv{l:L6}(h:l.Ok nmT): 10∉l.tx.cps.toList/\l.tx.length<=60/\l.tx.length≠0:=by
 have hw:=L6.wd h;refine⟨aEr (by decide) fun y hy=>(hw y hy).n,?_,?_⟩
 ·have h1:=aFg fun y hy=>(hw y hy).l;have h2:l.ws.length*11<=5*11:=Nat.mul_le_mul_right _ l.len.1;show(jp spS l.ws).length<=60;omega
 ·show(jp spS l.ws).length≠0;have hne:=l.len.2.1;cases e:l.ws with
  |nil=>exact absurd e hne
  |cons x xs =>
   have hx:=(hw x (by rw[e];exact τ ..)).z
   by_cases z:xs=[]
   ·subst z;exact hx
   ·rw[tJ z,len_app,len_app];omega
def fE (CR:Addr) (K:Φ) (H:Hp) (a:Addr) (i:Nat) (l:L6):Prop:=∃dx ra sa,H a=some (.ins CR dx [("line",.int i),("deed",.str l.d),("goal",.str l.g),("reads",.ref ra),("steps",.ref sa),("number",.int (l.n:Int))])/\SqL K H ra (l.rs.map V.str)/\SqL K H sa []
theorem fE.same{CR:Addr}{K:Φ}(h:fE CR K H a i l)(g:jH H H'):fE CR K H' a i l:=by
 obtain⟨dx,ra,sa,h1,h2,h3⟩:=h;exact⟨dx,ra,sa,g _ _ h1,g.seq h2,g.seq h3⟩
structure TD6 (CR:Addr) (K:Φ) (H:Hp) (tl:Addr) (rs:List Addr) (ls:List L6):Prop where
 l:SqL K H tl (rs.map V.ref)
 n:rs.length=ls.length
 m:∀x∈ls,x.Ok nmT
 r:∀(i:Nat) (a:Addr) (x:L6),rs[i]?=some a->ls[i]?=some x->fE CR K H a i x
theorem TD6.same{CR:Addr}{K:Φ}(h:TD6 CR K H tl rs ls)(g:jH H H'):TD6 CR K H' tl rs ls:=⟨g.seq h.l,h.n,h.m,fun i a x ha hx=>(h.r i a x ha hx).same g⟩
theorem TD6.at{CR:Addr}{K:Φ}(h:TD6 CR K H tl rs ls){n:Nat}(hn:n<ls.length):∃a l,rs[n]?=some a/\ls[n]?=some l/\l.Ok nmT/\fE CR K H a n l:=by
 have hl:ls[n]?=some ls[n]:=π hn;have ha:rs[n]?=some (rs[n]'(by rw[h.n];exact hn)):=π _;exact⟨_,_,ha,hl,h.m _ (iq hl),h.r _ _ _ ha hl⟩
def aPf (K:Φ):Sp:=fun vs H Q _=>∃(i:V) (a:Addr) (l:L6),vs=[i,.ref a]/\l.Ok nmT/\SqL K H a (l.ws.map V.str)/\∀t g H',jH H H'->SqT K H' t [.str l.fd,.ref g]->SqT K H' g (l.ps.map V.str)->Q (.ref t) H'
def aPp:Sp:=fun vs H Q _=>∃(a:Addr) (i:V) (d:Str),vs=[.ref a,i,.str d]/\aHs d/\Q .non H
def aOw:Sp:=fun vs H Q _=>∃(a:Addr) (d:Str),vs=[.ref a,.str d]/\aHs d/\Q (.ref a) H
def aOt (CR:Addr) (K:Φ):Sp:=fun vs H Q _=>∃(x:V) (i:Nat) (d:Addr) (l:L6) (xs:List Addr) (H0:Hp),vs=[x,.int i,.str l.fd,.ref d]/\l.Ok nmT/\jH H0 H/\H0 d=none/\H d=some (.dK (iN l))/\Al xs H/\∀r H',jH H0 H'->fE CR K (offs xs H') r i l->Q (.ref r) H'
def aPe (K:Φ):Sp:=fun vs H Q _=>∃(g a:Addr) (x:V) (l:L6),vs=[.ref g,.ref a,x]/\SqT K H g (l.ps.map V.str)/\SqL K H a (l.ws.map V.str)/\∀p H',jH H H'->H' p=some (.lst (l.ns.map V.str))->Q (.ref p) H'
def aOx (CR:Addr) (K:Φ):Sp:=fun vs H Q _=>∃(a:Addr) (i:Nat) (l:L6),vs=[.ref a]/\fE CR K H a i l/\Q (.int ((i+1:Nat):Int)) H
def aPa (CR:Addr) (K:Φ):Sp:=fun vs H Q _=>∃(tl a:Addr) (n:Nat) (rs:List Addr) (ls:List L6),vs=[.ref tl,.int (n:Int)]/\TD6 CR K H tl rs ls/\rs[n]?=some a/\Q (.ref a) H
def aOz (CR:Addr) (K:Φ):Sp:=fun vs H Q _=>∃(tl:Addr) (rs:List Addr) (ls:List L6),vs=[.ref tl,.int 0]/\TD6 CR K H tl rs ls/\ls.length<=60/\∀(p ra:Addr) (H':Hp),jH H H'->SqT K H' p [.ref ra,.int (ls.length:Nat)]->SqL K H' ra (rs.map V.ref)->Q (.ref p) H'
def tO (CP CR:Addr) (K:Φ) (H:Hp) (p:Addr) (ls:List L6) (nm:List Str):Prop:=∃(dx rp nd:Addr) (v1 v2:V) (rs:List Addr),H p=some (.ins CP dx [("shapes",v1),("rows",.ref rp),("named",.ref nd),("written",v2)])/\SqL K H rp (rs.map V.ref)/\SqL K H nd (nm.map V.str)/\rs.length=ls.length/\∀(i:Nat) (a:Addr) (x:L6),rs[i]?=some a->ls[i]?=some x->fE CR K H a i x
def aPd (c:Cl5) (CS CP CR:Addr) (K:Φ):Sp:=fun vs H Q _=>∃(ra z:Addr) (sa:List Addr) (S:List Shp) (ls:List L6) (pool:List Str),vs=[.ref ra,.str (jp nlS (ls.map L6.tx))]/\RO c CS K H ra (sa++[z]) S/\ls≠[]/\ls.length<=60/\(∀l∈ls,l.Ok pool)/\(∀x∈pool,x∈nmT)/\pool.length<=12/\∀(p:Addr) (nm:List Str) (H':Hp),jH H H'->tO CP CR K H' p ls nm->nm.Nodup->(∀x∈nm,x∈pool)->(∀l∈ls,∀x∈l.ns,x∈nm)->Q (.ref p) H'
theorem aFj : PE X e (fun _ _ _=>False):=fun _ _ _ _ _ _ h=>h.elim
theorem aTg(l:L6):l.ns.length<=3:=by cases l <;> simp[L6.ns]
def upF (f:Str->Int) (x:Str) (v:Int):Str->Int:=fun y=>if y=x then v else f y
def dW (ns:List Str) (f:Str->Int):List (Key×V):=ns.map fun n=>((.inr n:Key),V.int (f n))
theorem aS{f:Str->Int}{x:Str}: ∀{ns:List Str},x∈ns->vZ (dW ns f) (.inr x)=some (.int (f x))
 |n::ns,h=>by
  unfold vZ dW;rw[ju]
  by_cases e:n=x
  ·rw[xo (by simp[e]),e];rfl
  ·rw[uw (by simpa using e)];exact aS ((ο.mp h).resolve_left (kc e))
theorem aTd{x:Str}{ns:List Str}(h:x∈ns):((dW ns f).any fun kv=>decide (kv.1=(.inr x:Key)))=true:=by
 unfold dW;rw[List.any_map];exact uh.mpr ⟨x,h,by simp⟩
theorem bZ{x:Str}{ns:List Str}(h:x∈ns):putK (dW ns f) (.inr x) (.int v)=dW ns (upF f x v):=by
 unfold putK;rw[if_pos (aTd h)];unfold dW;rw[nh];refine rg fun y _=>?_;show(if (jj y:Key)=.inr x then ((jj y:Key),V.int v) else (jj y,V.int (f y)))=(jj y,V.int (if y=x then v else f y))
 by_cases e:y=x
 ·rw[if_pos (by rw[e]),if_pos e]
 ·rw[if_neg (fun z=>e (wy z)),if_neg e]
def W32 (x:Int):Prop:=0<=x/\x<4294967296
def zV (s:Str) (x y:Int):Int:=if s = "+" then (x+y) % 4294967296 else if s = "-" then (x-y) % 4294967296 else if s = "*" then (x*y) % 4294967296 else if s = "<" then (if x<y then 1 else 0) else if s = "=" then (if x=y then 1 else 0) else kh x y
theorem aSz(hx:W32 x)(hy:W32 y):W32 (zV s x y):=by
 unfold zV;have hm:∀z:Int,W32 (z % 4294967296):=fun z=>⟨Int.emod_nonneg _ (by decide),wx _ (by decide)⟩
 split
 ·exact hm _
 split
 ·exact hm _
 split
 ·exact hm _
 split
 ·split <;> exact⟨by decide,by decide⟩
 split
 ·split <;> exact⟨by decide,by decide⟩
 ·obtain⟨a,rfl⟩:=xg hx.1;obtain⟨b,rfl⟩:=xg hy.1;have e:kh (Int.ofNat a) (Int.ofNat b)=((a &&& b:Nat):Int):=aEs a b;have h1:a &&& b<=a:=Nat.and_le_left;have h2:(a:Int)<4294967296:=hx.2;show W32 (kh (Int.ofNat a) (Int.ofNat b));rw[e];exact⟨by omega,by omega⟩
def L6.val (f:Str->Int):L6->Int
 |.op _ b c s=>zV s (f b) (f c)
 |.num _ n=>n
 |.nam _ b=>f b
 |.out a=>f a
def L6.step (f:Str->Int) (l:L6):Str->Int:=if l.g = "" then f else upF f l.g (l.val f)
def L6.o (f:Str->Int):L6->List Int
 |.out a=>[f a]
 |_=>[]
def stF:List L6->(Str->Int)->(Str->Int)
 |[],f=>f
 |l::ls,f=>stF ls (l.step f)
def stO:List L6->(Str->Int)->List Int
 |[],_=>[]
 |l::ls,f=>l.o f++stO ls (l.step f)
theorem rB:∀{ls:List L6}{l:L6}{f:Str->Int},stF (ls++[l]) f=l.step (stF ls f)
 |[],_,_=>rfl
 |_::ls,_,_=>rB (ls:=ls)
theorem rP:∀{ls:List L6}{l:L6}{f:Str->Int},stO (ls++[l]) f=stO ls f++l.o (stF ls f)
 |[],l,f=>by show l.o f++[]=[]++l.o f;rw[jq,List.nil_append]
 |m::ls,l,f=>by show m.o f++stO (ls++[l]) (m.step f)=(m.o f++stO ls (m.step f))++_;rw[rP (ls:=ls),jy];rfl
theorem val_w{f:Str->Int}(hf:∀x,W32 (f x)):∀{l:L6},l.Ok ns->W32 (l.val f)
 |.op _ b c s,_=>aSz (hf b) (hf c)
 |.num _ n,h=>⟨Int.natCast_nonneg _,by have:=h.2;show(n:Int)<4294967296;omega⟩
 |.nam _ b,_=>hf b
 |.out a,_=>hf a
theorem aRg{f:Str->Int}{l:L6}(hf:∀x,W32 (f x))(h:l.Ok ns):∀x,W32 (l.step f x):=fun x=>by
 unfold L6.step
 split
 ·exact hf x
 ·unfold upF
  split
  ·exact val_w hf h
  ·exact hf x
theorem oM:∀(ls:List L6) (f:Str->Int),(stO ls f).length<=ls.length
 |[],_=>ι _
 |l::ls,f=>by
  have h1:=oM ls (l.step f);have h2:(l.o f).length<=1:=by cases l <;> simp[L6.o]
  show(l.o f++stO ls (l.step f)).length<=_;rw[θ,χ];omega
structure Go6 (CG:Addr) (H:Hp) (g wd ol ll st:Addr) (B:Int) (ns:List Str) (f:Str->Int) (os:List Int) (fv:V) (n:Nat):Prop where
 o:∃dx,H g=some (.ins CG dx [("stock",.ref st),("words",.ref wd),("budget",.int B),("outs",.ref ol),("fault",fv),("done",.int n),("lines",.ref ll)])
 w:H wd=some (.dK (dW ns f))
 l:H ol=some (.lst (os.map V.int))
theorem Go6.al{st:Addr}{os:List Int}(h:Go6 CG H g wd ol ll st B ns f os fv n):Al [g,wd,ol] H:=fun b hb=>by
 obtain⟨dx,h1⟩:=h.o;rcases ο.mp hb with rfl|hb
 ·exact⟨_,h1⟩
 rcases ο.mp hb with rfl|hb
 ·exact⟨_,h.w⟩
 rw[Δ.mp hb];exact⟨_,h.l⟩
theorem Go6.ne{st:Addr}{os:List Int}(h:Go6 CG H g wd ol ll st B ns f os fv n):g≠wd/\g≠ol/\wd≠ol:=by
 obtain⟨dx,h1⟩:=h.o;exact⟨(fun z=>by rw[z,h.w]at h1;cases h1),(fun z=>by rw[z,h.l]at h1;cases h1),(fun z=>by have:=h.w;rw[z,h.l]at this;cases this)⟩
theorem Go6.same{st:Addr}{os:List Int}(h:Go6 CG H g wd ol ll st B ns f os fv n)(s:jH H H'):Go6 CG H' g wd ol ll st B ns f os fv n :=
 let ⟨dx,h1⟩:=h.o
 ⟨⟨dx,s _ _ h1⟩,s _ _ h.w,s _ _ h.l⟩
theorem aRp(hx:W32 x)(hy:W32 y):aHl x y:=by
 unfold aHl;have:=hx.1;have:=hx.2;exact .inl ⟨by omega,by omega⟩
def aLd:Sp:=fun vs H Q _=>∃n:Int,vs=[.int n]/\Q (.int (n % 4294967296)) H
def aHq:Sp:=fun vs H Q _=>∃(s:Str) (x y:Int),vs=[.str s,.int x,.int y]/\W32 x/\W32 y/\Q (.int (zV s x y)) H
def aOp:Sp:=fun vs H Q _=>∃a v,vs=[a,v]/\Q .non H
def spIl (CG CPl:Addr):Sp:=fun vs H Q _=>∃(g wd ol ll st dxs:Addr) (fs:List (Str×V)) (B:Int) (ns:List Str) (f:Str->Int) (os:List Int) (n i:Nat),vs=[.ref g,.int i]/\Go6 CG H g wd ol ll st B ns f os .non n/\offs [g,wd,ol] H st=some (.ins CPl dxs fs)/\fs.lookup ("ahead" : Str)=none ∧
 ((n:Int)=B->∀t H',jH (offs [g,wd,ol] H) (offs [g,wd,ol] H')->offs [g,wd,ol] H' t=some (.tup [.str "budget",.int i])->Go6 CG H' g wd ol ll st B ns f os (.ref t) n->Q (.bl false) H') ∧
 ((n:Int)≠B->∀H',jH (offs [g,wd,ol] H) (offs [g,wd,ol] H')->Go6 CG H' g wd ol ll st B ns f os .non (n+1)->Q (.bl true) H')
def outH (f:Str->Int) (ol:Addr) (os:List Int) (H:Hp):L6->Hp
 |.out a=>upd H ol (.lst ((os++[f a]).map V.int))
 |_=>H
theorem sg_no:∀s∈eW,s ≠ "number"/\s ≠ "name":=fun s hs=>by
 have:=iz.mp (show(eW.all fun s=>decide (s ≠ "number")&&decide (s ≠ "name"))=true by ac_rfl) s hs;simpa using this
def spTb (CG CR:Addr) (K:Φ):Sp:=fun vs H Q _=>∃(g wd ol ll st:Addr) (B:Int) (ns:List Str) (f:Str->Int) (os:List Int) (n:Nat) (r wl:Addr) (i:Nat) (l:L6),vs=[.ref g,.ref r,.ref wl]/\Go6 CG H g wd ol ll st B ns f os .non n/\fE CR K (offs [g,wd,ol] H) r i l/\l.Ok nmT/\SqL K (offs [g,wd,ol] H) wl ((l.rs.map f).map V.int)/\(∀x,W32 (f x))/\os.length<=100/\Q (.int (l.val f)) (outH f ol os H l)
def spDd (CG CR:Addr) (K:Φ):Sp:=fun vs H Q _=>∃(g wd ol ll st:Addr) (B:Int) (ns:List Str) (f:Str->Int) (os:List Int) (n:Nat) (r:Addr) (i:Nat) (l:L6),vs=[.ref g,.ref r]/\Go6 CG H g wd ol ll st B ns f os .non n/\fE CR K (offs [g,wd,ol] H) r i l/\l.Ok nmT/\l.Ok ns/\(∀x,W32 (f x))/\os.length<=100/\ns.length<=12/\∀H',jH (offs [g,wd,ol] H) (offs [g,wd,ol] H')->Go6 CG H' g wd ol ll st B ns (l.step f) (os++l.o f) .non n->Q .non H'
def spDo (CG CR CPl:Addr) (K:Φ):Sp:=fun vs H Q _=>∃(g wd ol ll st dxs:Addr) (fs:List (Str×V)) (B:Int) (ns:List Str) (f:Str->Int) (os:List Int) (n:Nat) (r:Addr) (i:Nat) (l:L6),vs=[.ref g,.ref r]/\Go6 CG H g wd ol ll st B ns f os .non n/\offs [g,wd,ol] H st=some (.ins CPl dxs fs)/\fs.lookup ("ahead" : Str)=none/\fE CR K (offs [g,wd,ol] H) r i l/\l.Ok nmT/\l.Ok ns/\(∀x,W32 (f x))/\os.length<=100/\ns.length<=12 ∧
 ((n:Int)=B->∀t H',jH (offs [g,wd,ol] H) (offs [g,wd,ol] H')->offs [g,wd,ol] H' t=some (.tup [.str "budget",.int i])->Go6 CG H' g wd ol ll st B ns f os (.ref t) n->Q .non H') ∧
 ((n:Int)≠B->∀H',jH (offs [g,wd,ol] H) (offs [g,wd,ol] H')->Go6 CG H' g wd ol ll st B ns (l.step f) (os++l.o f) .non (n+1)->Q .non H')
theorem l6_gn{l:L6}(h:l.Ok ns)(hn:l.Ok nmT):(l.g∈ns/\l.g ≠ ""/\l.g.length<=10/\(∀f,l.o f=[])/\∀f ol os H,outH f ol os H l=H)\/∃a,l=.out a:=by
 cases l with
 |op a b c s=>exact .inl ⟨h.1,aK hn.1,(xS hn.1).l,fun _=>rfl,fun _ _ _ _=>rfl⟩
 |num a n=>exact .inl ⟨h.1,aK hn.1,(xS hn.1).l,fun _=>rfl,fun _ _ _ _=>rfl⟩
 |nam a b=>exact .inl ⟨h.1,aK hn.1,(xS hn.1).l,fun _=>rfl,fun _ _ _ _=>rfl⟩
 |out a=>exact .inr ⟨a,rfl⟩
theorem aRu : ∀{l:L6},l.Ok ns->∀x∈l.rs,x∈ns
 |.op ..,h,x,hx=>by
  rcases ο.mp hx with rfl|hx
  ·exact h.2.1
  ·rw[Δ.mp hx];exact h.2.2.1
 |.num ..,_,x,hx=>by cases hx
 |.nam ..,h,x,hx=>by rw[Δ.mp hx];exact h.2
 |.out ..,h,x,hx=>by rw[Δ.mp hx];exact h
theorem aTf(l:L6):l.rs.length<=2:=by cases l <;> simp[L6.rs]
theorem aSj{x:Str}(h:x ≠ ""):x.length≠0:=fun z=>h (Str.ext' (by rw[show x.cps = #[] from Array.eq_empty_of_size_eq_zero z];rfl))
theorem aHz : ∀{ls:List L6}{f:Str->Int},(∀l∈ls,l.Ok ns)->(∀x,W32 (f x))->∀x,W32 (stF ls f x)
 |[],_,_,h=>h
 |l::ls,_,hl,h=>aHz (ls:=ls) (fun l' h'=>hl l' (Ω _ h')) (aRg h (hl l (τ ..)))
def spDs (CG CR CPl:Addr) (K:Φ):Sp:=fun vs H Q _=>∃(g wd ol ll st dxs:Addr) (fs:List (Str×V)) (b:Nat) (ns:List Str) (f:Str->Int) (rl:Addr) (rs:List Addr) (ls:List L6),vs=[.ref g,.ref rl]/\Go6 CG H g wd ol ll st (b:Int) ns f [] .non 0/\offs [g,wd,ol] H st=some (.ins CPl dxs fs)/\fs.lookup ("ahead" : Str)=none/\SqL K (offs [g,wd,ol] H) rl (rs.map V.ref)/\rs.length=ls.length/\(∀(i:Nat) (a:Addr) (x:L6),rs[i]?=some a->ls[i]?=some x->fE CR K (offs [g,wd,ol] H) a i x)/\(∀l∈ls,l.Ok nmT/\l.Ok ns)/\(∀x,W32 (f x))/\ns.length<=12/\ls.length<=60 ∧
 ∀(fv:V) (H':Hp),jH (offs [g,wd,ol] H) (offs [g,wd,ol] H')->Go6 CG H' g wd ol ll st (b:Int) ns (stF (ls.take (min b ls.length)) f) (stO (ls.take (min b ls.length)) f) fv (min b ls.length)->(ls.length<=b->fv=.non)->(b<ls.length->∃t,fv=.ref t/\offs [g,wd,ol] H' t=some (.tup [.str "budget",.int (b:Int)]))->Q .non H'
def spW1:Sp:=fun vs H Q _=>∃v:Int,vs=[.int v]/\Q (.bl true) H
def aIy:Sp:=fun vs H Q _=>∃v lo hi:Int,vs=[.int v,.int lo,.int hi]/\lo<=v/\v<=hi/\Q (.bl true) H
def aOv:Sp:=fun vs H Q _=>∃v:Int,vs=[.int v,.int 4]/\W32 v/\Q (.bl true) H
def aPw (CP CR:Addr) (K:Φ):Sp:=fun vs H Q _=>∃(p:Addr) (ls:List L6) (nm:List Str),vs=[.ref p]/\tO CP CR K H p ls nm/\∀l,H l=none->Q (.ref l) (upd H l (.lst (nm.map V.str)))
def spI7 (C:Addr) (K:Φ):Sp:=fun vs H Q _=>∃(a dx st wd:Addr) (B:Int) (H1:Hp),vs=[.ref a,.ref st,.ref wd,.int B]/\H a=some (.ins C dx [])/\jH H1 H/\H1 a=none/\∀ol ll H',jH H1 H'->H1 ol=none->ol≠a->H' ol=some (.lst [])->H1 ll=none->ll≠a->ll≠ol->H' ll=some (.lst [])->H' a=some (.ins C dx [("stock",.ref st),("words",.ref wd),("budget",.int B),("outs",.ref ol),("fault",.non),("done",.int (0:Nat)),("lines",.ref ll)])->Q .non H'
def aOy (C:Addr):Sp:=fun vs H Q _=>∃(a dx:Addr) (v m:V) (H1:Hp),vs=[.ref a,v,m]/\H a=some (.ins C dx [])/\jH H1 H/\H1 a=none/\∀l H',jH H1 H'->H' l=some (.lst [])->H' a=some (.ins C dx [("shapes",v),("looks",.ref l),("bound",m)])->Q .non H'
def aOl:Sp:=fun vs H Q _=>∃(v:V) (l:Addr),vs=[v,.int 1,.ref l]/\H l=some (.lst [])/\∀H',jH H H'->Q .non H'
def aPv (C:Addr):Sp:=fun vs H Q _=>∃(a dx:Addr) (v1 v2 v3:V) (l:Addr),vs=[.ref a]/\H a=some (.ins C dx [("shapes",v1),("looks",v2),("bound",v3),("held",.ref l)])/\H l=some (.lst [])/\∀p,H p=none->Q (.ref p) (upd H p (.lst []))
def aPi (C:Addr):Sp:=fun vs H Q _=>∃(a dx:Addr) (v:V) (l:Addr) (H1:Hp),vs=[.ref a,v,.int 1,.ref l]/\H a=some (.ins C dx [])/\jH H1 H/\H1 a=none/\H1 l=some (.lst [])/\∀lk hd H',jH H1 H'->H' lk=some (.lst [])->H' hd=some (.lst [])->H' a=some (.ins C dx [("shapes",v),("looks",.ref lk),("bound",.int 1),("held",.ref hd)])->Q .non H'
theorem dA(ns:List Str)(f:Str->Int):(dW ns f).length=ns.length:=by unfold dW;rw[δ]
theorem aFt{f:Str->Int}{j:Nat}(h:(dW ns f)[j]?=some kv):∃x,ns[j]?=some x/\kv=(.inr x,.int (f x)):=by
 unfold dW at h;rw[jv]at h;cases e:ns[j]? with
 |none=>rw[e]at h;cases h
 |some x=>rw[e]at h;cases h;exact⟨x,rfl,rfl⟩
def aPk (K:Φ):Sp:=fun vs H Q _=>∃(nl di:Addr) (nm ks:List Str) (fi:Str->Int),vs=[.ref nl,.ref di]/\SqL K H nl (nm.map V.str)/\Rd H di (.dK (dW ks fi))/\(∀x∈ks,x∈nm)/\(∀x,W32 (fi x))/\ks.length<=12/\nm.length<=12/\∀H',But di H H'->Rd H' di (.dK (dW ks fi))->Q .non H'
theorem But.sq{K:Φ}(g:But di H H')(h:Rd H di (.dK kvs))(hn:SqL K H nl xs):SqL K H' nl xs:=by
 rcases hn with (hn|⟨o,hn⟩)|hn
 ·exact .inl (.inl (g _ _ (fun z=>by rw[z]at hn;rcases h with h|⟨o,h⟩ <;> rw[hn]at h <;> cases h) hn))
 ·exact .inl (.inr ⟨o,g _ _ (fun z=>by rw[z]at hn;rcases h with h|⟨o,h⟩ <;> rw[hn]at h <;> cases h) hn⟩)
 ·exact .inr hn
def inF (ks:List Str) (fi:Str->Int):Str->Int:=fun x=>if x∈ks then fi x else 0
theorem aPm{fi:Str->Int}(h:∀x,W32 (fi x)):∀x,W32 (inF ks fi x):=fun x=>by
 unfold inF
 split
 ·exact h x
 ·exact⟨by decide,by decide⟩
theorem aJy{x:Str}: ∀{ns:List Str},x∉ns->vZ (dW ns f) (.inr x)=none
 |[],_=>rfl
 |n::ns,h=>by
  unfold vZ dW;rw[ju,uw (by simpa using fun z=>h (by rw[z];exact τ ..))];exact aJy (f:=f) (fun z=>h (Ω _ z))
theorem aEz : (vZ (dW ks fi) (.inr x)).getD (.int 0)=.int (inF ks fi x):=by
 unfold inF
 by_cases h:x∈ks
 ·rw[aS h,if_pos h];rfl
 ·rw[aJy h,if_neg h];rfl
theorem uR{ns:List Str}{f:Str->Int}{x:Str}(h:x∉ns):putK (dW ns f) (.inr x) (.int (f x))=dW (ns++[x]) f:=by
 unfold putK;rw[if_neg]
 ·unfold dW;rw[Θ];rfl
 ·unfold dW;rw[List.any_map];intro z;obtain⟨y,hy,e⟩:=uh.mp z;have:(jj y:Key)=.inr x:=of_decide_eq_true e;exact h (wy this ▸ hy)
theorem aEc{ns:List Str}{j:Nat}(hn:ns.Nodup)(h:ns[j]?=some x):x∉ns.take j:=fun z=>by
 obtain⟨i,hi⟩:=lw.mp z;have hij:i<j:=by
  have:=(η.mp hi).1;rw[ji]at this;omega
 rw[ql hij]at hi;obtain⟨h1,h2⟩:=η.mp hi;obtain⟨h3,h4⟩:=η.mp h;exact absurd ((List.getElem_inj hn).mp (h2.trans h4.symm)) (by omega)
def aPg (CP CR CPl CRn:Addr) (K:Φ):Sp:=fun vs H Q _=>∃(p st di dxs:Addr) (fs:List (Str×V)) (b:Nat) (ls:List L6) (nm ks:List Str) (fi:Str->Int),vs=[.ref p,.ref st,.ref di,.int b]/\tO CP CR K H p ls nm/\H st=some (.ins CPl dxs fs)/\fs.lookup ("ahead" : Str)=none/\Rd H di (.dK (dW ks fi))/\nm.Nodup/\(∀x∈ks,x∈nm)/\(∀x,W32 (fi x))/\ks.length<=12/\nm.length<=12/\(∀l∈ls,l.Ok nmT/\l.Ok nm)/\ls.length<=60/\b<=5000 ∧
 ∀(r dx ol ll:Addr) (fv:V) (H':Hp),But di H H'->Rd H' di (.dK (dW ks fi))->H' r=some (.ins CRn dx [("outs",.ref ol),("fault",fv),("done",.int (min b ls.length:Nat)),("lines",.ref ll)])->H ol=none->H' ol=some (.lst ((stO (ls.take (min b ls.length)) (inF ks fi)).map V.int))->H' ll=some (.lst [])->(ls.length<=b->fv=.non)->(b<ls.length->∃t,fv=.ref t/\H' t=some (.tup [.str "budget",.int (b:Int)]))->Q (.ref r) H'
theorem aHe{xs:List Addr}{H:Hp}(h:∀b∈xs,H b=none)(g:jH H H'):jH H (offs xs H'):=fun b o e=>xH (fun z=>by rw[h b z]at e;cases e) (g b o e)
theorem iC(h:Rd H a u)(g:jH H H'):Rd H' a u:=h.imp (g _ _) fun ⟨o,z⟩=>⟨o,g _ _ z⟩
end K36
namespace K36
open PySem L2
structure PIx (X:Cx) (tg iter:Expr) (wi:TI):Prop where
 h:PI X tg iter wi
theorem oW{X:Cx}(hp:PassesOwn (je X.prog X.w) X.A X.env X.xe)(hc:X.calm=true)(hi:PIx X tg iter wi)(hg:PG X tg g)(hb:PSx X body tb)
  (hs:∀x,tq iter X.env x=pure x:=by intro _;rfl):aBu X (.For tg iter body [] pos) (tFor wi g tb):=⟨yO hp hc hi.h hg hb.h hs⟩
def spNb:Sp:=fun vs H Q _=>∃(p:Addr),vs=[.ref p]/\St3 H p/\∀(v:Nat) (H':Hp),v<4294967296->Drawn p H H'->Q (.int (v:Int)) H'
def aPu (K:Φ):Sp:=fun vs H Q _=>∃(p pl:Addr) (ns:List Str),vs=[.ref p,.ref pl]/\St3 H p/\H pl=some (.lst (ns.map V.str))/\ns.length=4/\(∀x∈ns,x∈nmT)/\∀(l:L6) (H':Hp),l.Ok nmT->l.Ok ns->Drawn p H H'->Q (.str l.tx) H'
theorem aQs{v:Nat}(h:v<6):∃c,(ζ "+-*<=&").cps.toList[v]?=some c/\(⟨#[c]⟩ : Str)∈eW:=by
 match v,h with
 |0,_=>exact⟨_,rfl,by decide⟩
 |1,_=>exact⟨_,rfl,by decide⟩
 |2,_=>exact⟨_,rfl,by decide⟩
 |3,_=>exact⟨_,rfl,by decide⟩
 |4,_=>exact⟨_,rfl,by decide⟩
 |5,_=>exact⟨_,rfl,by decide⟩
 |n+6,h=>omega
theorem aKe{a x:Str}: (a++ζ " = ")++x=jp spS [a,"=",x]:=by
 show _=a++spS++(("=" : Str)++spS++x);rw[show(ζ " = ")=spS++(("=" : Str)++spS) from by ac_rfl];simp only[Str.append_assoc]
theorem aKn{a:Str}: ζ "out " ++ a=jp spS ["out",a]:=by
 show _=("out" : Str)++spS++a;rw[show(ζ "out ")=("out" : Str)++spS from by ac_rfl]
theorem aMz{a b:Str}{n:Nat}{ns:List Str}(ha:a∈ns)(hb:b∈ns)(hn:n<4294967296):∀v:Nat,v<4->∃l:L6,l.Ok ns/\([.str ((a++ζ " = ")++txN n),.str ((a++ζ " = ")++txN n),.str ((a++ζ " = ")++b),.str (ζ "out " ++ a)]:List V)[v]?=some (.str l.tx)
 |0,_=>⟨.num a n,⟨ha,hn⟩,congrArg (fun z=>some (V.str z)) aKe⟩
 |1,_=>⟨.num a n,⟨ha,hn⟩,congrArg (fun z=>some (V.str z)) aKe⟩
 |2,_=>⟨.nam a b,⟨ha,hb⟩,congrArg (fun z=>some (V.str z)) aKe⟩
 |3,_=>⟨.out a,ha,congrArg (fun z=>some (V.str z)) aKn⟩
 |n+4,h=>absurd h (by omega)
def aPr (K:Φ):Sp:=fun vs H Q _=>∃(la wa:Addr) (b:Nat) (ls:List L6) (ns:List Str) (f:Str->Int),vs=[.ref la,.ref wa,.int b]/\H la=some (.lst ((ls.map L6.tx).map V.str))/\H wa=some (.dK (dW ns f))/\(∀l∈ls,l.Ok nmT/\l.Ok ns)/\(∀x∈ns,x∈nmT)/\(∀x,W32 (f x))/\ls.length<=60/\ns.length<=12 ∧
 ∀(t ol:Addr) (fv:V) (H':Hp),jH H H'->H' t=some (.tup [.ref ol,fv,.int (min b ls.length:Nat)])->H' ol=some (.lst ((stO (ls.take (min b ls.length)) f).map V.int))->(ls.length<=b->fv=.non)->(b<ls.length->∃u,fv=.ref u/\H' u=some (.tup [.str "budget",.int (b:Int)]))->Q (.ref t) H'
theorem aCi{x:Str}(h:x∈nmT):x ≠ "out":=of_decide_eq_true (iz.mp (show(nmT.all fun x=>decide (x ≠ "out"))=true by ac_rfl) x h)
theorem aRa : txN n∉nmT:=fun h=>by
 have h2:=of_decide_eq_true (iz.mp (show(nmT.all fun x=>decide (x.cps.toList.length≠0/\∀c∈x.cps.toList,97<=c))=true by ac_rfl) _ h);have h4:=eM n;cases e:(txN n).cps.toList with
 |nil=>rw[e]at h2;exact h2.1 rfl
 |cons c cs =>
  have h3:=h2.2 c (by rw[e];simp);have h5:=h4 c (by rw[e];simp);omega
def smL (p m t l e a:Int):List (Key×V):=[(.inr "<",.int l),(.inr "=",.int e),(.inr "&",.int a),(.inr "+",.int p),(.inr "-",.int m),(.inr "*",.int t)]
theorem aSg : qY (qY [] [(.inr "<",.int 0),(.inr "=",.int 0),(.inr "&",.int 0)]) (qY [] [(.inr "+",.int p),(.inr "-",.int m),(.inr "*",.int t)])=smL p m t 0 0 0:=by rfl
theorem sm_p : vZ (smL p m t l e a) (.inr "+")=some (.int p):=by rfl
theorem sm_m : vZ (smL p m t l e a) (.inr "-")=some (.int m):=by rfl
theorem sm_t : vZ (smL p m t l e a) (.inr "*")=some (.int t):=by rfl
theorem sm_l : vZ (smL p m t l e a) (.inr "<")=some (.int l):=by rfl
theorem sm_e : vZ (smL p m t l e a) (.inr "=")=some (.int e):=by rfl
theorem sm_a : vZ (smL p m t l e a) (.inr "&")=some (.int a):=by rfl
theorem sm_pl : putK (smL p m t l e a) (.inr "<") (.int v)=smL p m t v e a:=by rfl
theorem sm_pe : putK (smL p m t l e a) (.inr "=") (.int v)=smL p m t l v a:=by rfl
theorem sm_pa : putK (smL p m t l e a) (.inr "&") (.int v)=smL p m t l e v:=by rfl
theorem sig6{s:Str}(h:s∈eW):s = "+" ∨ s = "-" ∨ s = "*" ∨ s = "<" ∨ s = "=" ∨ s = "&":=by
 simpa only[eW,ο,List.mem_nil_iff,or_false] using h
theorem aNt{x y:Int}: zV "<" x y=(if decide (x<y) then 1 else 0) % 4294967296:=by
 rw[show zV "<" x y=(if x<y then 1 else 0) from rfl]
 by_cases h:x<y <;> simp[h]
theorem aLv{x y:Int}: zV "=" x y=(if decide (V.int x=V.int y) then 1 else 0) % 4294967296:=by
 rw[show zV "=" x y=(if x=y then 1 else 0) from rfl]
 by_cases h:x=y <;> simp[h]
theorem iM{x:Int}{X i:Nat}(hx:x=X):kh (x / 2 ^ (0+(i:Int)).toNat) 1=((X / 2 ^ i % 2:Nat):Int):=by
 subst hx;rw[show(0+(i:Int)).toNat=i by omega,←aMt];rw[Int.natCast_ediv,Int.natCast_pow];rfl
theorem aRo{x:Int}{X i:Nat}(hx:x=X): -(2 ^ 64)<kh (x / 2 ^ (0+(i:Int)).toNat) 1/\kh (x / 2 ^ (0+(i:Int)).toNat) 1<2 ^ 64:=by
 rw[iM hx];have:=Nat.mod_lt (X / 2 ^ i) (show 0<2 by decide);omega
theorem aLx{x y:Int}{X Y i:Nat}(hx:x=X)(hy:y=Y): -(2 ^ 64)<kh (x / 2 ^ (0+(i:Int)).toNat) 1*kh (y / 2 ^ (0+(i:Int)).toNat) 1/\kh (x / 2 ^ (0+(i:Int)).toNat) 1*kh (y / 2 ^ (0+(i:Int)).toNat) 1<2 ^ 64:=by
 rw[iM hx,iM hy];rcases qf (X / 2 ^ i) with h|h <;> rcases qf (Y / 2 ^ i) with h'|h' <;> rw[h,h'] <;> decide
theorem aNy{x y:Int}{X Y i:Nat}(hx:x=X)(hy:y=Y):(((X &&& Y) % 2 ^ i:Nat):Int)+kh (x / 2 ^ (0+(i:Int)).toNat) 1*kh (y / 2 ^ (0+(i:Int)).toNat) 1*(1*2 ^ (0+(i:Int)).toNat)=(((X &&& Y) % 2 ^ (i+1):Nat):Int):=by
 rw[iM hx,iM hy,aJm,show(0+(i:Int)).toNat=i by omega,Int.one_mul];rw[Int.natCast_add,Int.natCast_mul,Int.natCast_mul,Int.natCast_pow];rfl
theorem aKl{x y:Int}{X Y:Nat}(hx:x=X)(hy:y=Y)(h:x<4294967296):zV "&" x y=(((X &&& Y) % 2 ^ 32:Nat):Int) % 4294967296:=by
 subst hx hy;rw[show zV "&" (X:Int) (Y:Int)=kh X Y from rfl,aEs];have:X &&& Y<=X:=Nat.and_le_left;omega
def plN (v:Nat):List Str:=(nmT.drop v).take 4
theorem aRm:∀i:Nat,i<16->∃c,(ζ "abcdghijklmnopqr").cps.toList[i]?=some c/\nmT[i]?=some ((⟨#[c]⟩ : Str)++ζ "uq"):=by
 intro i h;have:=iz.mp (show((ph 16).all fun i=>(nmT[i]? == ((ζ "abcdghijklmnopqr").cps.toList[i]?.map fun c=>(⟨#[c]⟩ : Str)++ζ "uq"))&&(nmT[i]?).isSome)=true by ac_rfl) i (List.mem_range.mpr h);simp only[jo,beq_iff_eq]at this;cases e:(ζ "abcdghijklmnopqr").cps.toList[i]? with
 |none=>rw[this.1,e]at this;exact absurd this.2 (by simp)
 |some c=>exact⟨c,rfl,by rw[this.1,e];rfl⟩
theorem aLt : ∀x∈plN v,x∈nmT:=fun x h=>List.mem_of_mem_drop (vn h)
theorem aFr{v:Nat}(h:v<13):(plN v).length=4:=by
 unfold plN;rw[ji,vp,show nmT.length=16 from rfl];omega
theorem aRt{j:Nat}(hj:j<4):(plN v)[j]?=nmT[v+j]?:=by
 unfold plN;rw[ql hj,List.getElem?_drop]
theorem aIz : (plN v).Nodup:=((show nmT.Nodup by ac_rfl).sublist (List.drop_sublist v nmT)).sublist (List.take_sublist 4 _)
def shS:List Shp:=[(ζ "s",[(ζ "x",Kd.num 1)])]
theorem aRj : [V.str (ζ "shape s\nx num 1")]=[V.str (txt shS)]:=by
 have:txt shS=ζ "shape s\nx num 1":=by ac_rfl
 rw[this]
theorem uB{i:Nat}(h:shS[i]?=some s):i=0/\s=(ζ "s",[(ζ "x",Kd.num 1)]):=by
 match i,h with
 |0,h=>cases h;exact⟨rfl,rfl⟩
 |i+1,h=>simp[shS]at h
theorem aDc{s:Shp}(h:s∈shS):s=(ζ "s",[(ζ "x",Kd.num 1)]):=Δ.mp h
theorem aSb:Wel shS where
 good:={
  ne:=fun i s h=>by rw[(uB h).2];simp
  few:=fun i s h=>by rw[(uB h).2];show 1<=6;decide
  fit:=fun i s h f hf=>by
   obtain⟨rfl,rfl⟩:=uB h;rw[Δ.mp hf];exact⟨⟨by decide,by decide⟩,by ac_rfl,by ac_rfl⟩
  sz:=fun i=>by
   have e:(tabs shS).sz=[1]:=by ac_rfl
   rw[e]
   match i with
   |0=>decide
   |i+1=>simp }
 nm:=fun s h=>by rw[aDc h];ac_rfl
 fnm:=fun s h f hf=>by
  rw[aDc h]at hf;rw[Δ.mp hf];ac_rfl
 nd:=by ac_rfl
 fnd:=fun s h=>by rw[aDc h];ac_rfl
 len:=by decide
 bd:=fun i s h=>by
  obtain⟨rfl,rfl⟩:=uB h;exact⟨by ac_rfl,by ac_rfl,by ac_rfl,by decide⟩
theorem aIp{ns:List Int}{lo:Option Int}{x:V}(h:x∈bF (ns.map V.int) lo hi):∃c,x=.int c:=by
 unfold bF at h;have:=List.mem_of_mem_drop (vn h);obtain⟨c,_,rfl⟩:=jz.mp this;exact⟨c,rfl⟩
theorem aSx(xs:List V):(bF xs (some 3) (some 32)).length<=29:=by
 unfold bF;rw[ji];refine jh (og _ _) ?_;show(if (32:Int)<0 then ((32:Int)+xs.length).toNat else min (32:Int).toNat xs.length)-(if (3:Int)<0 then ((3:Int)+xs.length).toNat else min (3:Int).toNat xs.length)<=29;rw[if_neg (by decide),if_neg (by decide)];show min 32 xs.length-min 3 xs.length<=29;omega
theorem aIk{f:Str->Int}: dW ks f=ja (fun k v=>((.inr k:Key),v)) ks (ks.map fun k=>V.int (f k)):=by
 unfold dW;rw[List.zipWith_map_right,List.zipWith_self]
theorem aId{K:Φ}{f:Str->Int}: ∀ks:List Str,Dts false K H (ks.map fun k=>V.int (f k)) (ks.map fun k=>sr (f k))
 |[]=>.nil
 |k::ks=>.cons (.int _) (aId ks)
theorem aIo{f:Str->Int}: ∀ks:List Str,lr (ks.map fun k=>sr (f k))<=50
 |[]=>jg _
 |k::ks=>by
  have:=aIo (f:=f) ks;show max 0 (lr (ks.map fun k=>sr (f k)))<=50;omega
def flD:Option Nat->jx
 |none=>.none
 |some b=>.tuple [.str "budget",.int b]
def rsD (os:List Int) (fl:Option Nat) (n:Nat):jx:=.tuple [.list (os.map sr),flD fl,.int n]
theorem aBr:∀os:List Int,jx.canLayAll0 (os.map sr)=true
 |[]=>rfl
 |_::os=>aBr os
theorem aAd:∀os:List Int,lr (os.map sr)=0
 |[]=>rfl
 |_::os=>by show max 0 (lr (os.map sr))=0;rw[aAd os];rfl
theorem aCj{os:List Int}: SeqAt.shaped (rsD os fl n)=true:=by
 unfold SeqAt.shaped rsD;have h1:jx.canLay0 (flD fl)=true:=by
  cases fl with
  |none=>rfl
  |some b=>show(jx.canLay0 (.str "budget")&&(true&&true))=true;ac_rfl
 have h2:jx.depth (flD fl)<=1:=by
  cases fl with
  |none=>decide
  |some b=>show max 0 (max 0 0)+1<=1;decide
 rw[jo];refine⟨?_,decide_eq_true ?_⟩
 ·show(jx.canLayAll0 (os.map sr)&&(jx.canLay0 (flD fl)&&(true&&true)))=true;rw[aBr,h1];rfl
 ·have h3:jx.depth (.list (os.map sr))=1:=by show lr (os.map sr)+1=1;rw[aAd]
  show(max (jx.depth (.list (os.map sr))) (max (jx.depth (flD fl)) (max 0 0)))+1<=64;rw[h3];omega
theorem aRc{os:List Int}: jx.eqv (rsD os fl n) (rsD os fl n)=true:=PySem.SeqAt.eqv_refl _ (SeqAt.canLay_of_shaped aCj)
theorem aCa{K:Φ}: ∀os:List Int,DatAll K H (os.map V.int) (os.map sr)
 |[]=>.nil
 |_::os=>.cons (.int _) (aCa os)
theorem aHr{K:Φ}{H:Hp}{fv:V}{os:List Int}{b n m:Nat}(ht:H t=some (.tup [.ref ol,fv,.int (m:Nat)]))(ho:H ol=some (.lst (os.map V.int)))(h1:n<=b->fv=.non)(h2:b<n->∃u,fv=.ref u/\H u=some (.tup [.str "budget",.int (b:Int)])):Dat K H (.ref t) (rsD os (if n<=b then none else some b) m):=by
 refine .tup (SqT.of ht) (.cons (.lst (SqL.of ho) (aCa os)) (.cons ?_ (.cons (.int _) .nil)))
 by_cases h:n<=b
 ·rw[if_pos h,h1 h];exact .non
 ·rw[if_neg h];obtain⟨u,rfl,hu⟩:=h2 (by omega);exact .tup (SqT.of hu) (.cons (.str _) (.cons (.int _) .nil))
def nF (v:Nat) (ls:List L6):List L6:=ls++(plN v).map L6.out
theorem aRy{ls:List L6}(h:∀l∈ls,l.Ok (plN v)):∀l∈nF v ls,l.Ok (plN v):=fun l hl=>by
 rcases lq.mp hl with hl|hl
 ·exact h l hl
 ·obtain⟨x,hx,rfl⟩:=jz.mp hl;exact hx
theorem oG{v:Nat}(h:v<13):(nF v ls).length=ls.length+4:=by
 unfold nF;rw[θ,δ,aFr h]
theorem aMb{l:L6}: (((nF v ls).map L6.tx).map V.str).take ls.length++V.str l.tx::(((nF v ls).map L6.tx).map V.str).drop ls.length=((nF v (ls++[l])).map L6.tx).map V.str:=by
 unfold nF;rw[Θ,Θ,List.take_left' (by simp),List.drop_left' (by simp)];simp
theorem aQi{nm:List Str}(h:∀l∈nF v ls,∀x∈l.ns,x∈nm):∀x∈plN v,x∈nm:=fun x hx=>h (.out x) (jf _ (jz.mpr ⟨x,hx,rfl⟩)) x (by simp[L6.ns])
theorem sub_len{ks:List Str}(h:ks.Sublist (plN v)):ks.length<=12:=by
 have h1:=h.length_le;have h2:(plN v).length<=4:=mv _ _;omega
theorem o6_nm{ms:List Str}{l:L6}(h:l.Ok ns)(hm:∀x∈l.ns,x∈ms):l.Ok ms:=by
 cases l with
 |op a b c s=>exact⟨hm _ (by simp[L6.ns]),hm _ (by simp[L6.ns]),hm _ (by simp[L6.ns]),h.2.2.2⟩
 |num a n=>exact⟨hm _ (by simp[L6.ns]),h.2⟩
 |nam a b=>exact⟨hm _ (by simp[L6.ns]),hm _ (by simp[L6.ns])⟩
 |out a=>exact hm _ (by simp[L6.ns])
theorem aJl:∀{ls:List L6},(∀l∈ls,l.Ok nmT)->((ls.map L6.tx).map (·.length)).sum<=60*ls.length
 |[],_=>ι _
 |l::ls,h=>by
  have h1:=(aFv (h l (τ ..))).2.1;have h2:=aJl (ls:=ls) fun x hx=>h x (Ω _ hx);rw[ju,ju,ue,χ];omega
theorem aSv{ks:List Str}{x:Str}(h:x∉ks):putK (dW ks f) (.inr x) (.int v)=dW (ks++[x]) (upF f x v):=by
 have e:dW ks f=dW ks (upF f x v):=by
  unfold dW;refine rg fun y hy=>?_;unfold upF;rw[if_neg (fun z:y=x=>h (z ▸ hy))]
 have e2:v=upF f x v x:=by unfold upF;rw[if_pos rfl]
 rw[e,show(V.int v)=V.int (upF f x v x) from congrArg V.int e2,uR h]
theorem upF_w{f:Str->Int}(hf:∀y,W32 (f y))(hv:W32 v):∀y,W32 (upF f x v y):=fun y=>by
 unfold upF
 split
 ·exact hv
 ·exact hf y
theorem aJc : ∀(ks ns:List Str),(ks++ns).Nodup->qY (dW ks f) (dW ns f)=dW (ks++ns) f
 |ks,[],_=>by rw[jq];rfl
 |ks,n::ns,h=>by
  have hn:n∉ks:=fun z=>(vg.mp h).2.2 _ z _ (τ ..) rfl;have h2:=aJc (f:=f) (ks++[n]) ns (by rw[jy];exact h);rw[jy]at h2;show qY (putK (dW ks f) (.inr n) (.int (f n))) (dW ns f)=_;rw[uR hn,h2];rfl
theorem tO.same{CR:Addr}{K:Φ}(h:tO CP CR K H p ls nm)(g:jH H H'):tO CP CR K H' p ls nm:=by
 obtain⟨dx,rp,nd,v1,v2,rs,h1,h2,h3,h4,h5⟩:=h;exact⟨dx,rp,nd,v1,v2,rs,g _ _ h1,g.seq h2,g.seq h3,h4,fun i a x e1 e2=>(h5 i a x e1 e2).same g⟩
end K36
namespace L2
open PySem PySem.Spec PyProof.Rows
theorem xK{K:Φ}: (aCt CX P w K mg base N qual scope f cd A outer s H E).K=K:=rfl
theorem xN{X:Cx}: X.nox.K=X.K:=rfl
theorem aNi{t2:TS}(h:let r2:=t2;vB t1 r2 D σ H):vB t1 t2 D σ H:=h
theorem aLw{t3:TS}(h:let r3:=t3;let r2:=vB t2 r3;vB t1 r2 D σ H):vB t1 (vB t2 t3) D σ H:=h
theorem aNp{t4:TS}(h:let r4:=t4;let r3:=vB t3 r4;let r2:=vB t2 r3;vB t1 r2 D σ H):vB t1 (vB t2 (vB t3 t4)) D σ H:=h
theorem aMg{t5:TS}(h:let r5:=t5;let r4:=vB t4 r5;let r3:=vB t3 r4;let r2:=vB t2 r3;vB t1 r2 D σ H):vB t1 (vB t2 (vB t3 (vB t4 t5))) D σ H:=h
theorem aNo{t6:TS}(h:let r6:=t6;let r5:=vB t5 r6;let r4:=vB t4 r5;let r3:=vB t3 r4;let r2:=vB t2 r3;vB t1 r2 D σ H):vB t1 (vB t2 (vB t3 (vB t4 (vB t5 t6)))) D σ H:=h
theorem aMe{t7:TS}(h:let r7:=t7;let r6:=vB t6 r7;let r5:=vB t5 r6;let r4:=vB t4 r5;let r3:=vB t3 r4;let r2:=vB t2 r3;vB t1 r2 D σ H):vB t1 (vB t2 (vB t3 (vB t4 (vB t5 (vB t6 t7))))) D σ H:=h
end L2
local macro_rules | `(tactic| refine⟨_,($t),?_⟩) => `(tactic| (refine⟨_,$t,?_⟩; (try dsimp only[L2.xK,L2.xN]);first | (refine L2.aMe ?_;intros) | (refine L2.aNo ?_;intros) | (refine L2.aMg ?_;intros) | (refine L2.aNp ?_;intros) | (refine L2.aLw ?_;intros) | (refine L2.aNi ?_;intros)| skip))
namespace K36
open PySem L2 PyProof.Rows
local macro_rules | `(tactic| clear 1 $p:ident $H:ident $g:ident $k:ident $h:ident) => `(tactic| (generalize zq9 : upd _ $p _ = $H;obtain ⟨$g, $k⟩ := qG zq9 $h))
local macro_rules | `(tactic| clear 0 $p:ident $H:ident $g:ident $k:ident) => `(tactic| (generalize zq9 : upd _ $p _ = $H;obtain ⟨$g, $k⟩ := vV zq9))
local macro_rules | `(tactic| walk_at"sc") => `(tactic| exact⟨rfl, rfl, rfl, by decide +kernel, rfl, by decide +kernel, by decide +kernel⟩)
local macro_rules | `(tactic| w_cond $s:ident) => `(tactic| (obtain ⟨M, C, Ua, Ub, Uc, Ud, Ue, Uf, af, aj, ao, aa, ak⟩ := Z; (first | refine F.ok $s (fun vs H Q E h => ?_) (fun cdv A outer s0 H vs Q E hr0 h => ?_) | refine F.okE $s (fun vs H Q E h => ?_) (fun cdv A outer s0 H vs Q E hr0 h => ?_) | refine F.okH $s (fun vs H Q E h => ?_) (fun cdv A outer s0 H vs Q E hr0 h => ?_)); (rotate_left;have hr := hr0.mono (vi _);rotate_right);try (· first | (cases h;subst_vars;rfl) | repeat (first | (obtain ⟨rfl, _⟩ := h;exact rfl) | obtain ⟨_, h⟩ := h))))
abbrev cL:Stmt:=top 26
theorem sY:jJ ["thing","signs","most"] ["thing","signs","most"] (jF cL):=by walk_at"sc"
abbrev mC:Stmt:=top 25
theorem aDn:jJ ["thing"] ["thing"] (jF mC):=by walk_at"sc"
abbrev dS:Stmt:=top 27
theorem hZ:jJ ["text","low","high","number"] ["text","low","high"] (jF dS):=by walk_at"sc"
abbrev rJ:Stmt:=top 31
theorem aGe:jJ ["path","step"] ["path","step"] (jF rJ):=by walk_at"sc"
abbrev yT:Stmt:=top 86
theorem lV:jJ ["words"] ["words"] (jF yT):=by walk_at"sc"
abbrev fG:Stmt:=inClass (top 33) 3
theorem aAk:jJ ["self"] ["self"] (jF fG):=by walk_at"sc"
abbrev aY:Stmt:=inClass (top 34) 3
theorem rC:jJ ["self"] ["self"] (jF aY):=by walk_at"sc"
abbrev bY:Stmt:=inClass (top 37) 1
theorem sE:jJ ["self"] ["self"] (jF bY):=by walk_at"sc"
abbrev dY:Stmt:=inClass (top 33) 4
theorem wP:jJ ["self"] ["self"] (jF dY):=by walk_at"sc"
abbrev aA:Stmt:=inClass (top 34) 4
theorem nL:jJ ["self"] ["self"] (jF aA):=by walk_at"sc"
abbrev bH:Stmt:=inClass (top 37) 2
theorem pY:jJ ["self"] ["self"] (jF bH):=by walk_at"sc"
abbrev dM:Stmt:=inClass (top 35) 3
theorem uG:jJ ["self"] ["self"] (jF dM):=by walk_at"sc"
abbrev cE:Stmt:=inClass (top 35) 4
theorem sV:jJ ["self"] ["self"] (jF cE):=by walk_at"sc"
abbrev zF:Stmt:=inClass (top 36) 4
theorem lY:jJ ["self"] ["self"] (jF zF):=by walk_at"sc"
abbrev cI:Stmt:=inClass (top 36) 5
theorem sS:jJ ["self"] ["self"] (jF cI):=by walk_at"sc"
abbrev dZ:Stmt:=inClass (top 36) 3
theorem wL:jJ ["self"] ["self"] (jF dZ):=by walk_at"sc"
abbrev fU:Stmt:=inClass (top 33) 0
theorem aBt:jJ ["self","width"] ["self","width"] (jF fU):=by walk_at"sc"
abbrev bI:Stmt:=inClass (top 34) 0
theorem rY:jJ ["self","shape"] ["self","shape"] (jF bI):=by walk_at"sc"
abbrev dG:Stmt:=inClass (top 35) 0
theorem wM:jJ ["self","count","kind"] ["self","count","kind"] (jF dG):=by walk_at"sc"
abbrev eF:Stmt:=inClass (top 36) 0
theorem wQ:jJ ["self","shapes"] ["self","shapes"] (jF eF):=by walk_at"sc"
abbrev bJ:Stmt:=inClass (top 38) 0
theorem rW:jJ ["self","shapes"] ["self","shapes"] (jF bJ):=by walk_at"sc"
abbrev zX:Stmt:=inClass (top 33) 6
theorem nR:jJ ["self","path"] ["self","path"] (jF zX):=by walk_at"sc"
abbrev zD:Stmt:=inClass (top 36) 7
theorem iZ:jJ ["self","path"] ["self","path"] (jF zD):=by walk_at"sc"
abbrev zE:Stmt:=inClass (top 34) 5
theorem lB:jJ ["self"] ["self"] (jF zE):=by walk_at"sc"
abbrev aV:Stmt:=inClass (top 35) 5
theorem rV:jJ ["self"] ["self"] (jF aV):=by walk_at"sc"
abbrev zA:Stmt:=inClass (top 32) 2
theorem xF:jJ ["self","path","rows","step","kind"] ["self","path"] (jF zA):=by walk_at"sc"
abbrev aX:Stmt:=inClass (top 37) 3
theorem pJ:jJ ["self"] ["self"] (jF aX):=by walk_at"sc"
abbrev bW:Stmt:=inClass (top 37) 0
theorem sM:jJ ["self","name","fields"] ["self","name","fields"] (jF bW):=by walk_at"sc"
abbrev dN:Stmt:=top 89
theorem uE:jJ ["words"] ["words"] (jF dN):=by walk_at"sc"
abbrev lK:Stmt:=top 88
theorem aCv:jJ ["words"] ["words"] (jF lK):=by walk_at"sc"
abbrev zG:Stmt:=top 87
theorem lJ:jJ ["words"] ["words"] (jF zG):=by walk_at"sc"
abbrev aD:Stmt:=top 92
theorem nB:jJ ["words"] ["words"] (jF aD):=by walk_at"sc"
abbrev yN:Stmt:=top 90
theorem iW:jJ ["told","line","name"] ["told","line","name"] (jF yN):=by walk_at"sc"
abbrev zR:Stmt:=top 93
theorem nK:jJ ["told"] ["told"] (jF zR):=by walk_at"sc"
abbrev cA:Stmt:=top 91
theorem xP:jJ ["told","line","words","named","at","name"] ["told","line","words"] (jF cA):=by walk_at"sc"
abbrev lA:Stmt:=top 95
theorem aDj:jJ ["words","shapes"] ["words","shapes"] (jF lA):=by walk_at"sc"
abbrev aW:Stmt:=top 96
theorem oT:jJ ["shape"] ["shape"] (jF aW):=by walk_at"sc"
abbrev cR:Stmt:=top 94
theorem aT:jJ ["told","line","words","kind","shape"] ["told","line","words"] (jF cR):=by walk_at"sc"
abbrev bG:Stmt:=top 85
theorem vH:jJ ["text","lines","told","line","row","words"] ["text"] (jF bG):=by walk_at"sc"
abbrev mJ:Stmt:=top 128
theorem aDg:jJ ["_law_cell_here"] ["_law_cell_here"] (jF mJ):=by walk_at"sc"
abbrev fK:Stmt:=inClass (top 48) 0
theorem aBg:jJ ["self","line","deed","goal","reads","steps","number"] ["self","line","deed","goal","reads","steps","number"] (jF fK):=by walk_at"sc"
abbrev zZ:Stmt:=inClass (top 51) 0
theorem nW:jJ ["self","shapes","rows","named","written"] ["self","shapes","rows","named","written"] (jF zZ):=by walk_at"sc"
abbrev aR:Stmt:=inClass (top 38) 2
theorem oY:jJ ["self"] ["self"] (jF aR):=by walk_at"sc"
abbrev aDy:Stmt:=top 55
theorem aMa:jJ ["part","word"] ["part","word"] (jF aDy):=by walk_at"sc"
abbrev fJ:Stmt:=top 126
theorem aAo:jJ ["_law_script","_law_k"] ["_law_script","_law_k"] (jF fJ):=by walk_at"sc"
abbrev eA:Stmt:=top 127
theorem cG:jJ ["_law_cell_here","_law_k","_law_number_here"] ["_law_cell_here","_law_k"] (jF eA):=by walk_at"sc"
abbrev fT:Stmt:=top 129
theorem dH:jJ ["_law_box_here","_law_many","_law_digit","_law_number_here"] ["_law_box_here","_law_many"] (jF fT):=by walk_at"sc"
abbrev fR:Stmt:=top 53
theorem aAa:jJ ["text"] ["text"] (jF fR):=by walk_at"sc"
abbrev pG:Stmt:=top 62
theorem mK:jJ ["names","ahead","found","name"] ["names","ahead"] (jF pG):=by walk_at"sc"
abbrev fL:Stmt:=top 28
theorem aBl:jJ ["width"] ["width"] (jF fL):=by walk_at"sc"
abbrev lF:Stmt:=top 54
theorem fH:jJ ["line","words","deed","form"] ["line","words"] (jF lF):=by walk_at"sc"
abbrev yU:Stmt:=top 56
theorem mH:jJ ["begun","line","deed"] ["begun","line","deed"] (jF yU):=by walk_at"sc"
abbrev aF:Stmt:=top 57
theorem nU:jJ ["begun","deed"] ["begun","deed"] (jF aF):=by walk_at"sc"
abbrev aU:Stmt:=top 64
theorem pB:jJ ["row"] ["row"] (jF aU):=by walk_at"sc"
abbrev dF:Stmt:=top 65
theorem gK:jJ ["told","at","row","rows","behind","others","last"] ["told","at"] (jF dF):=by walk_at"sc"
abbrev dO:Stmt:=top 63
theorem yD:jJ ["told","first","rows","at","row"] ["told","first"] (jF dO):=by walk_at"sc"
abbrev fP:Stmt:=top 61
theorem aM:jJ ["form","words","steps","names","part","word"] ["form","words","steps"] (jF fP):=by walk_at"sc"
abbrev pR:Stmt:=top 58
theorem bP:jJ ["shape","line","deed","filled","goal","reads","steps","number"] ["shape","line","deed","filled"] (jF pR):=by walk_at"sc"
abbrev zY:Stmt:=top 52
theorem kG:jJ ["shapes","text","lines","told","begun","named","line","words","deed","form","row","rows","behind"] ["shapes","text"] (jF zY):=by walk_at"sc"
abbrev aDa:Stmt:=top 72
theorem aMp:jJ ["number"] ["number"] (jF aDa):=by walk_at"sc"
abbrev fF:Stmt:=top 73
theorem aAg:jJ ["sign","one","other"] ["sign","one","other"] (jF fF):=by walk_at"sc"
abbrev aZ:Stmt:=inClass (top 121) 11
theorem pS:jJ ["self","done"] ["self","done"] (jF aZ):=by walk_at"sc"
abbrev aE:Stmt:=inClass (top 69) 3
theorem nA:jJ ["self","line"] ["self","line"] (jF aE):=by walk_at"sc"
abbrev zI:Stmt:=inClass (top 69) 7
theorem lQ:jJ ["self","row","words","told"] ["self","row","words"] (jF zI):=by walk_at"sc"
abbrev yZ:Stmt:=inClass (top 69) 6
theorem yP:jJ ["self","row","words","told"] ["self","row"] (jF yZ):=by walk_at"sc"
abbrev zQ:Stmt:=inClass (top 69) 2
theorem nP:jJ ["self","row"] ["self","row"] (jF zQ):=by walk_at"sc"
abbrev yY:Stmt:=inClass (top 69) 1
theorem bT:jJ ["self","rows","row"] ["self","rows"] (jF yY):=by walk_at"sc"
abbrev fQ:Stmt:=top 22
theorem aAf:jJ ["thing"] ["thing"] (jF fQ):=by walk_at"sc"
abbrev cS:Stmt:=top 24
theorem sP:jJ ["thing","low","high"] ["thing","low","high"] (jF cS):=by walk_at"sc"
abbrev lH:Stmt:=top 29
theorem aEa:jJ ["thing","width"] ["thing","width"] (jF lH):=by walk_at"sc"
abbrev zH:Stmt:=inClass (top 51) 1
theorem mG:jJ ["self"] ["self"] (jF zH):=by walk_at"sc"
abbrev cP:Stmt:=inClass (top 69) 0
theorem sQ:jJ ["self","stock","words","budget"] ["self","stock","words","budget"] (jF cP):=by walk_at"sc"
abbrev fN:Stmt:=inClass (top 68) 0
theorem aCg:jJ ["self","outs","fault","done","lines"] ["self","outs","fault","done","lines"] (jF fN):=by walk_at"sc"
abbrev cN:Stmt:=inClass (top 121) 0
theorem sW:jJ ["self","shapes","most"] ["self","shapes","most"] (jF cN):=by walk_at"sc"
abbrev zO:Stmt:=top 124
theorem nV:jJ ["shapes","most","things"] ["shapes","most","things"] (jF zO):=by walk_at"sc"
abbrev zC:Stmt:=inClass (top 122) 9
theorem mI:jJ ["self"] ["self"] (jF zC):=by walk_at"sc"
abbrev cD:Stmt:=inClass (top 122) 0
theorem sF:jJ ["self","shapes","most","records"] ["self","shapes","most","records"] (jF cD):=by walk_at"sc"
abbrev aQ:Stmt:=top 71
theorem yG:jJ ["names","inputs","texts","others","key"] ["names","inputs"] (jF aQ):=by walk_at"sc"
abbrev aKk:Stmt:=top 70
theorem aDf:jJ ["program","store","inputs","budget","names","going"] ["program","store","inputs","budget"] (jF aKk):=by walk_at"sc"
abbrev cJ:Stmt:=top 130
theorem bD:jJ ["_law_box_here","_law_end","_law_near"] ["_law_box_here"] (jF cJ):=by walk_at"sc"
abbrev fD:Stmt:=top 131
theorem xW:jJ ["_law_box_here","_law_pool","_law_a","_law_b","_law_c","_law_way","_law_number_here"] ["_law_box_here","_law_pool"] (jF fD):=by walk_at"sc"
abbrev lG:Stmt:=top 132
theorem qU:jJ ["_law_lines","_law_words","_law_budget","_law_outs","_law_end","_law_at","_law_line_here","_law_said","_law_told","_law_one","_law_other","_law_some","_law_k","_law_bit"] ["_law_lines","_law_words","_law_budget"] (jF lG):=by walk_at"sc"
abbrev aJt:Stmt:=top 133
theorem xA:jJ ["_law_script","_law_letters","_law_at","_law_pool","_law_lines","_law_cell_here","_law_shapes","_law_program","_law_box_here","_law_inputs","_law_name","_law_words","_law_handed","_law_many","_law_budgets","_law_budget","_law_store","_law_told"] ["_law_script"] (jF aJt):=by walk_at"sc"
structure ZZ (P:ki) (w:mx) (base:ky) (K:Φ) (mg:Str->Option Value) (t1 t2 t3 t4 t5 t6 t7 t8 t9 t10 t11 t12 t13 t14 t15 t16 t17 t18:Tok) (ts tNa tSi tBe tFo:Addr) (Va cIu:Addr) (Vb cIv:Addr) (Vc cIx:Addr) (Vd cIy:Addr) (Ve cIz:Addr) (Vf cIw:Addr) (ae bp:Addr) (ai az:Addr) (ar bq:Addr) (ac bc:Addr) (ah be:Addr):Prop where
 M:Blt mg
 C:Cst K mg t1 t2 t3 t4 t5 t6 t7 t8 t9 t10 t11 t12 t13 t14 t15 t16 t17 t18 ts tNa tSi tBe tFo
 Ua:fM K mg "Num" Va cIu ["width"]
 Ub:fM K mg "Nested" Vb cIv ["shape"]
 Uc:fM K mg "Many" Vc cIx ["count","kind"]
 Ud:fM K mg "Pick" Vd cIy ["shapes"]
 Ue:fM K mg "Shape" Ve cIz ["name","fields"]
 Uf:fM K mg "Shapes" Vf cIw ["shapes"]
 af:fM K mg "Row" ae bp ["line","deed","goal","reads","steps","number"]
 aj:fM K mg "Program" ai az ["shapes","rows","named","written"]
 ao:fM K mg "Run" ar bq ["outs","fault","done","lines"]
 aa:fM K mg "Going" ac bc ["stock","words","budget","outs","fault","done","lines"]
 ak:fM K mg "Plain" ah be ["shapes","looks","bound","held"]
section
variable {P:ki}{w:mx}{K:Φ}{mg:Str->Option Value}{base:ky}{t1 t2 t3 t4 t5 t6 t7 t8 t9 t10 t11 t12 t13 t14 t15 t16 t17 t18:Tok}{ts tNa tSi tBe tFo:Addr}{Va cIu:Addr}{Vb cIv:Addr}{Vc cIx:Addr}{Vd cIy:Addr}{Ve cIz:Addr}{Vf cIw:Addr}{ae bp:Addr}{ai az:Addr}{ar bq:Addr}{ac bc:Addr}{ah be:Addr}(Z:ZZ P w base K mg t1 t2 t3 t4 t5 t6 t7 t8 t9 t10 t11 t12 t13 t14 t15 t16 t17 t18 ts tNa tSi tBe tFo Va cIu Vb cIv Vc cIx Vd cIy Ve cIz Vf cIw ae bp ai az ar bq ac bc ah be)
include Z
local macro_rules|`(j0 $a $b)=>`(jU P w K mg base CX0 (k+2) f fd $a $b)
local macro_rules|`(j3 $a $b)=>`(Cal P w K mg base CX0 k $a $b)
local macro_rules|`(j4 $a $b $c)=>`(vG P w K mg base CX0 k $a $b $c)
local macro_rules|`(j5 $a $b)=>`(xX P w K mg base CX0 k $a $b)
local macro_rules|`(j6 0)=>`(Cl5.mk Va Vb Vc Vd Ve)
theorem sL{k:Nat}(F:Fun K "is_text_of" "is_text_of" cL f fd):j0 ["thing","signs","most"] (rO K):=by
 w_cond sY;obtain⟨x,signs,most,rfl,h⟩:=h;refine⟨_,(jC (jZ (PW.pt (fC (xT (vP (jR (vN.or hJ tT) rfl M.isinstance oh (jA (pv 0) (jA (aN (v:=.ty "str") rfl M.str boot_str rfl) jB))))) (bV (xT (aCc mQ mQ jE (jR aBy rfl M.len jt (jA (pv 0) jB)) (pv 2)))))) (jD (jL pK)) jM) (jD (jL (jR (iF rfl) rfl M.all boot_all (jA (qW ["sign"] ["signs"] [1] rfl (aRs (pv 0)) rfl ⟨rfl,trivial⟩ ⟨⟨rfl,rfl,rfl,_,rfl⟩,trivial⟩ (fun _ _ _ _=>(qN rfl)) (fun _ _ _ _=>qI) (fun _ _ _ _=>(vA aGx (pv 0) (pv 1) (by with_unfolding_all rfl)))) jB))))),?_⟩;rcases h with⟨z,rfl,hz,q⟩|⟨t,ht,hns,q⟩
 ·have hl:=len_list z;refine⟨_,rfl,.inl ⟨_,_,"str",rfl,by decide,rfl,_,rfl,qP ?_⟩⟩;refine⟨_,rfl,.str z,z.length,rfl,⟨small hz,rfl⟩,_,_,rfl,rfl,_,rfl,vL (fun c1=>?_) (fun c1=>?_)⟩
  ·refine⟨_,rfl,_,_,rfl,rfl,_,rfl,vL (fun c2=>?_) (fun c2=>?_)⟩
   ·have e:within z most=false:=by
     unfold within;have:decide ((z.length:Int)<=most)=false:=by simpa using c2
     rw[this,Bool.and_false]
    have:=q H (jH.refl H);rw[e,qm]at this;exact this
   ·have e:within z most=true:=by
     unfold within;have c2':decide ((z.length:Int)<=most)=true:=by simpa using c2
     rw[c2',c1];rfl
    refine⟨_,rfl,z,rfl,aJa (fun i ys H'=>H'=H/\ys=((z.cps.toList.take i).map fun c=>decide (c∈signs.cps.toList)).map V.bl) ⟨rfl,rfl⟩ (fun i ys H' _ w=>by rw[w.2,δ,δ];exact mv ..) (qM hz) (fun i c ys H' hc w=>?_) (fun ys H' w p hp=>?_)⟩
    ·obtain⟨rfl,rfl⟩:=w;refine⟨_,rfl,_,rfl,⟨#[c]⟩,signs,rfl,rfl,⟨rfl,?_⟩,_,rfl⟩;rw[aJv (fun c=>decide (c∈signs.cps.toList)) _ i hc,Θ,aRq];rfl
    ·obtain⟨rfl,rfl⟩:=w;refine⟨p,(z.cps.toList.map fun c=>decide (c∈signs.cps.toList)),rfl,SqL.of ?_,?_⟩
     ·rw[jI,←hl,qc]
     ·have:=q _ (xY hp (.lst (((z.cps.toList.take z.length).map fun c=>decide (c∈signs.cps.toList)).map V.bl)));rw[e,Bool.true_and]at this;rw[all_map];exact this
  ·refine⟨_,rfl,?_⟩;have e:within z most=false:=by
    unfold within;have:decide (1<=(z.length:Int))=false:=by simpa using c1
    rw[this,qm]
   have:=q H (jH.refl H);rw[e,qm]at this;exact fB this
 ·rcases ht with ht|⟨rfl,p,kvs,rfl,hp⟩
  ·exact⟨_,rfl,.inl ⟨x,_,t,rfl,by decide,ht,_,rfl,vR (by rw[isa3 hns];rfl) (iteT q)⟩⟩
  ·exact⟨_,rfl,.inr ⟨p,_,kvs,rfl,by decide,hp,_,rfl,fB (iteT q)⟩⟩
theorem aCy(F:Fun K "is_name" "is_name" mC f fd)(br:j3 "is_text_of" (rO K)):j0 ["thing"] (zT K):=by
 w_cond aDn;obtain⟨x,rfl,h⟩:=h;refine⟨_,(jD (jL (yV (jK br hr (jA (pv 0) (jA (kL (v:=.str "abcdefghijklmnopqrstuvwxyz") rfl C.SMALL_LETTERS ⟨_,rfl⟩) (jA (kL (v:=.int 6) rfl C.MOST_LETTERS ⟨_,rfl⟩) jB)))) (bA (vA xD (pv 0) (kL (v:=.ref ts) rfl C.OWN_WORDS rfl) (by with_unfolding_all rfl)))))),?_⟩;rcases h with⟨z,rfl,hz,q⟩|⟨t,ht,hns,q⟩
 ·refine⟨_,rfl,.str z,zU,6,rfl,.inl ⟨z,rfl,hz,fun H1 g1=>⟨_,rfl,vL (fun c=>?_) (fun c=>?_)⟩⟩⟩
  ·refine⟨_,rfl,ts,_,rfl,.inr (C.words _),rfl,qF _,?_⟩;show Q (.bl (!inV (.str z) (ownL.map V.str))) H1;rw[qK];have:=q H1 g1;unfold qB at this;rw[c,Bool.true_and]at this;exact this
  ·have:=q H1 g1;unfold qB at this;rw[qt.mpr c,qm]at this;exact this
 ·exact⟨_,rfl,x,zU,6,rfl,.inr ⟨t,ht,hns,⟨_,rfl,aAc (q H (jH.refl H))⟩⟩⟩
theorem wE{k:Nat}(F:Fun K "number_in" "number_in" dS f fd)(br:j3 "is_text_of" (rO K)):j0 ["text","low","high"] (cF K):=by
 w_cond hZ;obtain⟨x,lo,hi,rfl,h⟩:=h;refine⟨_,(jC (jZ (xT (vP (jK br hr (jA (pv 0) (jA (kL (v:=.str "0123456789") rfl C.FIGURES ⟨_,rfl⟩) (jA (kL (v:=.int 10) rfl C.MOST_FIGURES ⟨_,rfl⟩) jB)))))) (jD (jL cT)) jM) (jC (jZ (PW.pt (bX (jP qD (jV aCl (pv 0) jE) jN) (zJ (jP dU (jR aBy rfl M.len jt (jA (pv 0) jB)) jE)))) (jD (jL cT)) jM) (jC (jQ 3 hZ.nd (qO yB rfl M.int boot_int (jA (pv 0) jB))) (jD (jL (vS (aCc mQ mQ (pv 1) (pv 3) (pv 2)) (pv 3) cT)))))),?_⟩;rcases h with⟨z,rfl,hz,q⟩|⟨t,ht,hns,q⟩
 ·have hl:=len_list z;refine⟨_,rfl,.str z,aG,10,rfl,.inl ⟨z,rfl,hz,fun H1 g1=>⟨_,rfl,vL (fun c=>?_) (fun c=>?_)⟩⟩⟩
  ·have e:iG z=none:=by
    unfold iG;rw[if_neg];intro w;rw[jo]at w;rw[w.1]at c;exact absurd c (by decide)
   have:=q H1 g1;rw[e]at this;exact this
  ·have c':(within z 10&&aBi z aG)=true:=by simpa using c
   have hw : 1<=(z.length:Int):=by
    rw[jo]at c';unfold within at c';have:=c'.1;rw[jo]at this;exact of_decide_eq_true this.1
   have hw2:(z.length:Int)<=10:=by
    rw[jo]at c';unfold within at c';have:=c'.1;rw[jo]at this;exact of_decide_eq_true this.2
   have hd:PySem.NumText.AllDigits z.cps.toList:=fun d hd=>by
    rw[jo]at c';have:=iz.mp c'.2 d hd;exact(aBc d).mp (of_decide_eq_true this)
   obtain⟨c0,hc0⟩ : ∃c0,z.cps.toList[0]?=some c0:=⟨_,π (by omega)⟩;have at0:atI z.cps.toList 0=some c0:=by
    have:=yE (j:=0) hc0;simpa using this
   have lead:tZ z=(decide (c0=48)&&decide (1<(z.length:Int))):=by
    unfold tZ;rw[hc0]
    congr 1
    rw[qw];simp
   have no:tZ z=true->Q .non H1:=fun w=>by
    have e:iG z=none:=by
     unfold iG;rw[if_neg];intro v;rw[jo,w]at v;exact absurd v.2 (by decide)
    have:=q H1 g1;rw[e]at this;exact this
   have yes:tZ z=false->iG z=some ((qr z.cps.toList:Nat):Int):=fun w=>by
    unfold iG;rw[if_pos];rw[c',w];rfl
   have hnum:=PySem.intText_digits (x:=z) hd (by intro w;rw[w]at hc0;cases hc0) (by omega);refine⟨_,rfl,z,_,c0,rfl,rfl,small hz,at0,rfl,_,rfl,?_⟩;rw[is_0];refine vL (fun c1=>?_) (fun c1=>?_)
   ·refine⟨_,rfl,.str z,z.length,rfl,⟨small hz,rfl⟩,_,_,rfl,rfl,_,rfl,vL (fun c2=>?_) (fun c2=>?_)⟩
    ·exact no (by rw[lead,c1];simpa using c2)
    ·have ey:=yes (by rw[lead,qt.mpr c2,Bool.and_false]);refine⟨_,rfl,z,_,rfl,hnum,by omega,?_⟩;refine⟨_,rfl,_,rfl,_,_,rfl,rfl,_,rfl,vL (fun d1=>⟨_,rfl,_,_,rfl,rfl,_,rfl,vL (fun d2=>⟨_,rfl,?_⟩) (fun d2=>?_)⟩) (fun d1=>⟨_,rfl,aAc ?_⟩)⟩
     ·have:=q H1 g1;rw[ey,zB,if_pos ⟨of_decide_eq_true d1,of_decide_eq_true d2⟩]at this;exact this
     ·have:=q H1 g1;rw[ey,zB,if_neg (fun w=>d2 (decide_eq_true w.2))]at this;exact this
     ·have:=q H1 g1;rw[ey,zB,if_neg (fun w=>d1 (decide_eq_true w.1))]at this;exact this
   ·have ey:=yes (by rw[lead,qt.mpr c1,qm]);refine aAc ⟨_,rfl,z,_,rfl,hnum,by omega,?_⟩;refine⟨_,rfl,_,rfl,_,_,rfl,rfl,_,rfl,vL (fun d1=>⟨_,rfl,_,_,rfl,rfl,_,rfl,vL (fun d2=>⟨_,rfl,?_⟩) (fun d2=>?_)⟩) (fun d1=>⟨_,rfl,aAc ?_⟩)⟩
    ·have:=q H1 g1;rw[ey,zB,if_pos ⟨of_decide_eq_true d1,of_decide_eq_true d2⟩]at this;exact this
    ·have:=q H1 g1;rw[ey,zB,if_neg (fun w=>d2 (decide_eq_true w.2))]at this;exact this
    ·have:=q H1 g1;rw[ey,zB,if_neg (fun w=>d1 (decide_eq_true w.1))]at this;exact this
 ·exact⟨_,rfl,x,aG,10,rfl,.inr ⟨t,ht,hns,⟨_,rfl,fB (q H (jH.refl H))⟩⟩⟩
theorem aGp{k:Nat}(F:Fun K "joined" "joined" rJ f fd):j0 ["path","step"] rK:=by
 w_cond aGe;obtain⟨p,x,y,rfl,hy,hp,hl,q⟩:=h;refine⟨_,(jD (jL (vS (yC (pv 0) (fun _=>rfl)) (aMq (aJh (pv 0) (aQl (aJh (pv 1) aQn)))) (aIn (pv 1))))),?_⟩;refine⟨_,rfl,_,⟨small hp,rfl⟩,vL (fun c=>?_) (fun c=>?_)⟩
 ·have hne:¬ p.length=0:=fun z=>by rw[z]at c;exact absurd c (by decide)
  have l1:(Str.empty++p).length<=ξ:=by rw[oN];exact small hp
  have l2:(Str.empty++p++ζ ".").length<=ξ:=by rw[oN,vb];exact aHv (by have:(ζ ".").length=1:=rfl;omega)
  have l3:(Str.empty++p++ζ "." ++ y).length<=ξ:=by rw[oN,vb,vb];exact aHv (by have:(ζ ".").length=1:=rfl;omega)
  refine⟨_,rfl,p,rfl,small hp,l1,l2,_,rfl,y,hy,small hl,l3,l3,?_⟩;rw[oN];unfold pj at q;rw[if_neg hne]at q;exact q
 ·have hne:p.length=0:=by
   by_cases z:p.length=0
   ·exact z
   ·exact absurd (show((p.length:Int) != 0)=true from bne_iff_ne.mpr (by omega)) c
  unfold pj at q;rw[if_pos hne]at q;exact⟨_,rfl,y,hy,small hl,q⟩
theorem lR{k:Nat}(F:Fun K "is_shape_line" "is_shape_line" yT f fd)(aq:j3 "is_name" (zT K)):j0 ["words"] (aPx K):=by
 w_cond lV;obtain⟨a,ws,rfl,hw,q⟩:=h;refine⟨_,(jD (jL (yV (vA qD (jR jX rfl M.len jt (jA (pv 0) jB)) jE (xL _)) (yV (vA qD (jV jO (pv 0) jE) jN (xL _)) (bA (jK aq hr (jA (jV jO (pv 0) jE) jB))))))),?_⟩;refine⟨_,rfl,a,_,rfl,.inl hw.l,rfl,_,rfl,?_⟩
 match ws,hw,q with
 |[],hw,q=>exact qP (q _ (jH.refl _))
 |[x],hw,q=>exact qR (by simp) (q _ (jH.refl _))
 |x::y::z::r,hw,q=>exact qR (by simp;omega) (q _ (jH.refl _))
 |[x,y],hw,q =>
  refine vR (by simp) ⟨_,rfl,a,_,_,_,rfl,rfl,hw.l,rfl,rfl,_,rfl,vL (fun c=>?_) (fun c=>?_)⟩
  ·refine⟨_,rfl,a,_,_,_,rfl,rfl,hw.l,rfl,.str y,rfl,.inl ⟨y,rfl,hw.s y (by simp),fun H1 g1=>?_⟩⟩;have e:aCe [x,y]=qB y:=by
    show(decide (x=ζ "shape")&&qB y)=_;rw[decide_eq_true (show x=ζ "shape" from by simpa using c),Bool.true_and]
   have:=q H1 g1;rw[e]at this;exact this
  ·have e:aCe [x,y]=false:=by
    show(decide (x=ζ "shape")&&qB y)=_;rw[decide_eq_false (show ¬ x=ζ "shape" from by simpa using c),qm]
   have:=q _ (jH.refl _);rw[e]at this;exact this
theorem mP{k:Nat}(F:Fun K "size" "Num.size" fG f fd):j0 ["self"] (spV (j6 0) K r Kd.isNum vSz):=by
 w_cond aAk;obtain⟨a,kd,sa,S,rfl,hF,hk,hf,ho,hw,hg,q⟩:=h;refine⟨_,(jD (jL (jW (pv 0) rfl))),?_⟩;cases id ho with
 |num h1 =>
  exact⟨_,rfl,a,Va,_,_,_,rfl,h1,Ua.cl,Ua.nd,rfl,q _ (jH.refl _)⟩
 |_=>cases hF
theorem rN(F:Fun K "size" "Nested.size" aY f fd)(ay:j4 Ve "size" (mX (j6 0) K r sSz)):j0 ["self"] (spV (j6 0) K (r+1) Kd.isNest vSz):=by
 w_cond rC;obtain⟨a,kd,sa,S,rfl,hF,hk,hf,ho,hw,hg,q⟩:=h;refine⟨_,(jD (jL (xQ (jW (pv 0) rfl) Ue.cl ay hr qH))),?_⟩;cases id ho with
 | @nest a dx s i e h1 =>
  obtain⟨sh,hs,dx2,t,ps,h2,_⟩:=hw.at e;exact⟨_,rfl,a,Vb,_,_,_,rfl,h1,Ub.cl,Ub.nd,rfl,s,dx2,_,rfl,h2,rfl,s,i,sa,S,rfl,e,(by have : 2*i+2<=r+1:=hk;omega),hw,hg,q⟩
 |_=>cases hF
theorem fA{k r:Nat}(F:Fun K "size" "Shape.size" bY f fd)(de:∀C sp,TV (j6 0) K r vSz C sp->cY P w K mg base CX0 k "size" C sp):j0 ["self"] (mX (j6 0) K r sSz):=by
 w_cond sE;obtain⟨a,i,sa,S,rfl,e,hi,hw,hg,q⟩:=h;refine⟨_,(jD (jL (jR (aLb rfl) rfl M.sum (show om "sum" = some (.builtin "sum") from by ac_rfl) (jA (qW ["name","kind"] [] [] rfl (lD (jW (pv 0) rfl)) rfl trivial trivial (fun _ _ _ _=>(iK (K:=K) (n:=2) rfl rfl (kI (qN rfl) (kI (rF rfl) vO)))) (fun _ _ _ _=>qI) (fun _ _ _ _=>(bL (pv 1) de hr qH))) jB)))),?_⟩;obtain⟨s,hS,so⟩:=hw.at e;obtain⟨dx,t,ps,k1,k2,k3⟩:=so.fields;have zl:(ps.map V.ref).length=s.2.length:=by rw[δ];exact k3.len
 have hfit:=hg.fit i s hS;have htab:=wU hS fun f hf=>(hfit f hf).1.below;have hil:i<S.length:=(η.mp hS).1;refine⟨_,rfl,a,Ve,_,_,_,rfl,k1,Ue.cl,Ue.nd,rfl,t,rfl,⟨_,k2⟩,eJ (xs:=ps.map V.ref) (fun j ys H'=>jH H H'/\ys=((s.2.take j).map fun f=>V.int (vSz f.2 (tabs S)))) ⟨jH.refl _,rfl⟩ (fun j ys H' _ z=>⟨z.1.tp k2,by rw[z.2,δ,ji];exact og _ _⟩) (qM (by have:=hg.few i s hS;omega)) (fun j x ys H' os ho hx z=>?_) (fun ys H' z p hp=>?_)⟩
 ·obtain⟨g,rfl⟩:=z;obtain⟨o1,o2,rfl⟩:=aGk ho;obtain⟨u,hu,rfl⟩:=vU hx;obtain⟨x,y,kd,k,hf,ht,_,hko⟩:=k3.get hu;have hm:=hfit _ (iq hf);exact⟨u,_,rfl,g.tp ht,rfl,_,_,rfl,_,_,rfl,rfl,_,rfl,aFe (aDo (by simp)) (hm.1.rk.mono hi) (hm.1.mono (tm hil)) (hko.same g) (hw.same g) hg fun H2 g2=>⟨⟨g.trans g2,(zW hf).symm⟩,[_,_],rfl,rfl⟩⟩
 ·obtain⟨g,rfl⟩:=z;have g2:=xY hp (.lst ((s.2.take (ps.map V.ref).length).map fun f=>V.int (vSz f.2 (tabs S))));have kp:upd H' p (.lst ((s.2.take (ps.map V.ref).length).map fun f=>V.int (vSz f.2 (tabs S)))) p=some (.lst (((s.2.map fun f=>vSz f.2 (tabs S)).map fun n:Nat=>(n:Int)).map V.int)):=by
   rw[jI,zl,vT,nh,nh];rfl
  have q':=q _ (g.trans g2);refine⟨p,(s.2.map fun f=>vSz f.2 (tabs S)).map fun n:Nat=>(n:Int),rfl,SqL.of kp,?_⟩;rw[sumI];rw[show sSz i (tabs S)=(s.2.map fun f=>vSz f.2 (tabs S)).sum from htab.1]at q';exact q'
theorem gL{k:Nat}(F:Fun K "depth" "Num.depth" dY f fd):j0 ["self"] (spV (j6 0) K r Kd.isNum vDp):=by
 w_cond wP;obtain⟨a,kd,sa,S,rfl,hF,hk,hf,ho,hw,hg,q⟩:=h;refine⟨_,(jD (jL jE)),?_⟩;cases id ho with
 |num h1 =>
  exact q _ (jH.refl _)
 |_=>cases hF
theorem mZ(F:Fun K "depth" "Nested.depth" aA f fd)(aw:j4 Ve "depth" (mX (j6 0) K r sDp)):j0 ["self"] (spV (j6 0) K (r+1) Kd.isNest vDp):=by
 w_cond nL;obtain⟨a,kd,sa,S,rfl,hF,hk,hf,ho,hw,hg,q⟩:=h;refine⟨_,(jD (jL (xQ (jW (pv 0) rfl) Ue.cl aw hr qH))),?_⟩;cases id ho with
 | @nest a dx s i e h1 =>
  obtain⟨sh,hs,dx2,t,ps,h2,_⟩:=hw.at e;exact⟨_,rfl,a,Vb,_,_,_,rfl,h1,Ub.cl,Ub.nd,rfl,s,dx2,_,rfl,h2,rfl,s,i,sa,S,rfl,e,(by have : 2*i+2<=r+1:=hk;omega),hw,hg,q⟩
 |_=>cases hF
theorem eG{k r:Nat}(F:Fun K "depth" "Shape.depth" bH f fd)(cm:∀C sp,TV (j6 0) K r vDp C sp->cY P w K mg base CX0 k "depth" C sp):j0 ["self"] (mX (j6 0) K r sDp):=by
 w_cond pY;obtain⟨a,i,sa,S,rfl,e,hi,hw,hg,q⟩:=h;refine⟨_,(jD (jL (jS vD jE (jR (mD rfl) rfl M.max boot_max (jA (qW ["name","kind"] [] [] rfl (lD (jW (pv 0) rfl)) rfl trivial trivial (fun _ _ _ _=>(iK (K:=K) (n:=2) rfl rfl (kI (qN rfl) (kI (rF rfl) vO)))) (fun _ _ _ _=>qI) (fun _ _ _ _=>(bL (pv 1) cm hr qH))) jB))))),?_⟩;obtain⟨s,hS,so⟩:=hw.at e;obtain⟨dx,t,ps,k1,k2,k3⟩:=so.fields;have zl:(ps.map V.ref).length=s.2.length:=by rw[δ];exact k3.len
 have hfit:=hg.fit i s hS;have htab:=wU hS fun f hf=>(hfit f hf).1.below;have hil:i<S.length:=(η.mp hS).1;refine⟨_,rfl,a,Ve,_,_,_,rfl,k1,Ue.cl,Ue.nd,rfl,t,rfl,⟨_,k2⟩,eJ (xs:=ps.map V.ref) (fun j ys H'=>jH H H'/\ys=((s.2.take j).map fun f=>V.int (vDp f.2 (tabs S)))) ⟨jH.refl _,rfl⟩ (fun j ys H' _ z=>⟨z.1.tp k2,by rw[z.2,δ,ji];exact og _ _⟩) (qM (by have:=hg.few i s hS;omega)) (fun j x ys H' os ho hx z=>?_) (fun ys H' z p hp=>?_)⟩
 ·obtain⟨g,rfl⟩:=z;obtain⟨o1,o2,rfl⟩:=aGk ho;obtain⟨u,hu,rfl⟩:=vU hx;obtain⟨x,y,kd,k,hf,ht,_,hko⟩:=k3.get hu;have hm:=hfit _ (iq hf);exact⟨u,_,rfl,g.tp ht,rfl,_,_,rfl,_,_,rfl,rfl,_,rfl,aFe (aDo (by simp)) (hm.1.rk.mono hi) (hm.1.mono (tm hil)) (hko.same g) (hw.same g) hg fun H2 g2=>⟨⟨g.trans g2,(zW hf).symm⟩,[_,_],rfl,rfl⟩⟩
 ·obtain⟨g,rfl⟩:=z;have g2:=xY hp (.lst ((s.2.take (ps.map V.ref).length).map fun f=>V.int (vDp f.2 (tabs S))));have kp:upd H' p (.lst ((s.2.take (ps.map V.ref).length).map fun f=>V.int (vDp f.2 (tabs S)))) p=some (.lst (((s.2.map fun f=>vDp f.2 (tabs S)).map fun n:Nat=>(n:Int)).map V.int)):=by
   rw[jI,zl,vT,nh,nh];rfl
  have q':=q _ (g.trans g2);refine⟨p,(s.2.map fun f=>vDp f.2 (tabs S)).map fun n:Nat=>(n:Int),rfl,SqL.of kp,(by simpa using hg.ne i s hS),fun m h1 h2=>?_⟩;rw[maxI h1 h2];refine⟨_,_,rfl,rfl,?_⟩;rw[show sDp i (tabs S)=1+yI (s.2.map fun f=>vDp f.2 (tabs S)) from htab.2.1,Int.natCast_add]at q';exact q'
theorem wC(F:Fun K "size" "Many.size" dM f fd)(de:∀C sp,TV (j6 0) K r vSz C sp->cY P w K mg base CX0 k "size" C sp):j0 ["self"] (spV (j6 0) K (r+1) Kd.isMany vSz):=by
 w_cond uG;obtain⟨a,kd,sa,S,rfl,hF,hk,hf,ho,hw,hg,q⟩:=h;refine⟨_,(jD (jL (jS xI (jW (pv 0) rfl) (bL (jW (pv 0) rfl) de hr qH)))),?_⟩;cases id ho with
 | @many a dx b n k h1 h2 =>
  refine⟨_,rfl,a,Vc,_,_,_,rfl,h1,Uc.cl,Uc.nd,rfl,_,rfl,a,Vc,_,_,_,rfl,h1,Uc.cl,Uc.nd,rfl,aFe (aDo (by simp)) hk.sub hf.sub h2 hw hg fun H' g=>⟨_,_,rfl,rfl,.inl ⟨by have:=hf.2.1;omega,by have:=hf.2.1;omega⟩,?_⟩⟩;have q':=q H' g;rw[show vSz (Kd.many n k) (tabs S)=n*vSz k (tabs S) from rfl,Int.natCast_mul]at q';exact q'
 |_=>cases hF
theorem sU(F:Fun K "depth" "Many.depth" cE f fd)(cm:∀C sp,TV (j6 0) K r vDp C sp->cY P w K mg base CX0 k "depth" C sp):j0 ["self"] (spV (j6 0) K (r+1) Kd.isMany vDp):=by
 w_cond sV;obtain⟨a,kd,sa,S,rfl,hF,hk,hf,ho,hw,hg,q⟩:=h;refine⟨_,(jD (jL (bL (jW (pv 0) rfl) cm hr qH))),?_⟩;cases id ho with
 | @many a dx b n k h1 h2 =>
  exact⟨_,rfl,a,Vc,_,_,_,rfl,h1,Uc.cl,Uc.nd,rfl,aFe (aDo (by simp)) hk.sub hf.sub h2 hw hg q⟩
 |_=>cases hF
theorem bM{k r:Nat}(F:Fun K "greatest" "Pick.greatest" zF f fd)(ay:j4 Ve "size" (mX (j6 0) K r sSz)):j0 ["self"] (spGr (j6 0) K (r+1)):=by
 w_cond lY;obtain⟨a,is,sa,S,rfl,hk,hf,ho,hw,hg,q⟩:=h;refine⟨_,(jD (jL (jR (mD rfl) rfl M.max boot_max (jA (qW ["shape"] [] [] rfl (lD (jW (pv 0) rfl)) rfl trivial trivial (fun _ _ _ _=>(qN rfl)) (fun _ _ _ _=>qI) (fun _ _ _ _=>(xQ (pv 0) Ue.cl ay hr qH))) jB)))),?_⟩;obtain⟨dx,t,ss,h1,h2,h3,h4⟩ : ∃(dx t:Addr) (ss:List Addr),H a=some (.ins Vd dx [("shapes",.ref t)])/\SqT K H t (ss.map V.ref)/\ss.length=is.length/\∀(j i:Nat) (s:Addr),is[j]?=some i->ss[j]?=some s->sa[i]?=some s:=by
  cases ho with
  |pick h1 h2 h3 h4=>exact⟨_,_,_,h1,h2,h3,h4⟩
 have zl:(ss.map V.ref).length=is.length:=by rw[δ];exact h3
 refine⟨_,rfl,a,Vd,_,_,_,rfl,h1,Ud.cl,Ud.nd,rfl,t,rfl,⟨_,h2⟩,aAx (xs:=ss.map V.ref) (fun j ys H'=>jH H H'/\ys=((is.take j).map fun i=>V.int (sSz i (tabs S)))) ⟨jH.refl _,rfl⟩ (fun j ys H' _ z=>⟨z.1.tp h2,by rw[z.2,δ,ji];exact og _ _⟩) (qM (by have:=hf.2.1;omega)) (fun j x ys H' hx z=>?_) (fun ys H' z p hp=>?_)⟩
 ·obtain⟨g,rfl⟩:=z;obtain⟨s,hs,rfl⟩:=vU hx;have hj:j<is.length:=by rw[←h3];exact(η.mp hs).1
  have hi:is[j]?=some is[j]:=π hj;have e:=h4 j _ s hi hs;obtain⟨sh,hS,dx2,t2,ps,k2,_⟩:=hw.at e;exact⟨_,rfl,s,dx2,_,rfl,g _ _ k2,rfl,s,is[j],sa,S,rfl,e,(by have:=hk _ (yg hj);omega),hw.same g,hg,fun H2 g2=>⟨⟨g.trans g2,(zW hi).symm⟩,_,rfl⟩⟩
 ·obtain⟨g,rfl⟩:=z;have g2:=xY hp (.lst ((is.take (ss.map V.ref).length).map fun i=>V.int (sSz i (tabs S))));have kp:upd H' p (.lst ((is.take (ss.map V.ref).length).map fun i=>V.int (sSz i (tabs S)))) p=some (.lst (((is.map fun i=>sSz i (tabs S)).map fun n:Nat=>(n:Int)).map V.int)):=by
   rw[jI,zl,vT,nh,nh];rfl
  have q':=q _ (g.trans g2);refine⟨p,(is.map fun i=>sSz i (tabs S)).map fun n:Nat=>(n:Int),rfl,SqL.of kp,(by have:=hf.1;intro z;rw[nh,List.map_eq_nil_iff]at z;rw[z]at this;exact absurd this (by decide)),fun m h5 h6=>?_⟩;rw[maxI h5 h6];exact q'
theorem sI{k r:Nat}(F:Fun K "depth" "Pick.depth" cI f fd)(aw:j4 Ve "depth" (mX (j6 0) K r sDp)):j0 ["self"] (spV (j6 0) K (r+1) Kd.isPick vDp):=by
 w_cond sS;obtain⟨a,kd,sa,S,rfl,hF,hk,hf,ho,hw,hg,q⟩:=h;refine⟨_,(jD (jL (jR (mD rfl) rfl M.max boot_max (jA (qW ["shape"] [] [] rfl (lD (jW (pv 0) rfl)) rfl trivial trivial (fun _ _ _ _=>(qN rfl)) (fun _ _ _ _=>qI) (fun _ _ _ _=>(xQ (pv 0) Ue.cl aw hr qH))) jB)))),?_⟩;obtain⟨is,dx,t,ss,rfl,h1,h2,h3,h4⟩ : ∃(is:List Nat) (dx t:Addr) (ss:List Addr),kd=.pick is/\H a=some (.ins Vd dx [("shapes",.ref t)])/\SqT K H t (ss.map V.ref)/\ss.length=is.length/\∀(j i:Nat) (s:Addr),is[j]?=some i->ss[j]?=some s->sa[i]?=some s:=by
  cases ho with
  |pick h1 h2 h3 h4=>exact⟨_,_,_,_,rfl,h1,h2,h3,h4⟩
  |_=>cases hF
 have zl:(ss.map V.ref).length=is.length:=by rw[δ];exact h3
 refine⟨_,rfl,a,Vd,_,_,_,rfl,h1,Ud.cl,Ud.nd,rfl,t,rfl,⟨_,h2⟩,aAx (xs:=ss.map V.ref) (fun j ys H'=>jH H H'/\ys=((is.take j).map fun i=>V.int (sDp i (tabs S)))) ⟨jH.refl _,rfl⟩ (fun j ys H' _ z=>⟨z.1.tp h2,by rw[z.2,δ,ji];exact og _ _⟩) (qM (by have:=hf.2.1;omega)) (fun j x ys H' hx z=>?_) (fun ys H' z p hp=>?_)⟩
 ·obtain⟨g,rfl⟩:=z;obtain⟨s,hs,rfl⟩:=vU hx;have hj:j<is.length:=by rw[←h3];exact(η.mp hs).1
  have hi:is[j]?=some is[j]:=π hj;have e:=h4 j _ s hi hs;obtain⟨sh,hS,dx2,t2,ps,k2,_⟩:=hw.at e;exact⟨_,rfl,s,dx2,_,rfl,g _ _ k2,rfl,s,is[j],sa,S,rfl,e,(by have:=hk _ (yg hj);omega),hw.same g,hg,fun H2 g2=>⟨⟨g.trans g2,(zW hi).symm⟩,_,rfl⟩⟩
 ·obtain⟨g,rfl⟩:=z;have g2:=xY hp (.lst ((is.take (ss.map V.ref).length).map fun i=>V.int (sDp i (tabs S))));have kp:upd H' p (.lst ((is.take (ss.map V.ref).length).map fun i=>V.int (sDp i (tabs S)))) p=some (.lst (((is.map fun i=>sDp i (tabs S)).map fun n:Nat=>(n:Int)).map V.int)):=by
   rw[jI,zl,vT,nh,nh];rfl
  have q':=q _ (g.trans g2);refine⟨p,(is.map fun i=>sDp i (tabs S)).map fun n:Nat=>(n:Int),rfl,SqL.of kp,(by have:=hf.1;intro z;rw[nh,List.map_eq_nil_iff]at z;rw[z]at this;exact absurd this (by decide)),fun m h5 h6=>?_⟩;rw[maxI h5 h6];exact q'
theorem uY{r:Nat}(F:Fun K "size" "Pick.size" dZ f fd)(bf:j4 Vd "greatest" (spGr (j6 0) K (r+1))):j0 ["self"] (spV (j6 0) K (r+1) Kd.isPick vSz):=by
 w_cond wL;obtain⟨a,kd,sa,S,rfl,hF,hk,hf,ho,hw,hg,q⟩:=h;refine⟨_,(jD (jL (jS vD jE (xQ (pv 0) Ud.cl bf hr qH)))),?_⟩;cases id ho with
 | @pick a dx t is ss h1 h2 h3 h4 =>
  refine⟨_,rfl,a,dx,_,rfl,h1,rfl,a,is,sa,S,rfl,hk,hf,ho,hw,hg,fun H' g=>⟨_,_,rfl,rfl,?_⟩⟩;have q':=q H' g;rw[show vSz (Kd.pick is) (tabs S)=1+yI (is.map fun i=>(tabs S).sz.getD i 0) from rfl,Int.natCast_add]at q';exact q'
 |_=>cases hF
theorem aBe{k:Nat}(F:Fun K "__init__" "Num.__init__" fU f fd):j0 ["self","width"] (aJj Va "width"):=by
 w_cond aBt;obtain⟨a,dx,v,H1,rfl,hA,g,h0,q⟩:=h;refine⟨_,(jD (kR (pv 0) (pv 1) rfl)),?_⟩;exact⟨_,rfl,_,rfl,a,Va,dx,[],rfl,hA,Ua.cl,Ua.nd,by decide,q _ (g.putn h0) jI⟩
theorem rH{k:Nat}(F:Fun K "__init__" "Nested.__init__" bI f fd):j0 ["self","shape"] (aJj Vb "shape"):=by
 w_cond rY;obtain⟨a,dx,v,H1,rfl,hA,g,h0,q⟩:=h;refine⟨_,(jD (kR (pv 0) (pv 1) rfl)),?_⟩;exact⟨_,rfl,_,rfl,a,Vb,dx,[],rfl,hA,Ub.cl,Ub.nd,by decide,q _ (g.putn h0) jI⟩
theorem uT{k:Nat}(F:Fun K "__init__" "Many.__init__" dG f fd):j0 ["self","count","kind"] (spI2 Vc "count" "kind"):=by
 w_cond wM;obtain⟨a,dx,v,u,H1,rfl,hA,g,h0,q⟩:=h;refine⟨_,(jC (kR (pv 0) (pv 1) rfl) (jD (kR (pv 0) (pv 2) rfl))),?_⟩;exact⟨_,rfl,_,rfl,a,Vc,dx,[],rfl,hA,Uc.cl,Uc.nd,by decide,_,rfl,_,rfl,a,Vc,dx,_,rfl,jI,Uc.cl,Uc.nd,(by show 1<1000;decide),q _ ((g.putn h0).putn h0) jI⟩
theorem wK{k:Nat}(F:Fun K "__init__" "Pick.__init__" eF f fd):j0 ["self","shapes"] (spIT K Vd "shapes"):=by
 w_cond wQ;obtain⟨a,dx,l,ys,H1,rfl,hA,g,h0,hl,q⟩:=h;refine⟨_,(jD (kR (pv 0) (qO bE rfl M.tuple boot_tuple (jA (pv 1) jB)) rfl)),?_⟩;refine⟨_,rfl,l,ys,rfl,.inl ⟨g.seq hl,fun t ht=>?_⟩⟩;clear 1 t H2 g2 k2 ht;exact⟨_,rfl,a,Vd,dx,[],rfl,g2 _ _ hA,Ud.cl,Ud.nd,by decide,q t _ ((g.trans g2).putn h0) jI (SqT.of (by rw[jT (kc (jG hA ht))];exact k2))⟩
theorem rE{k:Nat}(F:Fun K "__init__" "Shapes.__init__" bJ f fd):j0 ["self","shapes"] (spIT K Vf "shapes"):=by
 w_cond rW;obtain⟨a,dx,l,ys,H1,rfl,hA,g,h0,hl,q⟩:=h;refine⟨_,(jD (kR (pv 0) (qO bE rfl M.tuple boot_tuple (jA (pv 1) jB)) rfl)),?_⟩;refine⟨_,rfl,l,ys,rfl,.inl ⟨g.seq hl,fun t ht=>?_⟩⟩;clear 1 t H2 g2 k2 ht;exact⟨_,rfl,a,Vf,dx,[],rfl,g2 _ _ hA,Uf.cl,Uf.nd,by decide,q t _ ((g.trans g2).putn h0) jI (SqT.of (by rw[jT (kc (jG hA ht))];exact k2))⟩
theorem cU{k:Nat}(F:Fun K "units_at" "Num.units_at" zX f fd):j0 ["self","path"] (spU (j6 0) K r Kd.isNum):=by
 w_cond nR;obtain⟨a,p,kd,sa,S,rfl,hp,hF,hk,hf,ho,hw,hg,q⟩:=h;refine⟨_,(jD (jL (qC (jA (xC (jA (pv 1) (jA (jW (pv 0) rfl) (jA jN jB)))) jB)))),?_⟩;cases id ho with
 |num h1 =>
  refine⟨_,rfl,_,rfl,a,Va,_,_,_,rfl,h1,Ua.cl,Ua.nd,rfl,mF,fun t ht=>?_⟩;clear 1 t H1 g1 k1 ht;refine⟨aKx,fun l hl=>?_⟩;clear 1 l H2 g2 k2 hl;exact q l H2 (g1.trans g2) (g1.free hl) ⟨[t],k2,.cons (g2.tp (SqT.of k1)) .nil⟩
 |_=>cases hF
theorem lU{r:Nat}(F:Fun K "units_at" "Pick.units_at" zD f fd)(cn:j3 "joined" rK)(bf:j4 Vd "greatest" (spGr (j6 0) K (r+1))):j0 ["self","path"] (spU (j6 0) K (r+1) Kd.isPick):=by
 w_cond iZ;obtain⟨a,p,kd,sa,S,rfl,hp,hF,hk,hf,ho,hw,hg,q⟩:=h;refine⟨_,(jD (jL (qC (jA (xC (jA (jK cn hr (jA (pv 1) (jA jN jB))) (jA jE (jA jN jB)))) (jA (xC (jA (pv 1) (jA (xQ (pv 0) Ud.cl bf hr qH) (jA jN jB)))) jB))))),?_⟩;cases id ho with
 | @pick a dx t is ss h1 h2 h3 h4 =>
  refine⟨_,rfl,p,_,_,rfl,rfl,(by omega),(by decide),mF,fun t1 ht1=>?_⟩;clear 1 t1 H1 g1 k1 ht1;refine⟨_,rfl,_,rfl,a,dx,_,rfl,g1 _ _ h1,rfl,a,is,sa,S,rfl,hk,hf,ho.same g1,hw.same g1,hg,fun H2 g2=>⟨mF,fun t2 ht2=>?_⟩⟩;clear 1 t2 H3 g3 k3 ht2;refine⟨xM,fun l hl=>?_⟩;clear 1 l H4 g4 k4 hl;exact q l H4 (((g1.trans g2).trans g3).trans g4) (((g1.trans g2).trans g3).free hl) ⟨[t1,t2],k4,.cons (((g2.trans g3).trans g4).tp (SqT.of k1)) (.cons (g4.tp (SqT.of k3)) .nil)⟩
 |_=>cases hF
theorem lL{k:Nat}(F:Fun K "parted" "Nested.parted" zE f fd):j0 ["self"] (spP (j6 0) K Kd.isNest):=by
 w_cond lB;obtain⟨a,kd,sa,S,rfl,hF,hf,ho,hw,hg,q⟩:=h;refine⟨_,(jD (jL (qO iU rfl M.list boot_list (jA (jW (jW (pv 0) rfl) rfl) jB)))),?_⟩;cases id ho with
 | @nest a dx s i e h1 =>
  obtain⟨sh,hs,so⟩:=hw.at e;obtain⟨dx2,t,ps,k1,k2,k3⟩:=so.fields;refine⟨_,rfl,a,Vb,_,_,_,rfl,h1,Ub.cl,Ub.nd,rfl,s,Ve,_,_,_,rfl,k1,Ue.cl,Ue.nd,rfl,t,_,rfl,.inr k2,fun l hl=>?_⟩;clear 1 l H1 g1 kl hl;refine q l H1 g1 hl ⟨ps,kl,?_⟩;rw[show(Kd.nest i).parts S=sh.2 by show(S.getD i _).2=_;rw[jb,hs];rfl];exact k3.same g1
 |_=>cases hF
theorem pO{k:Nat}(F:Fun K "parted" "Many.parted" aV f fd):j0 ["self"] (spP (j6 0) K Kd.isMany):=by
 w_cond rV;obtain⟨a,kd,sa,S,rfl,hF,hf,ho,hw,hg,q⟩:=h;refine⟨_,(jD (jL (qW ["number"] ["self"] [0] rfl (eI rfl M.range (jA (jW (pv 0) rfl) jB)) rfl ⟨rfl,trivial⟩ ⟨⟨rfl,rfl,rfl,_,rfl⟩,trivial⟩ (fun _ _ _ _=>(qN rfl)) (fun _ _ _ _=>qI) (fun _ _ _ _=>(xC (jA (pv 0) (jA (oJ (K:=K) rfl (pv 1) rfl) jB))))))),?_⟩;cases id ho with
 | @many a dx b n k h1 h2 =>
  have hn:n<=6:=hf.2.1;refine⟨_,rfl,a,Vc,_,_,_,rfl,h1,Uc.cl,Uc.nd,rfl,n,rfl,by omega,by omega,fV (n:=n) (fun j ys H'=>jH H H'/\∃tt:List Addr,ys=tt.map V.ref/\tt.length=j/\PR (j6 0) K H' sa tt ((ph j).map fun j=>(ζ (toString j),k))) ⟨jH.refl _,[],rfl,rfl,.nil⟩ (fun j ys H' _ z=>?_) (qM (by omega)) (fun j ys H' hj z=>?_) (fun ys H' z p hp=>?_)⟩
  ·obtain⟨_,tt,rfl,hl,_⟩:=z;rw[δ];omega
  ·obtain⟨g,tt,rfl,hl,hP⟩:=z;refine⟨_,rfl,_,rfl,a,Vc,_,_,_,rfl,g _ _ h1,Uc.cl,Uc.nd,rfl,xM,fun t ht=>?_⟩;clear 1 t H1 g1 k1 ht;refine⟨⟨g.trans g1,tt++[t],by rw[Θ];rfl,by rw[θ,hl];rfl,?_⟩,_,rfl⟩;rw[List.range_succ,Θ];refine(hP.same g1).snoc (x:=.int ((0:Int)+(j:Nat))) (SqT.of k1) ?_ (h2.same (g.trans g1));rw[Int.zero_add];exact if_pos (by show(j:Nat)<2 ^ 100;exact ς hj (by omega))
  ·obtain⟨g,tt,rfl,hl,hP⟩:=z;clear 1 p H1 g1 k1 hp;exact q p H1 (g.trans g1) (g.free hp) ⟨tt,k1,hP.same g1⟩
 |_=>cases hF
theorem bS{k r:Nat}{FF:Kd->Bool}(hFF:∀k,FF k=true->(∃i,k=.nest i)\/∃n q,k=.many n q)(F:Fun K "units_at" "Kind.units_at" zA f fd)(gx:∀C sp,TPt (j6 0) K C sp->cY P w K mg base CX0 k "parted" C sp)(bw:∀C sp,TU (j6 0) K r C sp->cY P w K mg base CX0 k "units_at" C sp)(cn:j3 "joined" rK):j0 ["self","path"] (spU (j6 0) K (r+1) FF):=by
 w_cond xF;obtain⟨a,p,kd,sa,S,rfl,hp,hF,hk,hf,ho,hw,hg,q⟩:=h;refine⟨_,(jC (jQ 2 xF.nd (qC jB)) (jC (yO lf rfl (qS (bL (pv 0) gx hr qH)) (bB rfl (kI (qJ 3 xF.nd) (kI (qJ 4 xF.nd) vO))) (jD (qQ (yJ kj PySem.F.slot_list_extend PySem.F.type_list_extend aGo (pv 2) (jA (aBn (pv 4) bw hr qH (jA (jK cn hr (jA (pv 1) (jA (pv 3) jB))) jB)) jB))))) (jD (jL (pv 2))))),?_⟩;refine⟨cK,fun l hl=>?_⟩;generalize e1:upd H l _=H1;obtain⟨g1,k1⟩:=qG e1 hl;refine⟨_,rfl,callP (aDo (by simp)) (hFF kd hF) hf (ho.same g1) (hw.same g1) hg fun l2 H2 g2 hl2 zq=>?_⟩;obtain⟨tt,k2,pr⟩:=zq;have kl2:=g2 _ _ k1;have n2:l2≠l:=kc (jG k1 hl2);have hw2:=hw.same (g1.trans g2);have zl:tt.length=(kd.parts S).length:=pr.len;have bd:=Kd.size_bd hg.sz (by decide) hf;have lens:∀j,(((kd.parts S).take j).flatMap fun f=>un f.2 S (pj p f.1)).length<=6000:=fun j=>by
  have h1:(un kd S p).length<=_:=(hg.kd hf).2 p;rw[Kd.parts_un hg hf (hFF kd hF)]at h1
  conv at h1=>lhs;rw[←ya j (kd.parts S)]
  rw[qz,θ]at h1;omega
 refine⟨l2,rfl,⟨_,SqL.of k2⟩,yA (xs:=tt.map V.ref) (fun j σ H'=>∃o3 o4,σ = [some (.ref a),some (.str p),some (.ref l),o3,o4]/\But l H2 H'/\UL K H' l (((kd.parts S).take j).flatMap fun f=>un f.2 S (pj p f.1))) ⟨_,_,rfl,But.refl,[],kl2,.nil⟩ (fun j σ H' _ z=>?_) (fun j x σ H' hx z=>?_) (fun σ H' z=>?_)⟩
 ·obtain⟨o3,o4,rfl,g,_⟩:=z;exact SqL.of (g _ _ n2 k2)
 ·obtain⟨o3,o4,rfl,g,us,ku,ur⟩:=z;obtain⟨t,ht,rfl⟩:=vU hx;obtain⟨x,y,kd',kk,hps,hq,hx',hko⟩:=pr.get ht;obtain⟨p1,p2,p3,p4⟩:=Kd.parts_ok hg hf hk (iq hps);obtain⟨C',dx',fs',sp',m1,m2,m3,m4⟩:=kdU (aDo (m:="units_at") (by simp)) p1 p2 (hko.but g kl2) (hw2.but g kl2) hg;have hyl:(pj p y).length<=p.length+7:=by
   have e1:(ζ ".").length=1:=rfl;have p4':y.length<=6:=p4;unfold pj
   split
   ·omega
   ·rw[vb,vb];omega
  refine⟨t,_,rfl,g.tup kl2 hq,rfl,_,_,rfl,_,_,rfl,rfl,_,rfl,.inl ⟨rfl,_,SqL.of ku⟩,_,rfl,kk,C',dx',fs',sp',rfl,m1,m2,m3,_,rfl,_,rfl,p,x,y,rfl,hx',(by omega),(by have p4':y.length<=6:=p4;omega),m4 _ _ _ (by omega) fun l3 H3 g3 hl3 zq=>?_⟩;obtain⟨us3,k3,ur3⟩:=zq;have ku3:=g3 _ _ ku;have h6:=lens (j+1);rw[aFc hps,θ,←ur.len,←ur3.len]at h6;refine⟨l,l3,_,_,rfl,rfl,ku3,k3,(by rw[jc,δ,δ];omega),?_⟩;clear 0 l H4 g4 k4;refine⟨_,_,rfl,(g.trans (But.of g3)).trans g4,us++us3,by rw[Θ];exact k4,?_⟩;rw[aFc hps];exact((ur.same g3).but g4 ku3).app (ur3.but g4 ku3)
 ·obtain⟨o3,o4,rfl,g,u⟩:=z;rw[δ,zl,vT]at u;refine⟨_,rfl,q l H' (But.from (g1.trans g2) hl g) hl ?_⟩;rw[Kd.parts_un hg hf (hFF kd hF)];exact u
theorem rG(F:Fun K "units" "Shape.units" aX f fd)(bo:j5 cIv (aJj Vb "shape"))(bw:∀C sp,TU (j6 0) K r C sp->cY P w K mg base CX0 k "units_at" C sp):j0 ["self"] (aPh (j6 0) K r):=by
 w_cond pJ;obtain⟨a,i,sa,S,rfl,e,hi,h8,hw,hg,q⟩:=h;refine⟨_,(jD (jL (aBn (yK Ub bo hr0 rfl qH (jA (pv 0) jB)) bw hr qH (jA jN jB)))),?_⟩;refine⟨_,rfl,fun x dx hx hdx _=>⟨x,dx,.ref a,H,rfl,jI,aO hx hdx,hx,fun H1 g1 k1=>⟨rfl,?_⟩⟩⟩;have hil:i<S.length:=by rw[←hw.1];exact(η.mp e).1
 obtain⟨C',dx',fs',sp',m1,m2,m3,m4⟩:=kdU (kd:=.nest i) (r:=r) (aDo (m:="units_at") (by simp)) hi hil (.nest e k1) (hw.same g1) hg;exact⟨x,C',dx',fs',sp',rfl,m1,m2,m3,m4 _ _ _ (by show 0+8*r<=200;omega) fun l H2 g2 hl u=>q l H2 (g1.trans g2) (g1.free hl) u⟩
theorem sG{k:Nat}(F:Fun K "__init__" "Shape.__init__" bW f fd):j0 ["self","name","fields"] (aIf (j6 0) K):=by
 w_cond sM;obtain⟨a,dx,fl,nm,ps,fs,sa,H1,rfl,hA,g,h0,hl,hP,hn,q⟩:=h;refine⟨_,(jC (kR (pv 0) (pv 1) rfl) (jD (kR (pv 0) (qO bE rfl M.tuple boot_tuple (jA (qW ["field","kind"] [] [] rfl (aRi (pv 2)) rfl trivial trivial (fun _ _ _ _=>(iK (K:=K) (n:=2) rfl rfl (kI (qN rfl) (kI (rF rfl) vO)))) (fun _ _ _ _=>qI) (fun _ _ _ _=>(xC (jA (pv 0) (jA (pv 1) jB))))) jB)) rfl))),?_⟩;refine⟨_,rfl,_,rfl,a,Ve,dx,[],rfl,hA,Ue.cl,Ue.nd,by decide,?_⟩;have ga:jH H1 (upd H a (.ins Ve dx (bK "name" (.str nm) []))):=g.putn h0;have ka:upd H a (.ins Ve dx (bK "name" (.str nm) [])) a=some (.ins Ve dx [("name",.str nm)]):=jI;generalize upd H a (.ins Ve dx (bK "name" (.str nm) []))=H2 at ga ka;have zl:(ps.map V.ref).length=fs.length:=by rw[δ];exact hP.len
 have turn:∀(j:Nat) (x:V) (ys:List V) (H':Hp) (Pv:Nat->List V->Hp->Prop),Pv=(fun j ys H'=>jH H2 H'/\∃tt:List Addr,ys=tt.map V.ref/\tt.length=j/\FO (j6 0) K H' sa tt (fs.take j))->(ps.map V.ref)[j]?=some x->Pv j ys H'->∃t nm kk,x=.ref t/\SqT K H' t [.str nm,.ref kk]/\∀u,H' u=none->Pv (j+1) (ys++[.ref u]) (upd H' u (.tup [.str nm,.ref kk])):=by
  intro j x ys H' Pv eP hx z;subst eP;obtain⟨g2,tt,rfl,htl,hF⟩:=z;obtain⟨t,ht,rfl⟩:=vU hx;obtain⟨nm',kd,kk,hfs,hq,hko⟩:=hP.get ht;refine⟨t,nm',kk,rfl,g2.tp (ga.tp hq),fun u hu=>?_⟩;generalize e3:upd H' u _=H3;obtain⟨g3,k3⟩:=qG e3 hu;refine⟨g2.trans g3,tt++[u],by rw[Θ];rfl,by rw[θ,htl];rfl,?_⟩;have:=(hF.same g3).snoc (SqT.of k3) (hko.same ((ga.trans g2).trans g3));rw[jk,hfs];exact this
 have fin:∀(ys:List V) (H':Hp),(jH H2 H'/\∃tt:List Addr,ys=tt.map V.ref/\tt.length=(ps.map V.ref).length/\FO (j6 0) K H' sa tt (fs.take (ps.map V.ref).length))->∀p,H' p=none->∀t,upd H' p (.lst ys) t=none->Q .non (upd (upd (upd H' p (.lst ys)) t (.tup ys)) a (.ins Ve dx [("name",.str nm),("fields",.ref t)])):=by
  intro ys H' z p hp t ht;obtain⟨g2,tt,rfl,htl,hF⟩:=z;generalize e3:upd H' p _=H3 at ht;obtain⟨g3,k3⟩:=qG e3 hp;clear 1 t H4 g4 k4 ht;have ka4:H4 a=_:=(g2.trans g3 |>.trans g4) _ _ ka;rw[zl,vT]at hF;have G:jH H1 (upd H4 a (.ins Ve dx [("name",.str nm),("fields",.ref t)])):=(((ga.trans g2).trans g3).trans g4).putn h0;have nta:t≠a:=kc (jG ((g2.trans g3) _ _ ka) ht);refine q t tt _ G jI (SqT.of (by rw[jT nta];exact k4)) ?_;exact FO.insD (hF.same (g3.trans g4)) ka4
 have st:jH H2 H2/\∃tt:List Addr,([]:List V)=tt.map V.ref/\tt.length=0/\FO (j6 0) K H2 sa tt (fs.take 0):=⟨jH.refl _,[],rfl,rfl,by rw[List.take_zero];exact .nil⟩;have lst:∀(H':Hp) (p t:Addr) (ys:List V),(jH H2 H'/\∃tt:List Addr,ys=tt.map V.ref/\tt.length=(ps.map V.ref).length/\FO (j6 0) K H' sa tt (fs.take (ps.map V.ref).length))->H' p=none->upd H' p (.lst ys) t=none->upd (upd H' p (.lst ys)) t (.tup ys) a=some (.ins Ve dx [("name",.str nm)]):=fun H' p t ys z hp ht=>(xY ht _) _ _ ((xY hp _) _ _ (z.1 _ _ ka));refine⟨_,rfl,fl,rfl,?_⟩;rcases hl with hl|hl
 ·refine .inl ⟨⟨_,ga.seq hl⟩,aCp (xs:=ps.map V.ref) (fun j ys H'=>jH H2 H'/\∃tt:List Addr,ys=tt.map V.ref/\tt.length=j/\FO (j6 0) K H' sa tt (fs.take j)) st (fun j ys H' _ z=>⟨z.1.seq (ga.seq hl),by obtain⟨_,tt,rfl,hl,_⟩:=z;rw[δ];omega⟩) (qM (by omega)) (fun j x ys H' os ho hx z=>?_) (fun ys H' z p hp=>⟨p,ys,rfl,.inl ⟨SqL.of jI,fun t ht=>⟨_,rfl,a,Ve,dx,_,rfl,lst H' p t ys z hp ht,Ue.cl,Ue.nd,(by show 1<1000;decide),fin ys H' z p hp t ht⟩⟩⟩)⟩;obtain⟨o1,o2,rfl⟩:=aGk ho;obtain⟨t,nm',kk,rfl,hq,nxt⟩:=turn j x ys H' _ rfl hx z;exact⟨t,_,rfl,hq,rfl,_,_,rfl,_,_,rfl,rfl,_,rfl,_,rfl,xM,fun u hu=>⟨nxt u hu,[_,_],rfl,rfl⟩⟩
 ·refine .inr ⟨⟨_,ga.tp hl⟩,eJ (xs:=ps.map V.ref) (fun j ys H'=>jH H2 H'/\∃tt:List Addr,ys=tt.map V.ref/\tt.length=j/\FO (j6 0) K H' sa tt (fs.take j)) st (fun j ys H' _ z=>⟨z.1.tp (ga.tp hl),by obtain⟨_,tt,rfl,hl,_⟩:=z;rw[δ];omega⟩) (qM (by omega)) (fun j x ys H' os ho hx z=>?_) (fun ys H' z p hp=>⟨p,ys,rfl,.inl ⟨SqL.of jI,fun t ht=>⟨_,rfl,a,Ve,dx,_,rfl,lst H' p t ys z hp ht,Ue.cl,Ue.nd,(by show 1<1000;decide),fin ys H' z p hp t ht⟩⟩⟩)⟩;obtain⟨o1,o2,rfl⟩:=aGk ho;obtain⟨t,nm',kk,rfl,hq,nxt⟩:=turn j x ys H' _ rfl hx z;exact⟨t,_,rfl,hq,rfl,_,_,rfl,_,_,rfl,rfl,_,rfl,_,rfl,xM,fun u hu=>⟨nxt u hu,[_,_],rfl,rfl⟩⟩
theorem uP(F:Fun K "is_single" "is_single" dN f fd)(bb:j3 "number_in" (cF K))(aq:j3 "is_name" (zT K)):j0 ["words"] (spSg K):=by
 w_cond uE;obtain⟨a,ws,rfl,hl,hs,q⟩:=h;refine⟨_,(jC (jZ (jP qD (jV jO (pv 0) jE) jN) (jD (jL (yV (vA qD (jR jX rfl M.len jt (jA (pv 0) jB)) jE (xL _)) (bA (vA uO (jK bb hr (jA (jV jO (pv 0) jE) (jA jE (jA (kL (v:=.int 4) rfl C.MOST_WIDTH ⟨_,rfl⟩) jB)))) cT (xL _)))))) jM) (jD (jL (yV (vA qD (jR jX rfl M.len jt (jA (pv 0) jB)) jE (xL _)) (bA (jK aq hr (jA (jV jO (pv 0) jE) jB))))))),?_⟩;rcases hs with⟨w,w1,w4,rfl⟩|⟨x,hx,rfl⟩
 ·obtain⟨d1,d2,d3,_⟩:=dig (w:=w) (by omega);refine⟨_,rfl,a,_,_,_,rfl,rfl,hl,rfl,rfl,_,rfl,fB ⟨_,rfl,a,_,rfl,.inl hl,rfl,_,rfl,vR (by simp) ⟨_,rfl,a,_,_,_,rfl,rfl,hl,rfl,.str _,1,4,rfl,.inl ⟨_,rfl,by omega,fun H1 g1=>⟨rfl,?_⟩⟩⟩⟩⟩;rw[d1,show zB (some (w:Int)) 1 4=some (w:Int) from if_pos ⟨by omega,by omega⟩];exact q H1 g1
 ·have hne:=cH hx (y:="num") (by decide);refine⟨_,rfl,a,_,_,_,rfl,rfl,hl,rfl,rfl,_,rfl,qR (by simpa using hne) ⟨_,rfl,a,_,rfl,.inl hl,rfl,_,rfl,vR (by simp) ⟨_,rfl,a,_,_,_,rfl,rfl,hl,rfl,.str x,rfl,.inl ⟨x,rfl,by have:=(yR hx).2;omega,fun H1 g1=>?_⟩⟩⟩⟩;rw[hx];exact q H1 g1
theorem aCk(F:Fun K "is_kind" "is_kind" lK f fd)(bb:j3 "number_in" (cF K))(ci:j3 "is_single" (spSg K))(aq:j3 "is_name" (zT K)):j0 ["words"] (spKd K):=by
 w_cond aCv;obtain⟨a,nm,n,kd,rfl,hl,hf,hn,q⟩:=h;refine⟨_,(jC (jZ (jP qD (jV jO (pv 0) jE) jN) (jD (jL (yV (vA dU (jR jX rfl M.len jt (jA (pv 0) jB)) jE (xL _)) (yV (vA uO (jK bb hr (jA (jV jO (pv 0) jE) (jA jE (jA (kL (v:=.int 6) rfl C.MOST_COUNT ⟨_,rfl⟩) jB)))) cT (xL _)) (bA (jK ci hr (jA (vK xG (pv 0) (xB jE) xR) jB))))))) jM) (jC (jZ (jP qD (jV jO (pv 0) jE) jN) (jD (jL (yV (aAp mQ mQ (kL (v:=.int 2) rfl C.LEAST_PICKED ⟨_,rfl⟩) (jS bC (jR jX rfl M.len jt (jA (pv 0) jB)) jE) (kL (v:=.int 4) rfl C.MOST_PICKED ⟨_,rfl⟩)) (bA (jR (iF rfl) rfl M.all boot_all (jA (qW ["word"] [] [] rfl (qS (vK xG (pv 0) (xB jE) xR)) rfl trivial trivial (fun _ _ _ _=>(qN rfl)) (fun _ _ _ _=>qI) (fun _ _ _ _=>(jK aq hr (jA (pv 0) jB)))) jB)))))) jM) (jD (jL (jK ci hr (jA (pv 0) jB)))))),?_⟩;cases kd with
 |num w=>exact⟨_,rfl,a,_,_,_,rfl,rfl,hl,rfl,rfl,_,rfl,qP ⟨_,rfl,a,_,_,_,rfl,rfl,hl,rfl,rfl,_,rfl,qP ⟨_,rfl,a,_,rfl,hl,.inl ⟨w,hf.1,hf.2,rfl⟩,q⟩⟩⟩
 |nest i =>
  have hx:=hn i hf;have h1:=cH hx (y:="row") (by decide);have h2:=cH hx (y:="pick") (by decide);exact⟨_,rfl,a,_,_,_,rfl,rfl,hl,rfl,rfl,_,rfl,qR (by simpa using h1) ⟨_,rfl,a,_,_,_,rfl,rfl,hl,rfl,rfl,_,rfl,qR (by simpa using h2) ⟨_,rfl,a,_,rfl,hl,.inr ⟨_,hx,rfl⟩,q⟩⟩⟩
 |many m k =>
  have hm:=hf.2.1;have hm1:=hf.1;obtain⟨d1,d2,d3,_⟩:=dig (w:=m) (by omega);have hne:=Kd.words_ne nm k;have h0 : 0<(k.words nm).length:=List.length_pos_iff.mpr hne;have hl':SqL K H a (V.str (ζ "row")::V.str (ζ (toString (m:Int)))::(k.words nm).map V.str):=hl;refine⟨_,rfl,a,_,_,_,rfl,rfl,hl',at0,rfl,_,rfl,fB ⟨_,rfl,a,_,rfl,.inl hl',_,_,rfl,rfl,_,rfl,vR (by simp;omega) ⟨_,rfl,a,_,_,_,rfl,rfl,hl',at1,.str _,1,6,rfl,.inl ⟨_,rfl,by omega,fun H1 g1=>⟨rfl,_,rfl,?_⟩⟩⟩⟩⟩;rw[d1,show zB (some (m:Int)) 1 6=some (m:Int) from if_pos ⟨by omega,by omega⟩];refine vR (by rfl) ⟨_,rfl,_,rfl,a,_,rfl,g1.seq hl,fun p hp=>?_⟩;rw[show bF ((Kd.words nm (.many m k)).map V.str) (some 2) none=(k.words nm).map V.str from aPl _ _ _];clear 1 p H2 g2 k2 hp;refine⟨p,k.words nm,rfl,SqL.of k2,?_,fun H3 g3=>q H3 ((g1.trans g2).trans g3)⟩;rcases hf.2.2 with⟨w,rfl,hw⟩|⟨i,rfl,hi⟩
  ·exact .inl ⟨w,hw.1,hw.2,rfl⟩
  ·exact .inr ⟨_,hn i hi,rfl⟩
 |pick is =>
  have h1:=hf.1;have h2:=hf.2.1;have hl':SqL K H a (V.str (ζ "pick")::(is.map nm).map V.str):=hl;have zl:((is.map nm).map V.str).length=is.length:=by rw[δ,δ]
  refine⟨_,rfl,a,_,_,_,rfl,rfl,hl',at0,rfl,_,rfl,qP ⟨_,rfl,a,_,_,_,rfl,rfl,hl',at0,rfl,_,rfl,fB ⟨_,rfl,a,_,rfl,.inl hl',_,_,rfl,rfl,_,_,rfl,rfl,_,rfl,vR (by simp;omega) ⟨_,_,rfl,rfl,_,rfl,vR (by simp;omega) ⟨_,rfl,_,rfl,a,_,rfl,hl',fun p hp=>?_⟩⟩⟩⟩⟩;rw[aBo];clear 1 p H2 g2 k2 hp;refine⟨p,rfl,⟨_,SqL.of k2⟩,vI (xs:=(is.map nm).map V.str) (fun j ys H'=>jH H2 H'/\ys=((is.take j).map fun _=>true).map V.bl) ⟨jH.refl _,rfl⟩ (fun j ys H' _ z=>⟨z.1.seq (SqL.of k2),by rw[z.2,δ,δ,ji];exact og _ _⟩) (qM (by omega)) (fun j x ys H' hx z=>?_) (fun ys H' z p hp=>?_)⟩
  ·obtain⟨g,rfl⟩:=z;obtain⟨y,hy,rfl⟩:=qE hx;rw[jv]at hy;cases e:is[j]? with
   |none=>rw[e]at hy;cases hy
   |some i =>
    rw[e]at hy;cases hy;have hx:=hn i (hf.2.2.2 i (iq e));refine⟨_,rfl,.str (nm i),rfl,.inl ⟨_,rfl,by have:=(yR hx).2;omega,fun H3 g3=>⟨⟨g.trans g3,?_⟩,_,rfl⟩⟩⟩;rw[zW e,hx,Θ];rfl
  ·obtain⟨g,rfl⟩:=z;have g3:=xY hp (.lst (((is.take ((is.map nm).map V.str).length).map fun _=>true).map V.bl));refine⟨p,_,rfl,SqL.of jI,?_⟩;rw[show((is.take ((is.map nm).map V.str).length).map fun _=>true).all id=true from iz.mpr fun b hb=>by obtain⟨_,_,rfl⟩:=jz.mp hb;rfl];exact q _ ((g2.trans g).trans g3)
theorem iY(F:Fun K "is_field_line" "is_field_line" zG f fd)(aq:j3 "is_name" (zT K))(ia:j3 "is_kind" (spKd K)):j0 ["words"] (spFl K):=by
 w_cond lJ;obtain⟨a,nm,n,kd,fn,rfl,hl,hfn,hf,hn,q⟩:=h;refine⟨_,(jD (jL (yV (vA dU (jR jX rfl M.len jt (jA (pv 0) jB)) jE (xL _)) (yV (jK aq hr (jA (jV jO (pv 0) jE) jB)) (bA (jK ia hr (jA (vK xG (pv 0) (xB jE) xR) jB))))))),?_⟩;have h0 : 0<(kd.words nm).length:=List.length_pos_iff.mpr (Kd.words_ne nm kd);refine⟨_,rfl,a,_,rfl,.inl hl,_,_,rfl,rfl,_,rfl,vR (by simp;omega) ⟨_,rfl,a,_,_,_,rfl,rfl,hl,at0,.str fn,rfl,.inl ⟨fn,rfl,by have:=(yR hfn).2;omega,fun H1 g1=>⟨_,rfl,vR hfn ⟨_,rfl,_,rfl,a,_,rfl,g1.seq hl,fun p hp=>?_⟩⟩⟩⟩⟩;rw[show bF ((fn::kd.words nm).map V.str) (some 1) none=(kd.words nm).map V.str from aBo _ _];clear 1 p H2 g2 k2 hp;exact⟨p,nm,n,kd,rfl,SqL.of k2,hf,hn,fun H3 g3=>q H3 ((g1.trans g2).trans g3)⟩
theorem nC(F:Fun K "shapes_named" "shapes_named" aD f fd)(aq:j3 "is_name" (zT K)):j0 ["words"] (aEg K):=by
 w_cond nB;obtain⟨a,nm,n,kd,fn,rfl,hl,hf,hn,q⟩:=h;refine⟨_,(jD (jL (qW ["word"] [] [] rfl (qS (vK xG (pv 0) (xB jE) xR)) rfl trivial trivial (fun _ _ _ _=>(qN rfl)) (fun _ _ _ _=>(oP (vP (jK aq hr (jA (pv 0) jB))))) (fun _ _ _ _=>(pv 0))))),?_⟩;obtain⟨w6,w5⟩:=tR hn hf;refine⟨_,rfl,_,rfl,a,_,rfl,hl,fun p hp=>?_⟩;rw[show bF ((fn::kd.words nm).map V.str) (some 1) none=(kd.words nm).map V.str from aBo _ _];clear 1 p H2 g2 k2 hp;refine⟨p,rfl,⟨_,SqL.of k2⟩,vI (xs:=(kd.words nm).map V.str) (fun j ys H'=>jH H2 H'/\ys=(((kd.words nm).take j).filter qB).map V.str) ⟨jH.refl _,rfl⟩ (fun j ys H' hj z=>⟨z.1.seq (SqL.of k2),?_⟩) (qM (by rw[δ];omega)) (fun j x ys H' hx z=>?_) (fun ys H' z l hl=>?_)⟩
 ·rw[z.2,δ];refine jh (List.length_filter_le ..) ?_;rw[ji];exact og _ _
 ·obtain⟨g,rfl⟩:=z;obtain⟨y,hy,rfl⟩:=qE hx;have hy6:=w6 y (iq hy);refine⟨_,rfl,.str y,rfl,.inl ⟨_,rfl,by omega,fun H3 g3=>⟨_,rfl,vL (fun c=>⟨_,rfl,⟨g.trans g3,?_⟩,_,rfl⟩) (fun c=>⟨⟨g.trans g3,?_⟩,_,rfl⟩)⟩⟩⟩
  ·rw[tL hy,if_pos c,Θ];rfl
  ·rw[tL hy,if_neg c,jq]
 ·obtain⟨g,rfl⟩:=z;clear 1 l H3 g3 k3 hl;rw[δ,vT,wD hn hf]at k3;exact q l H3 ((g2.trans g).trans g3) ((g2.trans g).free hl) k3
theorem iA{k:Nat}(F:Fun K "need_new_shape" "need_new_shape" yN f fd):j0 ["told","line","name"] (aOi (j6 0) K):=by
 w_cond iW;obtain⟨tl,x,nm,sa,T,rfl,hl,hw,hne,hnm,hlen,q⟩:=h;refine⟨_,(jC (jZ (PW.pt (bX (yC (pv 0) (fun _=>rfl)) (zJ (xT (yC (jW (jV jO (pv 0) (cV yX jE)) rfl) (fun _=>rfl)))))) (jD kF) jM) (jC (jZ (vF vJ (pv 2) (qW ["shape"] [] [] rfl (qS (pv 0)) rfl trivial trivial (fun _ _ _ _=>(qN rfl)) (fun _ _ _ _=>qI) (fun _ _ _ _=>(oJ (K:=K) rfl (pv 0) rfl))) (by with_unfolding_all rfl)) (jD kF) jM) (jD (jZ (jP qD (jR jX rfl M.len jt (jA (pv 0) jB)) (kL (v:=.int 8) rfl C.MOST_SHAPES ⟨_,rfl⟩)) (jD kF) jM)))),?_⟩;have zl:(sa.map V.ref).length=T.length:=by rw[δ];exact hw.1
 refine aOm (fun σ' H'=>σ'=[some (.ref tl),some x,some (.str nm)]/\H'=H) (fun σ' H' z=>?_) (fun nx hnx=>?_)
 ·obtain⟨rfl,rfl⟩:=z;refine⟨_,rfl,_,rfl,tl,rfl,⟨_,SqL.of hl⟩,vI (xs:=sa.map V.ref) (fun j ys H2=>H2=H'/\ys=((T.take j).map (·.1)).map V.str) ⟨rfl,rfl⟩ (fun j ys H2 _ z=>⟨by rw[z.1];exact SqL.of hl,by rw[z.2,δ,δ,ji];exact og _ _⟩) (qM (by omega)) (fun j x ys H2 hx z=>?_) (fun ys H2 z p hp=>?_)⟩
  ·obtain⟨rfl,rfl⟩:=z;obtain⟨s,hs,rfl⟩:=vU hx;obtain⟨sh,hS,dx,t,ps,k1,_⟩:=hw.at hs;refine⟨_,rfl,s,Ve,_,_,_,rfl,k1,Ue.cl,Ue.nd,rfl,⟨rfl,?_⟩,_,rfl⟩;rw[zW hS,Θ];rfl
  ·obtain⟨rfl,rfl⟩:=z;clear 1 p H3 g3 k3 hp;refine⟨p,_,rfl,.inl (SqL.of k3),rfl,qF _,_,rfl,?_⟩;rw[if_neg ρ,qK,zl,vT];refine qR (by rw[decide_eq_false hnm];decide) ⟨_,rfl,tl,_,rfl,.inl (SqL.of (g3 _ _ hl)),rfl,_,rfl,qR (by rw[zl];simp;omega) (q H3 g3)⟩
 ·rcases yc sa with rfl|⟨sa0,z,rfl⟩
  ·exact⟨_,rfl,false,.inl ⟨_,SqL.of hl,rfl⟩,qP (qP (hnx _ _ ⟨rfl,rfl⟩))⟩
  ·rw[yd]at *;obtain⟨s,hS,so⟩:=hw.at (i:=sa0.length) (a:=z) (by rw[iu (ι _),nv];rfl);obtain⟨dx,t,ps,k1,k2,k3⟩:=so;have hp:ps≠[]:=fun e=>hne s (iq hS) (ug.mp (by rw[←k3.len,e];rfl));exact⟨_,rfl,true,.inl ⟨_,SqL.of hl,by simp⟩,vR rfl ⟨_,rfl,_,rfl,tl,_,_,_,rfl,rfl,SqL.of hl,zM _ _,z,Ve,_,_,_,rfl,k1,Ue.cl,Ue.nd,rfl,true,.inr (.inl ⟨_,k2,by cases ps with|nil=>exact absurd rfl hp|cons _ _=>rfl⟩),qP (hnx _ _ ⟨rfl,rfl⟩)⟩⟩
theorem nX{k:Nat}(F:Fun K "whole_shapes" "whole_shapes" zR f fd):j0 ["told"] (spWh (j6 0) K):=by
 w_cond nK;obtain⟨tl,z,sa,T,s,rfl,hl,hw,hnd,hlen,q⟩:=h;refine⟨_,(jD (jL (aBk ["shape"] [] [] rfl (qS (vK xG (pv 0) xR (xB (cV yX jE)))) rfl trivial trivial (fun _ _ _ _=>(qN rfl)) (fun _ _ _ _=>qI) (fun _ _ _ _=>(oJ (K:=K) rfl (pv 0) rfl)) (fun _ _ _ _=>(pv 0))))),?_⟩;obtain⟨hw0,_⟩:=hw.init;have zl:(sa.map V.ref).length=T.length:=by rw[δ];exact hw0.1
 refine⟨_,rfl,_,rfl,_,rfl,tl,_,rfl,SqL.of hl,fun p hp=>?_⟩;rw[cutC];generalize e2:upd H p _=H2;obtain⟨g2,k2⟩:=qG e2 hp;refine⟨p,rfl,⟨_,SqL.of k2⟩,pE (xs:=sa.map V.ref) (fun D j ys H'=>jH H2 H'/\H2 D=none/\H' D=some (.dK ys)/\ys=dk (T.take j) (sa.take j)) (fun D hD=>⟨(jH.refl H2).putn hD,hD,jI,rfl⟩) (fun D j ys H' _ z=>z.1.seq (SqL.of k2)) (fun D j x ys H' hx z=>?_) (fun D ys H' z=>?_)⟩
 ·obtain⟨g,hD,kD,rfl⟩:=z;obtain⟨a,ha,rfl⟩:=vU hx;obtain⟨sh,hS,dx,t,ps,k1,_⟩:=hw0.at ha;have hj:=(η.mp hS).1;have hnk:∀x∈dk (T.take j) (sa.take j),x.1≠(.inr sh.1:Key):=fun x hx e=>by
   obtain⟨u,hu,eu⟩:=aMi x hx;obtain⟨i,hi⟩:=lw.mp hu;have hij:i<j:=by have:=(η.mp hi).1;rw[ji]at this;omega
   rw[ql hij]at hi;have e2:kY T i=kY T j:=by rw[yF hi,yF hS];exact wy (eu.symm.trans e)
   have:=aLf hnd (η.mp hi).1 hj e2;omega
  refine⟨_,rfl,a,Ve,_,_,_,rfl,g _ _ (g2 _ _ k1),Ue.cl,Ue.nd,rfl,_,rfl,.inr sh.1,rfl,kD,?_,?_⟩
  ·have:(dk (T.take j) (sa.take j)).length<=100:=by unfold dk;rw[wc,ji];omega
   exact mj this (by decide)
  ·rw[aHd hnk];exact⟨⟨g.putn hD,hD,jI,(aNm hS ha).symm⟩,_,rfl⟩
 ·obtain⟨g,hD,kD,rfl⟩:=z;rw[zl,vT,←hw0.1,vT]at kD;exact q D H' (g2.trans g) (g2.free hD) kD
theorem sK(F:Fun K "need_field" "need_field" cA f fd)(cq:j3 "is_field_line" (spFl K))(df:j3 "shapes_named" (aEg K))(bj:j3 "whole_shapes" (spWh (j6 0) K)):j0 ["told","line","words"] (spNF (j6 0) K):=by
 w_cond xP;obtain⟨tl,a,z,x,sa,T,s,fn,kd,rfl,hl,hw,hws,hfn,hnew,hs100,hf,hn,hnd,hlen,q⟩:=h;refine⟨_,(jC (jZ (PW.pt (fC (xT (yC (pv 0) (fun _=>rfl))) (bV (xT (vP (jK cq hr (jA (pv 2) jB))))))) (jD kF) jM) (jC (jZ (vF vJ (jV jO (pv 2) jE) (qW ["name","kind"] [] [] rfl (lD (jW (jV jO (pv 0) (cV yX jE)) rfl)) rfl trivial trivial (fun _ _ _ _=>(iK (K:=K) (n:=2) rfl rfl (kI (qN rfl) (kI (rF rfl) vO)))) (fun _ _ _ _=>qI) (fun _ _ _ _=>(pv 0))) (by with_unfolding_all rfl)) (jD kF) jM) (jC (jQ 3 xP.nd (jK df hr (jA (pv 2) jB))) (jC (yO lf rfl (oE rfl M.enumerate (jA (pv 3) jB)) (bB rfl (kI (qJ 4 xP.nd) (kI (qJ 5 xP.nd) vO))) (jD (jZ (vF vJ (pv 5) (vK xG (pv 3) xR (xB (pv 4))) (by with_unfolding_all rfl)) (jD kF) jM))) (jD (yO lf rfl (qS (pv 3)) (qJ 5 xP.nd) (jD (jZ (pU (aGj hr.units1 (pv 5) (jK bj hr (jA (pv 0) jB)))) (jD kF) jM)))))))),?_⟩;obtain⟨hw0,dx,t,ps,k1,k2,k3⟩:=hw.init;obtain⟨n1,n4,n2⟩:=aAn hnd hf;have zl:(ps.map V.ref).length=s.2.length:=by rw[δ];exact k3.len
 refine⟨_,rfl,true,.inl ⟨_,SqL.of hl,by simp⟩,qP ⟨_,rfl,a,kY T,T.length,kd,fn,rfl,hws,hfn,hf,hn,fun H1 g1=>⟨_,rfl,qP ?_⟩⟩⟩;refine⟨_,rfl,a,_,_,_,rfl,rfl,g1.seq hws,at0,_,rfl,_,rfl,tl,_,_,_,rfl,rfl,SqL.of (g1 _ _ hl),zM _ _,z,Ve,_,_,_,rfl,(g1 _ _ k1),Ue.cl,Ue.nd,rfl,t,rfl,⟨_,g1.tp k2⟩,eJ (xs:=ps.map V.ref) (fun j ys H2=>H2=H1/\ys=((s.2.take j).map (·.1)).map V.str) ⟨rfl,rfl⟩ (fun j ys H2 _ z=>⟨by rw[z.1];exact g1.tp k2,by rw[z.2,δ,δ,ji];exact og _ _⟩) (qM (by omega)) (fun j x ys H2 os ho hx z=>?_) (fun ys H2 z p hp=>?_)⟩
 ·obtain⟨rfl,rfl⟩:=z;obtain⟨o1,o2,rfl⟩:=aGk ho;obtain⟨u,hu,rfl⟩:=vU hx;obtain⟨nm',kd',kk,hfs,hq,hko⟩:=k3.get hu;refine⟨u,_,rfl,g1.tp hq,rfl,_,_,rfl,_,_,rfl,rfl,_,rfl,⟨rfl,?_⟩,[_,_],rfl,rfl⟩;rw[zW hfs,Θ];rfl
 ·obtain⟨rfl,rfl⟩:=z;clear 1 p H3 g3 k4 hp;refine⟨p,_,rfl,.inl (SqL.of k4),rfl,qF _,_,rfl,?_⟩;rw[if_neg ρ,qK,zl,vT];refine qR (by rw[decide_eq_false hnew];decide) ⟨_,rfl,a,kY T,T.length,kd,fn,rfl,g3.seq (g1.seq hws),hf,hn,fun l H4 g4 hl4 k5=>?_⟩;have g14:=(g1.trans g3).trans g4;have zn:((Kd.named (kY T) kd).map V.str).length=(Kd.named (kY T) kd).length:=δ _;refine⟨_,rfl,l,_,rfl,SqL.of k5,iH (xs:=(Kd.named (kY T) kd).map V.str) (fun i σ H'=>∃o4 o5,σ = [some (.ref tl),some x,some (.ref a),some (.ref l),o4,o5]/\jH H4 H') ⟨_,_,rfl,jH.refl _⟩ (fun i σ H' _ z=>?_) (fun i x σ H' p hx z hp=>?_) (fun σ H' z=>?_)⟩
  ·obtain⟨o4,o5,rfl,g⟩:=z;exact g.seq (SqL.of k5)
  ·obtain⟨o4,o5,rfl,g⟩:=z;obtain⟨y,hy,rfl⟩:=qE hx;have g5:=xY hp (.tup [.int (i:Int),.str y]);have k6:upd H' p (.tup [.int (i:Int),.str y]) p=_:=jI;generalize upd H' p (.tup [.int (i:Int),.str y])=H5 at g5 k6;refine⟨p,_,rfl,SqT.of k6,rfl,_,_,rfl,_,_,rfl,rfl,_,rfl,_,rfl,_,rfl,_,rfl,l,_,rfl,(g.trans g5).seq (SqL.of k5),fun p2 hp2=>?_⟩;rw[cutB];clear 1 p2 H6 g6 k7 hp2;rw[←List.map_take]at k7;refine⟨p2,_,rfl,.inl (SqL.of k7),rfl,qF _,_,rfl,?_⟩;rw[if_neg ρ,qK];refine qR (fun z=>?_) ⟨_,_,rfl,(g.trans g5).trans g6⟩;have hm:y∈(Kd.named (kY T) kd).take i:=of_decide_eq_true z;obtain⟨j,hj⟩:=lw.mp hm;have hji:j<i:=by have:=(η.mp hj).1;rw[ji]at this;omega
   rw[ql hji]at hj;obtain⟨a1,b1⟩:=η.mp hj;obtain⟨a2,b2⟩:=η.mp hy;exact List.pairwise_iff_getElem.mp n1 j i a1 a2 hji (b1.trans b2.symm)
  ·obtain⟨o4,o5,rfl,g⟩:=z;refine⟨_,rfl,l,rfl,⟨_,g.seq (SqL.of k5)⟩,yA (xs:=(Kd.named (kY T) kd).map V.str) (fun i σ H'=>∃o4 o5,σ = [some (.ref tl),some x,some (.ref a),some (.ref l),o4,o5]/\jH H4 H') ⟨_,_,rfl,g⟩ (fun i σ H' _ z=>?_) (fun i x σ H' hx z=>?_) (fun σ H' z=>?_)⟩
   ·obtain⟨o4,o5,rfl,g⟩:=z;exact g.seq (SqL.of k5)
   ·obtain⟨o4,o5,rfl,g⟩:=z;obtain⟨y,hy,rfl⟩:=qE hx;obtain⟨j,hj,rfl⟩:=n2 y (iq hy);have hT:T[j]?=some T[j]:=π hj;have hsa:sa[j]?=some (sa[j]'(by rw[hw0.1];exact hj)):=π _;have hv:=aKc hnd hT hsa;rw[←yF hT]at hv;refine⟨_,rfl,_,rfl,tl,z,sa,T,s,rfl,(g14.trans g) _ _ hl,hw.same (g14.trans g),hnd,hlen,fun d H5 g5 hd k6=>⟨d,_,rfl,vX.k (k:=jj (kY T j)) k6,_,rfl,?_⟩⟩;rw[hv];exact qR (by simp) ⟨_,_,rfl,g.trans g5⟩
   ·obtain⟨o4,o5,rfl,g⟩:=z;exact q H' (g14.trans g)
theorem aDl(F:Fun K "kind_in" "kind_in" lA f fd)(cf:j3 "kind_in" (aFa (j6 0) K r))(gi:j5 cIu (aJj Va "width"))(bo:j5 cIv (aJj Vb "shape"))(fu:j5 cIx (spI2 Vc "count" "kind"))(fw:j5 cIy (spIT K Vd "shapes")):j0 ["words","shapes"] (aFa (j6 0) K (r+1)):=by
 w_cond aDj;obtain⟨a,d,kd,sa,T,rfl,hlv,hl,hd,hf,hn,hnd,hsl,q⟩:=h;refine⟨_,(jC (jZ (jP qD (jV jO (pv 0) jE) jN) (jD (jL (yK Ua gi hr0 rfl qH (jA (qO yB rfl M.int boot_int (jA (jV jO (pv 0) jE) jB)) jB)))) jM) (jC (jZ (jP qD (jV jO (pv 0) jE) jN) (jD (jL (yK Uc fu hr0 rfl qH (jA (qO yB rfl M.int boot_int (jA (jV jO (pv 0) jE) jB)) (jA (jK cf hr (jA (vK xG (pv 0) (xB jE) xR) (jA (pv 1) jB))) jB))))) jM) (jC (jZ (jP qD (jV jO (pv 0) jE) jN) (jD (jL (yK Ud fw hr0 rfl qH (jA (qW ["name"] ["shapes"] [1] rfl (qS (vK xG (pv 0) (xB jE) xR)) rfl ⟨rfl,trivial⟩ ⟨⟨rfl,rfl,rfl,_,rfl⟩,trivial⟩ (fun _ _ _ _=>(qN rfl)) (fun _ _ _ _=>qI) (fun _ _ _ _=>(xE hr.units1 (pv 1) (pv 0) (fun _ _=>rfl)))) jB)))) jM) (jD (jL (yK Ub bo hr0 rfl qH (jA (xE hr.units1 (pv 1) (jV jO (pv 0) jE) (fun _ _=>rfl)) jB))))))),?_⟩;have look:∀i,i<T.length->∃s,sa[i]?=some s/\vZ (dk T sa) (.inr (kY T i))=some (.ref s):=fun i hi=>by
  have hT:T[i]?=some T[i]:=π hi;have hs:sa[i]?=some (sa[i]'(by omega)):=π _;exact⟨_,hs,by rw[yF hT];exact aKc hnd hT hs⟩
 cases kd with
 |num w =>
  obtain⟨_,d2,_,d4⟩:=dig (w:=w) (by have:=hf.2;omega);exact⟨_,rfl,a,_,_,_,rfl,rfl,hl,rfl,rfl,_,rfl,fB ⟨_,rfl,a,_,_,_,rfl,rfl,hl,rfl,_,_,rfl,d4,by omega,fun x dx hx hdx _=>⟨x,dx,.int w,H,rfl,jI,aO hx hdx,hx,fun H1 g1 k1=>⟨rfl,q x H1 g1 (.num k1)⟩⟩⟩⟩
 |nest i =>
  have hx:=hn i hf;obtain⟨s,hs,hv⟩:=look i hf;exact⟨_,rfl,a,_,_,_,rfl,rfl,hl,rfl,rfl,_,rfl,qR (by simpa using cH hx (y:="num") (by decide)) ⟨_,rfl,a,_,_,_,rfl,rfl,hl,rfl,rfl,_,rfl,qR (by simpa using cH hx (y:="row") (by decide)) ⟨_,rfl,a,_,_,_,rfl,rfl,hl,rfl,rfl,_,rfl,qR (by simpa using cH hx (y:="pick") (by decide)) ⟨_,rfl,_,rfl,a,_,_,_,rfl,rfl,hl,rfl,d,.ref s,rfl,(by rw[←hv];exact vX.k (k:=jj (kY T i)) hd),fun x dx hx hdx _=>⟨x,dx,.ref s,H,rfl,jI,aO hx hdx,hx,fun H1 g1 k1=>⟨rfl,q x H1 g1 (.nest hs k1)⟩⟩⟩⟩⟩⟩
 |many m k =>
  obtain⟨_,d2,_,d4⟩:=dig (w:=m) (by have:=hf.2.1;omega);have hl':SqL K H a (V.str (ζ "row")::V.str (ζ (toString (m:Int)))::(k.words (kY T)).map V.str):=hl;refine⟨_,rfl,a,_,_,_,rfl,rfl,hl',at0,rfl,_,rfl,qP ⟨_,rfl,a,_,_,_,rfl,rfl,hl',at0,rfl,_,rfl,fB ⟨_,rfl,a,_,_,_,rfl,rfl,hl',at1,_,_,rfl,d4,by omega,_,rfl,_,rfl,a,_,rfl,hl',fun p hp=>?_⟩⟩⟩;rw[aPl];clear 1 p H1 g1 k1 hp;have hlk:k.lv=0:=by rcases hf.2.2 with⟨w,rfl,_⟩|⟨i,rfl,_⟩ <;> rfl
  refine⟨_,rfl,p,d,k,sa,T,rfl,(by rw[hlk];have : 1<r+1:=hlv;omega),SqL.of k1,g1 _ _ hd,hf.sub,hn,hnd,hsl,fun b H2 g2 ko=>?_⟩;exact fun x dx hx hdx _=>⟨x,dx,.int m,.ref b,H2,rfl,jI,aO hx hdx,hx,fun H3 g3 k3=>⟨rfl,q x H3 ((g1.trans g2).trans g3) (.many k3 (ko.same g3))⟩⟩
 |pick is =>
  have hl':SqL K H a (V.str (ζ "pick")::(is.map (kY T)).map V.str):=hl;have h2:=hf.2.1;have zl:((is.map (kY T)).map V.str).length=is.length:=by rw[δ,δ]
  refine⟨_,rfl,a,_,_,_,rfl,rfl,hl',at0,rfl,_,rfl,qP ⟨_,rfl,a,_,_,_,rfl,rfl,hl',at0,rfl,_,rfl,qP ⟨_,rfl,a,_,_,_,rfl,rfl,hl',at0,rfl,_,rfl,fB ⟨_,rfl,_,rfl,a,_,rfl,hl',fun p hp=>?_⟩⟩⟩⟩;rw[aBo];clear 1 p H1 g1 k1 hp;refine⟨p,rfl,⟨_,SqL.of k1⟩,vI (xs:=(is.map (kY T)).map V.str) (fun j ys H'=>H'=H1/\∃ss:List Addr,ys=ss.map V.ref/\ss.length=j/\∀(b i:Nat) (s:Addr),is[b]?=some i->ss[b]?=some s->sa[i]?=some s) ⟨rfl,[],rfl,rfl,fun b i s _ z=>by simp at z⟩ (fun j ys H' _ z=>?_) (qM (by omega)) (fun j x ys H' hx z=>?_) (fun ys H' z p2 hp2=>?_)⟩
  ·obtain⟨rfl,ss,rfl,hss,_⟩:=z;exact⟨SqL.of k1,by rw[δ];omega⟩
  ·obtain⟨rfl,ss,rfl,hss,hall⟩:=z;obtain⟨y,hy,rfl⟩:=qE hx;rw[jv]at hy;cases e:is[j]? with
   |none=>rw[e]at hy;cases hy
   |some i =>
    rw[e]at hy;cases hy;obtain⟨s,hs,hv⟩:=look i (hf.2.2.2 i (iq e));refine⟨_,rfl,_,rfl,d,.ref s,rfl,(by rw[←hv];exact vX.k (k:=jj (kY T i)) (g1 _ _ hd)),⟨rfl,ss++[s],by rw[Θ];rfl,by rw[θ,hss];rfl,fun b i' s' hb1 hb2=>?_⟩,_,rfl⟩;rcases zN hb2 with hb2|⟨eb,es⟩
    ·exact hall b i' s' hb1 hb2
    ·rw[eb,hss,e]at hb1;cases hb1;rw[es];exact hs
  ·obtain⟨rfl,ss,rfl,hss,hall⟩:=z;clear 1 p2 H2 g2 k2 hp2;exact fun x dx hx hdx _=>⟨x,dx,p2,_,H2,rfl,jI,aO hx hdx,hx,SqL.of k2,fun t H3 g3 k3 k4=>⟨rfl,q x H3 ((g1.trans g2).trans g3) (.pick k3 k4 (by rw[hss,zl]) hall)⟩⟩
theorem oX(F:Fun K "is_too_much" "is_too_much" aW f fd)(ay:j4 Ve "size" (mX (j6 0) K r sSz))(dz:j4 Ve "units" (aPh (j6 0) K r))(aw:j4 Ve "depth" (mX (j6 0) K r sDp)):j0 ["shape"] (spTM (j6 0) K r):=by
 w_cond oT;obtain⟨a,i,sa,S,rfl,e,hi,h8,hw,hg,⟨b1,b2,b3⟩,q⟩:=h;refine⟨_,(jC (jZ (PW.pt (fC (jP dU (jR jX rfl M.len jt (jA (jW (pv 0) rfl) jB)) (kL (v:=.int 6) rfl C.MOST_FIELDS ⟨_,rfl⟩)) (bV (jP dU (xQ (pv 0) Ue.cl ay hr qH) (kL (v:=.int 64) rfl C.MOST_CELLS ⟨_,rfl⟩))))) (jD (jL pK)) jM) (jD (jL (pe_or (vA dU (jR jX rfl M.len jt (jA (xQ (pv 0) Ue.cl dz hr qH) jB)) (kL (v:=.int 40) rfl C.MOST_UNITS ⟨_,rfl⟩) (xL _)) (bA (vA dU (xQ (pv 0) Ue.cl aw hr qH) (kL (v:=.int 4) rfl C.MOST_DEPTH ⟨_,rfl⟩) (xL _))))))),?_⟩;obtain⟨s,hS,dx,t,ps,k1,k2,k3⟩:=hw.at e;have h6:=hg.few i s hS;have zl:(ps.map V.ref).length=s.2.length:=by rw[δ];exact k3.len
 refine⟨_,rfl,a,Ve,_,_,_,rfl,k1,Ue.cl,Ue.nd,rfl,t,_,rfl,.inr k2,_,_,rfl,rfl,_,rfl,qR (by rw[zl];simp;omega) ⟨_,rfl,a,dx,_,rfl,k1,rfl,a,i,sa,S,rfl,e,(by omega),hw,hg,fun H1 g1=>⟨_,_,rfl,rfl,_,rfl,qR (by have:sSz i (tabs S)<=64:=b1;simp;omega) ?_⟩⟩⟩;refine⟨_,rfl,a,dx,_,rfl,g1 _ _ k1,rfl,a,i,sa,S,rfl,e,hi,h8,hw.same g1,hg,fun l H2 g2 hl ⟨us,ku,ur⟩=>⟨l,_,rfl,.inl (SqL.of ku),_,_,rfl,rfl,_,rfl,qR (by rw[δ,ur.len];simp;omega) ?_⟩⟩;refine⟨_,rfl,a,dx,_,rfl,g2 _ _ (g1 _ _ k1),rfl,a,i,sa,S,rfl,e,(by omega),hw.same (g1.trans g2),hg,fun H3 g3=>⟨_,_,rfl,rfl,?_⟩⟩
 (try dsimp only)
 rw[decide_eq_false (by have:sDp i (tabs S)<=4:=b3;omega)];exact q H3 ((g1.trans g2).trans g3)
theorem sN(F:Fun K "with_field" "with_field" cR f fd)(cf:j3 "kind_in" (aFa (j6 0) K 2))(bj:j3 "whole_shapes" (spWh (j6 0) K))(bt:j5 cIz (aIf (j6 0) K))(ed:j3 "is_too_much" (spTM (j6 0) K r)):j0 ["told","line","words"] (spWF (j6 0) K r):=by
 w_cond aT;obtain⟨tl,a,z,x,sa,T,s,fn,kd,rfl,hl,hw,hws,hf,hn,hnd,hlen,hr1,h8,hs50,hg,hb,q⟩:=h;refine⟨_,(jC (jQ 3 aT.nd (jK cf hr (jA (vK xG (pv 2) (xB jE) xR) (jA (jK bj hr (jA (pv 0) jB)) jB)))) (jC (jQ 4 aT.nd (yK Ue bt hr0 rfl qH (jA (jW (jV jO (pv 0) (cV yX jE)) rfl) (jA (jS aKu (jW (jV jO (pv 0) (cV yX jE)) rfl) (xC (jA (xC (jA (jV jO (pv 2) jE) (jA (pv 3) jB))) jB))) jB)))) (jC (jZ (vP (jK ed hr (jA (pv 4) jB))) (jD kF) jM) (jD (jL (pv 4)))))),?_⟩;obtain⟨hw0,dx,t,ps,k1,k2,k3⟩:=hw.init;refine⟨_,rfl,_,rfl,a,_,rfl,hws,fun p hp=>?_⟩;rw[show bF ((fn::kd.words (kY T)).map V.str) (some 1) none=(kd.words (kY T)).map V.str from aBo _ _];clear 1 p H1 g1 kp hp;refine⟨_,rfl,tl,z,sa,T,s,rfl,g1 _ _ hl,hw.same g1,hnd,hlen,fun d H2 g2 hd kd2=>?_⟩;refine⟨p,d,kd,sa,T,rfl,(by cases kd <;> simp[Kd.lv]),g2.seq (SqL.of kp),kd2,hf,hn,hnd,hw0.1,fun k H3 g3 ko=>?_⟩;have g13:=(g1.trans g2).trans g3;refine⟨_,rfl,_,rfl,tl,_,_,_,rfl,rfl,SqL.of (g13 _ _ hl),zM _ _,z,Ve,_,_,_,rfl,(g13 _ _ k1),Ue.cl,Ue.nd,rfl,_,rfl,_,rfl,tl,_,_,_,rfl,rfl,SqL.of (g13 _ _ hl),zM _ _,z,Ve,_,_,_,rfl,(g13 _ _ k1),Ue.cl,Ue.nd,rfl,_,rfl,a,_,_,_,rfl,rfl,g13.seq hws,at0,_,rfl,xM,fun u hu=>?_⟩;clear 1 u H4 g4 k4 hu;refine⟨aKx,fun v hv=>?_⟩;clear 1 v H5 g5 k5 hv;have hps:ps.length=s.2.length:=k3.len;refine⟨t,v,ps.map V.ref,[.ref u],rfl,rfl,(g4.trans g5).tp (g13.tp k2),SqT.of k5,(by simp),(by rw[jc,δ];simp;omega),fun fl H6 g6 hfl=>?_⟩;have g36:=(g4.trans g5).trans g6;refine fun y dy hy hdy _=>⟨y,dy,fl,s.1,ps++[u],s.2++[(fn,kd)],sa,H6,rfl,jI,aO hy hdy,hy,.inr (by rw[Θ];exact hfl),(k3.same (g13.trans g36)).snoc ((g5.trans g6).tp (SqT.of k4)) (ko.same g36),(by rw[θ];show s.2.length+1<=100;omega),fun t' ps' H7 g7 k7 st fo=>⟨rfl,?_⟩⟩;have gA:=(g13.trans g36).trans g7;have so:SO (j6 0) K H7 sa y (s.1,s.2++[(fn,kd)]):=⟨dy,t',ps',k7,st,fo⟩;have hsw:=(hw0.same gA).snoc so;have hsl:sa.length=T.length:=hw0.1;exact⟨_,rfl,y,T.length,sa++[y],_,rfl,(by rw[←hsl,iu (ι _),nv];rfl),hr1,h8,hsw,hg,hb,fun H8 g8=>⟨_,rfl,qP ⟨_,rfl,q y H8 (gA.trans g8) (so.same g8)⟩⟩⟩
theorem pI{k r:Nat}(F:Fun K "read_shapes" "read_shapes" bG f fd)(cr:j3 "is_shape_line" (aPx K))(cp:j3 "need_new_shape" (aOi (j6 0) K))(bt:j5 cIz (aIf (j6 0) K))(fc:j3 "need_field" (spNF (j6 0) K))(ff:j3 "with_field" (spWF (j6 0) K r))(ee:j5 cIw (spIT K Vf "shapes")):j0 ["text"] (spRd (j6 0) Vf K r):=by
 w_cond vH;obtain⟨S,rfl,hW,hne,hr12,h8,q⟩:=h;refine⟨_,(jC (jZ (xT (vP (jR hJ rfl M.isinstance oh (jA (pv 0) (jA (aN (v:=.ty "str") rfl M.str boot_str rfl) jB))))) (jD kF) jM) (jC (jQ 1 vH.nd (yJ oq rm rq bQ (pv 0) (jA jN jB))) (jC (jQ 2 vH.nd (qC jB)) (jC (yO lf rfl (oE rfl M.enumerate (jA (pv 1) jB)) (bB rfl (kI (qJ 3 vH.nd) (kI (qJ 4 vH.nd) vO))) (jC (jQ 5 vH.nd (yJ oq rm rq bQ (pv 4) (jA jN jB))) (jD (jZ (vP (jK cr hr (jA (pv 5) jB))) (jC (qQ (jK cp hr (jA (pv 2) (jA (pv 3) (jA (jV jO (pv 5) jE) jB))))) (jD (qQ (yJ kj mm mn xV (pv 2) (jA (yK Ue bt hr0 rfl qH (jA (jV jO (pv 5) jE) (jA (qC jB) jB))) jB))))) (jC (qQ (jK fc hr (jA (pv 2) (jA (pv 3) (jA (pv 5) jB))))) (jD (lN (jK ff hr (jA (pv 2) (jA (pv 3) (jA (pv 5) jB)))) (aDp (pv 2) (cV yX jE) set_list)))))))) (jC (jZ (xT (yC (jW (jV jO (pv 2) (cV yX jE)) rfl) (fun _=>rfl))) (jD kF) jM) (jD (jL (yK Uf ee hr0 rfl qH (jA (pv 2) jB))))))))),?_⟩;obtain⟨h30,hrow,htl,hsp⟩:=aRk hW hne;have hok:=aEl hW;refine⟨_,rfl,_,_,"str",rfl,by decide,rfl,_,rfl,qP ⟨_,rfl,rfl,_,_,rfl,rfl,rfl,(by rw[jc];omega),fun p hp=>?_⟩⟩;rw[show pz (txt S) (ζ "\n")=_ from hsp];clear 1 p H1 g1 k1 hp;refine⟨cK,fun tl hq=>?_⟩;clear 1 tl H2 g2 k2 hq;have hq0:H tl=none:=g1.free hq;have npt:p≠tl:=jG k1 hq;have k12:=g2 _ _ k1;have zl:(((xJ S).map fun it=>jp spS (it.line (kY S))).map V.str).length=(xJ S).length:=by rw[δ,δ]
 refine⟨_,rfl,p,_,rfl,SqL.of k12,iH (xs:=((xJ S).map fun it=>jp spS (it.line (kY S))).map V.str) (fun i σ H'=>∃(o3 o4 o5:Option V) (sa:List Addr) (T:List Shp),σ = [some (.str (txt S)),some (.ref p),some (.ref tl),o3,o4,o5]/\But tl H2 H'/\H' tl=some (.lst (sa.map V.ref))/\SW (j6 0) K H' sa T/\nG S i T) ⟨_,_,_,[],[],rfl,But.refl,k2,SW.nil,nG.start S⟩ (fun i σ H' _ z=>?_) (fun i x σ H' p2 hx z hp2=>?_) (fun σ H' z=>?_)⟩
 ·obtain⟨o3,o4,o5,sa,T,rfl,g,_⟩:=z;exact SqL.of (g _ _ npt k12)
 ·obtain⟨o3,o4,o5,sa,T,rfl,g,kl,hw,hst⟩:=z;obtain⟨row,hrw,rfl⟩:=qE hx;rw[jv]at hrw;cases eit:(xJ S)[i]? with
  |none=>rw[eit]at hrw;cases hrw
  |some it =>
  rw[eit]at hrw;cases hrw;have hit:=iq eit;obtain⟨r100,rsp⟩:=hrow it hit;obtain⟨ok1,ok2,ok3⟩:=hok it hit;obtain⟨S1,s,S2,eS,hnx⟩:=hst.next (η.mp eit).1;clear 1 p2 H3 g3 k3 hp2;refine⟨p2,_,rfl,SqT.of k3,rfl,_,_,rfl,_,_,rfl,rfl,_,rfl,rfl,_,_,rfl,rfl,rfl,(by rw[jc];show(jp L2.spS (it.line (kY S))).length+2<=_;omega),fun wa hwa=>?_⟩;rw[show pz (jp spS (it.line (kY S))) (ζ " ")=_ from rsp];clear 1 wa H4 g4 k4 hwa;have g34:=g3.trans g4;refine⟨_,rfl,wa,it.line (kY S),rfl,⟨SqL.of k4,fun w hw=>by have:=(ok1 w hw).2;omega,by omega⟩,fun H5 g5=>⟨_,rfl,?_⟩⟩;have g35:=g34.trans g5;have kl5:=g35 _ _ kl;have hw5:=hw.same g35;have kw5:=g5 _ _ k4;have hsS:s∈S:=by rw[eS];exact jf _ (τ ..)
  have hS1:∀t∈S1,t∈S:=fun t ht=>by rw[eS];exact mf _ ht
  have hlen:=hW.len;have hnd1:(S1.map (·.1)).Nodup/\s.1∉S1.map (·.1):=by
   have:=hW.nd;rw[eS,Θ,vg]at this;exact⟨this.1,fun z=>this.2.2 _ z _ (τ ..) rfl⟩
  have hl1:S1.length<5:=by rw[eS,θ,χ]at hlen;omega
  rcases hnx with⟨ei,rfl,hst2⟩|⟨f1,n,kd,f2,ef,ei,rfl,hst2⟩
  ·rw[eit]at ei;cases ei;have hnm:=hW.nm s hsS;have hws:SqL K H5 wa [V.str (ζ "shape"),V.str s.1]:=SqL.of kw5;refine vR (by show(decide (ζ "shape" = ζ "shape")&&qB s.1)=true;rw[hnm];decide) ⟨_,rfl,_,rfl,_,rfl,wa,_,_,_,rfl,rfl,hws,rfl,tl,_,s.1,sa,T,rfl,kl5,hw5,(fun t ht=>?_),hnd1.2,by omega,fun H6 g6=>?_⟩
   ·obtain⟨j,hj⟩:=lw.mp ht;exact hW.good.ne j t (by rw[eS,jd (η.mp hj).1];exact hj)
   have kl6:=g6 _ _ kl5;refine⟨_,rfl,.inl ⟨rfl,_,SqL.of kl6⟩,_,rfl,wa,_,_,_,rfl,rfl,g6.seq hws,rfl,cK,fun el hel=>?_⟩;clear 1 el H7 g7 k7 hel;refine fun y dy hy hdy _=>⟨y,dy,el,s.1,[],[],sa,H7,rfl,jI,aO hy hdy,hy,.inl (SqL.of k7),.nil,by decide,fun t ps' H8 g8 k8 st fo=>⟨rfl,?_⟩⟩;have g58:=(g6.trans g7).trans g8;have kl8:=g58 _ _ kl5;have hsl:=hw.1;refine⟨tl,_,_,rfl,rfl,kl8,(by rw[δ];exact mj (show sa.length<=5 by omega) (by decide)),?_⟩;clear 0 tl H9 g9 k9;exact⟨_,_,_,sa++[y],_,rfl,(g.trans (But.of (g35.trans g58))).trans g9,by rw[Θ];exact k9,((hw5.same g58).snoc (s:=(s.1,[])) ⟨dy,t,ps',k8,st,fo⟩).but g9 kl8,hst2⟩
  ·rw[eit]at ei;cases ei;obtain⟨sa0,z,rfl⟩:=aFq hw.1;have hfm:(n,kd)∈s.2:=by rw[ef];exact jf _ (τ ..)
   have hnm:=hW.fnm s hsS _ hfm;have hi1:S[S1.length]?=some s:=by rw[eS,iu (ι _),nv];rfl
   have hfit:=(hW.good.fit _ _ hi1 _ hfm).1;have hns:NOk (kY S1) S1.length:=aHy fun t ht=>hW.nm t (hS1 t ht);have ew:kd.words (kY S)=kd.words (kY S1):=mV (fun j hj=>by rw[eS];exact aLk hj) hfit.below;have hws:SqL K H5 wa ((n::kd.words (kY S1)).map V.str):=by rw[←ew];exact SqL.of kw5
   obtain⟨pg,pb,p5⟩:=hW.pre (f1:=f1++[(n,kd)]) (f2:=f2) eS (by rw[ef,jy];rfl) (by simp);rw[θ,km]at p5;have hfn:n∉f1.map (·.1):=fun z=>by
    have:=hW.fnd s hsS;rw[ef,Θ,vg]at this;exact this.2.2 _ z _ (τ ..) rfl
   refine qR (by rw[show aCe ((Itm.fd n kd).line (kY S))=false from aNg hnm];decide) ⟨_,rfl,_,rfl,_,rfl,tl,wa,z,_,sa0,S1,(s.1,f1),n,kd,rfl,kl5,hw5,hws,hnm,hfn,(by show f1.length<=100;omega),hfit,hns,hnd1.1,by omega,fun H6 g6=>?_⟩;refine⟨_,rfl,_,rfl,_,rfl,tl,wa,z,_,sa0,S1,(s.1,f1),n,kd,rfl,g6 _ _ kl5,hw5.same g6,g6.seq hws,hfit,hns,hnd1.1,by omega,by omega,h8,(by show f1.length<=50;omega),pg,pb,fun y H7 g7 so=>?_⟩;have g57:=g6.trans g7;have kl7:=g57 _ _ kl5;refine⟨_,rfl,_,rfl,tl,_,_,_,rfl,rfl,kl7,aKg _ _,?_⟩;rw[aKb];clear 0 tl H9 g9 k9;exact⟨_,_,_,sa0++[y],_,rfl,(g.trans (But.of (g35.trans g57))).trans g9,k9,((hw5.init.1.same g57).snoc so).but g9 kl7,hst2⟩
 ·obtain⟨o3,o4,o5,sa,T,rfl,g,kl,hw,hst⟩:=z;rw[zl]at hst;have eT:=hst.done;subst eT;have gH:jH H H':=But.from (g1.trans g2) hq0 g;rcases yc T with rfl|⟨T0,s,rfl⟩
  ·exact absurd rfl hne
  ·rw[yd]at *;obtain⟨sa0,z,rfl⟩:=aFq hw.1;obtain⟨hw0,dx,t,ps,m1,m2,m3⟩:=hw.init;have hs:=hW.good.ne T0.length s (by rw[iu (ι _),nv];rfl);have hps:ps≠[]:=fun e=>hs (ug.mp (by rw[←m3.len,e];rfl));refine⟨_,rfl,_,rfl,tl,_,_,_,rfl,rfl,SqL.of kl,zM _ _,z,Ve,_,_,_,rfl,m1,Ue.cl,Ue.nd,rfl,true,.inr (.inl ⟨_,m2,by cases ps with|nil=>exact absurd rfl hps|cons _ _=>rfl⟩),qP ⟨_,rfl,?_⟩⟩;exact fun y dy hy hdy _=>⟨y,dy,tl,_,H',rfl,jI,aO hy hdy,hy,SqL.of kl,fun t H3 g3 k3 k4=>⟨rfl,q y dy t _ H3 (gH.trans g3) k3 k4 (hw.same g3)⟩⟩
theorem aDv{k:Nat}(F:Fun K "_law_box" "_law_box" mJ f fd):j0 ["_law_cell_here"] aPn:=by
 w_cond aDg;obtain⟨c,rfl,q⟩:=h;refine⟨_,(jD (jL (qC (jA (jR (aHk rfl) rfl M.max boot_max (jA jE (jA (jS bC (pv 0) (jS aDd jE jE)) jB))) (jA (jS yW (pv 0) jE) (jA jE jB)))))),?_⟩;exact⟨_,rfl,_,_,rfl,rfl,⟨by decide,by decide,by decide⟩,_,_,rfl,rfl,_,_,rfl,_,rfl,_,_,rfl,rfl,(by show(0:Int)<_;decide),mF,fun p hp=>q p _ hp ⟨⟨_,_,_,jI⟩,fun b o n e=>by rw[jT n];exact e⟩⟩
theorem aBq{k:Nat}(F:Fun K "__init__" "Row.__init__" fK f fd):j0 ["self","line","deed","goal","reads","steps","number"] (spI6 ae "line" "deed" "goal" "reads" "steps" "number"):=by
 w_cond aBg;obtain⟨a,dx,v1,v2,v3,v4,v5,v6,H1,rfl,hA,g,h0,q⟩:=h;refine⟨_,(jC (kR (pv 0) (pv 1) rfl) (jC (kR (pv 0) (pv 2) rfl) (jC (kR (pv 0) (pv 3) rfl) (jC (kR (pv 0) (pv 4) rfl) (jC (kR (pv 0) (pv 5) rfl) (jD (kR (pv 0) (pv 6) rfl))))))),?_⟩;exact⟨_,rfl,_,rfl,a,ae,dx,[],rfl,hA,af.cl,af.nd,by decide,_,rfl,_,rfl,a,ae,dx,_,rfl,jI,af.cl,af.nd,(by show 1<1000;decide),_,rfl,_,rfl,a,ae,dx,_,rfl,jI,af.cl,af.nd,(by show 2<1000;decide),_,rfl,_,rfl,a,ae,dx,_,rfl,jI,af.cl,af.nd,(by show 3<1000;decide),_,rfl,_,rfl,a,ae,dx,_,rfl,jI,af.cl,af.nd,(by show 4<1000;decide),_,rfl,_,rfl,a,ae,dx,_,rfl,jI,af.cl,af.nd,(by show 5<1000;decide),q _ ((((((g.putn h0).putn h0).putn h0).putn h0).putn h0).putn h0) jI⟩
theorem nS{k:Nat}(F:Fun K "__init__" "Program.__init__" zZ f fd):j0 ["self","shapes","rows","named","written"] (spI4 ai "shapes" "rows" "named" "written"):=by
 w_cond nW;obtain⟨a,dx,v1,v2,v3,v4,H1,rfl,hA,g,h0,q⟩:=h;refine⟨_,(jC (kR (pv 0) (pv 1) rfl) (jC (kR (pv 0) (pv 2) rfl) (jC (kR (pv 0) (pv 3) rfl) (jD (kR (pv 0) (pv 4) rfl))))),?_⟩;exact⟨_,rfl,_,rfl,a,ai,dx,[],rfl,hA,aj.cl,aj.nd,by decide,_,rfl,_,rfl,a,ai,dx,_,rfl,jI,aj.cl,aj.nd,(by show 1<1000;decide),_,rfl,_,rfl,a,ai,dx,_,rfl,jI,aj.cl,aj.nd,(by show 2<1000;decide),_,rfl,_,rfl,a,ai,dx,_,rfl,jI,aj.cl,aj.nd,(by show 3<1000;decide),q _ ((((g.putn h0).putn h0).putn h0).putn h0) jI⟩
theorem pM{k:Nat}(F:Fun K "main" "Shapes.main" aR f fd):j0 ["self"] (spMn (j6 0) Vf K):=by
 w_cond oY;obtain⟨ra,z,sa,S,rfl,⟨dx,t,k1,k2,hw⟩,q⟩:=h;refine⟨_,(jD (jL (jV aRf (jW (pv 0) rfl) (cV yX jE)))),?_⟩;exact⟨_,rfl,ra,Vf,_,_,_,rfl,k1,Uf.cl,Uf.nd,rfl,_,rfl,t,_,_,_,rfl,rfl,k2,zM _ _,q⟩
theorem aMx(F:Fun K "fits" "fits" aDy f fd)(aq:j3 "is_name" (zT K))(bb:j3 "number_in" (cF K))(bh:j3 "bound_of" spBo):j0 ["part","word"] spFi:=by
 w_cond aMa;obtain⟨p,x,rfl,hx,q⟩:=h;refine⟨_,(jC (jZ (vF vJ (pv 0) (kL (v:=.ref tNa) rfl C.NAMES rfl) (by with_unfolding_all rfl)) (jD (jL (jK aq hr (jA (pv 1) jB)))) jM) (jC (jZ (jP qD (pv 0) jN) (jD (jL (vA uO (jK bb hr (jA (pv 1) (jA jE (jA (jS bC (jK bh hr (jA (kL (v:=.int 4) rfl C.WORD_CELLS ⟨_,rfl⟩) jB)) jE) jB)))) cT (xL _)))) jM) (jC (jZ (jP qD (pv 0) jN) (jD (jL (vA vJ (pv 1) (kL (v:=.ref tSi) rfl C.SIGNS rfl) (by with_unfolding_all rfl)))) jM) (jC (jZ (jP qD (pv 0) jN) (jD (jL (vA aPb (pv 1) jN (xL _)))) jM) (jD (jL (vA qD (pv 1) (pv 0) (xL _)))))))),?_⟩;refine⟨_,rfl,tNa,_,rfl,.inr (C.nams H),rfl,qF _,_,rfl,?_⟩;rw[if_neg ρ,qK];refine vL (fun c=>?_) (fun c=>?_)
 ·have c':=of_decide_eq_true c;refine⟨_,rfl,.str x,rfl,.inl ⟨x,rfl,hx,fun H1 g1=>?_⟩⟩;have:=q H1 g1;unfold cW at this;rw[if_pos c']at this;exact this
 have c':=of_decide_eq_false (qt.mpr c);refine⟨_,rfl,rfl,_,rfl,vL (fun d=>?_) (fun d=>?_)⟩
 ·have d':=V.str.inj (of_decide_eq_true d);refine⟨_,rfl,rfl,_,_,rfl,rfl,.str x,0,4294967295,rfl,.inl ⟨x,rfl,hx,fun H1 g1=>⟨rfl,?_⟩⟩⟩;have:=q H1 g1;unfold cW at this;rw[if_neg c',if_pos d']at this;cases e:zB (iG x) 0 4294967295 with
  |none=>rw[e]at this;exact this
  |some i=>rw[e]at this;exact this
 have d':=fun z=>d (decide_eq_true (congrArg V.str z));refine⟨_,rfl,rfl,_,rfl,vL (fun e=>?_) (fun e=>?_)⟩
 ·have e':=V.str.inj (of_decide_eq_true e);refine⟨_,rfl,tSi,_,rfl,.inr (C.sgns H),rfl,qF _,?_⟩;rw[if_neg ρ,qK];have:=q H (jH.refl _);unfold cW at this;rw[if_neg c',if_neg d',if_pos e']at this;exact this
 have e':=fun z=>e (decide_eq_true (congrArg V.str z));refine⟨_,rfl,rfl,_,rfl,vL (fun f'=>?_) (fun f'=>?_)⟩
 ·have f2:=V.str.inj (of_decide_eq_true f');refine⟨_,rfl,rfl,?_⟩;have:=q H (jH.refl _);unfold cW at this;rw[if_neg c',if_neg d',if_neg e',if_pos f2]at this;exact(show(!decide (V.str x=V.str (ζ ""))) = !decide (x=ζ "") by simp) ▸ this
 have f2:=fun z=>f' (decide_eq_true (congrArg V.str z));refine⟨_,rfl,_,rfl,rfl,?_⟩;have:=q H (jH.refl _);unfold cW at this;rw[if_neg c',if_neg d',if_neg e',if_neg f2]at this;exact(show(decide (V.str x=V.str p))=decide (x=p) by simp) ▸ this
theorem aAl{k:Nat}(F:Fun K "_law_cell" "_law_cell" fJ f fd):j0 ["_law_script","_law_k"] (spLc K):=by
 w_cond aAo;obtain⟨a,ns,k,rfl,hS,hk0,hk1,q⟩:=h;refine⟨_,(jC (jZ (jP (aKp hr.units) (pv 0) (qC jB)) (jD (jL (jS vD (jS xI jE (pv 1)) jE))) jM) (jC (jZ (jP aAr (pv 1) (jR jX rfl M.len jt (jA (pv 0) jB))) (jD (jL (jV jO (pv 0) (pv 1)))) jM) (jD (jL (jS vD (jS wN (jV jO (pv 0) (jS yW (pv 1) (jR jX rfl M.len jt (jA (pv 0) jB)))) (jS vD (pv 1) jE)) (jS xI jE (pv 1))))))),?_⟩;have hl:(ns.map V.int).length=ns.length:=δ _;refine⟨_,rfl,cK,fun l0 hl0=>?_⟩;clear 1 l0 H1 g1 k1 hl0;have hS1:=g1.seq hS;refine⟨a,l0,_,rfl,rfl,hS1,SqL.of k1,_,rfl,vL (fun c=>?_) (fun c=>?_)⟩
 ·exact⟨_,rfl,_,_,rfl,rfl,.inl ⟨by omega,by omega⟩,_,_,rfl,rfl,q _ H1 g1⟩
 have hne : 0<ns.length:=by
  cases ns with
  |nil=>exact absurd rfl c
  |cons _ _=>exact Nat.succ_pos _
 refine⟨_,rfl,_,rfl,a,_,rfl,.inl hS1,_,_,rfl,rfl,_,rfl,?_⟩;refine vL (fun c=>?_) (fun c=>?_)
 ·have c':k<(((ns.map V.int).length:Nat):Int):=of_decide_eq_true c;rw[hl]at c';obtain⟨v,hv⟩:=aAq ns hk0 c';exact⟨_,rfl,_,rfl,a,_,_,_,rfl,rfl,hS1,hv,q _ H1 g1⟩
 ·have hp:(0:Int)<(((ns.map V.int).length:Nat):Int):=by rw[hl];omega
  obtain⟨v,hv⟩:=aAq ns (i:=k % (((ns.map V.int).length:Nat):Int)) (Int.emod_nonneg _ (by rw[hl];omega)) (by have:=wx k hp;rw[hl]at this ⊢;exact this);exact⟨_,rfl,_,rfl,_,rfl,a,_,rfl,.inl hS1,_,_,rfl,rfl,hp,a,_,_,_,rfl,rfl,hS1,hv,_,rfl,_,_,rfl,rfl,_,_,rfl,rfl,⟨by omega,by omega⟩,_,rfl,_,_,rfl,rfl,.inl ⟨by omega,by omega⟩,_,_,rfl,rfl,q _ H1 g1⟩
theorem uJ{k:Nat}(F:Fun K "_law_mixed" "_law_mixed" eA f fd):j0 ["_law_cell_here","_law_k"] spMx:=by
 w_cond cG;obtain⟨c,k,rfl,q⟩:=h;refine⟨_,(jC (jQ 2 cG.nd (jS yW (jS vD (jS vD (jS xI (pv 0) jE) (jS xI jE (pv 1))) jE) jE)) (jC (jQ 2 cG.nd (jS yW (jS vD (jS vD (jS xI (pv 2) (pv 2)) (jS xI jE (pv 1))) jE) jE)) (jD (jL (jS wN (jS yW (jS xI (pv 2) (pv 2)) jE) jE))))),?_⟩;refine⟨_,rfl,_,_,rfl,rfl,.inr ⟨by omega,by omega⟩,_,rfl,_,_,rfl,rfl,.inl ⟨by omega,by omega⟩,_,_,rfl,rfl,_,_,rfl,rfl,_,_,rfl,rfl,(by show(0:Int)<_;decide),?_⟩;refine⟨_,rfl,_,rfl,_,_,rfl,rfl,.inl ⟨by omega,by omega⟩,_,rfl,_,_,rfl,rfl,.inl ⟨by omega,by omega⟩,_,_,rfl,rfl,_,_,rfl,rfl,_,_,rfl,rfl,(by show(0:Int)<_;decide),?_⟩;exact⟨_,rfl,_,rfl,_,_,rfl,rfl,.inl ⟨by omega,by omega⟩,_,_,rfl,rfl,(by show(0:Int)<_;decide),_,_,rfl,rfl,⟨by decide,by decide⟩,q _⟩
theorem aAb(F:Fun K "_law_take" "_law_take" fT f fd)(ck:j3 "_law_mixed" spMx):j0 ["_law_box_here","_law_many"] uM:=by
 w_cond dH;obtain⟨p,m,rfl,hm,hm2,⟨a,b,c,h⟩,q⟩:=h;refine⟨_,(jC (jZ (jP dU (jV jO (pv 0) jE) jE) (jC (jQ 2 dH.nd (jS yW (jV jO (pv 0) jE) (pv 1))) (jC (lN (jS aJg (jV jO (pv 0) jE) (pv 1)) (aDp (pv 0) jE set_list)) (jD (jL (pv 2))))) jM) (jC (lN (jS vD (jV jO (pv 0) jE) jE) (aDp (pv 0) jE set_list)) (jC (jQ 3 dH.nd (jS vD (jS xI (jK ck hr (jA (jV jO (pv 0) jE) (jA (jS xI jE (jV jO (pv 0) jE)) jB))) jE) (jK ck hr (jA (jS vD (jV jO (pv 0) jE) jE) (jA (jS vD (jS xI jE (jV jO (pv 0) jE)) jE) jB))))) (jD (jL (jS yW (pv 3) (pv 1))))))),?_⟩;have nat:∀x:Int,∃v:Nat,x % m=(v:Int)/\(v:Int)<m:=fun x=>by
  have h0:=Int.emod_nonneg x (show m≠0 by omega);have h1:=wx x hm;exact⟨(x % m).toNat,by omega,by omega⟩
 refine⟨_,rfl,p,_,_,_,rfl,rfl,SqL.of h,rfl,_,_,rfl,rfl,_,rfl,vL (fun cc=>?_) (fun cc=>?_)⟩
 ·refine⟨_,rfl,p,_,_,_,rfl,rfl,SqL.of h,rfl,_,rfl,_,_,rfl,rfl,hm,?_⟩;refine⟨_,rfl,p,_,_,_,rfl,rfl,SqL.of h,rfl,_,rfl,_,_,rfl,rfl,⟨hm,Int.lt_trans hm2 (by decide)⟩,_,rfl,p,_,_,0,rfl,rfl,h,rfl,?_⟩;obtain⟨v,hv,hl⟩:=nat a;refine⟨_,rfl,?_⟩;show Q (.int (a % m)) _;rw[hv];exact q v _ hl ⟨⟨_,_,_,jI⟩,fun b' o n e=>by rw[jT n];exact e⟩
 ·refine⟨_,rfl,p,_,_,_,rfl,rfl,SqL.of h,rfl,_,_,rfl,rfl,_,rfl,p,_,_,2,rfl,rfl,h,rfl,?_⟩;have h1:upd H p (.lst [.int a,.int b,.int (c+1)]) p=some (.lst [.int a,.int b,.int (c+1)]):=jI;refine⟨_,rfl,p,_,_,_,rfl,rfl,SqL.of h1,rfl,_,rfl,p,_,_,_,rfl,rfl,SqL.of h1,rfl,_,_,rfl,rfl,.inl ⟨by omega,by omega⟩,_,_,rfl,fun v1=>?_⟩;refine⟨_,_,rfl,rfl,.inr ⟨by omega,by omega⟩,_,rfl,p,_,_,_,rfl,rfl,SqL.of h1,rfl,_,_,rfl,rfl,_,rfl,p,_,_,_,rfl,rfl,SqL.of h1,rfl,_,_,rfl,rfl,.inl ⟨by omega,by omega⟩,_,_,rfl,rfl,_,_,rfl,fun v2=>?_⟩;refine⟨_,_,rfl,rfl,_,rfl,_,rfl,_,_,rfl,rfl,hm,?_⟩;obtain⟨v,hv,hl⟩:=nat (v1*268435399+v2);show Q (.int ((v1*268435399+v2) % m)) _;rw[hv];exact q v _ hl ⟨⟨_,_,_,jI⟩,fun b' o n e=>by rw[jT n];exact e⟩
theorem aBh{k:Nat}(F:Fun K "lines_in" "lines_in" fR f fd):j0 ["text"] spLi:=by
 w_cond aAa;obtain⟨xs,rfl,hne,hx,hl,q⟩:=h;refine⟨_,(jD (jL (vS (yC (pv 0) (fun _=>rfl)) (yJ oq rm rq bQ (pv 0) (jA jN jB)) (qC jB)))),?_⟩;have h1:(jp nlS xs).length<=xs.length*801:=rQ (c:=10) (m:=800) fun w hw=>(hx w hw).2.1;have h0:(jp nlS xs).length≠0:=by
  cases xs with
  |nil=>exact absurd rfl hne
  |cons x xs =>
   have hx0:=(hx x (τ ..)).2.2
   by_cases z:xs=[]
   ·subst z;rw[join_one];exact hx0
   ·rw[tJ z,len_app,len_app];omega
 refine⟨_,rfl,_,⟨(by rw[jc];omega),rfl⟩,vR (bne_iff_ne.mpr (by omega)) ⟨_,rfl,rfl,_,_,rfl,rfl,rfl,(by rw[jc];omega),fun p hp=>?_⟩⟩;rw[show pz (jp nlS xs) (ζ "\n")=xs from cC (c:=10) hne fun x hx'=>(hx x hx').1];exact q p hp
theorem aGu{k:Nat}(F:Fun K "unlike" "unlike" pG f fd):j0 ["names","ahead"] (spUn K):=by
 w_cond mK;obtain⟨a,b,xs,ys,rfl,ha,hb,hys,hx,q⟩:=h;refine⟨_,(jC (jQ 2 mK.nd (qC jB)) (jC (yO lf rfl (qS (pv 0)) (qJ 3 mK.nd) (jD (jZ (PW.pt (bX (vF xD (pv 3) (pv 1) (by with_unfolding_all rfl)) (zJ (vF xD (pv 3) (pv 2) (by with_unfolding_all rfl))))) (jD (qQ (yJ kj mm mn xV (pv 2) (jA (pv 3) jB)))) jM))) (jD (jL (pv 2))))),?_⟩;refine⟨cK,fun l hl=>?_⟩;clear 1 l H2 g2 k2 hl;refine⟨_,rfl,a,rfl,⟨_,g2.seq ha⟩,yA (xs:=xs.map V.str) (fun j σ H'=>∃(o3:Option V),σ = [some (.ref a),some (.ref b),some (.ref l),o3]/\But l H2 H'/\H' l=some (.lst ((unq ys (xs.take j)).map V.str))) ⟨_,rfl,But.refl,k2⟩ (fun j σ H' _ z=>?_) (fun j x σ H' hxj z=>?_) (fun σ H' z=>?_)⟩
 ·obtain⟨o3,rfl,g,_⟩:=z;exact(But.from g2 hl g).seq ha
 ·obtain⟨o3,rfl,g,kz⟩:=z;obtain⟨y,hy',rfl⟩:=qE hxj;have gH:=But.from g2 hl g;have eu:=aIl (ys:=ys) hy';refine⟨_,rfl,_,rfl,b,_,rfl,.inl (gH.seq hb),rfl,qF _,_,rfl,?_⟩;rw[if_pos rfl,qK];refine vL (fun c=>?_) (fun c=>aAc ⟨_,rfl,g,?_⟩)
  case refine_2 =>
   rw[eu,show unS ys (unq ys (xs.take j)) y=unq ys (xs.take j) from if_neg (fun z=>c (by rw[decide_eq_false z.1];rfl))];exact kz
  have c':y∉ys:=by simpa using c
  refine⟨_,rfl,_,rfl,l,_,rfl,.inl (SqL.of kz),rfl,qF _,_,rfl,?_⟩;rw[if_pos rfl,qK];refine vL (fun d=>?_) (fun d=>⟨_,rfl,g,?_⟩)
  case refine_2 =>
   rw[eu,show unS ys (unq ys (xs.take j)) y=unq ys (xs.take j) from if_neg (fun z=>d (by rw[decide_eq_false z.2];rfl))];exact kz
  have d':y∉unq ys (xs.take j):=by simpa using d
  have hlen:=(aJb (ys:=ys) (xs:=xs.take j) hys).2.2;have hlen2:(xs.take j).length<=2000:=by rw[ji];omega
  refine⟨_,rfl,.inl ⟨rfl,_,SqL.of kz⟩,_,rfl,l,_,_,rfl,rfl,kz,(by rw[δ];exact mj (jh hlen hlen2) (by decide)),?_⟩;clear 0 l H3 g3 k3;refine⟨_,rfl,g.trans g3,?_⟩;rw[eu,show unS ys (unq ys (xs.take j)) y=unq ys (xs.take j)++[y] from if_pos ⟨c',d'⟩,Θ];exact k3
 ·obtain⟨o3,rfl,g,kz⟩:=z;rw[δ,qc]at kz;exact⟨_,rfl,q l H' (But.from g2 hl g) kz⟩
theorem aBs{k:Nat}(F:Fun K "bound_of" "bound_of" fL f fd):j0 ["width"] spBo:=by
 w_cond aBl;obtain⟨rfl,q⟩:=h;refine⟨_,(jD (jL (jS aKo jE (jS xI jE (pv 0))))),?_⟩;exact⟨_,rfl,_,_,rfl,rfl,(by unfold aHl;decide),_,_,rfl,rfl,⟨by decide,by decide,by decide⟩,q⟩
theorem aDb{k:Nat}(F:Fun K "form_of" "form_of" lF f fd)(il:j3 "fits" spFi):j0 ["line","words"] (aPf K):=by
 w_cond fH;obtain⟨i,a,l,rfl,hl,ha,q⟩:=h;refine⟨_,(jC (yO lf rfl (lD (kL (v:=.ref tFo) rfl C.FORMS rfl)) (bB rfl (kI (qJ 2 fH.nd) (kI (qJ 3 fH.nd) vO))) (jD (jZ (PW.pt (bX (jP qD (jR jX rfl M.len jt (jA (pv 3) jB)) (jR jX rfl M.len jt (jA (pv 1) jB))) (zJ (vP (jR (iF rfl) rfl M.all boot_all (jA (qW ["part","word"] [] [] rfl (aEn rfl M.zip (jA (pv 3) (jA (pv 1) jB))) rfl trivial trivial (fun _ _ _ _=>(iK (K:=K) (n:=2) rfl rfl (kI (qN rfl) (kI (rF rfl) vO)))) (fun _ _ _ _=>qI) (fun _ _ _ _=>(jK il hr (jA (pv 0) (jA (pv 1) jB))))) jB)))))) (jD (jL (xC (jA (pv 2) (jA (pv 3) jB))))) jM))) (jD kF)),?_⟩;have hfd:=L6.find hl;obtain⟨fas,hfo,hfl,hfs⟩:=C.frms H;have hw1000:∀w∈l.ws,w.length<=1000:=fun w hw=>by have:=(L6.wd hl w hw).l;omega
 refine⟨tFo,rfl,⟨_,hfo⟩,aNn (xs:=fas.map V.ref) (fun j σ H'=>(∃o2 o3,σ = [some i,some (.ref a),o2,o3])/\jH H H'/\∀m f',m<j->aJ[m]?=some f'->bO l.ws f'=false) ⟨⟨_,_,rfl⟩,jH.refl _,fun m f' z=>absurd z (sy _)⟩ (fun j σ H' _ z=>z.2.1.tp hfo) (fun j x σ H' hx z=>?_) (fun σ H' z=>?_)⟩
 ·obtain⟨⟨o2,o3,rfl⟩,g,hno⟩:=z;obtain⟨fa,hfa,rfl⟩:=vU hx;have hj:j<aJ.length:=by rw[←hfl];exact(η.mp hfa).1
  obtain⟨f',hf'⟩ : ∃f',aJ[j]?=some f':=⟨_,π hj⟩;obtain⟨ga,s1,s2⟩:=hfs j fa f' hfa hf';have s1':=g.tp s1;have s2':=g.tp s2;have ha':=g.seq ha;refine⟨fa,_,rfl,s1',rfl,_,_,rfl,_,_,rfl,rfl,_,rfl,ga,_,rfl,.inr s2',_,rfl,a,_,rfl,.inl ha',rfl,_,rfl,vL (fun c=>?_) (fun c=>aAc ?_)⟩
  ·have c':f'.2.length=l.ws.length:=by have:=V.int.inj (of_decide_eq_true c);rw[δ,δ]at this;omega
   have zl:(f'.2.map V.str).length=f'.2.length:=δ _;have zz:(ja cW f'.2 l.ws).length=f'.2.length:=by rw[wc];omega
   have hf5:f'.2.length<=5:=by rw[c'];exact l.len.1
   refine⟨true,false,_,rfl,_,rfl,ga,a,f'.2.map V.str,l.ws.map V.str,rfl,s2',ha',aHh (fun j zs H2=>jH H' H2/\zs=((ja cW f'.2 l.ws).take j).map V.bl) (by rw[δ,δ];omega) ⟨jH.refl _,rfl⟩ (fun j zs H2 _ z=>⟨z.1.tp s2',z.1.seq ha',by rw[z.2,δ,ji];exact og _ _⟩) (qM (by omega)) (fun j x y zs H2 p os ho hx hy z hp=>?_) (fun zs H2 z p hp=>?_)⟩
   ·obtain⟨g2,rfl⟩:=z;obtain⟨o1,o2,rfl⟩:=aGk ho;obtain⟨u,hu,rfl⟩:=qE hx;obtain⟨v,hv,rfl⟩:=qE hy;clear 1 p H3 g3 k3 hp;refine⟨p,_,rfl,SqT.of k3,rfl,_,_,rfl,_,_,rfl,rfl,_,rfl,_,rfl,u,v,rfl,hw1000 v (iq hv),fun H4 g4=>⟨⟨g2.trans (g3.trans g4),?_⟩,[_,_],rfl,rfl⟩⟩;rw[jk,ye,hu,hv,Θ];rfl
   ·obtain⟨g2,rfl⟩:=z;clear 1 p H3 g3 k3 hp;rw[zl,←zz,vT]at k3;have g4:=g.trans (g2.trans g3);refine⟨p,_,rfl,SqL.of k3,_,rfl,vL (fun d=>?_) (fun d=>?_)⟩
    ·have hB:bO l.ws f'=true:=by unfold bO;rw[decide_eq_true c',d];rfl
     have ef:f'=(l.fd,l.ps):=by
      have:=aMj hf' hB hno;rw[hfd]at this;exact(mw this).symm
     subst ef;refine⟨_,rfl,_,rfl,xM,fun t ht=>?_⟩;clear 1 t H5 g5 k5 ht;exact q t ga H5 (g4.trans g5) (SqT.of k5) ((g4.trans g5).tp s2)
    ·have hB:bO l.ws f'=false:=by unfold bO;rw[qt.mpr d,Bool.and_false]
     exact⟨⟨_,_,rfl⟩,g4,aEt hf' hB hno⟩
  ·have c':¬ f'.2.length=l.ws.length:=fun z=>c (decide_eq_true (by rw[δ,δ,z]));have hB:bO l.ws f'=false:=by unfold bO;rw[decide_eq_false c',qm]
   exact⟨⟨_,_,rfl⟩,g,aEt hf' hB hno⟩
 ·obtain⟨⟨o2,o3,rfl⟩,g,hno⟩:=z;exfalso;have hz:aJ.find? (bO l.ws)=none:=List.find?_eq_none.mpr fun f' hf'=>by
   obtain⟨j,hj⟩:=lw.mp hf';rw[hno j f' (by rw[δ,hfl];exact(η.mp hj).1) hj];exact ρ
  rw[hfd]at hz;cases hz
theorem lC{k:Nat}(F:Fun K "need_standing" "need_standing" yU f fd):j0 ["begun","line","deed"] aPp:=by
 w_cond mH;obtain⟨a,i,d,rfl,⟨h1,h2,h3⟩,q⟩:=h;refine⟨_,(jC (jZ (PW.pt (bX (jP qD (pv 2) jN) (zJ (jP (aMs hr.units) (vK xG (pv 0) (xB (cV yX jE)) xR) (qC (jA jN jB)))))) (jD kF) jM) (jC (jZ (PW.pt (bX (jP qD (pv 2) jN) (zJ (xT (yC (pv 0) (fun _=>rfl)))))) (jD kF) jM) (jD (jZ (PW.pt (bX (vF vJ (pv 2) (kL (v:=.ref tBe) rfl C.BEGINNINGS rfl) (by with_unfolding_all rfl)) (zJ (jP qD (jR jX rfl M.len jt (jA (pv 0) jB)) (kL (v:=.int 3) rfl C.MOST_BEGUN ⟨_,rfl⟩))))) (jD kF) jM)))),?_⟩;refine⟨_,rfl,rfl,_,rfl,qR (fun z=>h2 (V.str.inj (of_decide_eq_true z))) ?_⟩;refine⟨_,rfl,rfl,_,rfl,qR (fun z=>h3 (V.str.inj (of_decide_eq_true z))) ?_⟩;refine⟨_,rfl,tBe,_,rfl,.inr (C.begs H),rfl,qF _,_,rfl,?_⟩;rw[if_neg ρ,qK];exact qR (by rw[decide_eq_false h1];decide) q
theorem nI{k:Nat}(F:Fun K "begun_behind" "begun_behind" aF f fd):j0 ["begun","deed"] aOw:=by
 w_cond nU;obtain⟨a,d,rfl,⟨h1,h2,h3⟩,q⟩:=h;refine⟨_,(jC (jZ (vF vJ (pv 1) (kL (v:=.ref tBe) rfl C.BEGINNINGS rfl) (by with_unfolding_all rfl)) (jD (jL (jS oQ (pv 0) (qC (jA (pv 1) jB))))) jM) (jC (jZ (jP qD (pv 1) jN) (jD (jL (jS oQ (vK xG (pv 0) xR (xB (cV yX jE))) (qC (jA (pv 1) jB))))) jM) (jD (jL (vS (jP qD (pv 1) jN) (vK xG (pv 0) xR (xB (cV yX jE))) (pv 0)))))),?_⟩;refine⟨_,rfl,tBe,_,rfl,.inr (C.begs H),rfl,qF _,_,rfl,?_⟩;rw[if_neg ρ,qK];exact qR (by rw[decide_eq_false h1];decide) ⟨_,rfl,rfl,_,rfl,qR (fun z=>h2 (V.str.inj (of_decide_eq_true z))) ⟨_,rfl,rfl,_,rfl,qR (fun z=>h3 (V.str.inj (of_decide_eq_true z))) ⟨_,rfl,q⟩⟩⟩
theorem oU{k:Nat}(F:Fun K "line_behind" "line_behind" aU f fd)(KP:PrC6 K mg ae bi au):j0 ["row"] (aOx ae K):=by
 w_cond pB;obtain⟨a,i,l,rfl,⟨dx,ra,sa,h1,_⟩,q⟩:=h;refine⟨_,(jD (jL (vS (vP (jR (pW (K:=K) rfl) rfl M.isinstance oh (jA (pv 0) (jA (kL (v:=.ref ae) rfl af.m rfl) jB)))) (jS vD (jW (pv 0) rfl) jE) (jS vD (jW (pv 0) rfl) jE)))),?_⟩;exact⟨_,rfl,.ref a,ae,_,_,rfl,KP.i.ty h1,KP.r,_,rfl,vR rfl ⟨_,rfl,a,ae,_,_,_,rfl,h1,af.cl,af.nd,rfl,_,_,rfl,rfl,q⟩⟩
theorem uS{k:Nat}(F:Fun K "whole_row" "whole_row" dF f fd):j0 ["told","at"] (aPa ae K):=by
 w_cond gK;obtain⟨tl,a,n,rs,ls,rfl,hT,ha,q⟩:=h;refine⟨_,(jC (jQ 2 gK.nd (jV jO (pv 0) (pv 1))) (jC (jZ (vF xD (jW (pv 2) rfl) (kL (v:=.ref tBe) rfl C.BEGINNINGS rfl) (by with_unfolding_all rfl)) (jD (jL (pv 2))) jM) (jC kF (jC kF (jC kF (jC kF (jD kF))))))),?_⟩;obtain⟨a',l,h1,h2,hF,dx,ra,sa,h4,_⟩:=hT.at (n:=n) (by rw[←hT.n];exact(η.mp ha).1);rw[ha]at h1;cases h1;refine⟨_,rfl,_,rfl,tl,_,_,_,rfl,rfl,hT.l,aEw ha,_,rfl,a,ae,_,_,_,rfl,h4,af.cl,af.nd,rfl,tBe,_,rfl,.inr (C.begs H),rfl,qF _,_,rfl,?_⟩;rw[if_pos rfl,qK];exact vR (by rw[decide_eq_false (L6.fl1 hF).1];rfl) ⟨_,rfl,q⟩
theorem uI(F:Fun K "rows_from" "rows_from" dO f fd)(fz:j3 "whole_row" (aPa ae K))(eg:j3 "line_behind" (aOx ae K)):j0 ["told","first"] (aOz ae K):=by
 w_cond yD;obtain⟨tl,rs,ls,rfl,hT,h60,q⟩:=h;refine⟨_,(jC (jQ 2 yD.nd (qC jB)) (jC (jQ 3 yD.nd (pv 1)) (jC (aIt lf (PW.pt (bX (jP aAr (pv 3) (jR jX rfl M.len jt (jA (pv 0) jB))) (zJ (vF xD (jW (jV jO (pv 0) (pv 3)) rfl) (xC (jA jN (jA jN jB))) (by with_unfolding_all rfl))))) (jC (jQ 4 yD.nd (jK fz hr (jA (pv 0) (jA (pv 3) jB)))) (jC (qQ (yJ kj mm mn xV (pv 2) (jA (pv 4) jB))) (jD (jQ 3 yD.nd (jK eg hr (jA (pv 4) jB))))))) (jD (jL (xC (jA (pv 2) (jA (pv 3) jB)))))))),?_⟩;have hlen:=hT.n;refine⟨cK,fun l hl=>?_⟩;clear 1 l H2 g2 k2 hl;refine⟨_,rfl,fun m σ H'=>∃(n':Nat) (o4:Option V),m=100-n'/\n'<=rs.length/\σ = [some (.ref tl),some (.int 0),some (.ref l),some (.int (n':Int)),o4]/\But l H2 H'/\H' l=some (.lst ((rs.take n').map V.ref)),⟨_,0,_,rfl,jg _,rfl,But.refl,k2⟩,fun m σ H' z=>?_⟩;obtain⟨n',o4,rfl,hn',rfl,g,kl⟩:=z;have gH:=But.from g2 hl g;have hT':=hT.same gH;refine⟨_,rfl,_,rfl,tl,_,rfl,.inl hT'.l,_,_,rfl,rfl,_,rfl,vL (fun c=>?_) (fun c=>?_)⟩
 ·have c':n'<ls.length:=by have:=of_decide_eq_true c;rw[δ]at this;omega
  obtain⟨a,ln,har,hln,hF,hrow⟩:=hT'.at c';obtain⟨dx,ra,sa,h1,h2⟩:=id hrow;refine⟨_,rfl,_,rfl,tl,_,_,_,rfl,rfl,hT'.l,aEw har,a,ae,_,_,_,rfl,h1,af.cl,af.nd,rfl,xM,fun pt hpt=>?_⟩;clear 1 pt H3 g3 k3 hpt;have ein:inV (V.str ln.d) [V.str (ζ "else"),V.str (ζ "end")]=decide (ln.d∈([ζ "else",ζ "end"]:List Str)):=qK (x:=ln.d) (ys:=[ζ "else",ζ "end"]);refine⟨pt,_,rfl,.inr (SqT.of k3),rfl,rfl,_,rfl,?_⟩;rw[if_pos rfl,ein];have hmem:ln.d∉([ζ "else",ζ "end"]:List Str):=fun z=>by
   rcases ο.mp z with z|z
   ·exact(L6.fl1 hF).2.1 z
   ·exact(L6.fl1 hF).2.2 (Δ.mp z)
  refine vR (by rw[decide_eq_false hmem];rfl) ⟨_,fun _ _ h=>h,?_⟩;have hT3:=hT'.same g3;have kl3:=g3 _ _ kl;refine⟨_,rfl,_,rfl,tl,a,n',rs,ls,rfl,hT3,har,?_⟩;refine⟨_,rfl,.inl ⟨rfl,_,SqL.of kl3⟩,_,rfl,l,_,_,rfl,rfl,kl3,(by rw[δ];exact mj (jh (mv ..) (show n'<=60 by omega)) (by decide)),?_⟩;clear 0 l H5 g5 k5;have gH5:=But.from g2 hl ((g.trans (But.of g3)).trans g5);refine⟨_,rfl,a,n',ln,rfl,(hT.same gH5).r _ _ _ har hln,100-(n'+1),?_,n'+1,_,rfl,(by omega),rfl,(g.trans (But.of g3)).trans g5,?_⟩
  ·omega
  ·rw[jk,har,Θ];exact k5
 ·have c':¬ n'<ls.length:=fun z=>c (decide_eq_true (by rw[δ];omega));refine aAc ⟨_,rfl,_,rfl,xM,fun p hp=>?_⟩;clear 1 p H5 g5 k5 hp;obtain rfl:n'=ls.length:=by omega
  rw[←hlen,qc]at kl;exact q p l H5 (gH.trans g5) (SqT.of k5) (SqL.of (g5 _ _ kl))
theorem wV{k:Nat}(F:Fun K "names_in" "names_in" fP f fd):j0 ["form","words","steps"] (aPe K):=by
 w_cond aM;obtain⟨ga,a,x,l,rfl,hg,ha,q⟩:=h;refine⟨_,(jC (jQ 3 aM.nd (qC jB)) (jC (yO lf rfl (aEn rfl M.zip (jA (pv 0) (jA (pv 1) jB))) (bB rfl (kI (qJ 4 aM.nd) (kI (qJ 5 aM.nd) vO))) (jC (jZ (vF vJ (pv 4) (kL (v:=.ref tNa) rfl C.NAMES rfl) (by with_unfolding_all rfl)) (jD (qQ (yJ kj mm mn xV (pv 3) (jA (pv 5) jB)))) jM) (jD (jZ (jP qD (pv 4) jN) (jD kF) jM)))) (jD (jL (pv 3))))),?_⟩;have hw4:=l.len.1;have hpl:=l.len.2.2.1;refine⟨cK,fun n hn=>?_⟩;clear 1 n H2 g2 k2 hn;refine⟨true,false,_,rfl,_,rfl,ga,a,l.ps.map V.str,l.ws.map V.str,rfl,g2.tp hg,g2.seq ha,aIx (xs:=l.ps.map V.str) (ys:=l.ws.map V.str) (fun j σ H'=>∃o4 o5,σ = [some (.ref ga),some (.ref a),some x,some (.ref n),o4,o5]/\But n H2 H'/\H' n=some (.lst ((nmF ((l.ps.zip l.ws).take j)).map V.str))/\(nmF ((l.ps.zip l.ws).take j)).length<=j) (by rw[δ,δ];exact hpl.symm) ⟨_,_,rfl,But.refl,k2,ι _⟩ (fun j σ H' _ z=>?_) (fun j u v σ H' p hu0 hv0 z hp=>?_) (fun σ H' z=>?_)⟩
 ·obtain⟨o4,o5,rfl,g,_⟩:=z;exact⟨(But.from g2 hn g).tp hg,(But.from g2 hn g).seq ha⟩
 ·obtain⟨o4,o5,rfl,g,kn,hj⟩:=z;obtain⟨u,hu,rfl⟩:=qE hu0;obtain⟨v,hv,rfl⟩:=qE hv0;clear 1 p H3 g3 k3 hp;have kn3:=g3 _ _ kn;have hup:u ≠ "PATH":=fun z=>aOr l (by rw[←z];exact iq hu);have hj4:j<5:=by have:=(η.mp hu).1;omega
  have es:=dP hu hv;refine⟨p,_,rfl,SqT.of k3,rfl,_,_,rfl,_,_,rfl,rfl,aOm (fun σ' H4=>σ'=[some (.ref ga),some (.ref a),some x,some (.ref n),some (.str u),some (.str v)]/\But n H2 H4/\H4 n=some (.lst ((nmF ((l.ps.zip l.ws).take (j+1))).map V.str))/\(nmF ((l.ps.zip l.ws).take (j+1))).length<=j+1) (fun σ' H4 z=>?_) (fun nx hnx=>?_)⟩
  ·obtain⟨rfl,g4,k4,h4⟩:=z;exact⟨_,rfl,rfl,_,rfl,qR (fun z=>hup (V.str.inj (of_decide_eq_true z))) ⟨_,_,rfl,g4,k4,h4⟩⟩
  ·refine⟨_,rfl,tNa,_,rfl,.inr (C.nams H3),rfl,qF _,_,rfl,?_⟩;rw[if_neg ρ,qK];refine vL (fun c=>?_) (fun c=>hnx _ _ ⟨rfl,g.trans (But.of g3),?_,?_⟩)
   ·have c':=of_decide_eq_true c;refine⟨_,rfl,.inl ⟨rfl,_,SqL.of kn3⟩,_,rfl,n,_,_,rfl,rfl,kn3,(by rw[δ];exact mj (show _<=5 by omega) (by decide)),?_⟩;clear 0 n H5 g5 k5;have en:nmF ((l.ps.zip l.ws).take (j+1))=nmF ((l.ps.zip l.ws).take j)++[v]:=by
     rw[es,aEq]
     congr 1
     show(if u∈aI then _ else _)=_;rw[if_pos c'];rfl
    exact hnx _ _ ⟨rfl,(g.trans (But.of g3)).trans g5,by rw[en,Θ];exact k5,by rw[en,θ];exact yh hj⟩
   all_goals
    have c':=of_decide_eq_false (qt.mpr c);have en:nmF ((l.ps.zip l.ws).take (j+1))=nmF ((l.ps.zip l.ws).take j):=by
     rw[es,aEq];show _++(if u∈aI then _ else _)=_;rw[if_neg c'];exact jq _
    rw[en]
   ·exact kn3
   ·omega
 ·obtain⟨o4,o5,rfl,g,kn,_⟩:=z;rw[δ,li (by rw[List.length_zip];omega)]at kn;rw[l6_nm]at kn;exact⟨_,rfl,q n H' (But.from g2 hn g) kn⟩
theorem aGh(F:Fun K "row_in" "row_in" pR f fd)(gj:j5 bp (spI6 ae "line" "deed" "goal" "reads" "steps" "number")):j0 ["shape","line","deed","filled"] (aOt ae K):=by
 w_cond bP;obtain⟨x,i,d,l,xs,H0,rfl,hF,g0,hd0,hd,hA,q⟩:=h;refine⟨_,(jC (jQ 4 bP.nd (vS (pU (wO hr.units1 jN (pv 3))) (xE hr.units1 (pv 3) jN (fun _ _=>rfl)) jN)) (jC (eL (i:=5) ["part"] ["filled","goal"] [3,4] bP.nd rfl rfl rfl (aMl (pv 3)) rfl ⟨rfl,⟨rfl,trivial⟩⟩ ⟨⟨rfl,rfl,rfl,_,rfl⟩,⟨⟨rfl,rfl,rfl,_,rfl⟩,trivial⟩⟩ (fun _ _ _ _=>(qN rfl)) (fun _ _ _ _=>(oP (PW.pt (bX (vF (aDs (K:=K) rfl) (pv 0) (kL (v:=.ref tNa) rfl C.NAMES rfl) (by with_unfolding_all rfl)) (zJ (PW.pt (fC (jP aPb (pv 0) jN) (bV (jP qD (pv 2) jN))))))))) (fun _ _ _ _=>(xE hr.units1 (pv 1) (pv 0) (fun _ _=>rfl)))) (jC (jQ 6 bP.nd (vS (pU (wO hr.units1 jN (pv 3))) aFj (qC jB))) (jC (jQ 7 bP.nd (vS (pU (wO hr.units1 jN (pv 3))) (qO yB rfl M.int boot_int (jA (xE hr.units1 (pv 3) jN (fun _ _=>rfl)) jB)) jE)) (jD (jL (yK af gj hr0 rfl qH (jA (pv 1) (jA (rM hr.units1 (pv 3) jN (pv 2) ⟨rfl,rfl,rfl,rfl⟩) (jA (pv 4) (jA (pv 5) (jA (pv 6) (jA (pv 7) jB zL) zL) zL) zL) uN) zL)))))))),?_⟩;have hw5:=l.len.1;have hpl:=l.len.2.2.1;have hnd:=l.len.2.2.2;have val:∀k,vZ (iN l) (.inr k)=((l.ps.zip l.ws).lookup k).map V.str:=fun k=>aJq _ _ k;have no:∀{k:Str},k∉l.ps->vZ (iN l) (.inr k)=none:=fun {k} h=>by rw[val,aEp h];rfl
 have kl:(iN l).length=l.ps.length:=by unfold iN;rw[wc];omega
 refine ifJ (.str l.g) ?_ (fun Q' hq=>?_)
 case' refine_2 =>
  rcases l6_eq l with⟨v,hA1,hE⟩|⟨hE,hg⟩
  ·have e2:vZ (iN l) (.inr "A")=some (.str l.g):=by rw[val,hA1];rfl
   have e3:vZ (iN l) (.inr "=")=some (.str v):=by rw[val,hE];rfl
   exact⟨_,rfl,d,_,rfl,vX.k (k:=jj "=") hd,_,rfl,vR (by rw[e3];rfl) ⟨_,rfl,d,.str l.g,rfl,(by rw[←e2];exact vX.k (k:=jj "A") hd),hq⟩⟩
  ·exact⟨_,rfl,d,_,rfl,vX.k (k:=jj "=") hd,_,rfl,qR (by rw[no hE];decide) (hg ▸ hq)⟩
 refine⟨_,rfl,d,_,rfl,hd,fun o=>?_⟩;generalize e1:upd H d _=H1;have hA1:Al xs H1:=by rw[←e1];exact aQt hA
 obtain⟨g1,kd⟩:=vV e1;have g01:jH H0 H1:=But.from g0 hd0 g1;have dno:∀{k:Str}{H':Hp},k∉l.ps->H' d=some (.frz o (.dK (iN l)))->vX H' d (.str k) none:=fun {k H'} h hk=>by rw[←no h];exact dJ (k:=jj k) hk
 refine bN (fun j ys H'=>H'=H1/\ys=(rdF (l.g) ((l.ps.zip l.ws).take j)).map V.str/\(rdF (l.g) ((l.ps.zip l.ws).take j)).length<=j) ⟨rfl,rfl,ι _⟩ (fun j ys H' _ z=>⟨by rw[z.1];exact kd,by rw[z.2.1,δ];exact z.2.2⟩) (by rw[kl,jc];omega) (fun j kv ys H' hkv z=>?_) (fun ys H' z p hp=>?_)
 ·obtain⟨rfl,rfl,hj⟩:=z;obtain⟨u,v,hu,hv,rfl⟩:=l6_at hkv;have hvv:vZ (iN l) (.inr u)=some (.str v):=by rw[val,aFm hnd hu hv];rfl
  have es:=aLm (g:=l.g) hu hv;have yes:(u∈aI/\(u ≠ "A" ∨ l.g = ""))->rdF (l.g) ((l.ps.zip l.ws).take (j+1))=rdF (l.g) ((l.ps.zip l.ws).take j)++[v]:=fun h=>by rw[es,if_pos h]
  have nay:¬ (u∈aI/\(u ≠ "A" ∨ l.g = ""))->rdF (l.g) ((l.ps.zip l.ws).take (j+1))=rdF (l.g) ((l.ps.zip l.ws).take j):=fun h=>by rw[es,if_neg h,jq]
  refine⟨_,rfl,tNa,_,rfl,.inr (C.nams H'),rfl,qF _,_,rfl,?_⟩;have ein:inV (kV ((jj u:Key),V.str v).fst) (aI.map V.str)=decide (u∈aI):=qK ..;rw[if_neg ρ,ein];refine vL (fun c=>?_) (fun c=>aAc ⟨⟨rfl,?_,?_⟩,_,rfl⟩)
  ·have c':=of_decide_eq_true c;refine⟨_,rfl,rfl,_,rfl,vL (fun c2=>?_) (fun c2=>?_)⟩
   ·have c2':u ≠ "A":=by simpa [kV] using c2
    have en:=yes ⟨c',.inl c2'⟩;exact iteT ⟨_,rfl,_,rfl,d,.str v,rfl,(by rw[←hvv];exact dJ (k:=jj u) kd),⟨rfl,by rw[en,Θ];rfl,by rw[en,θ];exact yh hj⟩,_,rfl⟩
   ·have c2':u = "A":=by simpa [kV] using c2
    refine⟨_,rfl,rfl,_,rfl,vL (fun c3=>?_) (fun c3=>?_)⟩
    ·have en:=yes ⟨c',.inr (V.str.inj (of_decide_eq_true c3))⟩;exact⟨_,rfl,_,rfl,d,.str v,rfl,(by rw[←hvv];exact dJ (k:=jj u) kd),⟨rfl,by rw[en,Θ];rfl,by rw[en,θ];exact yh hj⟩,_,rfl⟩
    ·have en:=nay (fun z=>z.2.elim (fun h=>h c2') (fun h=>c3 (decide_eq_true (congrArg V.str h))));exact⟨⟨rfl,by rw[en],by rw[en];omega⟩,_,rfl⟩
  ·rw[nay (fun z=>c (decide_eq_true z.1))]
  ·rw[nay (fun z=>c (decide_eq_true z.1))];omega
 ·obtain⟨e',rfl,_⟩:=z;subst e';rw[kl,li (by rw[List.length_zip];omega),l6_rd hF];generalize e2:upd H' p _=H2;obtain⟨g2,k2⟩:=qG e2 hp;refine⟨_,rfl,d,_,rfl,dno (aOr l) (g2 _ _ kd),_,rfl,qP ⟨cK,fun p2 hp2=>?_⟩⟩;generalize e3:upd H2 p2 _=H3;obtain⟨g3,k3⟩:=qG e3 hp2;have kd3:=g3 _ _ (g2 _ _ kd);have hA3:Al xs H3:=(hA1.same g2).same g3;have hop:∃ov,vX H3 d (.str (ζ "OP")) ov/\ov.getD (.str l.fd)=.str l.d:=by
   rcases l6_op l with h|⟨h,e⟩
   ·have e4:vZ (iN l) (.inr "OP")=some (.str l.d):=by rw[val,h];rfl
    exact⟨some (.str l.d),(by rw[←e4];exact dJ (k:=jj "OP") kd3),rfl⟩
   ·exact⟨none,dno h kd3,by rw[e];rfl⟩
  obtain⟨ov,hov,eov⟩:=hop;rcases aSr hF with⟨y,hy,hn,hl⟩|⟨hn,h0⟩
  ·have e4:vZ (iN l) (.inr "NUMBER")=some (.str y):=by rw[val,hy];rfl
   refine⟨_,rfl,d,_,rfl,dJ (k:=jj "NUMBER") kd3,_,rfl,vR (by rw[e4];rfl) ⟨_,rfl,d,.str y,rfl,(by rw[←e4];exact dJ (k:=jj "NUMBER") kd3),y,_,rfl,hn,hl,?_⟩⟩;refine⟨_,rfl,_,rfl,d,rfl,.inl ⟨_,.inr ⟨o,kd3⟩⟩,_,rfl,ov,hov,_,rfl,_,rfl,_,rfl,_,rfl,fun y dy hy hdy _=>⟨y,dy,_,_,_,_,_,_,H3,rfl,jI,aO hy hdy,hy,fun H4 g4 k4=>⟨rfl,?_⟩⟩⟩;rw[eov]at k4;exact q y H4 (((g01.trans g2).trans g3).trans g4) ⟨dy,p,p2,xH (hA3.new hy) k4,SqL.of (xH (hA1.new hp) (g4 _ _ (g3 _ _ k2))),SqL.of (xH ((hA1.same g2).new hp2) (g4 _ _ k3))⟩
  ·refine⟨_,rfl,d,_,rfl,dno hn kd3,_,rfl,qP ?_⟩;refine⟨_,rfl,_,rfl,d,rfl,.inl ⟨_,.inr ⟨o,kd3⟩⟩,_,rfl,ov,hov,_,rfl,_,rfl,_,rfl,_,rfl,fun y dy hy hdy _=>⟨y,dy,_,_,_,_,_,_,H3,rfl,jI,aO hy hdy,hy,fun H4 g4 k4=>⟨rfl,?_⟩⟩⟩;rw[eov]at k4;rw[show(0:Int)=(l.n:Int) by rw[h0];rfl]at k4;exact q y H4 (((g01.trans g2).trans g3).trans g4) ⟨dy,p,p2,xH (hA3.new hy) k4,SqL.of (xH (hA1.new hp) (g4 _ _ (g3 _ _ k2))),SqL.of (xH ((hA1.same g2).new hp2) (g4 _ _ k3))⟩
theorem nQ(F:Fun K "read_program" "read_program" zY f fd)(gp:j3 "lines_in" spLi)(ib:j3 "form_of" (aPf K))(cu:j3 "need_standing" aPp)(eh:j4 Vf "main" (spMn (j6 0) Vf K))(ii:j3 "row_in" (aOt ae K))(gq:j3 "names_in" (aPe K))(ij:j3 "unlike" (spUn K))(dh:j3 "begun_behind" aOw)(gc:j3 "rows_from" (aOz ae K))(dm:j5 az (spI4 ai "shapes" "rows" "named" "written")):j0 ["shapes","text"] (aPd (j6 0) Vf ai ae K):=by
 w_cond kG;obtain⟨ra,z,sa,S,ls,pool,rfl,hro,hne,hl60,hok,hpn,hp12,q⟩:=h;refine⟨_,(jC (jZ (xT (vP (jR eQ rfl M.isinstance oh (jA (pv 1) (jA (aN (v:=.ty "str") rfl M.str boot_str rfl) jB))))) (jD kF) jM) (jC (jQ 2 kG.nd (jK gp hr (jA (pv 1) jB))) (jC (jQ 3 kG.nd (qC jB)) (jC (jQ 4 kG.nd (qC jB)) (jC (jQ 5 kG.nd (qC jB)) (jC (yO lf rfl (oE rfl M.enumerate (jA (qW ["row"] [] [] rfl (qS (pv 2)) rfl trivial trivial (fun _ _ _ _=>(qN rfl)) (fun _ _ _ _=>qI) (fun _ _ _ _=>(aQm (K:=K) rfl oq rm rq bQ (pv 0) (jA jN jB)))) jB)) (bB rfl (kI (qJ 6 kG.nd) (kI (qJ 7 kG.nd) vO))) (jC (lN (jK ib hr (jA (pv 6) (jA (pv 7) jB))) (bB rfl (kI (qJ 8 kG.nd) (kI (qJ 9 kG.nd) vO)))) (jC (qQ (jK cu hr (jA (pv 4) (jA (pv 6) (jA (pv 8) jB))))) (jC (jQ 10 kG.nd (jK ii hr (jA (xQ (pv 0) Uf.cl eh hr qH) (jA (pv 6) (jA (pv 8) (jA (aNw rfl M.dict rfl M.zip rfl (jA (pv 9) (jA (pv 7) jB))) jB)))))) (jC (jQ 5 kG.nd (jS oQ (pv 5) (jK ij hr (jA (jK gq hr (jA (pv 9) (jA (pv 7) (jA (jW (pv 10) rfl) jB)))) (jA (pv 5) jB))))) (jC (jZ (PW.pt (fC (jP op_ge (pv 6) (kL (v:=.int 60) rfl C.MOST_LINES ⟨_,rfl⟩)) (bV (jP dU (jR jX rfl M.len jt (jA (pv 5) jB)) (kL (v:=.int 12) rfl C.MOST_NAMES ⟨_,rfl⟩))))) (jD kF) jM) (jC (jQ 4 kG.nd (jK dh hr (jA (pv 4) (jA (pv 8) jB)))) (jD (qQ (yJ kj mm mn xV (pv 3) (jA (pv 10) jB))))))))))) (jC (jZ (yC (pv 4) (fun _=>rfl)) (jD kF) jM) (jC (lN (jK gc hr (jA (pv 3) (jA jE jB))) (bB rfl (kI (qJ 11 kG.nd) (kI (qJ 12 kG.nd) vO)))) (jD (jL (yK aj dm hr0 rfl qH (jA (pv 0) (jA (pv 11) (jA (pv 5) (jA (pv 1) jB))))))))))))))),?_⟩;have hls:∀l∈ls,l.Ok nmT:=fun l hl=>(hok l hl).mono hpn;have hds:(ls.map L6.tx).length=ls.length:=δ _;refine⟨_,rfl,_,"str","str",rfl,by decide,.inl rfl,_,rfl,qP ⟨_,rfl,ls.map L6.tx,rfl,(by simpa using hne),(fun x hx=>by obtain⟨l,hl,rfl⟩:=jz.mp hx;have h:=aFv (hls l hl);exact⟨h.1,by omega,h.2.2⟩),(by rw[hds];omega),fun lp hlp=>?_⟩⟩;clear 1 lp H1 g1 kp1 hlp;refine⟨cK,fun tl htl=>?_⟩;clear 1 tl H2 g2 kt2 htl;refine⟨cK,fun bg hbg=>?_⟩;clear 1 bg H3 g3 kb3 hbg;refine⟨cK,fun nd hnd=>?_⟩;clear 1 nd H4 g4 kn4 hnd;have kb4:=g4 _ _ kb3;have kt4:=g4 _ _ (g3 _ _ kt2);have g04:jH H H4:=((g1.trans g2).trans g3).trans g4;have ht0:H tl=none:=g1.free htl;have kp4:H4 lp=some (.lst ((ls.map L6.tx).map V.str)):=g4 _ _ (g3 _ _ (g2 _ _ kp1));have nbt:bg≠tl:=fun z=>by rw[z,kt2]at hbg;cases hbg
 have nnt:nd≠tl:=fun z=>by rw[z,g3 _ _ kt2]at hnd;cases hnd
 have hof:∀{b:Addr}{o:HO}{G:Hp},b≠tl->G b=some o->offs [tl] G b=some o:=fun n e=>xH (fun z=>n (Δ.mp z)) e;refine⟨_,rfl,lp,rfl,⟨_,SqL.of kp4⟩,vI (xs:=(ls.map L6.tx).map V.str) (fun j ys H'=>∃was:List Addr,ys=was.map V.ref/\was.length=j/\jH H4 H'/\∀(m:Nat) (wa:Addr) (l:L6),was[m]?=some wa->ls[m]?=some l->offs [tl] H' wa=some (.lst (l.ws.map V.str))) ⟨[],rfl,rfl,jH.refl _,fun m wa l h=>by simp at h⟩ (fun j ys H' _ z=>?_) (by rw[δ,hds,jc];omega) (fun j x ys H' hx z=>?_) (fun ys H' z wl hwl=>?_)⟩
 ·obtain⟨was,rfl,hj,g,_⟩:=z;exact⟨SqL.of (g _ _ kp4),by rw[δ,hj];exact ι _⟩
 ·obtain⟨was,rfl,hj,g,hws⟩:=z;obtain⟨y,hy,rfl⟩:=qE hx;rw[jv]at hy;cases hl:ls[j]? with
  |none=>rw[hl]at hy;cases hy
  |some l =>
  rw[hl]at hy;cases hy;have hlt:=hls l (iq hl);have hx10:=(aFv hlt).2.1;refine⟨_,rfl,rfl,_,_,rfl,rfl,rfl,(by rw[jc];show l.tx.length+2<=_;omega),fun wa hwa=>?_⟩;rw[aBv hlt];clear 1 wa H5 g5 k5 hwa;refine⟨⟨was++[wa],by rw[Θ];rfl,by rw[θ,hj];rfl,g.trans g5,fun m wb l' hm hl'=>?_⟩,_,rfl⟩;rcases zN hm with hm|⟨rfl,rfl⟩
  ·exact vW g5 _ _ (hws m wb l' hm hl')
  ·rw[hj,hl]at hl';cases hl';exact hof (fun z=>by rw[z,g _ _ kt4]at hwa;cases hwa) k5
 obtain⟨was,rfl,hwn,g,hws0⟩:=z;rw[δ,hds]at hwn;clear 1 wl H5 g5 kwl hwl;have nwt:wl≠tl:=fun z=>by rw[z,g _ _ kt4]at hwl;cases hwl
 have hws:∀(m:Nat) (wa:Addr) (l:L6),was[m]?=some wa->ls[m]?=some l->offs [tl] H5 wa=some (.lst (l.ws.map V.str)):=fun m wa l h1 h2=>vW g5 _ _ (hws0 m wa l h1 h2);have g45:=g.trans g5;have gH5:jH H (offs [tl] H5):=aJu ht0 (g04.trans g45);obtain⟨dxr,tS,kra,_,hSW⟩:=id hro;refine⟨wl,_,rfl,SqL.of kwl,iH (xs:=was.map V.ref) (fun i σ H'=>∃(nd:Addr) (nm:List Str) (rs:List Addr) (o6 o7 o8 o9 o10 o11 o12:Option V),σ = [some (.ref ra),some (.str (jp nlS (ls.map L6.tx))),some (.ref lp),some (.ref tl),some (.ref bg),some (.ref nd),o6,o7,o8,o9,o10,o11,o12]/\jH (offs [tl] H5) (offs [tl] H')/\H' tl=some (.lst (rs.map V.ref))/\rs.length=i/\(∀(j:Nat) (a:Addr) (l:L6),rs[j]?=some a->ls[j]?=some l->fE ae K (offs [tl] H') a j l)/\SqL K (offs [tl] H') nd (nm.map V.str)/\nm.Nodup/\(∀x∈nm,x∈pool)/\∀(j:Nat) (l:L6),j<i->ls[j]?=some l->∀x∈l.ns,x∈nm) ⟨nd,[],[],_,_,_,_,_,_,_,rfl,jH.refl _,g45 _ _ kt4,rfl,(fun j a l h=>by simp at h),SqL.of (hof nnt (g45 _ _ kn4)),List.nodup_nil,(fun x hx=>by cases hx),fun j l h=>absurd h (sy _)⟩ (fun i σ H' _ z=>?_) (fun i x σ H' p2 hx z hp2=>?_) (fun σ H' z=>?_)⟩
 ·obtain⟨nd,nm,rs,o6,o7,o8,o9,o10,o11,o12,rfl,go,_⟩:=z;exact SqL.of (kK _ _ (go _ _ (hof nwt kwl)))
 ·obtain⟨nd,nm,rs,o6,o7,o8,o9,o10,o11,o12,rfl,go,kt,hrs,hrow,sn,hnd,hnp,hin⟩:=z;obtain⟨wa,hwa,rfl⟩:=vU hx;have hi:i<ls.length:=by rw[←hwn];exact(η.mp hwa).1
  obtain⟨l,hl⟩ : ∃l,ls[i]?=some l:=⟨_,π hi⟩;have hF:=hls l (iq hl);have hw5:=l.len.1;have hpl:=l.len.2.2.1;have kw:offs [tl] H' wa=some (.lst (l.ws.map V.str)):=go _ _ (hws i wa l hwa hl);have A':Al [tl] H':=fun b hb=>by rw[Δ.mp hb];exact⟨_,kt⟩
  clear 1 p2 H6 g6 k6 hp2;refine⟨p2,_,rfl,SqT.of k6,rfl,_,_,rfl,_,_,rfl,rfl,_,rfl,_,rfl,.int (i:Int),wa,l,rfl,hF,SqL.of (g6 _ _ (kK _ _ kw)),fun t fg H7 g7 s7 s7'=>⟨t,_,rfl,s7,rfl,_,_,rfl,_,_,rfl,rfl,?_⟩⟩;have g67:=g6.trans g7;have gx7:jH (offs [tl] H') (offs [tl] H7):=vW g67;have gH7:jH H (offs [tl] H7):=(gH5.trans go).trans gx7;have gH8:jH H H7:=gH7.trans kK;refine⟨_,rfl,_,rfl,_,rfl,bg,.int (i:Int),l.fd,rfl,l.fl2,?_⟩;refine⟨_,rfl,ra,dxr,_,rfl,gH8 _ _ kra,rfl,ra,z,sa,S,rfl,aNc hro gH8,_,rfl,_,rfl,_,rfl,_,rfl,true,false,fg,wa,l.ps,l.ws,rfl,s7',SqL.of (kK _ _ (gx7 _ _ kw)),hpl,by omega,fun d hd=>?_⟩;rw[show qY [] _=iN l from(mM l.ps l.ws [] l.len.2.2.2 (fun _ _ _ h=>by cases h)).trans (List.nil_append _)];clear 1 d H9 g9 k9 hd;have A9:Al [tl] H9:=(A'.same g67).same g9;refine⟨.ref z,i,d,l,[tl],H7,rfl,hF,g9,hd,k9,A9,fun r H10 g8x hr10=>?_⟩;have gx10:=gx7.trans (vW (xs:=[tl]) g8x);obtain⟨dx',rra,rsa,hr1,hr2,hr3⟩:=id hr10;refine⟨_,rfl,_,rfl,_,rfl,_,rfl,r,ae,_,_,_,rfl,(kK _ _ hr1),af.cl,af.nd,rfl,fg,wa,.ref rsa,l,rfl,g8x.tp s7',SqL.of (kK _ _ (gx10 _ _ kw)),fun pn H11 g11 kn=>⟨_,rfl,pn,nd,_,nm,rfl,SqL.of kn,kK.seq ((gx10.trans (vW g11)).seq sn),hnd,jh (aTg l) (by decide),fun pu H12 g12 ku=>?_⟩⟩;obtain⟨un1,un2,un3⟩:=aJb (ys:=nm) (xs:=l.ns) hnd;have hsub:∀x∈nm++unq nm l.ns,x∈pool:=fun x hx=>((un2 x).mp hx).elim (hnp x) fun h=>(hok l (iq hl)).ns x h;have few:(nm++unq nm l.ns).length<=12:=jh (fY un1 hsub) hp12;have gx12:=(gx10.trans (vW (xs:=[tl]) g11)).trans (vW (xs:=[tl]) g12);have few':=few;rw[θ]at few';refine⟨nd,pu,_,_,rfl,rfl,kK.seq (gx12.seq sn),SqL.of ku,(by rw[δ,δ,jc];omega),fun pq hpq=>?_⟩;clear 1 pq H13 g13 k13 hpq;rw[←Θ]at k13;have A12:Al [tl] H12:=((((A'.same g67).same g8x).same g11).same g12);have gx13:=gx12.trans (vW (xs:=[tl]) g13);refine⟨_,rfl,_,_,rfl,rfl,_,rfl,qR (by simp;omega) ⟨_,rfl,pq,_,rfl,.inl (SqL.of k13),_,_,rfl,rfl,_,rfl,qR (fun z=>by have:=of_decide_eq_true z;rw[δ]at this;omega) ?_⟩⟩;refine⟨_,rfl,_,rfl,bg,l.fd,rfl,l.fl2,?_⟩;have g10y:=(g11.trans g12).trans g13;have kt14:H13 tl=some (.lst (rs.map V.ref)):=((g67.trans g8x).trans g10y) _ _ kt;refine⟨_,rfl,.inl ⟨rfl,_,SqL.of kt14⟩,_,rfl,tl,_,_,rfl,rfl,kt14,(by rw[δ];exact mj (show rs.length<=60 by omega) (by decide)),?_⟩;generalize e15:upd H13 tl _=H15;have eo:offs [tl] H15=offs [tl] H13:=by rw[←e15];exact aKr
  obtain⟨g15,k15⟩:=vV e15;refine⟨pq,nm++unq nm l.ns,rs++[r],_,_,_,_,_,_,_,rfl,by rw[eo];exact go.trans gx13,by rw[Θ];exact k15,by rw[θ,hrs];rfl,fun j a l' hj hl'=>?_,?_,un1,hsub,fun j l' hj hl' x hx=>?_⟩
  ·rw[eo];rcases zN hj with hj|⟨rfl,rfl⟩
   ·exact(hrow j a l' hj hl').same gx13
   ·rw[hrs,hl]at hl';cases hl';rw[hrs];exact hr10.same (vW g10y)
  ·rw[eo];exact SqL.of (xH (A12.new hpq) k13)
  ·rw[un2]
   by_cases hji:j=i
   ·rw[hji,hl]at hl';cases hl';exact .inr hx
   ·exact .inl (hin j l' (by omega) hl' x hx)
 ·obtain⟨nd,nm,rs,o6,o7,o8,o9,o10,o11,o12,rfl,go,kt,hrs,hrow,sn,hnd,hnp,hin⟩:=z;rw[δ,hwn]at hrs hin;have gH':jH H H':=(gH5.trans go).trans kK;have kb:SqL K H' bg []:=SqL.of (kK _ _ (go _ _ (hof nbt (g45 _ _ kb4))));refine⟨_,rfl,_,.inl ⟨_,kb,rfl⟩,?_⟩;have hT:TD6 ae K H' tl rs ls:=⟨SqL.of kt,hrs,hls,fun j a l h1 h2=>(hrow j a l h1 h2).same kK⟩;refine qP ⟨_,rfl,tl,rs,ls,rfl,hT,(by omega),fun p' rp H6 g6 s6 l6=>⟨p',_,rfl,s6,rfl,_,_,rfl,_,_,rfl,rfl,_,rfl,_,rfl,_,rfl,_,rfl,fun y dy hy hdy _=>⟨y,dy,_,_,_,_,H6,rfl,jI,aO hy hdy,hy,fun H7 g7 k7=>⟨rfl,?_⟩⟩⟩⟩;exact q y nm H7 ((gH'.trans g6).trans g7) ⟨dy,rp,nd,_,_,rs,k7,g7.seq l6,(g6.trans g7).seq (kK.seq sn),hrs,fun j a l h1 h2=>((hT.same (g6.trans g7)).r j a l h1 h2)⟩ hnd hnp (fun l hl x hx=>by
   obtain⟨j,hj⟩:=lw.mp hl;exact hin j l (η.mp hj).1 hj x hx)
theorem aMh(F:Fun K "rest" "rest" aDa f fd)(bh:j3 "bound_of" spBo):j0 ["number"] aLd:=by
 w_cond aMp;obtain⟨n,rfl,q⟩:=h;refine⟨_,(jD (jL (jS yW (pv 0) (jK bh hr (jA (kL (v:=.int 4) rfl C.WORD_CELLS ⟨_,rfl⟩) jB))))),?_⟩;exact⟨_,rfl,rfl,_,_,rfl,rfl,(show(0:Int)<4294967296 by decide),q⟩
theorem aBx(F:Fun K "reckoned" "reckoned" fF f fd)(fh:j3 "rest" aLd):j0 ["sign","one","other"] aHq:=by
 w_cond aAg;obtain⟨s,x,y,rfl,hx,hy,q⟩:=h;refine⟨_,(jC (jZ (jP qD (pv 0) jN) (jD (jL (jK fh hr (jA (jS vD (pv 1) (pv 2)) jB)))) jM) (jC (jZ (jP qD (pv 0) jN) (jD (jL (jK fh hr (jA (jS bC (pv 1) (pv 2)) jB)))) jM) (jC (jZ (jP qD (pv 0) jN) (jD (jL (jK fh hr (jA (jS xI (pv 1) (pv 2)) jB)))) jM) (jC (jZ (jP qD (pv 0) jN) (jD (jL (vS (jP aAr (pv 1) (pv 2)) jE jE))) jM) (jC (jZ (jP qD (pv 0) jN) (jD (jL (vS (jP qD (pv 1) (pv 2)) jE jE))) jM) (jD (jL (jS aDe (pv 1) (pv 2))))))))),?_⟩;unfold zV at q;refine⟨_,rfl,rfl,_,rfl,vL (fun c=>?_) (fun c=>?_)⟩
 ·rw[if_pos (V.str.inj (of_decide_eq_true c))]at q;exact⟨_,rfl,_,rfl,_,_,rfl,rfl,_,rfl,q⟩
 rw[if_neg (fun z=>c (decide_eq_true (congrArg V.str z)))]at q;refine⟨_,rfl,rfl,_,rfl,vL (fun c=>?_) (fun c=>?_)⟩
 ·rw[if_pos (V.str.inj (of_decide_eq_true c))]at q;exact⟨_,rfl,_,rfl,_,_,rfl,rfl,_,rfl,q⟩
 rw[if_neg (fun z=>c (decide_eq_true (congrArg V.str z)))]at q;refine⟨_,rfl,rfl,_,rfl,vL (fun c=>?_) (fun c=>?_)⟩
 ·rw[if_pos (V.str.inj (of_decide_eq_true c))]at q;exact⟨_,rfl,_,rfl,_,_,rfl,rfl,(aRp hx hy),_,rfl,q⟩
 rw[if_neg (fun z=>c (decide_eq_true (congrArg V.str z)))]at q;refine⟨_,rfl,rfl,_,rfl,vL (fun c=>?_) (fun c=>?_)⟩
 ·rw[if_pos (V.str.inj (of_decide_eq_true c))]at q;refine⟨_,rfl,_,rfl,_,_,rfl,rfl,_,rfl,vL (fun d=>?_) (fun d=>?_)⟩
  ·rw[if_pos (of_decide_eq_true d)]at q;exact q
  ·rw[if_neg (fun z=>d (decide_eq_true z))]at q;exact q
 rw[if_neg (fun z=>c (decide_eq_true (congrArg V.str z)))]at q;refine⟨_,rfl,rfl,_,rfl,vL (fun c=>?_) (fun c=>?_)⟩
 ·rw[if_pos (V.str.inj (of_decide_eq_true c))]at q;refine⟨_,rfl,_,rfl,rfl,_,rfl,vL (fun d=>?_) (fun d=>?_)⟩
  ·rw[if_pos (V.int.inj (of_decide_eq_true d))]at q;exact q
  ·rw[if_neg (fun z=>d (decide_eq_true (congrArg V.int z)))]at q;exact q
 rw[if_neg (fun z=>c (decide_eq_true (congrArg V.str z)))]at q;exact⟨_,rfl,_,rfl,_,_,rfl,rfl,q⟩
theorem pC{k:Nat}(F:Fun K "ahead" "Store.ahead" aZ f fd):j0 ["self","done"] aOp:=by
 w_cond pS;obtain⟨a,v,rfl,q⟩:=h;refine⟨_,(jD aNu),?_⟩;exact q
theorem nJ(F:Fun K "is_let" "Going.is_let" aE f fd)(er:j4 ah "ahead" aOp):j0 ["self","line"] (spIl ac ah):=by
 w_cond nA;obtain⟨g,wd,ol,ll,st,dxs,fs,B,ns,f',os,n,i,rfl,hG,hst,hfs,q1,q2⟩:=h;refine⟨_,(jC (jZ (jP qD (jW (pv 0) rfl) (jW (pv 0) rfl)) (jC (kR (pv 0) (xC (jA jN (jA (pv 1) jB))) rfl) (jD (jL pK))) jM) (jC (qQ (lX (jW (pv 0) rfl) ak.cl er hr qH (jA (jW (pv 0) rfl) jB))) (jC (aGw (pv 0) jE aSn) (jD (jL pK))))),?_⟩;obtain⟨dx,hg⟩:=id hG.o;obtain⟨n1,n2,n3⟩:=hG.ne;have gm:g∈[g,wd,ol]:=τ ..;refine⟨_,rfl,g,ac,_,_,_,rfl,hg,aa.cl,aa.nd,rfl,_,rfl,g,ac,_,_,_,rfl,hg,aa.cl,aa.nd,rfl,rfl,_,rfl,vL (fun c=>?_) (fun c=>?_)⟩
 ·have hB:(n:Int)=B:=V.int.inj (of_decide_eq_true c);refine⟨_,rfl,xM,fun t ht=>?_⟩;clear 1 t H1 g1 k1 ht;refine⟨_,rfl,g,ac,dx,_,rfl,g1 _ _ hg,aa.cl,aa.nd,(by show 7<1000;decide),?_⟩;clear 0 g H2 g2 k2;have tn:t∉[g,wd,ol]:=hG.al.new ht;have so:jH (offs [g,wd,ol] H) (offs [g,wd,ol] H2):=aC fun b o hb e=>g2 b o (fun z=>hb (z ▸ gm)) (g1 _ _ e);exact q1 hB t H2 so (xH tn (g2 _ _ (fun z=>tn (z ▸ gm)) k1)) ⟨⟨dx,k2⟩,g2 _ _ (kc n1) (g1 _ _ hG.w),g2 _ _ (kc n2) (g1 _ _ hG.l)⟩
 ·have hB:(n:Int)≠B:=fun z=>c (decide_eq_true (congrArg V.int z));have hst':=kK _ _ hst;refine⟨_,rfl,g,ac,_,_,_,rfl,hg,aa.cl,aa.nd,rfl,st,dxs,fs,rfl,hst',hfs,_,rfl,g,ac,_,_,_,rfl,hg,aa.cl,aa.nd,rfl,_,_,rfl,?_⟩;refine⟨_,rfl,g,ac,dx,_,_,rfl,hg,aa.cl,aa.nd,rfl,_,_,rfl,rfl,dx,_,hg,(by show 7<1000;decide),?_⟩;clear 0 g H2 g2 k2;have so:jH (offs [g,wd,ol] H) (offs [g,wd,ol] H2):=aC fun b o hb e=>g2 b o (fun z=>hb (z ▸ gm)) e;exact q2 hB H2 so ⟨⟨dx,k2⟩,g2 _ _ (kc n1) hG.w,g2 _ _ (kc n2) hG.l⟩
theorem lM(F:Fun K "told_by" "Going.told_by" zI f fd)(gr:j3 "reckoned" aHq):j0 ["self","row","words"] (spTb ac ae K):=by
 w_cond lQ;obtain⟨g,wd,ol,ll,st,B,ns,f',os,n,r,wl,i,l,rfl,hG,hro,hl,hwo,hf,ho,q⟩:=h;refine⟨_,(jC (jZ (jP qD (jW (pv 1) rfl) jN) (jD (jL (jW (pv 1) rfl))) jM) (jC (jZ (jP qD (jW (pv 1) rfl) jN) (jD (jL (jV jO (pv 2) jE))) jM) (jC (jZ (vF vJ (jW (pv 1) rfl) (kL (v:=.ref tSi) rfl C.SIGNS rfl) (by with_unfolding_all rfl)) (jD (jL (jK gr hr (jA (jW (pv 1) rfl) (jA (jV jO (pv 2) jE) (jA (jV jO (pv 2) jE) jB)))))) jM) (jC (jZ (jP qD (jW (pv 1) rfl) jN) (jD kF) jM) (jC (jZ (jP qD (jW (pv 1) rfl) jN) (jC (qQ (yJ kj mm mn xV (jW (pv 0) rfl) (jA (jV jO (pv 2) jE) jB))) (jD (jL (jV jO (pv 2) jE)))) jM) (jC kF (jC kF (jD kF)))))))),?_⟩;obtain⟨dx,hg⟩:=id hG.o;obtain⟨dxr,ra,sa,hr0,_⟩:=hro;have hr1:=kK _ _ hr0;have hwl:=kK.seq hwo;cases l with
 |num a n'=>exact⟨_,rfl,r,ae,_,_,_,rfl,hr1,af.cl,af.nd,rfl,rfl,_,rfl,vR (decide_eq_true rfl) ⟨_,rfl,r,ae,_,_,_,rfl,hr1,af.cl,af.nd,rfl,q⟩⟩
 |nam a b=>exact⟨_,rfl,r,ae,_,_,_,rfl,hr1,af.cl,af.nd,rfl,rfl,_,rfl,qR (by show ¬ decide (V.str (ζ "name")=V.str (ζ "number"))=true;decide) ⟨_,rfl,r,ae,_,_,_,rfl,hr1,af.cl,af.nd,rfl,rfl,_,rfl,vR (decide_eq_true rfl) ⟨_,rfl,wl,_,_,_,rfl,rfl,hwl,rfl,q⟩⟩⟩
 |op a b c s =>
  have hs:=hl.2.2.2;obtain⟨s1,s2⟩:=sg_no s hs;refine⟨_,rfl,r,ae,_,_,_,rfl,hr1,af.cl,af.nd,rfl,rfl,_,rfl,qR (fun z=>s1 (V.str.inj (of_decide_eq_true z))) ⟨_,rfl,r,ae,_,_,_,rfl,hr1,af.cl,af.nd,rfl,rfl,_,rfl,qR (fun z=>s2 (V.str.inj (of_decide_eq_true z))) ?_⟩⟩;refine⟨_,rfl,r,ae,_,_,_,rfl,hr1,af.cl,af.nd,rfl,tSi,_,rfl,.inr (C.sgns H),rfl,qF _,_,rfl,?_⟩;rw[if_neg ρ,qK];exact vR (decide_eq_true hs) ⟨_,rfl,r,ae,_,_,_,rfl,hr1,af.cl,af.nd,rfl,_,rfl,wl,_,_,_,rfl,rfl,hwl,rfl,_,rfl,wl,_,_,_,rfl,rfl,hwl,rfl,s,f' b,f' c,rfl,hf b,hf c,q⟩
 |out a =>
  refine⟨_,rfl,r,ae,_,_,_,rfl,hr1,af.cl,af.nd,rfl,rfl,_,rfl,qR (by show ¬ decide (V.str (ζ "out")=V.str (ζ "number"))=true;decide) ⟨_,rfl,r,ae,_,_,_,rfl,hr1,af.cl,af.nd,rfl,rfl,_,rfl,qR (by show ¬ decide (V.str (ζ "out")=V.str (ζ "name"))=true;decide) ?_⟩⟩;refine⟨_,rfl,r,ae,_,_,_,rfl,hr1,af.cl,af.nd,rfl,tSi,_,rfl,.inr (C.sgns H),rfl,qF _,_,rfl,?_⟩;rw[if_neg ρ,qK];refine qR (by show ¬ decide (ζ "out" ∈ eW)=true;ac_rfl) ⟨_,rfl,r,ae,_,_,_,rfl,hr1,af.cl,af.nd,rfl,rfl,_,rfl,qR (by show ¬ decide (V.str (ζ "out")=V.str (ζ "many"))=true;decide) ⟨_,rfl,r,ae,_,_,_,rfl,hr1,af.cl,af.nd,rfl,rfl,_,rfl,vR (decide_eq_true rfl) ?_⟩⟩;refine⟨_,rfl,g,ac,_,_,_,rfl,hg,aa.cl,aa.nd,rfl,.inl ⟨rfl,_,SqL.of hG.l⟩,_,rfl,wl,_,_,_,rfl,rfl,hwl,rfl,ol,_,_,rfl,rfl,hG.l,(by rw[δ];exact mj ho (by decide)),?_⟩;have e:upd H ol (.lst (os.map V.int++[.int (f' a)]))=upd H ol (.lst ((os++[f' a]).map V.int)):=by rw[Θ];rfl
  have hwl':SqL K (upd H ol (.lst (os.map V.int++[.int (f' a)]))) wl [.int (f' a)]:=(jH.trans (aC (xs:=[g,wd,ol]) fun b o hb e=>by rw[jT (fun z=>hb (by rw[z];simp))];exact e) kK).seq hwo;exact⟨_,rfl,wl,_,_,_,rfl,rfl,hwl',rfl,(by rw[e];exact q)⟩
theorem lO(F:Fun K "do_deed" "Going.do_deed" yZ f fd)(cv:j4 ac "told_by" (spTb ac ae K)):j0 ["self","row"] (spDd ac ae K):=by
 w_cond yP;obtain⟨g,wd,ol,ll,st,B,ns,f',os,n,r,i,l,rfl,hG,hro,hlT,hl,hf,ho,hns,q⟩:=h;refine⟨_,(jC (eL (i:=2) ["name"] ["self"] [0] yP.nd rfl rfl rfl (qS (jW (pv 1) rfl)) rfl ⟨rfl,trivial⟩ ⟨⟨rfl,rfl,rfl,_,rfl⟩,trivial⟩ (fun _ _ _ _=>(qN rfl)) (fun _ _ _ _=>qI) (fun _ _ _ _=>(xE hr.units1 (oJ (K:=K) rfl (pv 1) rfl) (pv 0) (fun _ _=>rfl)))) (jD (aLo (jD (jQ 3 yP.nd (lX (pv 0) aa.cl cv hr qH (jA (pv 1) (jA (pv 2) jB))))) (jD (jZ (yC (jW (pv 1) rfl) (fun _=>rfl)) (jD (eN hr.units1 (jW (pv 0) rfl) (jW (pv 1) rfl) (pv 3) rfl)) jM))))),?_⟩;obtain⟨dx,hg⟩:=id hG.o;obtain⟨n1,n2,n3⟩:=hG.ne;obtain⟨dxr,ra,sa,hr0,hrd,_⟩:=id hro;have hr1:=kK _ _ hr0;have hrd1:=kK.seq hrd;have h2:=aTf l;refine⟨_,rfl,r,ae,_,_,_,rfl,hr1,af.cl,af.nd,rfl,ra,rfl,⟨_,hrd1⟩,vI (xs:=l.rs.map V.str) (fun j ys H'=>H'=H/\ys=((l.rs.take j).map f').map V.int) ⟨rfl,rfl⟩ (fun j ys H' _ z=>⟨by rw[z.1];exact hrd1,by rw[z.2,δ,δ];exact mv _ _⟩) (by rw[δ,jc];omega) (fun j x ys H' hx z=>?_) (fun ys H' z wl hwl=>?_)⟩
 ·obtain⟨rfl,rfl⟩:=z;obtain⟨y,hy,rfl⟩:=qE hx;have hyn:=aRu hl y (iq hy);exact⟨_,rfl,g,ac,_,_,_,rfl,hg,aa.cl,aa.nd,rfl,_,rfl,wd,.int (f' y),rfl,(by rw[←aS hyn];exact vX.k (k:=jj y) hG.w),⟨rfl,by rw[jk,hy,Θ,Θ];rfl⟩,_,rfl⟩
 obtain⟨e',rfl⟩:=z;subst e';rw[δ,qc];clear 1 wl H1 g1 k1 hwl;have wn:=hG.al.new hwl;have hG1:=hG.same g1;have so1:jH (offs [g,wd,ol] H') (offs [g,wd,ol] H1):=vW g1;refine⟨_,rfl,g,dx,_,rfl,g1 _ _ hg,rfl,_,rfl,_,rfl,g,wd,ol,ll,st,B,ns,f',os,n,r,wl,i,l,rfl,hG1,hro.same so1,hlT,SqL.of (xH wn k1),hf,ho,?_⟩;rcases l6_gn hl hlT with⟨hgn,hge,hg10,hoe,hH⟩|⟨a,rfl⟩
 ·rw[hH];have hr1:=g1 _ _ hr1;refine⟨_,rfl,r,ae,_,_,_,rfl,hr1,af.cl,af.nd,rfl,_,⟨(by rw[jc];omega),rfl⟩,vR (bne_iff_ne.mpr (by have:=aSj hge;omega)) ?_⟩;refine⟨_,rfl,_,rfl,g,ac,_,_,_,rfl,(g1 _ _ hg),aa.cl,aa.nd,rfl,_,rfl,r,ae,_,_,_,rfl,hr1,af.cl,af.nd,rfl,wd,_,rfl,cM.k (k:=jj l.g) hG1.w (by unfold dW;rw[δ];exact mj hns (by decide)),?_⟩;rw[bZ hgn];generalize e2:upd H1 wd _=H2;obtain⟨g2,k2⟩:=vV e2;refine q H2 (so1.trans (aC fun b o hb e=>g2 b o (fun z=>hb (by rw[z];simp)) e)) ⟨⟨dx,g2 _ _ n1 (g1 _ _ hg)⟩,?_,?_⟩
  ·unfold L6.step;rw[if_neg hge];exact k2
  ·rw[hoe,jq];exact g2 _ _ (kc n3) hG1.l
 ·have hr0:=g1 _ _ hr1;have rn:r≠ol:=fun z=>by rw[z,hG1.l]at hr0;cases hr0
  generalize e2:outH f' ol os H1 (.out a)=H2;have e3:upd H1 ol (.lst ((os++[f' a]).map V.int))=H2:=e2;obtain⟨g2,k2⟩:=vV e3;have hr1:=g2 _ _ rn hr0;refine⟨_,rfl,r,ae,_,_,_,rfl,hr1,af.cl,af.nd,rfl,_,⟨(show(ζ "").length<=ξ by decide),rfl⟩,qR (by show ¬ (((ζ "").length:Int) != 0)=true;decide) ?_⟩;refine q H2 (so1.trans (aC fun b o hb e=>g2 b o (fun z=>hb (by rw[z];simp)) e)) ⟨⟨dx,g2 _ _ n2 (g1 _ _ hg)⟩,?_,k2⟩;exact g2 _ _ n3 hG1.w
theorem nE(F:Fun K "do_row" "Going.do_row" zQ f fd)(KP:PrC6 K mg ae bi au)(dn:j4 ac "is_let" (spIl ac ah))(cw:j4 ac "do_deed" (spDd ac ae K)):j0 ["self","row"] (spDo ac ae ah K):=by
 w_cond nP;obtain⟨g,wd,ol,ll,st,dxs,fs,B,ns,f',os,n,r,i,l,rfl,hG,hst,hfs,hro,hlT,hl,hf,ho,hns,q1,q2⟩:=h;refine⟨_,(jD (jZ (vP (jR (pW (K:=K) rfl) rfl M.isinstance oh (jA (pv 1) (jA (kL (v:=.ref bi) rfl KP.ml rfl) jB)))) (jD kF) (jD (jZ (vP (lX (pv 0) aa.cl dn hr qH (jA (jW (pv 1) rfl) jB))) (jD (jZ (vP (jR (pW (K:=K) rfl) rfl M.isinstance oh (jA (pv 1) (jA (kL (v:=.ref au) rfl KP.mc rfl) jB)))) (jD kF) (jD (qQ (lX (pv 0) aa.cl cw hr qH (jA (pv 1) jB)))))) jM)))),?_⟩;obtain⟨dx,hg⟩:=id hG.o;obtain⟨dxr,ra,sa,hr0,_⟩:=id hro;have hr1:=kK _ _ hr0;refine⟨_,rfl,.ref r,bi,_,_,rfl,KP.i.ty hr1,KP.l,_,rfl,qP ?_⟩;refine⟨_,rfl,g,dx,_,rfl,hg,rfl,_,rfl,r,ae,_,_,_,rfl,hr1,af.cl,af.nd,rfl,g,wd,ol,ll,st,dxs,fs,B,ns,f',os,n,i,rfl,hG,hst,hfs,fun hB t H1 s1 k1 G1=>⟨_,rfl,qP (q1 hB t H1 s1 k1 G1)⟩,fun hB H1 s1 G1=>⟨_,rfl,vR rfl ?_⟩⟩;obtain⟨dx1,hg1⟩:=id G1.o;have hr1:=kK _ _ (s1 _ _ hr0);exact⟨_,rfl,.ref r,au,_,_,rfl,KP.i.ty hr1,KP.c,_,rfl,qP ⟨_,rfl,g,dx1,_,rfl,hg1,rfl,_,rfl,g,wd,ol,ll,st,B,ns,f',os,n+1,r,i,l,rfl,G1,hro.same s1,hlT,hl,hf,ho,hns,fun H2 s2 G2=>q2 hB H2 (s1.trans s2) G2⟩⟩
theorem mB(F:Fun K "do_rows" "Going.do_rows" yY f fd)(dq:j4 ac "do_row" (spDo ac ae ah K)):j0 ["self","rows"] (spDs ac ae ah K):=by
 w_cond bT;obtain⟨g,wd,ol,ll,st,dxs,fs,b,ns,f',rl,rs,ls,rfl,hG,hst,hfs,hrl,hn,hrow,hok,hf,hns,hls,q⟩:=h;refine⟨_,(jD (yO lf rfl (qS (pv 1)) (qJ 2 bT.nd) (jD (jZ (jP aQv (jW (pv 0) rfl) cT) (jD (qQ (lX (pv 0) aa.cl dq hr qH (jA (pv 2) jB)))) jM)))),?_⟩;have hfw:∀m x,W32 (stF (ls.take m) f' x):=fun m=>aHz (fun l hl=>(hok l (vn hl)).2) hf;refine⟨_,rfl,rl,rfl,⟨_,kK.seq hrl⟩,yA (xs:=rs.map V.ref) (fun j σ H'=>∃(o2:Option V) (fv:V),σ = [some (.ref g),some (.ref rl),o2]/\jH (offs [g,wd,ol] H) (offs [g,wd,ol] H')/\Go6 ac H' g wd ol ll st (b:Int) ns (stF (ls.take (min b j)) f') (stO (ls.take (min b j)) f') fv (min b j)/\(j<=b->fv=.non)/\(b<j->∃t,fv=.ref t/\offs [g,wd,ol] H' t=some (.tup [.str "budget",.int (b:Int)]))) ⟨_,.non,rfl,jH.refl _,(by rw[Nat.min_zero];exact hG),fun _=>rfl,fun z=>absurd z (sy _)⟩ (fun j σ H' _ z=>?_) (fun j x σ H' hx z=>?_) (fun σ H' z=>?_)⟩
 ·obtain⟨o2,fv,rfl,s,_⟩:=z;exact(s.trans kK).seq hrl
 ·obtain⟨o2,fv,rfl,s,G,h1,h2⟩:=z;obtain⟨r,hr,rfl⟩:=vU hx;have hj:j<ls.length:=by rw[←hn];exact(η.mp hr).1
  obtain⟨l,hl⟩ : ∃l,ls[j]?=some l:=⟨_,π hj⟩;obtain⟨dx,hg⟩:=id G.o;obtain⟨o1,o2'⟩:=hok l (iq hl)
  by_cases hb:j<=b
  ·obtain rfl:=h1 hb;have em:min b j=j:=vq hb;rw[em]at G hg;have hlen:(stO (ls.take j) f').length<=100:=jh (oM _ _) (jh (mv _ _) (by omega));refine⟨_,rfl,g,ac,_,_,_,rfl,hg,aa.cl,aa.nd,rfl,rfl,_,rfl,fB ⟨_,rfl,g,dx,_,rfl,hg,rfl,_,rfl,g,wd,ol,ll,st,dxs,fs,(b:Int),ns,_,_,j,r,j,l,rfl,G,s _ _ hst,hfs,(hrow j r l hr hl).same s,o1,o2',hfw j,hlen,hns,fun hB t H2 s2 k2 G2=>?_,fun hB H2 s2 G2=>?_⟩⟩
   ·have hjb:b=j:=by omega
    subst hjb;exact⟨_,.ref t,rfl,s.trans s2,(by rw[tf (vi _)];exact G2),(fun z=>by omega),fun _=>⟨t,rfl,k2⟩⟩
   ·have hjb:j<b:=by omega
    have em2:min b (j+1)=j+1:=vq hjb;refine⟨_,.non,rfl,s.trans s2,?_,(fun _=>rfl),fun z=>by omega⟩;rw[em2,jk,hl];show Go6 ac H2 g wd ol ll st (b:Int) ns (stF (ls.take j++[l]) f') (stO (ls.take j++[l]) f') .non (j+1);rw[rB,rP];exact G2
  ·obtain⟨t,rfl,k⟩:=h2 (by omega);have em:min b j=b:=tf (by omega);have em2:min b (j+1)=b:=tf (by omega);rw[em]at G;refine⟨_,rfl,g,ac,_,_,_,rfl,hg,aa.cl,aa.nd,rfl,rfl,_,rfl,qR (by simp) ⟨_,.ref t,rfl,s,by rw[em2];exact G,(fun z=>by omega),fun _=>⟨t,rfl,k⟩⟩⟩
 ·obtain⟨o2,fv,rfl,s,G,h1,h2⟩:=z;rw[δ,hn]at G h1 h2;exact q fv H' s G h1 h2
theorem aAe{k:Nat}(F:Fun K "is_whole" "is_whole" fQ f fd):j0 ["thing"] spW1:=by
 w_cond aAf;obtain⟨v,rfl,q⟩:=h;refine⟨_,(jD (jL (yV (jR eQ rfl M.isinstance oh (jA (pv 0) (jA (aN (v:=.ty "int") rfl M.int boot_int rfl) jB))) (bA (aQw (jR eQ rfl M.isinstance oh (jA (pv 0) (jA (aN (v:=.ty "bool") rfl M.bool boot_bool rfl) jB)))))))),?_⟩;exact⟨_,rfl,.int v,_,"int",rfl,by decide,.inl rfl,_,rfl,vR rfl ⟨_,rfl,.int v,_,"int",rfl,by decide,.inl rfl,_,rfl,q⟩⟩
theorem tD(F:Fun K "is_between" "is_between" cS f fd)(gu:j3 "is_whole" spW1):j0 ["thing","low","high"] aIy:=by
 w_cond sP;obtain⟨v,lo,hi,rfl,h1,h2,q⟩:=h;refine⟨_,(jD (jL (yV (jK gu hr (jA (pv 0) jB)) (bA (aAp mQ mQ (pv 1) (pv 0) (pv 2)))))),?_⟩;refine⟨_,rfl,v,rfl,_,rfl,vR rfl ⟨_,rfl,_,rfl,_,_,rfl,rfl,_,rfl,vR (decide_eq_true h1) ⟨_,rfl,_,_,rfl,rfl,?_⟩⟩⟩;exact(congrArg (fun b=>Q (V.bl b) H) (decide_eq_true h2)).mpr q
theorem aDk(F:Fun K "is_word" "is_word" lH f fd)(bh:j3 "bound_of" spBo)(bu:j3 "is_between" aIy):j0 ["thing","width"] aOv:=by
 w_cond aEa;obtain⟨v,rfl,hw,q⟩:=h;refine⟨_,(jD (jL (jK bu hr (jA (pv 0) (jA jE (jA (jS bC (jK bh hr (jA (pv 1) jB)) jE) jB)))))),?_⟩;refine⟨_,rfl,_,rfl,rfl,_,_,rfl,rfl,v,0,_,rfl,hw.1,?_,q⟩;have:=hw.2;show v<=4294967296-1;omega
theorem lE{k:Nat}(F:Fun K "names" "Program.names" zH f fd):j0 ["self"] (aPw ai ae K):=by
 w_cond mG;obtain⟨p,ls,nm,rfl,⟨dx,rp,nd,v1,v2,rs,hp,_,hn,_⟩,q⟩:=h;refine⟨_,(jD (jL (qO iU rfl M.list boot_list (jA (jW (pv 0) rfl) jB)))),?_⟩;exact⟨_,rfl,p,ai,_,_,_,rfl,hp,aj.cl,aj.nd,rfl,nd,_,rfl,.inl hn,q⟩
theorem sT{k:Nat}(F:Fun K "__init__" "Going.__init__" cP f fd):j0 ["self","stock","words","budget"] (spI7 ac K):=by
 w_cond sQ;obtain⟨a,dx,st,wd,B,H1,rfl,hA,g,h0,q⟩:=h;refine⟨_,(jC (kR (pv 0) (pv 1) rfl) (jC (kR (pv 0) (pv 2) rfl) (jC (kR (pv 0) (pv 3) rfl) (jC (kR (pv 0) (qC jB) rfl) (jC (kR (pv 0) cT rfl) (jC (kR (pv 0) jE rfl) (jD (kR (pv 0) (qC jB) rfl)))))))),?_⟩;refine⟨_,rfl,_,rfl,a,ac,dx,[],rfl,hA,aa.cl,aa.nd,(by show 0<1000;decide),_,rfl,_,rfl,a,ac,dx,_,rfl,jI,aa.cl,aa.nd,(by show 1<1000;decide),_,rfl,_,rfl,a,ac,dx,_,rfl,jI,aa.cl,aa.nd,(by show 2<1000;decide),cK,fun ol hol=>?_⟩;rw[cB,cB]at hol ⊢;generalize eB:upd H a _=HB at hol ⊢;obtain⟨gB,kB⟩:=vV eB;have sB:jH H1 HB:=But.from g h0 gB;clear 1 ol H2 g2 k2 hol;have na:ol≠a:=fun z=>by rw[z,kB]at hol;cases hol
 refine⟨_,rfl,a,ac,dx,_,rfl,(g2 _ _ kB),aa.cl,aa.nd,(by show 3<1000;decide),_,rfl,a,ac,dx,_,rfl,jI,aa.cl,aa.nd,(by show 4<1000;decide),_,rfl,a,ac,dx,_,rfl,jI,aa.cl,aa.nd,(by show 5<1000;decide),cK,fun ll hll=>?_⟩;rw[cB,cB]at hll ⊢;generalize eC:upd H2 a _=HC at hll ⊢;obtain⟨gC,kC⟩:=vV eC;have sC:jH H1 HC:=But.from (sB.trans g2) h0 gC;clear 1 ll H3 g3 k3 hll;have nb:ll≠a:=fun z=>by rw[z,kC]at hll;cases hll
 have kol:HC ol=some (.lst []):=gC _ _ na k2;have nc:ll≠ol:=fun z=>by rw[z,kol]at hll;cases hll
 refine⟨_,rfl,a,ac,dx,_,rfl,(g3 _ _ kC),aa.cl,aa.nd,(by show 6<1000;decide),?_⟩;clear 0 a HD gD kD;exact q ol ll HD (But.from (sC.trans g3) h0 gD) (sB.free hol) na (gD _ _ na (g3 _ _ kol)) (sC.free hll) nb nc (gD _ _ nb k3) kD
theorem aBf{k:Nat}(F:Fun K "__init__" "Run.__init__" fN f fd):j0 ["self","outs","fault","done","lines"] (spI4 ar "outs" "fault" "done" "lines"):=by
 w_cond aCg;obtain⟨a,dx,v1,v2,v3,v4,H1,rfl,hA,g,h0,q⟩:=h;refine⟨_,(jC (kR (pv 0) (pv 1) rfl) (jC (kR (pv 0) (pv 2) rfl) (jC (kR (pv 0) (pv 3) rfl) (jD (kR (pv 0) (pv 4) rfl))))),?_⟩;exact⟨_,rfl,_,rfl,a,ar,dx,[],rfl,hA,ao.cl,ao.nd,by decide,_,rfl,_,rfl,a,ar,dx,_,rfl,jI,ao.cl,ao.nd,(by show 1<1000;decide),_,rfl,_,rfl,a,ar,dx,_,rfl,jI,ao.cl,ao.nd,(by show 2<1000;decide),_,rfl,_,rfl,a,ar,dx,_,rfl,jI,ao.cl,ao.nd,(by show 3<1000;decide),q _ ((((g.putn h0).putn h0).putn h0).putn h0) jI⟩
theorem sZ{k:Nat}(F:Fun K "__init__" "Store.__init__" cN f fd):j0 ["self","shapes","most"] (aOy ah):=by
 w_cond sW;obtain⟨a,dx,v,m,H1,rfl,hA,g,h0,q⟩:=h;refine⟨_,(jC (kR (pv 0) (pv 1) rfl) (jC (kR (pv 0) (qC jB) rfl) (jD (kR (pv 0) (pv 2) rfl)))),?_⟩;refine⟨_,rfl,_,rfl,a,ah,dx,[],rfl,hA,ak.cl,ak.nd,by decide,cK,fun l hl=>?_⟩;generalize eB:upd H a _=HB at hl ⊢;obtain⟨gB,kB⟩:=vV eB;have sB:jH H1 HB:=But.from g h0 gB;clear 1 l H2 g2 k2 hl;have na:l≠a:=fun z=>by rw[z,kB]at hl;cases hl
 refine⟨_,rfl,a,ah,dx,_,rfl,g2 _ _ kB,ak.cl,ak.nd,(by show 1<1000;decide),_,rfl,_,rfl,a,ah,dx,_,rfl,jI,ak.cl,ak.nd,(by show 2<1000;decide),?_⟩;rw[cB];clear 0 a HD gD kD;exact q l HD (But.from (sB.trans g2) h0 gD) (gD _ _ na k2) kD
theorem mY{k:Nat}(F:Fun K "need_records" "need_records" zO f fd):j0 ["shapes","most","things"] aOl:=by
 w_cond nV;obtain⟨v,l,rfl,hl,q⟩:=h;refine⟨_,(jC (jZ (PW.pt (fC (xT (vP (jR eQ rfl M.isinstance oh (jA (pv 2) (jA (aN (v:=.ty "list") rfl M.list boot_list rfl) jB))))) (bV (jP dU (jR jX rfl M.len jt (jA (pv 2) jB)) (pv 1))))) (jD kF) jM) (jD (jZ (xT (vP (jR (iF rfl) rfl M.all boot_all (jA (qW ["thing"] ["shapes"] [0] rfl (qS (pv 2)) rfl ⟨rfl,trivial⟩ ⟨⟨rfl,rfl,rfl,_,rfl⟩,trivial⟩ (fun _ _ _ _=>(qN rfl)) (fun _ _ _ _=>qI) (fun _ _ _ _=>aFj)) jB)))) (jD kF) jM))),?_⟩;refine⟨_,rfl,.ref l,_,"list",rfl,by decide,.inl (.inl ⟨rfl,_,SqL.of hl⟩),_,rfl,qP ⟨_,rfl,l,_,rfl,.inl (SqL.of hl),_,rfl,_,_,rfl,rfl,_,rfl,qP ?_⟩⟩;refine⟨_,rfl,l,rfl,⟨_,SqL.of hl⟩,vI (xs:=[]) (fun j ys H'=>H'=H/\ys=[]) ⟨rfl,rfl⟩ (fun j ys H' _ z=>⟨by rw[z.1];exact SqL.of hl,by rw[z.2];exact jg _⟩) (by decide) (fun j x ys H' hx z=>by simp at hx) (fun ys H' z p hp=>?_)⟩;obtain⟨e',rfl⟩:=z;subst e';clear 1 p H2 g2 k2 hp;exact⟨p,[],rfl,SqL.of k2,_,rfl,qP (q H2 g2)⟩
theorem lT{k:Nat}(F:Fun K "records" "Plain.records" zC f fd):j0 ["self"] (aPv ah):=by
 w_cond mI;obtain⟨a,dx,v1,v2,v3,l,rfl,hA,hl,q⟩:=h;refine⟨_,(jD (jL (qW ["record"] [] [] rfl (qS (jW (pv 0) rfl)) rfl trivial trivial (fun _ _ _ _=>(qN rfl)) (fun _ _ _ _=>qI) (fun _ _ _ _=>aFj)))),?_⟩;refine⟨_,rfl,a,ah,_,_,_,rfl,hA,ak.cl,ak.nd,rfl,l,rfl,⟨_,SqL.of hl⟩,vI (xs:=[]) (fun j ys H'=>H'=H/\ys=[]) ⟨rfl,rfl⟩ (fun j ys H' _ z=>⟨by rw[z.1];exact SqL.of hl,by rw[z.2];exact jg _⟩) (by decide) (fun j x ys H' hx z=>by simp at hx) (fun ys H' z p hp=>?_)⟩;obtain⟨e',rfl⟩:=z;subst e';exact q p hp
theorem tE(F:Fun K "__init__" "Plain.__init__" cD f fd)(gf:TB K mg "Store" ba cg)(fj:DfI K ce ["self","shapes","most"])(fk:jU P w K mg base CX0 k cg ce ["self","shapes","most"] (aOy ah))(du:j3 "need_records" aOl):j0 ["self","shapes","most","records"] (aPi ah):=by
 w_cond sF;obtain⟨a,dx,v,l,H1,rfl,hA,g,h0,hl,q⟩:=h;refine⟨_,(jC (qQ (aIv gf.i (kL (v:=.ref ba) rfl gf.m rfl) fk hr fj.b .nil qH (jA (pv 0) (jA (pv 1) (jA (pv 2) jB))))) (jC (qQ (jK du hr (jA (pv 1) (jA (pv 2) (jA (pv 3) jB))))) (jD (kR (pv 0) (qW ["record"] [] [] rfl (qS (pv 3)) rfl trivial trivial (fun _ _ _ _=>(qN rfl)) (fun _ _ _ _=>qI) (fun _ _ _ _=>aFj)) rfl)))),?_⟩;refine⟨_,rfl,_,rfl,_,rfl,a,dx,v,.int 1,H1,rfl,hA,g,h0,fun lk H2 s2 k2 kA=>?_⟩;have hl2:=s2 _ _ hl;refine⟨_,rfl,_,rfl,_,rfl,v,l,rfl,hl2,fun H3 g3=>?_⟩;have hl3:=g3 _ _ hl2;refine⟨_,rfl,l,rfl,⟨_,SqL.of hl3⟩,vI (xs:=[]) (fun j ys H'=>H'=H3/\ys=[]) ⟨rfl,rfl⟩ (fun j ys H' _ z=>⟨by rw[z.1];exact SqL.of hl3,by rw[z.2];exact jg _⟩) (by decide) (fun j x ys H' hx z=>by simp at hx) (fun ys H' z p hp=>?_)⟩;obtain⟨e',rfl⟩:=z;subst e';clear 1 p H4 g4 k4 hp;have kA4:=g4 _ _ (g3 _ _ kA);have np:p≠a:=fun z=>by rw[z,g3 _ _ kA]at hp;cases hp
 have nl:lk≠a:=fun z=>by rw[z,kA]at k2;cases k2
 refine⟨_,rfl,a,ah,dx,_,rfl,kA4,ak.cl,ak.nd,(by show 3<1000;decide),?_⟩;clear 0 a HD gD kD;exact q lk p HD (But.from ((s2.trans g3).trans g4) h0 gD) (gD _ _ nl (g4 _ _ (g3 _ _ k2))) (gD _ _ np k4) kD
theorem pH(F:Fun K "need_inputs" "need_inputs" aQ f fd)(ic:j3 "is_word" aOv):j0 ["names","inputs"] (aPk K):=by
 w_cond yG;obtain⟨nl,di,nm,ks,fi,rfl,hn,hd,hsub,hw,hk12,hn12,q⟩:=h;refine⟨_,(jC (eL (i:=2) ["key"] [] [] yG.nd rfl rfl rfl (aAj (pv 1)) rfl trivial trivial (fun _ _ _ _=>(qN rfl)) (fun _ _ _ _=>(oP (vP (jR (tF (K:=K) rfl) rfl M.isinstance oh (jA (pv 0) (jA (aN (v:=.ty "str") rfl M.str boot_str rfl) jB)))))) (fun _ _ _ _=>(pv 0))) (jC (eL (i:=3) ["key"] [] [] yG.nd rfl rfl rfl (aAj (pv 1)) rfl trivial trivial (fun _ _ _ _=>(qN rfl)) (fun _ _ _ _=>(oP (xT (vP (jR (tF (K:=K) rfl) rfl M.isinstance oh (jA (pv 0) (jA (aN (v:=.ty "str") rfl M.str boot_str rfl) jB))))))) (fun _ _ _ _=>(pv 0))) (jD (yO lf rfl (qS (jS oQ (pv 3) (jR uH rfl M.sorted (show om "sorted" = some (.builtin "sorted") from by ac_rfl) (jA (pv 2) jB)))) (qJ 4 yG.nd) (jD (jZ (PW.pt (fC (vF xD (pv 4) (pv 0) (by with_unfolding_all rfl)) (bV (xT (vP (jK ic hr (jA (xE hr.units1 (pv 1) (pv 4) (fun _ _=>rfl)) (jA (kL (v:=.int 4) rfl C.WORD_CELLS ⟨_,rfl⟩) jB)))))))) (jD kF) jM)))))),?_⟩;rcases id hd with h0|⟨o,h0⟩
 ·refine⟨_,rfl,di,_,rfl,.inl ⟨h0,fun o=>?_⟩⟩;clear 0 di H1 g1 kd;refine bN (fun j ys H'=>H'=H1/\ys=(ks.take j).map V.str) ⟨rfl,rfl⟩ (fun j ys H' _ z=>⟨by rw[z.1];exact kd,by rw[z.2,δ];exact mv _ _⟩) (by rw[dA,jc];omega) (fun j kv ys H' hkv z=>?_) (fun ys H' z tx htx=>?_)
  ·obtain⟨rfl,rfl⟩:=z;obtain⟨x,hx,rfl⟩:=aFt hkv;exact⟨_,rfl,_,_,"str",rfl,by decide,rfl,_,rfl,vR rfl ⟨_,rfl,⟨rfl,by rw[jk,hx,Θ];rfl⟩,_,rfl⟩⟩
  obtain⟨e',rfl⟩:=z;have e':=e'.symm;subst e';rw[dA,qc];clear 1 tx H2 g2 k2 htx;refine⟨_,rfl,di,_,rfl,.inr ⟨o,g2 _ _ kd,bN (fun j ys H3=>H3=H2/\ys=[]) ⟨rfl,rfl⟩ (fun j ys H3 _ z=>⟨by rw[z.1];exact g2 _ _ kd,by rw[z.2];exact jg _⟩) (by rw[dA,jc];omega) (fun j kv ys H3 hkv z=>?_) (fun ys H3 z ot hot=>?_)⟩⟩
  ·obtain⟨rfl,rfl⟩:=z;obtain⟨x,hx,rfl⟩:=aFt hkv;exact⟨_,rfl,_,_,"str",rfl,by decide,rfl,_,rfl,qP ⟨⟨rfl,rfl⟩,_,rfl⟩⟩
  obtain⟨e',rfl⟩:=z;subst e';clear 1 ot H4 g4 k4 hot;refine⟨_,rfl,_,rfl,tx,ks,rfl,SqL.of (g4 _ _ k2),(by omega),fun l ss hp hl=>?_⟩;clear 1 l H5 g5 k5 hl;refine⟨ot,l,_,_,rfl,rfl,SqL.of (g5 _ _ k4),SqL.of k5,(by rw[δ,hp.length_eq,jc];show 0+_<=_;omega),fun pq hpq=>?_⟩;clear 1 pq H6 g6 k6 hpq;have s26:jH H3 H6:=(g4.trans g5).trans g6;have kd6:H6 di=some (.frz o (.dK (dW ks fi))):=s26 _ _ (g2 _ _ kd);have gB:But di H H6:=g1.trans (But.of (g2.trans s26));have hn6:=But.sq gB hd hn;refine⟨pq,rfl,⟨_,SqL.of k6⟩,yA (xs:=ss.map V.str) (fun _ σ H7=>∃o4,σ = [some (.ref nl),some (.ref di),some (.ref tx),some (.ref ot),o4]/\H7=H6) ⟨_,rfl,rfl⟩ (fun j σ H7 _ z=>by obtain⟨_,_,rfl⟩:=z;exact SqL.of k6) (fun j x σ H7 hx z=>?_) (fun σ H7 z=>?_)⟩
  ·obtain⟨o4,rfl,rfl⟩:=z;obtain⟨y,hy,rfl⟩:=qE hx;have hyk:y∈ks:=hp.subset (iq hy);refine⟨_,rfl,_,rfl,nl,_,rfl,.inl hn6,rfl,qF _,_,rfl,?_⟩;rw[if_pos rfl,qK];refine qR (by rw[decide_eq_true (hsub y hyk)];decide) ⟨_,rfl,_,rfl,di,.int (fi y),rfl,(by rw[←aS hyk];exact dJ (k:=jj y) kd6),fi y,rfl,hw y,_,rfl,qP ⟨_,rfl,rfl⟩⟩
  ·obtain⟨o4,rfl,rfl⟩:=z;exact q _ gB (.inr ⟨o,kd6⟩)
 ·refine⟨_,rfl,di,_,rfl,.inr ⟨o,h0,?_⟩⟩;have g1:But di H H:=But.refl;have kd:=h0;refine bN (fun j ys H'=>H'=H/\ys=(ks.take j).map V.str) ⟨rfl,rfl⟩ (fun j ys H' _ z=>⟨by rw[z.1];exact kd,by rw[z.2,δ];exact mv _ _⟩) (by rw[dA,jc];omega) (fun j kv ys H' hkv z=>?_) (fun ys H' z tx htx=>?_)
  ·obtain⟨rfl,rfl⟩:=z;obtain⟨x,hx,rfl⟩:=aFt hkv;exact⟨_,rfl,_,_,"str",rfl,by decide,rfl,_,rfl,vR rfl ⟨_,rfl,⟨rfl,by rw[jk,hx,Θ];rfl⟩,_,rfl⟩⟩
  obtain⟨e',rfl⟩:=z;have e':=e'.symm;subst e';rw[dA,qc];clear 1 tx H2 g2 k2 htx;refine⟨_,rfl,di,_,rfl,.inr ⟨o,g2 _ _ kd,bN (fun j ys H3=>H3=H2/\ys=[]) ⟨rfl,rfl⟩ (fun j ys H3 _ z=>⟨by rw[z.1];exact g2 _ _ kd,by rw[z.2];exact jg _⟩) (by rw[dA,jc];omega) (fun j kv ys H3 hkv z=>?_) (fun ys H3 z ot hot=>?_)⟩⟩
  ·obtain⟨rfl,rfl⟩:=z;obtain⟨x,hx,rfl⟩:=aFt hkv;exact⟨_,rfl,_,_,"str",rfl,by decide,rfl,_,rfl,qP ⟨⟨rfl,rfl⟩,_,rfl⟩⟩
  obtain⟨e',rfl⟩:=z;subst e';clear 1 ot H4 g4 k4 hot;refine⟨_,rfl,_,rfl,tx,ks,rfl,SqL.of (g4 _ _ k2),(by omega),fun l ss hp hl=>?_⟩;clear 1 l H5 g5 k5 hl;refine⟨ot,l,_,_,rfl,rfl,SqL.of (g5 _ _ k4),SqL.of k5,(by rw[δ,hp.length_eq,jc];show 0+_<=_;omega),fun pq hpq=>?_⟩;clear 1 pq H6 g6 k6 hpq;have s26:jH H3 H6:=(g4.trans g5).trans g6;have kd6:H6 di=some (.frz o (.dK (dW ks fi))):=s26 _ _ (g2 _ _ kd);have gB:But di H H6:=g1.trans (But.of (g2.trans s26));have hn6:=But.sq gB hd hn;refine⟨pq,rfl,⟨_,SqL.of k6⟩,yA (xs:=ss.map V.str) (fun _ σ H7=>∃o4,σ = [some (.ref nl),some (.ref di),some (.ref tx),some (.ref ot),o4]/\H7=H6) ⟨_,rfl,rfl⟩ (fun j σ H7 _ z=>by obtain⟨_,_,rfl⟩:=z;exact SqL.of k6) (fun j x σ H7 hx z=>?_) (fun σ H7 z=>?_)⟩
  ·obtain⟨o4,rfl,rfl⟩:=z;obtain⟨y,hy,rfl⟩:=qE hx;have hyk:y∈ks:=hp.subset (iq hy);refine⟨_,rfl,_,rfl,nl,_,rfl,.inl hn6,rfl,qF _,_,rfl,?_⟩;rw[if_pos rfl,qK];refine qR (by rw[decide_eq_true (hsub y hyk)];decide) ⟨_,rfl,_,rfl,di,.int (fi y),rfl,(by rw[←aS hyk];exact dJ (k:=jj y) kd6),fi y,rfl,hw y,_,rfl,qP ⟨_,rfl,rfl⟩⟩
  ·obtain⟨o4,rfl,rfl⟩:=z;exact q _ gB (.inr ⟨o,kd6⟩)
theorem aQy(F:Fun K "run" "run" aKk f fd)(cy:j4 ai "names" (aPw ai ae K))(et:j3 "need_inputs" (aPk K))(bu:j3 "is_between" aIy)(fq:j5 bc (spI7 ac K))(cz:j4 ac "do_rows" (spDs ac ae ah K))(gv:j5 bq (spI4 ar "outs" "fault" "done" "lines")):j0 ["program","store","inputs","budget"] (aPg ai ae ah ar K):=by
 w_cond aDf;obtain⟨p,st,di,dxs,fs,b,ls,nm,ks,fi,rfl,hP,hst,hfs,hd,hnd,hsub,hw,hk12,hn12,hok,hls,hb,q⟩:=h;refine⟨_,(jC (jQ 4 aDf.nd (xQ (pv 0) aj.cl cy hr qH)) (jC (qQ (jK et hr (jA (pv 4) (jA (pv 2) jB)))) (jC (jZ (xT (vP (jK bu hr (jA (pv 3) (jA jE (jA (kL (v:=.int 5000) rfl C.MOST_BUDGET ⟨_,rfl⟩) jB)))))) (jD kF) jM) (jC (jQ 5 aDf.nd (yK aa fq hr0 rfl qH (jA (pv 1) (jA (aBk ["name"] ["inputs"] [2] rfl (qS (pv 4)) rfl ⟨rfl,trivial⟩ ⟨⟨rfl,rfl,rfl,_,rfl⟩,trivial⟩ (fun _ _ _ _=>(qN rfl)) (fun _ _ _ _=>qI) (fun _ _ _ _=>(pv 0)) (fun _ _ _ _=>(rM hr.units1 (pv 1) (pv 0) jE ⟨rfl,rfl,rfl,rfl⟩))) (jA (pv 3) jB))))) (jC (qQ (lX (pv 5) aa.cl cz hr qH (jA (jW (pv 0) rfl) jB))) (jD (jL (yK ao gv hr0 rfl qH (jA (jW (pv 5) rfl) (jA (jW (pv 5) rfl) (jA (jW (pv 5) rfl) (jA (jW (pv 5) rfl) jB)))))))))))),?_⟩;refine⟨_,rfl,p,_,_,rfl,hP.choose_spec.choose_spec.choose_spec.choose_spec.choose_spec.choose_spec.1,rfl,p,ls,nm,rfl,hP,fun nl hnl=>?_⟩;generalize e1:upd H nl _=H1;obtain⟨g1,k1⟩:=qG e1 hnl;have hd1:Rd H1 di (.dK (dW ks fi)):=hd.imp (g1 _ _) fun ⟨o,z⟩=>⟨o,g1 _ _ z⟩;refine⟨_,rfl,_,rfl,nl,di,nm,ks,fi,rfl,SqL.of k1,hd1,hsub,hw,hk12,hn12,fun H2 g2 hd2=>?_⟩;refine⟨_,rfl,(b:Int),0,5000,rfl,(by omega),(by omega),_,rfl,qP ?_⟩;have nd:nl≠di:=fun z=>by rw[z]at k1;rcases hd1 with h|⟨o,h⟩ <;> rw[k1]at h <;> cases h
 have k2:=g2 _ _ nd k1;obtain⟨dxp,rp,ndp,v1,v2,rs,hp,hrp,_,hrl,hrw⟩:=id hP;have dne:∀{a:Addr}{o:HO},H a=some o->(∀kvs,o≠.dK kvs)->(∀o' u,o≠.frz o' u)->H2 a=some o:=fun {a o} e z1 z2=>g2 _ _ (fun z=>by rw[z]at e;rcases hd with h|⟨o',h⟩ <;> rw[e]at h <;> cases h;exact z1 _ rfl;exact z2 _ _ rfl) (g1 _ _ e);have hst2:=dne hst (fun _ z=>by cases z) (fun _ _ z=>by cases z);refine⟨_,rfl,_,rfl,nl,rfl,⟨_,SqL.of k2⟩,pE (xs:=nm.map V.str) (fun D j ys H'=>jH H2 H'/\H2 D=none/\H' D=some (.dK ys)/\ys=dW (nm.take j) (inF ks fi)) (fun D hD=>⟨(jH.refl H2).putn hD,hD,jI,rfl⟩) (fun D j ys H' _ z=>z.1.seq (SqL.of k2)) (fun D j x ys H' hx z=>?_) (fun D ys H3 z=>?_)⟩
 ·obtain⟨gs,hD,kD,rfl⟩:=z;obtain⟨y,hy,rfl⟩:=qE hx;have hd':=iC hd2 gs;refine⟨_,rfl,_,rfl,di,rfl,.inl ⟨_,hd'⟩,_,rfl,_,.inl ⟨_,.inr y,hd',rfl,rfl⟩,.inr y,rfl,kD,(by rw[dA,jc,ji];omega),⟨gs.putn hD,hD,jI,?_⟩,_,rfl⟩;rw[aEz,uR (aEc hnd hy),jk,hy];rfl
 obtain⟨g3,hD,kD,rfl⟩:=z;rw[δ,qc]at kD;refine⟨_,rfl,fun y dy hy hdy _=>⟨y,dy,st,D,(b:Int),H3,rfl,jI,aO hy hdy,hy,fun ol ll H4 s4 f1 n1 ko f2 n2 n3 kl kg=>⟨rfl,?_⟩⟩⟩;have s24:jH H2 H4:=g3.trans s4;have nDy:D≠y:=fun z=>by rw[z,hy]at kD;cases kD
 have nDo:D≠ol:=fun z=>by rw[z,f1]at kD;cases kD
 have nDl:ll≠D:=fun z=>by rw[z,kD]at f2;cases f2
 have fr:∀c∈[y,D,ol],H2 c=none:=fun c hc=>by
  rcases ο.mp hc with rfl|hc
  ·exact g3.free hy
  rcases ο.mp hc with rfl|hc
  ·exact hD
  rw[Δ.mp hc];exact g3.free f1
 have sO:jH H2 (offs [y,D,ol] H4):=aHe fr s24;have tw:∀{a:Addr}{i:Nat}{x:L6},fE ae K H a i x->fE ae K H2 a i x:=fun ⟨dx,ra,sa,h1,h2,h3⟩=>⟨dx,ra,sa,dne h1 (fun _ z=>by cases z) (fun _ _ z=>by cases z),But.sq g2 hd1 (g1.seq h2),But.sq g2 hd1 (g1.seq h3)⟩;have hp4:=s24 _ _ (dne hp (fun _ z=>by cases z) (fun _ _ z=>by cases z));have G4:Go6 ac H4 y D ol ll st (b:Int) nm (inF ks fi) [] .non 0:=⟨⟨dy,kg⟩,s4 _ _ kD,ko⟩;have kl4:offs [y,D,ol] H4 ll=some (.lst []):=xH (fun z=>by
  rcases ο.mp z with e|z
  ·exact n2 e
  rcases ο.mp z with e|z
  ·exact nDl e
  exact n3 (Δ.mp z)) kl
 refine⟨_,rfl,y,dy,_,rfl,kg,rfl,_,rfl,p,ai,_,_,_,rfl,hp4,aj.cl,aj.nd,rfl,y,D,ol,ll,st,dxs,fs,b,nm,inF ks fi,rp,rs,ls,rfl,G4,sO _ _ hst2,hfs,sO.seq (But.sq g2 hd1 (g1.seq hrp)),hrl,(fun i a x e1 e2=>(tw (hrw i a x e1 e2)).same sO),hok,aPm hw,hn12,hls,fun fv H5 s5 G5 h1 h2=>?_⟩;obtain⟨dg,hg⟩:=id G5.o;have s25:jH H2 H5:=(sO.trans s5).trans kK;refine⟨_,rfl,y,ac,_,_,_,rfl,hg,aa.cl,aa.nd,rfl,_,rfl,y,ac,_,_,_,rfl,hg,aa.cl,aa.nd,rfl,_,rfl,y,ac,_,_,_,rfl,hg,aa.cl,aa.nd,rfl,_,rfl,y,ac,_,_,_,rfl,hg,aa.cl,aa.nd,rfl,fun r dr hr5 hdr _=>⟨r,dr,_,_,_,_,H5,rfl,jI,aO hr5 hdr,hr5,fun H6 s6 k6=>⟨rfl,?_⟩⟩⟩;have s26:=s25.trans s6;refine q r dr ol ll fv H6 ((But.of g1).trans (But.trans g2 (But.of s26))) (iC hd2 s26) k6 ?_ (s6 _ _ G5.l) (s6 _ _ (kK _ _ (s5 _ _ kl4))) h1 fun z=>?_
 ·have fo:=g3.free f1;cases e:H ol with
  |none=>rfl
  |some o =>
   by_cases n:ol=di
   ·rw[n]at fo;rcases hd2 with h|⟨o',h⟩ <;> rw[fo]at h <;> cases h
   ·have:=g2 _ _ n (g1 _ _ e);rw[fo]at this;cases this
 ·obtain⟨t,e,k⟩:=h2 z;exact⟨t,e,s6 _ _ (kK _ _ k)⟩
theorem sJ(F:Fun K "_law_number" "_law_number" cJ f fd)(ap:j3 "_law_take" uM):j0 ["_law_box_here"] spNb:=by
 w_cond bD;obtain⟨p,rfl,h3,q⟩:=h;refine⟨_,(PSx.h (kO (qT (jQ 1 bD.nd (jS aDd jE jE))) (kO (aGg (i:=2) bD.nd rfl rfl (wW (qL (qV jE) (qL (qV jE) (qL (qV jE) (qL (qV jE) (qL (qV (jS wN (pv 1) jE)) (qL (qV (jS bC (pv 1) jE)) uQ dI) dI) yS) yS) yS) yS) (qV (jK ap hr (jA (pv 0) (jA jE jB)))) (fun _ _=>rfl))) (yQ (bR (qV (jS yW (jS vD (pv 2) (jV jO (qC (jA jE (jA jE (jA (jS bC (pv 1) jE) (jA (jK ap hr (jA (pv 0) (jA (pv 1) jB))) jB))))) (jK ap hr (jA (pv 0) (jA jE jB))))) (pv 1)))))))),?_⟩;refine⟨_,_,rfl,rfl,⟨by decide,by decide,by decide⟩,?_⟩;have e0:((256:Int) ^ (4:Int).toNat)=4294967296:=rfl;refine⟨_,rfl,_,_,rfl,rfl,⟨by decide,by decide⟩,_,rfl,_,_,rfl,rfl,(by show 6<=ξ;decide),fun l hl=>?_⟩;clear 1 l H1 g1 k1 hl;have d1:Drawn p H H1:=(Drawn.refl h3).keep g1;have nl:l≠p:=fun z=>by obtain⟨x,y,u,e⟩:=h3;rw[←z,hl]at e;cases e
 refine⟨_,rfl,p,6,rfl,by decide,by decide,d1.1,fun v H2 hv d2=>?_⟩;obtain⟨u,hu,hu2⟩ : ∃u:Nat,([.int 0,.int 1,.int 256,.int 65536,.int (4294967296 / 2),.int (4294967296-1)]:List V)[v]?=some (.int (u:Int))/\u<4294967296:=by
  match v,hv with
  |0,_=>exact⟨0,rfl,by decide⟩
  |1,_=>exact⟨1,rfl,by decide⟩
  |2,_=>exact⟨256,rfl,by decide⟩
  |3,_=>exact⟨65536,rfl,by decide⟩
  |4,_=>exact⟨2147483648,rfl,by decide⟩
  |5,_=>exact⟨4294967295,rfl,by decide⟩
  |n+6,h=>omega
 refine⟨l,_,_,_,rfl,rfl,SqL.of (d2.2 _ _ nl k1),yE hu,?_⟩;have d12:=d1.trans d2;refine⟨_,rfl,_,rfl,_,_,rfl,rfl,_,rfl,_,rfl,p,4294967296,rfl,by decide,by decide,d12.1,fun v2 H3 hv2 d3=>⟨aIr,fun l2 hl2=>?_⟩⟩;clear 1 l2 H4 g4 k4 hl2;have d13:=d12.trans d3;have nl2:l2≠p:=fun z=>by obtain⟨x,y,u,e⟩:=d13.1;rw[←z,hl2]at e;cases e
 have d14:=d13.keep g4;refine⟨_,rfl,p,4,rfl,by decide,by decide,d14.1,fun v5 H5 hv5 d5=>?_⟩;obtain⟨u',hu'⟩ : ∃u':Nat,([.int 0,.int 1,.int (4294967296-1),.int (v2:Int)]:List V)[v5]?=some (.int (u':Int)):=by
  match v5,hv5 with
  |0,_=>exact⟨0,rfl⟩
  |1,_=>exact⟨1,rfl⟩
  |2,_=>exact⟨4294967295,rfl⟩
  |3,_=>exact⟨v2,rfl⟩
  |n+4,h=>omega
 refine⟨l2,_,_,_,rfl,rfl,SqL.of (d5.2 _ _ nl2 k4),yE hu',_,_,rfl,rfl,_,rfl,_,_,rfl,rfl,(show(0:Int)<4294967296 by decide),?_⟩;have:=q ((u+u') % 4294967296) H5 (Nat.mod_lt _ (by decide)) (d14.trans d5);rw[Int.natCast_emod,Int.natCast_add]at this;exact this
theorem aAz(F:Fun K "_law_line" "_law_line" fD f fd)(ap:j3 "_law_take" uM)(bv:j3 "_law_number" spNb):j0 ["_law_box_here","_law_pool"] (aPu K):=by
 w_cond xW;obtain⟨p,na,ns,rfl,h3,hna,hn4,hnT,q⟩:=h;refine⟨_,(PSx.h (kO (qT (lN (qW ["_law_k"] ["_law_pool","_law_box_here"] [1,0] rfl (eI rfl M.range (jA jE jB)) rfl ⟨rfl,⟨rfl,trivial⟩⟩ ⟨⟨rfl,rfl,rfl,_,rfl⟩,⟨⟨rfl,rfl,rfl,_,rfl⟩,trivial⟩⟩ (fun _ _ _ _=>(qN rfl)) (fun _ _ _ _=>qI) (fun _ _ _ _=>(jV (aJe K rfl) (pv 1) (jK ap hr (jA (pv 2) (jA jE jB)))))) (aSi rfl (kI (qJ 2 xW.nd) (kI (qJ 3 xW.nd) (kI (qJ 4 xW.nd) vO)))))) (kO (qT (jQ 5 xW.nd (jK ap hr (jA (pv 0) (jA jE jB))))) (kO (nY (jP aAr (pv 5) jE) (yQ (bR (qV (yJ oq PySem.F.slot_str_join PySem.F.type_str_join aAh jN (jA (qC (jA (pv 2) (jA jN (jA (pv 3) (jA (jV aCl jN (pv 5)) (jA (pv 4) jB zL) aSf) zL) yS) zL)) jB))))) jM) (kO (qT (jQ 6 xW.nd (qO wI rfl M.str boot_str (jA (jK bv hr (jA (pv 0) jB)) jB)))) (yQ (bR (wW (qL (qV (jS vQ (jS vQ (pv 2) jN) (pv 6))) (qL (qV (jS vQ (jS vQ (pv 2) jN) (pv 6))) (qL (qV (jS vQ (jS vQ (pv 2) jN) (pv 3))) (qL (qV (jS vQ jN (pv 2))) uQ dI) dI) dI) dI) (qV (jS yW (pv 5) jE)) (fun _ _=>rfl))))))))),?_⟩;have npn:na≠p:=fun z=>by
  obtain⟨x,y,w',e⟩:=h3;rw[←z,hna]at e;cases ns with
  |nil=>cases hn4
  |cons n ns=>cases e
 refine⟨3,rfl,by decide,by decide,fV (n:=3) (fun j ys H'=>Drawn p H H'/\∃ws:List Str,ys=ws.map V.str/\ws.length=j/\∀w∈ws,w∈ns) ⟨Drawn.refl h3,[],rfl,rfl,fun w h=>by cases h⟩ (fun j ys H' _ z=>?_) (by decide) (fun j ys H' hj z=>?_) (fun ys H' z l hl=>?_)⟩
 ·obtain⟨_,ws,rfl,hl,_⟩:=z;rw[δ];omega
 ·obtain⟨d,ws,rfl,hl,hw⟩:=z;refine⟨_,rfl,_,rfl,p,4,rfl,by decide,by decide,d.1,fun v H2 hv d2=>?_⟩;obtain⟨n,hat⟩ : ∃n,ns[v]?=some n:=⟨_,π (by omega)⟩;exact⟨na,_,_,_,rfl,rfl,SqL.of (d2.2 _ _ npn (d.2 _ _ npn hna)),yE (by rw[jv,hat];rfl),⟨d.trans d2,ws++[n],by rw[Θ];rfl,by rw[θ,hl];rfl,fun w h=>by
   rcases lq.mp h with h|h
   ·exact hw w h
   ·rw[Δ.mp h];exact iq hat⟩,_,rfl⟩
 obtain⟨d,ws,rfl,hwl,hw⟩:=z
 match ws,hwl with
 |[a,b,c],_ =>
 clear 1 l H1 g1 k1 hl;have ha:=hw a (by simp);have hb:=hw b (by simp);have hc:=hw c (by simp);have la:=(xS (hnT a ha)).l;have lb:=(xS (hnT b hb)).l;have lc:=(xS (hnT c hc)).l;have d1:=d.keep g1;refine⟨l,_,rfl,SqL.of k1,rfl,_,_,rfl,_,_,rfl,_,_,rfl,rfl,?_⟩;refine⟨_,rfl,p,12,rfl,by decide,by decide,d1.1,fun v H2 hv d2=>?_⟩;have d12:=d1.trans d2;refine⟨_,rfl,_,_,rfl,rfl,_,rfl,?_⟩;refine vL (fun c6=>?_) (fun c6=>?_)
 ·have c6':=of_decide_eq_true c6;obtain⟨s,hs,hsl⟩:=aQs (v:=v) (by omega);refine⟨rfl,_,rfl,_,rfl,_,rfl,_,_,_,rfl,rfl,(by decide),yE hs,_,rfl,aKz,fun o ho=>?_⟩;clear 1 o H3 g3 k3 ho;refine⟨_,o,[a,"=",b,⟨#[s]⟩,c],rfl,rfl,SqL.of k3,(by have:=(aLe hsl).l;simp only[List.map,ue,List.sum_nil,List.length];show a.length+(1+(b.length+((⟨#[s]⟩ : Str).length+(c.length+0))))+5*1<=_;omega),?_⟩;exact q (.op a b c ⟨#[s]⟩) H3 ⟨hnT a ha,hnT b hb,hnT c hc,hsl⟩ ⟨ha,hb,hc,hsl⟩ (d12.keep g3)
 ·refine⟨_,rfl,p,rfl,d12.1,fun n H3 hn d3=>?_⟩;have ln:=gY hn;have c1:(ζ " = ").length=3:=rfl;have c2:(ζ "out ").length=4:=rfl;have d13:=d12.trans d3;refine⟨(n:Int),rfl,?_,?_⟩
  ·exact Nat.lt_trans (oS (by omega)) (by decide)
  show _;have ln':(ζ (toString (n:Int))).length<=10:=ln;refine⟨_,rfl,_,_,rfl,rfl,(by simp only[len_app,jc];omega),_,rfl,_,_,rfl,rfl,(by simp only[len_app,jc];omega),_,rfl,_,_,rfl,rfl,(by simp only[len_app,jc];omega),_,rfl,_,_,rfl,rfl,(by simp only[len_app,jc];omega),_,rfl,_,_,rfl,rfl,(by simp only[len_app,jc];omega),_,rfl,_,_,rfl,rfl,(by simp only[len_app,jc];omega),_,rfl,_,_,rfl,rfl,(by simp only[len_app,jc];omega),aIr,fun o ho=>?_⟩;clear 1 o H4 g4 k4 ho;obtain⟨l,hl,hat⟩:=aMz (a:=a) (b:=b) (n:=n) ha hb hn (v % 4) (Nat.mod_lt _ (by decide));refine⟨_,rfl,_,_,rfl,rfl,(show(0:Int)<4 by decide),?_⟩;refine⟨o,_,_,_,rfl,rfl,SqL.of k4,?_,q l H4 (hl.mono hnT) hl (d13.keep g4)⟩;rw[show((v:Int) % 4)=((v % 4:Nat):Int) from rfl];exact yE hat
theorem aDh{k:Nat}(F:Fun K "_law_due" "_law_due" lG f fd):j0 ["_law_lines","_law_words","_law_budget"] (aPr K):=by
 w_cond qU;obtain⟨la,wa,b,ls,ns,f',rfl,hla,hwa,hok,hnT,hf,hls,hns,q⟩:=h;refine⟨_,(jC (jQ 1 qU.nd (qO pQ rfl M.dict (show om "dict" = some (.type "dict") from by ac_rfl) (jA (pv 1) jB))) (jC (jQ 3 qU.nd (qC jB)) (jC (jQ 4 qU.nd (jS aDd jE jE)) (jC (yO lf rfl (oE rfl M.enumerate (jA (pv 0) jB)) (bB rfl (kI (qJ 5 qU.nd) (kI (qJ 6 qU.nd) vO))) (jC (jZ (jP qD (pv 5) (pv 2)) (jD (jL (xC (jA (pv 3) (jA (xC (jA jN (jA (pv 5) jB))) (jA (pv 5) jB)))))) jM) (jC (jQ 7 qU.nd (yJ oq rm rq bQ (pv 6) (jA jN jB))) (jD (jZ (jP qD (jV jO (pv 7) jE) jN) (jD (qQ (yJ kj mm mn xV (pv 3) (jA (xE hr.units1 (pv 1) (jV jO (pv 7) jE) (fun _ _=>rfl)) jB)))) (jD (jZ (jP qD (jR jX rfl M.len jt (jA (pv 7) jB)) jE) (jC (jQ 8 qU.nd (jV jO (pv 7) jE)) (jD (eN hr.units1 (pv 1) (jV jO (pv 7) jE) (vS (pU (wO hr.units1 (pv 8) (pv 1))) (xE hr.units1 (pv 1) (pv 8) (fun _ _=>rfl)) (qO yB rfl M.int boot_int (jA (pv 8) jB))) rfl))) (jC (aRz (i:=9) (j:=10) rfl qU.nd rfl rfl (by decide) rfl rfl (jA (xE hr.units1 (pv 1) (jV jO (pv 7) jE) (fun _ _=>rfl)) (jA (xE hr.units1 (pv 1) (jV jO (pv 7) jE) (fun _ _=>rfl)) jB)) rfl) (jC (jQ 11 qU.nd (aEj (bU jN jE (bU jN jE (bU jN jE aFh))) rfl rfl (fun z=>nomatch z) (by decide))) (jC (qQ (yJ PySem.F.plainAttrs_dict PySem.F.slot_dict_update PySem.F.type_dict_update aGi (pv 11) (jA (aEj (bU jN (jS vD (pv 9) (pv 10)) (bU jN (jS bC (pv 9) (pv 10)) (bU jN (jS xI (pv 9) (pv 10)) aFh))) rfl rfl (fun z=>nomatch z) (by decide)) jB))) (jC (jZ (vF vJ (jV jO (pv 7) jE) (xC (jA jN (jA jN jB))) (by with_unfolding_all rfl)) (jD (eN hr.units1 (pv 11) (jV jO (pv 7) jE) (qO aAm rfl M.int boot_int (jA (vS (jP qD (jV jO (pv 7) jE) jN) (vA aAr (pv 9) (pv 10) (xL _)) (vA qD (pv 9) (pv 10) (xL _))) jB)) rfl)) jM) (jC (jZ (jP qD (jV jO (pv 7) jE) jN) (jD (yO lf rfl (eI rfl M.range (jA jE jB)) (qJ 12 qU.nd) (jC (jQ 13 qU.nd (jS xI (jS aDe (jS aIs (pv 9) (pv 12)) jE) (jS aDe (jS aIs (pv 10) (pv 12)) jE))) (jD (eN hr.units1 (pv 11) jN (jS vD (xE hr.units1 (pv 11) jN (fun _ _=>rfl)) (jS xI (pv 13) (jS aKo jE (pv 12)))) rfl))))) jM) (jD (eN hr.units1 (pv 1) (jV jO (pv 7) jE) (jS yW (xE hr.units1 (pv 11) (jV jO (pv 7) jE) (fun _ _=>rfl)) (pv 4)) rfl)))))))))))))) (jD (jL (xC (jA (pv 3) (jA cT (jA (jR jX rfl M.len jt (jA (pv 0) jB)) jB)))))))))),?_⟩;have hfw:∀m x,W32 (stF (ls.take m) f' x):=fun m=>aHz (fun l hl=>(hok l (vn hl)).2) hf;refine⟨_,rfl,wa,_,rfl,hwa,fun D hD=>?_⟩;clear 1 D H1 g1 k1 hD;refine⟨cK,fun ol hol=>?_⟩;clear 1 ol H2 g2 k2 hol;have nDo:D≠ol:=fun z=>by rw[z,hol]at k1;cases k1
 have fo:=g1.free hol;refine⟨_,_,rfl,rfl,⟨by decide,by decide,by decide⟩,?_⟩;refine⟨_,rfl,la,_,rfl,SqL.of (g2 _ _ (g1 _ _ hla)),iH (xs:=(ls.map L6.tx).map V.str) (fun j σ H'=>∃(o5 o6 o7 o8 o9 o10 o11 o12 o13:Option V),σ = [some (.ref la),some (.ref D),some (.int b),some (.ref ol),some (.int 4294967296),o5,o6,o7,o8,o9,o10,o11,o12,o13]/\jH H H'/\H' D=some (.dK (dW ns (stF (ls.take j) f')))/\H' ol=some (.lst ((stO (ls.take j) f').map V.int))/\j<=b) ⟨_,_,_,_,_,_,_,_,_,rfl,g1.trans g2,g2 _ _ k1,k2,jg _⟩ (fun j σ H' _ z=>?_) (fun j x σ H' p2 hx z hp2=>?_) (fun σ H' z=>?_)⟩
 ·obtain⟨o5,o6,o7,o8,o9,o10,o11,o12,o13,rfl,s,_⟩:=z;exact SqL.of (s _ _ hla)
 ·obtain⟨o5,o6,o7,o8,o9,o10,o11,o12,o13,rfl,s,kD,ko,hjb⟩:=z;obtain⟨y,hy,rfl⟩:=qE hx;rw[jv]at hy;obtain⟨l,hl,rfl⟩:=uo.mp hy;obtain⟨hlT,hln⟩:=hok l (iq hl);have hj:j<ls.length:=(η.mp hl).1;clear 1 p2 H6 g6 k6 hp2;refine⟨p2,_,rfl,SqT.of k6,rfl,_,_,rfl,_,_,rfl,rfl,?_⟩;refine⟨_,rfl,_,rfl,rfl,_,rfl,?_⟩;refine vL (fun c6=>?_) (fun c6=>?_)
  ·have c6':(j:Int)=b:=V.int.inj (of_decide_eq_true c6);have hjb':j=b:=by omega
   subst hjb';refine⟨_,rfl,_,rfl,xM,fun u hu=>⟨_,rfl,mF,fun t ht=>?_⟩⟩;generalize e7:upd H6 u _=H7 at ht ⊢;obtain⟨g7,k7⟩:=qG e7 hu;clear 1 t H8 g8 k8 ht;have em:min j ls.length=j:=tf (by omega);have s68:=(g6.trans g7).trans g8;exact q t ol (.ref u) H8 (s.trans s68) (by rw[em];exact k8) (by rw[em];exact s68 _ _ ko) (fun z=>by omega) fun _=>⟨u,rfl,g8 _ _ k7⟩
  have hjb':j<b:=by
   have:¬ (j:Int)=b:=fun z=>c6 (decide_eq_true (by rw[z]));omega
  refine⟨_,rfl,rfl,_,_,rfl,rfl,(by decide),(by have:=(aFv hlT).2.1;rw[jc];omega),fun sp hsp=>?_⟩;rw[aBv hlT];generalize e7:upd H6 sp _=H7;obtain⟨g7,k7⟩:=qG e7 hsp;have s7:=s.trans (g6.trans g7);have kD7:=g7 _ _ (g6 _ _ kD);have ko7:=g7 _ _ (g6 _ _ ko);have hFw:=hfw j;have hOl:(stO (ls.take j) f').length<=60:=jh (oM _ _) (jh (mv _ _) (by omega));have fin:∀H9:Hp,jH H H9->H9 D=some (.dK (dW ns (l.step (stF (ls.take j) f'))))->H9 ol=some (.lst ((stO (ls.take j) f'++l.o (stF (ls.take j) f')).map V.int))->jH H H9/\H9 D=some (.dK (dW ns (stF (ls.take (j+1)) f')))/\H9 ol=some (.lst ((stO (ls.take (j+1)) f').map V.int))/\j+1<=b:=fun H9 z1 z2 z3=>by
   rw[jk,hl];show jH H H9/\H9 D=some (.dK (dW ns (stF (ls.take j++[l]) f')))/\H9 ol=some (.lst ((stO (ls.take j++[l]) f').map V.int))/\j+1<=b;rw[rB,rP];exact⟨z1,z2,z3,hjb'⟩
  generalize stF (ls.take j) f'=F9 at hFw fin kD7;have hsz:(dW ns F9).length<ξ:=by unfold dW;rw[δ];exact mj hns (by decide)
  cases l with
  |out a =>
   refine⟨_,rfl,sp,_,_,_,rfl,rfl,SqL.of k7,rfl,rfl,_,rfl,vR (decide_eq_true rfl) ⟨_,rfl,.inl ⟨rfl,_,SqL.of ko7⟩,_,rfl,_,rfl,sp,_,_,_,rfl,rfl,SqL.of k7,rfl,D,.int (F9 a),rfl,(by rw[←aS (show a∈ns from hln)];exact vX.k (k:=jj a) kD7),ol,_,_,rfl,rfl,ko7,(by rw[δ,jc];omega),?_⟩⟩;clear 0 ol H8 g8 k8;refine⟨_,_,_,_,_,_,_,_,_,rfl,fin H8 (fun c o e=>g8 _ _ (jG e fo) (s7 _ _ e)) (g8 _ _ nDo kD7) ?_⟩;rw[Θ];exact k8
  |num a n =>
   have ha:a∈ns:=hln.1;refine⟨_,rfl,sp,_,_,_,rfl,rfl,SqL.of k7,rfl,rfl,_,rfl,qR (fun z=>aCi (L6.Ok.ns hlT _ (τ ..)) (V.str.inj (of_decide_eq_true z))) ⟨_,rfl,sp,_,rfl,.inl (SqL.of k7),rfl,_,rfl,vR (decide_eq_true rfl) ⟨_,rfl,sp,_,_,_,rfl,rfl,SqL.of k7,rfl,_,rfl,_,rfl,D,_,rfl,vX.k (k:=jj (txN n)) kD7,?_⟩⟩⟩;rw[aJy (fun z=>aRa (hnT _ z))];refine⟨_,rfl,qR (fun z=>by cases z) ?_⟩;refine⟨_,rfl,txN n,(n:Int),rfl,aFi hln.2,jh (gY hln.2) (by decide),_,rfl,_,rfl,sp,_,_,_,rfl,rfl,SqL.of k7,rfl,D,_,rfl,cM.k (k:=jj a) kD7 hsz,?_⟩;rw[bZ ha];clear 0 D H8 g8 k8;refine⟨_,_,_,_,_,_,_,_,_,rfl,fin H8 (fun c o e=>g8 _ _ (jG e hD) (s7 _ _ e)) ?_ (by rw[show L6.o F9 (.num a n)=[] from rfl,jq];exact g8 _ _ (kc nDo) ko7)⟩;rw[show L6.step F9 (.num a n)=upF F9 a (n:Int) from if_neg (aK (hnT a ha))];exact k8
  |nam a b =>
   have ha:a∈ns:=hln.1;refine⟨_,rfl,sp,_,_,_,rfl,rfl,SqL.of k7,rfl,rfl,_,rfl,qR (fun z=>aCi (L6.Ok.ns hlT _ (τ ..)) (V.str.inj (of_decide_eq_true z))) ⟨_,rfl,sp,_,rfl,.inl (SqL.of k7),rfl,_,rfl,vR (decide_eq_true rfl) ⟨_,rfl,sp,_,_,_,rfl,rfl,SqL.of k7,rfl,_,rfl,_,rfl,D,_,rfl,vX.k (k:=jj b) kD7,?_⟩⟩⟩;rw[aS hln.2];refine⟨_,rfl,vR rfl ?_⟩;refine⟨_,rfl,_,rfl,D,.int (F9 b),rfl,(by rw[←aS hln.2];exact vX.k (k:=jj b) kD7),_,rfl,_,rfl,sp,_,_,_,rfl,rfl,SqL.of k7,rfl,D,_,rfl,cM.k (k:=jj a) kD7 hsz,?_⟩;rw[bZ ha];clear 0 D H8 g8 k8;refine⟨_,_,_,_,_,_,_,_,_,rfl,fin H8 (fun c o e=>g8 _ _ (jG e hD) (s7 _ _ e)) ?_ (by rw[show L6.o F9 (.nam a b)=[] from rfl,jq];exact g8 _ _ (kc nDo) ko7)⟩;rw[show L6.step F9 (.nam a b)=upF F9 a (F9 b) from if_neg (aK (hnT a ha))];exact k8
  |op a x y sg =>
   obtain⟨ha,hxn,hyn,hsg⟩:=id hln;refine⟨_,rfl,sp,_,_,_,rfl,rfl,SqL.of k7,rfl,rfl,_,rfl,qR (fun z=>aCi (L6.Ok.ns hlT _ (τ ..)) (V.str.inj (of_decide_eq_true z))) ⟨_,rfl,sp,_,rfl,.inl (SqL.of k7),rfl,_,rfl,qR (fun z=>absurd (show(5:Int)=3 from V.int.inj (of_decide_eq_true z)) (by decide)) ⟨_,rfl,_,rfl,sp,_,_,_,rfl,rfl,SqL.of k7,rfl,D,.int (F9 x),rfl,(by rw[←aS hxn];exact vX.k (k:=jj x) kD7),_,rfl,_,rfl,sp,_,_,_,rfl,rfl,SqL.of k7,rfl,D,.int (F9 y),rfl,(by rw[←aS hyn];exact vX.k (k:=jj y) kD7),_,_,rfl,fun sm hsm=>⟨jI,[(.inr "<",.int 0),(.inr "=",.int 0),(.inr "&",.int 0)],rfl,(by decide),?_⟩⟩⟩⟩;rw[cB];clear 1 sm H8 g8 k8 hsm;refine⟨_,rfl,.inr (.inr (.inl ⟨rfl,.inl ⟨_,k8⟩⟩)),fun s2 hs2=>⟨_,rfl,_,rfl,_,_,rfl,rfl,_,rfl,_,rfl,_,_,rfl,rfl,_,rfl,_,rfl,_,_,rfl,rfl,.inl ⟨by have:=(hFw x).1;omega,by have:=(hFw x).2;omega⟩,jI,[(.inr "+",.int (F9 x+F9 y)),(.inr "-",.int (F9 x-F9 y)),(.inr "*",.int (F9 x*F9 y))],rfl,(by show 3<=15;decide),?_⟩⟩;rw[cB];clear 1 s2 H9 g9 k9 hs2;have n2:sm≠s2:=fun z=>by rw[←z,k8]at hs2;cases hs2
   refine⟨sm,s2,_,_,rfl,rfl,n2,g9 _ _ k8,k9,(by show 6<=ξ;decide),?_⟩;have spn:sm≠sp:=fun z=>by rw[←z,hsm]at k7;cases k7
   have Dn:sm≠D:=fun z=>by rw[←z,hsm]at kD7;cases kD7
   have on:sm≠ol:=fun z=>by rw[←z,hsm]at ko7;cases ko7
   rw[aSg];clear 0 sm HA gA kA;have g79:=g8.trans g9;have spA:=gA _ _ spn.symm (g79 _ _ k7);have DA:=gA _ _ Dn.symm (g79 _ _ kD7);have oA:=gA _ _ on.symm (g79 _ _ ko7);have sA:jH H HA:=fun c o e=>gA _ _ (fun z=>by rw[z]at e;exact absurd (s7 _ _ e) (by rw[hsm];exact fun z=>by cases z)) (g79 _ _ (s7 _ _ e));refine⟨_,rfl,sp,_,_,_,rfl,rfl,SqL.of spA,rfl,xM,fun tp htp=>?_⟩;clear 1 tp HB gB kB htp;have spB:=gB _ _ spA;have DB:=gB _ _ DA;have oB:=gB _ _ oA;have smB:=gB _ _ kA;have sB:=sA.trans gB;refine⟨tp,_,rfl,.inr (SqT.of kB),rfl,rfl,_,rfl,?_⟩;rcases sig6 hsg with rfl|rfl|rfl|rfl|rfl|rfl
   ·refine qR (by show ¬ inV (.str "+") [.str "<",.str "="]=true;ac_rfl) ⟨_,rfl,sp,_,_,_,rfl,rfl,SqL.of spB,rfl,rfl,_,rfl,qR (by show ¬ decide (V.str "+" = V.str "&")=true;ac_rfl) ?_⟩;refine⟨_,rfl,_,rfl,sp,_,_,_,rfl,rfl,SqL.of spB,rfl,sm,.int (F9 x+F9 y),rfl,(by rw[←sm_p];exact vX.k (k:=jj "+") smB),_,rfl,_,_,rfl,rfl,(show(0:Int)<4294967296 by decide),_,rfl,_,rfl,sp,_,_,_,rfl,rfl,SqL.of spB,rfl,D,_,rfl,cM.k (k:=jj a) DB hsz,?_⟩;rw[bZ ha];clear 0 D HZ gZ kZ;refine⟨_,_,_,_,_,_,_,_,_,rfl,fin HZ (fun c o e=>gZ _ _ (jG e hD) (sB _ _ e)) ?_ (by rw[show L6.o F9 (.op a x y "+")=[] from rfl,jq];exact gZ _ _ (kc nDo) oB)⟩;rw[show L6.step F9 (.op a x y "+")=upF F9 a (zV "+" (F9 x) (F9 y)) from if_neg (aK (hnT a ha)),show zV "+" (F9 x) (F9 y)=(F9 x+F9 y) % 4294967296 from rfl];exact kZ
   ·refine qR (by show ¬ inV (.str "-") [.str "<",.str "="]=true;ac_rfl) ⟨_,rfl,sp,_,_,_,rfl,rfl,SqL.of spB,rfl,rfl,_,rfl,qR (by show ¬ decide (V.str "-" = V.str "&")=true;ac_rfl) ?_⟩;refine⟨_,rfl,_,rfl,sp,_,_,_,rfl,rfl,SqL.of spB,rfl,sm,.int (F9 x-F9 y),rfl,(by rw[←sm_m];exact vX.k (k:=jj "-") smB),_,rfl,_,_,rfl,rfl,(show(0:Int)<4294967296 by decide),_,rfl,_,rfl,sp,_,_,_,rfl,rfl,SqL.of spB,rfl,D,_,rfl,cM.k (k:=jj a) DB hsz,?_⟩;rw[bZ ha];clear 0 D HZ gZ kZ;refine⟨_,_,_,_,_,_,_,_,_,rfl,fin HZ (fun c o e=>gZ _ _ (jG e hD) (sB _ _ e)) ?_ (by rw[show L6.o F9 (.op a x y "-")=[] from rfl,jq];exact gZ _ _ (kc nDo) oB)⟩;rw[show L6.step F9 (.op a x y "-")=upF F9 a (zV "-" (F9 x) (F9 y)) from if_neg (aK (hnT a ha)),show zV "-" (F9 x) (F9 y)=(F9 x-F9 y) % 4294967296 from rfl];exact kZ
   ·refine qR (by show ¬ inV (.str "*") [.str "<",.str "="]=true;ac_rfl) ⟨_,rfl,sp,_,_,_,rfl,rfl,SqL.of spB,rfl,rfl,_,rfl,qR (by show ¬ decide (V.str "*" = V.str "&")=true;ac_rfl) ?_⟩;refine⟨_,rfl,_,rfl,sp,_,_,_,rfl,rfl,SqL.of spB,rfl,sm,.int (F9 x*F9 y),rfl,(by rw[←sm_t];exact vX.k (k:=jj "*") smB),_,rfl,_,_,rfl,rfl,(show(0:Int)<4294967296 by decide),_,rfl,_,rfl,sp,_,_,_,rfl,rfl,SqL.of spB,rfl,D,_,rfl,cM.k (k:=jj a) DB hsz,?_⟩;rw[bZ ha];clear 0 D HZ gZ kZ;refine⟨_,_,_,_,_,_,_,_,_,rfl,fin HZ (fun c o e=>gZ _ _ (jG e hD) (sB _ _ e)) ?_ (by rw[show L6.o F9 (.op a x y "*")=[] from rfl,jq];exact gZ _ _ (kc nDo) oB)⟩;rw[show L6.step F9 (.op a x y "*")=upF F9 a (zV "*" (F9 x) (F9 y)) from if_neg (aK (hnT a ha)),show zV "*" (F9 x) (F9 y)=(F9 x*F9 y) % 4294967296 from rfl];exact kZ
   ·refine vR (by show inV (.str "<") [.str "<",.str "="]=true;ac_rfl) ⟨_,rfl,sp,_,_,_,rfl,rfl,SqL.of spB,rfl,rfl,_,rfl,vR (decide_eq_true rfl) ⟨_,rfl,_,rfl,_,_,rfl,rfl,_,rfl,_,rfl,_,rfl,sp,_,_,_,rfl,rfl,SqL.of spB,rfl,sm,_,rfl,cM.k (k:=jj "<") smB (by show 6<ξ;decide),?_⟩⟩;rw[sm_pl];clear 0 sm HC gC kC;have spC:=gC _ _ spn.symm spB;have DC:=gC _ _ Dn.symm DB;have oC:=gC _ _ on.symm oB;have sC:jH H HC:=fun c o e=>gC _ _ (fun z=>by rw[z]at e;exact absurd (s7 _ _ e) (by rw[hsm];exact fun z=>by cases z)) (sB _ _ e);refine⟨_,rfl,sp,_,_,_,rfl,rfl,SqL.of spC,rfl,rfl,_,rfl,qR (by show ¬ decide (V.str "<" = V.str "&")=true;ac_rfl) ?_⟩;refine⟨_,rfl,_,rfl,sp,_,_,_,rfl,rfl,SqL.of spC,rfl,sm,.int (if decide (F9 x<F9 y) then 1 else 0),rfl,(by rw[←sm_l];exact vX.k (k:=jj "<") kC),_,rfl,_,_,rfl,rfl,(show(0:Int)<4294967296 by decide),_,rfl,_,rfl,sp,_,_,_,rfl,rfl,SqL.of spC,rfl,D,_,rfl,cM.k (k:=jj a) DC hsz,?_⟩;rw[bZ ha];clear 0 D HZ gZ kZ;refine⟨_,_,_,_,_,_,_,_,_,rfl,fin HZ (fun c o e=>gZ _ _ (jG e hD) (sC _ _ e)) ?_ (by rw[show L6.o F9 (.op a x y "<")=[] from rfl,jq];exact gZ _ _ (kc nDo) oC)⟩;rw[show L6.step F9 (.op a x y "<")=upF F9 a (zV "<" (F9 x) (F9 y)) from if_neg (aK (hnT a ha)),show zV "<" (F9 x) (F9 y)=(if decide (F9 x<F9 y) then 1 else 0) % 4294967296 from aNt];exact kZ
   ·refine vR (by show inV (.str "=") [.str "<",.str "="]=true;ac_rfl) ⟨_,rfl,sp,_,_,_,rfl,rfl,SqL.of spB,rfl,rfl,_,rfl,qR (by show ¬ decide (V.str "=" = V.str "<")=true;ac_rfl) ⟨_,rfl,_,rfl,rfl,_,rfl,_,rfl,_,rfl,sp,_,_,_,rfl,rfl,SqL.of spB,rfl,sm,_,rfl,cM.k (k:=jj "=") smB (by show 6<ξ;decide),?_⟩⟩;rw[sm_pe];clear 0 sm HC gC kC;have spC:=gC _ _ spn.symm spB;have DC:=gC _ _ Dn.symm DB;have oC:=gC _ _ on.symm oB;have sC:jH H HC:=fun c o e=>gC _ _ (fun z=>by rw[z]at e;exact absurd (s7 _ _ e) (by rw[hsm];exact fun z=>by cases z)) (sB _ _ e);refine⟨_,rfl,sp,_,_,_,rfl,rfl,SqL.of spC,rfl,rfl,_,rfl,qR (by show ¬ decide (V.str "=" = V.str "&")=true;ac_rfl) ?_⟩;refine⟨_,rfl,_,rfl,sp,_,_,_,rfl,rfl,SqL.of spC,rfl,sm,.int (if decide (V.int (F9 x)=V.int (F9 y)) then 1 else 0),rfl,(by rw[←sm_e];exact vX.k (k:=jj "=") kC),_,rfl,_,_,rfl,rfl,(show(0:Int)<4294967296 by decide),_,rfl,_,rfl,sp,_,_,_,rfl,rfl,SqL.of spC,rfl,D,_,rfl,cM.k (k:=jj a) DC hsz,?_⟩;rw[bZ ha];clear 0 D HZ gZ kZ;refine⟨_,_,_,_,_,_,_,_,_,rfl,fin HZ (fun c o e=>gZ _ _ (jG e hD) (sC _ _ e)) ?_ (by rw[show L6.o F9 (.op a x y "=")=[] from rfl,jq];exact gZ _ _ (kc nDo) oC)⟩;rw[show L6.step F9 (.op a x y "=")=upF F9 a (zV "=" (F9 x) (F9 y)) from if_neg (aK (hnT a ha)),show zV "=" (F9 x) (F9 y)=(if decide (V.int (F9 x)=V.int (F9 y)) then 1 else 0) % 4294967296 from aLv];exact kZ
   ·obtain⟨X9,hX9⟩ : ∃X:Nat,F9 x=X:=⟨(F9 x).toNat,by have:=(hFw x).1;omega⟩;obtain⟨Y9,hY9⟩ : ∃X:Nat,F9 y=X:=⟨(F9 y).toNat,by have:=(hFw y).1;omega⟩;refine qR (by show ¬ inV (.str "&") [.str "<",.str "="]=true;ac_rfl) ⟨_,rfl,sp,_,_,_,rfl,rfl,SqL.of spB,rfl,rfl,_,rfl,vR (decide_eq_true rfl) ⟨32,rfl,by decide,by decide,?_⟩⟩;refine aHj (n:=32) (fun i σ HC=>∃(q8 q12 q13:Option V),σ = [some (.ref la),some (.ref D),some (.int b),some (.ref ol),some (.int 4294967296),some (.int (j:Int)),some (.str (L6.op a x y "&").tx),some (.ref sp),q8,some (.int (F9 x)),some (.int (F9 y)),some (.ref sm),q12,q13]/\But sm HB HC/\HC sm=some (.dK (smL (F9 x+F9 y) (F9 x-F9 y) (F9 x*F9 y) 0 0 (((X9 &&& Y9) % 2 ^ i:Nat):Int)))) ⟨_,_,_,rfl,But.refl,(by rw[show(X9 &&& Y9) % 2 ^ 0=0 from Nat.mod_one _];exact smB)⟩ (fun i σ HC hi z=>?_) (fun σ HC z=>?_)
    ·obtain⟨q8,q12,q13,rfl,gC,kC⟩:=z;refine⟨_,rfl,_,rfl,_,_,rfl,rfl,(show(0:Int)<=0+(i:Int) by omega),_,_,rfl,rfl,_,rfl,_,rfl,_,_,rfl,rfl,(show(0:Int)<=0+(i:Int) by omega),_,_,rfl,rfl,_,_,rfl,rfl,.inl (aRo hX9),?_⟩;refine⟨_,rfl,sm,_,rfl,(by rw[←sm_a];exact vX.k (k:=jj "&") kC),_,rfl,_,rfl,_,_,rfl,rfl,⟨by omega,by omega,by decide⟩,_,_,rfl,rfl,.inl (aLx hX9 hY9),_,_,rfl,rfl,_,rfl,sm,_,rfl,cM.k (k:=jj "&") kC (by show 6<ξ;decide),?_⟩;exact⟨_,_,_,rfl,gC.trans But.upd,jI.trans (congrArg (fun z=>some (HO.dK z)) (sm_pa.trans (congrArg (smL _ _ _ 0 0) (aNy hX9 hY9))))⟩
    obtain⟨q8,q12,q13,rfl,gC,kC⟩:=z;have spC:=gC _ _ spn.symm spB;have DC:=gC _ _ Dn.symm DB;have oC:=gC _ _ on.symm oB;have sC:jH H HC:=fun c o e=>gC _ _ (fun z=>by rw[z]at e;exact absurd (s7 _ _ e) (by rw[hsm];exact fun z=>by cases z)) (sB _ _ e);refine⟨_,rfl,_,rfl,sp,_,_,_,rfl,rfl,SqL.of spC,rfl,sm,.int (((X9 &&& Y9) % 2 ^ 32:Nat)),rfl,(by rw[←sm_a];exact vX.k (k:=jj "&") kC),_,rfl,_,_,rfl,rfl,(show(0:Int)<4294967296 by decide),_,rfl,_,rfl,sp,_,_,_,rfl,rfl,SqL.of spC,rfl,D,_,rfl,cM.k (k:=jj a) DC hsz,?_⟩;rw[bZ ha];clear 0 D HZ gZ kZ;refine⟨_,_,_,_,_,_,_,_,_,rfl,fin HZ (fun c o e=>gZ _ _ (jG e hD) (sC _ _ e)) ?_ (by rw[show L6.o F9 (.op a x y "&")=[] from rfl,jq];exact gZ _ _ (kc nDo) oC)⟩;rw[show L6.step F9 (.op a x y "&")=upF F9 a (zV "&" (F9 x) (F9 y)) from if_neg (aK (hnT a ha)),show zV "&" (F9 x) (F9 y)=(((X9 &&& Y9) % 2 ^ 32:Nat)) % 4294967296 from(aKl hX9 hY9 (hFw x).2)];exact kZ
 ·obtain⟨o5,o6,o7,o8,o9,o10,o11,o12,o13,rfl,s,kD,ko,hjb⟩:=z;rw[δ,δ]at kD ko hjb;have em:min b ls.length=ls.length:=vq hjb;refine⟨_,rfl,_,rfl,la,_,rfl,.inl (SqL.of (s _ _ hla)),mF,fun t ht=>?_⟩;clear 1 t H8 g8 k8 ht;rw[δ,δ]at k8;exact q t ol .non H8 (s.trans g8) (by rw[em];exact k8) (by rw[em];exact g8 _ _ ko) (fun _=>rfl) fun z=>by omega
theorem aTe{k r:Nat}(hR : 12<=r/\8*r<=200)(F:Fun K "law" "law" aJt f fd)(fb:j3 "read_shapes" (spRd (j6 0) Vf K r))(dv:j3 "read_program" (aPd (j6 0) Vf ai ae K))(io:j3 "run" (aPg ai ae ah ar K))(bz:j3 "_law_cell" (spLc K))(dw:j3 "_law_box" aPn)(gw:j3 "_law_line" (aPu K))(ap:j3 "_law_take" uM)(bv:j3 "_law_number" spNb)(ie:j3 "_law_due" (aPr K))(ft:j5 be (aPi ah))(dc:j4 ah "records" (aPv ah)):j0 ["_law_script"] (aFb K):=by
 w_cond xA;obtain⟨a,ns,rfl,hS,hlen,q⟩:=h;refine⟨_,(PSx.h (kO (qT (jQ 1 xA.nd jN)) (kO (qT (jQ 2 xA.nd (jS yW (jK bz hr (jA (pv 0) (jA jE jB))) jE))) (kO (qT (eL (i:=3) ["_law_k"] ["_law_letters","_law_at"] [1,2] xA.nd rfl rfl rfl (eI rfl M.range (jA jE jB)) rfl ⟨rfl,⟨rfl,trivial⟩⟩ ⟨⟨rfl,rfl,rfl,_,rfl⟩,⟨⟨rfl,rfl,rfl,_,rfl⟩,trivial⟩⟩ (fun _ _ _ _=>(qN rfl)) (fun _ _ _ _=>qI) (fun _ _ _ _=>(jS vQ (jV aCl (pv 1) (jS vD (pv 2) (pv 0))) jN)))) (kO (qT (eL (i:=4) ["_law_name"] [] [] xA.nd rfl rfl rfl (qS (pv 3)) rfl trivial trivial (fun _ _ _ _=>(qN rfl)) (fun _ _ _ _=>qI) (fun _ _ _ _=>(jS vQ jN (pv 0))))) (kO (oW lf rfl (PIx.mk (qS (jS aQu (qC (jA (jK bz hr (jA (pv 0) (jA jE jB))) jB)) (vK xG (pv 0) (xB jE) (xB jE))))) (qJ 5 xA.nd) (yQ (qT (qQ (yJ kj PySem.F.slot_list_insert PySem.F.type_list_insert aCh (pv 4) (jA (jS bC (jR jX rfl M.len jt (jA (pv 4) jB)) jE) (jA (jK gw hr (jA (jK dw hr (jA (pv 5) jB)) (jA (pv 3) jB))) jB))))))) (kO (qT (jQ 6 xA.nd (jK fb hr (jA jN jB)))) (kO (qT (jQ 7 xA.nd (jK dv hr (jA (pv 6) (jA (yJ oq PySem.F.slot_str_join PySem.F.type_str_join aAh jN (jA (pv 4) jB)) jB))))) (kO (qT (jQ 8 xA.nd (jK dw hr (jA (jK bz hr (jA (pv 0) (jA jE jB))) jB)))) (kO (qT (jQ 9 xA.nd aKj)) (kO (oW lf rfl (PIx.mk (qS (pv 3))) (qJ 10 xA.nd) (yQ (nY (jP dU (jK ap hr (jA (pv 8) (jA jE jB))) jE) (yQ (qT (eN hr.units1 (pv 9) (pv 10) (jK bv hr (jA (pv 8) jB)) rfl))) jM))) (kO (qT (jQ 11 xA.nd (qO (aCm rfl) rfl M.dict (show om "dict" = some (.type "dict") from by ac_rfl) (jA (qW ["_law_name"] ["_law_inputs"] [9] rfl (qS (pv 3)) rfl ⟨rfl,trivial⟩ ⟨⟨rfl,rfl,rfl,_,rfl⟩,trivial⟩ (fun _ _ _ _=>(qN rfl)) (fun _ _ _ _=>qI) (fun _ _ _ _=>(xC (jA (pv 0) (jA (rM hr.units1 (pv 1) (pv 0) jE ⟨rfl,rfl,rfl,rfl⟩) jB))))) jB)))) (kO (qT (jQ 12 xA.nd (qO pQ rfl M.dict (show om "dict" = some (.type "dict") from by ac_rfl) (jA (pv 9) jB)))) (kO (qT (jQ 13 xA.nd (jR jX rfl M.len jt (jA (pv 4) jB)))) (kO (aJd (i:=14) xA.nd rfl rfl (aLp (qL (qV jE) (qL (qV jE) (qL (qV (jS bC (pv 13) jE)) (qL (qV (pv 13)) (qL (qV (jS vD (pv 13) jE)) (qL (qV jE) (qL (qV (jK ap hr (jA (pv 8) (jA (pv 13) jB)))) (qL (qV (jK ap hr (jA (pv 8) (jA jE jB)))) uQ uN) uN) yS) dI) zL) dI) yS) yS))) (kO (oW lf rfl (PIx.mk (qS (pv 14))) (qJ 15 xA.nd) (kO (qT (jQ 16 xA.nd (yK ak ft hr0 rfl qH (jA (pv 6) (jA jE (jA (qC jB) jB)))))) (kO (qT (jQ 17 xA.nd (jK io hr (jA (pv 7) (jA (pv 16) (jA (pv 12) (jA (pv 15) jB))))))) (kO (nY (PW.pt (fC (jP (aSu hr.units) (xC (jA (jW (pv 17) rfl) (jA (jW (pv 17) rfl) (jA (jW (pv 17) rfl) jB)))) (jK ie hr (jA (pv 4) (jA (pv 11) (jA (pv 15) jB))))) (bV (jP (aMr hr.units) (pv 12) (pv 9))))) (yQ (bR (qV pK))) jM) (kO (nY (PW.pt (fC (jP (rS hr.units) (jW (pv 17) rfl) (qC jB)) (fC (jP (rS hr.units) (jW (pv 16) rfl) (qC jB)) (bV (jP (rS hr.units) (xQ (pv 16) ak.cl dc hr qH) (qC jB)))))) (yQ (bR (qV pK))) jM) (yQ (qT (qQ (yJ kj mm mn xV (jW (pv 17) rfl) (jA (cV yX jE) jB)))))))))) (yQ (bR (qV pK))))))))))))))))))),?_⟩;refine⟨_,rfl,a,ns,0,rfl,hS,by decide,by decide,fun v0 H1 g1=>?_⟩;refine⟨_,_,rfl,rfl,(show(0:Int)<13 by decide),?_⟩;have hv1:=Int.emod_nonneg v0 (show(13:Int)≠0 by decide);have hv2:=wx v0 (show(0:Int)<13 by decide);obtain⟨v,hv⟩ : ∃v:Nat,v0 % 13=v:=⟨(v0 % 13).toNat,by omega⟩;rw[hv]at hv2;dsimp only;rw[hv];have hv13:v<13:=by omega
 have hp4:=aFr hv13;refine⟨4,rfl,by decide,by decide,fV (n:=4) (fun j ys H'=>H'=H1/\ys=((plN v).take j).map V.str) ⟨rfl,rfl⟩ (fun j ys H' _ z=>by rw[z.2,δ];exact mv _ _) (by decide) (fun j ys H' hj z=>?_) (fun ys H' z pl hpl=>?_)⟩
 ·obtain⟨rfl,rfl⟩:=z;obtain⟨c,hc,hn⟩:=aRm (v+j) (by omega);exact⟨_,rfl,_,rfl,_,rfl,_,_,rfl,rfl,_,_,_,rfl,rfl,(show(ζ "abcdghijklmnopqr").length<=ξ by decide),(by rw[show((v:Int)+(0+(j:Int)))=((v+j:Nat):Int) by omega];exact yE hc),_,_,rfl,rfl,(show 1+2<=ξ by decide),⟨rfl,by rw[jk,aRt hj,hn,Θ];rfl⟩,_,rfl⟩
 obtain⟨rfl,rfl⟩:=z;rw[li (Nat.le_of_eq hp4)];generalize e2:upd H' pl _=H2;obtain⟨g2,kp⟩:=qG e2 hpl;have hpT:∀x∈plN v,x∈nmT:=aLt;refine⟨_,rfl,pl,rfl,⟨_,SqL.of kp⟩,vI (xs:=(plN v).map V.str) (fun j ys H'=>H'=H2/\ys=(((plN v).take j).map fun x=>L6.tx (.out x)).map V.str) ⟨rfl,rfl⟩ (fun j ys H' _ z=>?_) (by rw[δ,hp4];decide) (fun j x ys H' hx z=>?_) (fun ys H3 z la hla=>?_)⟩
 ·obtain⟨rfl,rfl⟩:=z;exact⟨SqL.of kp,by rw[δ,δ];exact mv _ _⟩
 ·obtain⟨rfl,rfl⟩:=z;obtain⟨y,hy,rfl⟩:=qE hx;have ly:=(xS (hpT y (iq hy))).l;refine⟨_,rfl,_,_,rfl,rfl,(by rw[jc,show(ζ "out ").length=4 from rfl];omega),⟨rfl,?_⟩,_,rfl⟩;rw[jk,hy,Θ,Θ,aKn];rfl
 obtain⟨rfl,rfl⟩:=z;have el:(((plN v).take ((plN v).map V.str).length).map fun x=>L6.tx (.out x)).map V.str=((nF v []).map L6.tx).map V.str:=by
  rw[li (by rw[δ];exact ι _)];show _=((([]++(plN v).map L6.out)).map L6.tx).map V.str;rw[List.nil_append,nh (f:=L6.out)];rfl
 rw[el];clear 1 la H4 g4 kl hla;have g14:=g2.trans g4;refine⟨_,rfl,a,ns,2,rfl,(g1.trans g14).seq hS,by decide,by decide,fun v5 H5 g5=>?_⟩;refine⟨aKx,fun c1 hc1=>?_⟩;clear 1 c1 H6 g6 k6 hc1;refine⟨_,rfl,3,rfl,32,rfl,a,_,rfl,(((g1.trans g14).trans g5).trans g6).seq hS,fun c2 hc2=>?_⟩;clear 1 c2 H7 g7 k7 hc2;have hcl:=aSx (ns.map V.int);refine⟨c1,c2,_,_,rfl,rfl,g7 _ _ k6,k7,(by rw[jc];show 1+_<=_;omega),fun c3 hc3=>?_⟩;generalize e8:upd H7 c3 _=H8;obtain⟨g8,k8⟩:=qG e8 hc3;have g58:=((g5.trans g6).trans g7).trans g8;refine⟨c3,rfl,⟨_,SqL.of k8⟩,yA (xs:=V.int v5::bF (ns.map V.int) (some 3) (some 32)) (fun j σ H'=>∃(o5:Option V) (ls:List L6),σ = [some (.ref a),some (.str (ζ "abcdghijklmnopqr")),some (.int v),some (.ref pl),some (.ref la),o5,none,none,none,none,none,none,none,none,none,none,none,none]/\But la H8 H'/\H' la=some (.lst (((nF v ls).map L6.tx).map V.str))/\(∀l∈ls,l.Ok (plN v))/\ls.length=j) ⟨_,[],rfl,But.refl,g58 _ _ kl,(fun l h=>by cases h),rfl⟩ (fun j σ H' _ z=>?_) (fun j x σ H' hx z=>?_) (fun σ H9 z=>?_)⟩
 ·obtain⟨o5,ls,rfl,gb,kl9,hls,hj⟩:=z;exact SqL.of (gb _ _ (kc (jG (g7 _ _ (g6 _ _ (g5 _ _ kl))) hc3)) k8)
 ·obtain⟨o5,ls,rfl,gb,kl9,hls,hj⟩:=z;obtain⟨c,rfl⟩ : ∃c,x=.int c:=by
   rcases ο.mp (iq hx) with h|h
   ·exact⟨_,h⟩
   ·exact aIp h
  have kp9:=gb pl _ (jG kp hla) (g58 _ _ (g4 _ _ kp));have hj30:ls.length<=29:=by
   have:=(η.mp hx).1;rw[χ]at this;omega
  refine⟨_,rfl,.inl ⟨rfl,_,SqL.of kl9⟩,_,rfl,la,_,rfl,.inl (SqL.of kl9),_,_,rfl,rfl,_,rfl,c,rfl,fun p H10 hp d1=>?_⟩;refine⟨_,rfl,p,pl,plN v,rfl,d1.1,d1.2 _ _ (jG kp9 hp) kp9,hp4,hpT,fun l H11 okT okN d2=>?_⟩;have kl11:=d2.2 _ _ (jG kl9 hp) (d1.2 _ _ (jG kl9 hp) kl9);refine⟨la,_,_,ls.length,_,rfl,rfl,?_,kl11,?_,?_,?_⟩
  ·rw[δ,δ,oG hv13];omega
  ·rw[δ,δ,oG hv13];omega
  ·rw[δ,δ,oG hv13,jc];omega
  rw[aMb];exact⟨_,ls++[l],rfl,gb.trans (But.trans (fun b o n e=>d2.2 b o (jG e hp) (d1.2 b o (jG e hp) e)) But.upd),jI,(fun x hx=>by
   rcases lq.mp hx with h|h
   ·exact hls x h
   ·rw[Δ.mp h];exact okN),by rw[θ,hj];rfl⟩
 obtain⟨o5,ls,rfl,gb,kl9,hls,hj⟩:=z;have hls30:ls.length<=30:=by rw[hj,χ];omega
 have g39:jH H3 H9:=fun b o e=>gb _ _ (jG e hla) (g58 _ _ (g4 _ _ e));have hlO:=aRy hls;have hlT:∀l∈nF v ls,l.Ok nmT:=fun l hl=>(hlO l hl).mono hpT;have hlL:=oG (ls:=ls) hv13;generalize hLL:nF v ls=LL at kl9 hlO hlT hlL;refine⟨shS,aRj,aSb,(by unfold shS;simp),hR.1,hR.2,fun ra dxr tr sa HA gA kr kt sw=>?_⟩;obtain⟨z,rfl⟩ : ∃z,sa=[z]:=by
  have h1:sa.length=1:=sw.1
  match sa,h1 with
  |[z],_=>exact⟨z,rfl⟩
 have hro:RO (j6 0) Vf K HA ra ([]++[z]) shS:=⟨dxr,tr,kr,kt,sw⟩;have hsum:=aJl hlT;refine⟨_,rfl,rfl,_,rfl,_,la,LL.map L6.tx,rfl,rfl,SqL.of (gA _ _ kl9),(by rw[δ];show _+LL.length*1<=_;omega),ra,z,[],shS,LL,plN v,rfl,hro,(fun z=>by rw[z]at hlL;cases hlL),(by omega),hlO,hpT,(by omega),fun pg nm HB gB hpr hnd hsub hall=>?_⟩;have g3B:jH H3 HB:=(g39.trans gA).trans gB;have kpB:=g3B _ _ kp;have klB:=gB _ _ (gA _ _ kl9);have hSB:=((g1.trans g2).trans g3B).seq hS;refine⟨_,rfl,a,ns,1,rfl,hSB,by decide,by decide,fun vC HC gC=>⟨_,rfl,fun bx HD hbx dD=>?_⟩⟩;have gBD:jH HB HD:=gC.trans (aDr dD hbx);have bxB:HB bx=none:=gC.free hbx;intro di hdi;clear 1 di HE gE kE hdi;have diB:HB di=none:=gBD.free hdi;have nbd:bx≠di:=by obtain⟨_,_,_,e⟩:=dD.1;exact jG e hdi
 have stE:St3 HE bx:=by obtain⟨x,y,z,e⟩:=dD.1;exact⟨x,y,z,gE _ _ e⟩
 have gBE:=gBD.trans gE;refine⟨_,rfl,pl,rfl,⟨_,SqL.of (gBE _ _ kpB)⟩,yA (xs:=(plN v).map V.str) (fun j σ H'=>∃(o10:Option V) (ks:List Str) (fi:Str->Int),σ = [some (.ref a),some (.str (ζ "abcdghijklmnopqr")),some (.int v),some (.ref pl),some (.ref la),o5,some (.ref ra),some (.ref pg),some (.ref bx),some (.ref di),o10,none,none,none,none,none,none,none]/\jH HB H'/\St3 H' bx/\H' di=some (.dK (dW ks fi))/\ks.Sublist ((plN v).take j)/\∀x,W32 (fi x)) ⟨_,[],fun _=>0,rfl,gBE,stE,kE,List.nil_sublist _,fun _=>⟨Int.le_refl _,by show(0:Int)<4294967296;decide⟩⟩ (fun j σ H' _ z=>?_) (fun j x σ H' hx z=>?_) (fun σ HF z=>?_)⟩
 ·obtain⟨o10,ks,fi,rfl,s,_⟩:=z;exact SqL.of (s _ _ kpB)
 ·obtain⟨o10,ks,fi,rfl,s,st,kd,hks,hfi⟩:=z;obtain⟨y,hy,rfl⟩:=qE hx;refine⟨_,rfl,bx,3,rfl,by decide,by decide,st,fun v6 H6 hv6 d6=>⟨_,_,rfl,rfl,_,rfl,?_⟩⟩;have s6:jH HB H6:=fun b o e=>d6.2 _ _ (jG e bxB) (s _ _ e);have kd6:=d6.2 _ _ (kc nbd) kd;have hsn:(plN v).take (j+1)=(plN v).take j++[y]:=by rw[jk,hy];rfl
  refine vL (fun c6=>?_) (fun c6=>?_)
  ·refine⟨_,rfl,bx,rfl,d6.1,fun n H7 hn d7=>?_⟩;have s7:jH HB H7:=fun b o e=>d7.2 _ _ (jG e bxB) (s6 _ _ e);have kd7:=d7.2 _ _ (kc nbd) kd6;have hyk:y∉ks:=fun z=>aEc aIz hy (hks.subset z);have hk4:ks.length<=4:=jh hks.length_le (jh (List.length_take_le' _ _) (Nat.le_of_eq hp4));refine⟨_,rfl,_,rfl,di,_,rfl,cM.k (k:=jj y) kd7 (by rw[dA,jc];omega),?_⟩;rw[aSv hyk];generalize e8:upd H7 di _=H8;obtain⟨g8',k8'⟩:=vV e8;refine⟨_,ks++[y],upF fi y n,rfl,(fun b o e=>g8' _ _ (jG e diB) (s7 _ _ e)),?_,k8',?_,upF_w hfi ⟨by omega,by omega⟩⟩
   ·obtain⟨p1,p2,p3,e⟩:=d7.1;exact⟨p1,p2,p3,g8' _ _ nbd e⟩
   ·rw[hsn];exact hks.append (List.Sublist.refl _)
  ·exact⟨_,ks,fi,rfl,s6,d6.1,kd6,by rw[hsn];exact hks.trans (List.sublist_append_left _ _),hfi⟩
 obtain⟨o10,ks,fi,rfl,gF,stF,kdF,hks,hfi⟩:=z;rw[li (by rw[δ];exact ι _)]at hks;have kpF:=gF _ _ kpB;refine⟨_,rfl,pl,rfl,⟨_,SqL.of kpF⟩,vI (xs:=(plN v).map V.str) (fun j ys H'=>jH HF H'/\∃ts:List Addr,ys=ts.map V.ref/\ts.length=j/\∀(i:Nat) (t:Addr) (x:Str),ts[i]?=some t->(plN v)[i]?=some x->H' t=some (.tup [.str x,.int (inF ks fi x)])) ⟨jH.refl _,[],rfl,rfl,fun i t x h=>by cases h⟩ (fun j ys H' _ z=>?_) (by rw[δ,hp4];decide) (fun j x ys H' hx z=>?_) (fun ys HG z tl htl=>?_)⟩
 ·obtain⟨s,ts',rfl,hl,_⟩:=z;exact⟨SqL.of (s _ _ kpF),by rw[δ,hl];exact ι _⟩
 ·obtain⟨s,ts',rfl,hl,hat⟩:=z;obtain⟨y,hy,rfl⟩:=qE hx;have kd:=s _ _ kdF;refine⟨_,rfl,_,rfl,di,rfl,.inl ⟨_,.inl kd⟩,_,rfl,_,vX.k (k:=jj y) kd,?_⟩;rw[aEz];refine⟨xM,fun tt htt=>?_⟩;generalize e8:upd H' tt _=H8;obtain⟨g8',k8'⟩:=qG e8 htt;refine⟨⟨s.trans g8',ts'++[tt],by rw[Θ];rfl,by rw[θ,hl];rfl,fun i t x ht hx'=>?_⟩,_,rfl⟩
  by_cases hi:i<ts'.length
  ·rw[jd hi]at ht;exact g8' _ _ (hat i t x ht hx')
  ·have hi2:i=ts'.length:=by
    have:=(η.mp ht).1;rw[θ,km]at this;omega
   subst hi2;rw[iu (ι _),nv]at ht;cases ht;rw[hl,hy]at hx';cases hx';exact k8'
 obtain⟨gFG,ts',rfl,htsl,hat⟩:=z;rw[δ]at htsl;clear 1 tl HH gH kH htl;refine⟨tl,ts',(plN v).map fun x=>(x,V.int (inF ks fi x)),rfl,SqL.of kH,(by rw[htsl,δ]),(fun j t p ht hp=>?_),(by rw[δ,hp4];decide),fun wd hwd=>?_⟩
 ·rw[jv]at hp;obtain⟨x,hx,rfl⟩:=uo.mp hp;exact SqT.of (gH _ _ (hat j t x ht hx))
 have ew:qY [] (((plN v).map fun x=>(x,V.int (inF ks fi x))).map fun p=>((.inr p.1:Key),p.2))=dW (plN v) (inF ks fi):=by
  rw[nh];exact aJc [] (plN v) aIz
 rw[ew];clear 1 wd HI gI kwI hwd;have gFI:=(gFG.trans gH).trans gI;refine⟨_,rfl,di,_,rfl,gFI _ _ kdF,fun hd hhd=>?_⟩;clear 1 hd HJ gJ khJ hhd;have gFJ:=gFI.trans gJ;have gBJ:=gF.trans gFJ;refine⟨_,rfl,la,_,rfl,.inl (SqL.of (gBJ _ _ klB)),?_⟩;rw[δ,δ,hlL];have stJ:St3 HJ bx:=by obtain⟨x,y,z,e⟩:=stF;exact⟨x,y,z,gFJ _ _ e⟩
 refine⟨_,rfl,_,_,rfl,rfl,_,rfl,_,rfl,_,_,rfl,rfl,_,rfl,_,rfl,bx,_,rfl,(by omega),(by omega),stJ,fun w1 HK hw1 dK=>?_⟩;refine⟨_,rfl,bx,_,rfl,(by decide),(by decide),dK.1,fun w2 HL hw2 dL=>⟨(by show 8<=ξ;decide),fun bl hbl=>?_⟩⟩;have eb:([.int 0,.int 1,.int (((ls.length+4:Nat):Int)-1),.int ((ls.length+4:Nat):Int),.int (((ls.length+4:Nat):Int)+1),.int 5000,.int (w1:Int),.int (w2:Int)]:List V)=([0,1,ls.length+3,ls.length+4,ls.length+5,5000,w1,w2]:List Nat).map fun n:Nat=>V.int (n:Int):=by
  rw[show((ls.length+4:Nat):Int)-1=((ls.length+3:Nat):Int) by omega,show((ls.length+4:Nat):Int)+1=((ls.length+5:Nat):Int) by omega];rfl
 rw[eb];have hb:∀n∈([0,1,ls.length+3,ls.length+4,ls.length+5,5000,w1,w2]:List Nat),n<=5000:=fun n hn=>by
  simp at hn;omega
 generalize ([0,1,ls.length+3,ls.length+4,ls.length+5,5000,w1,w2]:List Nat)=bs at hb;clear 1 bl HM gM kM hbl;have bxI:∃o,HI bx=some o:=by obtain⟨x,y,z,e⟩:=stF;exact⟨_,gFI _ _ e⟩
 have bxH:∃o,HH bx=some o:=by obtain⟨x,y,z,e⟩:=stF;exact⟨_,gH _ _ (gFG _ _ e)⟩
 have nwb:wd≠bx:=fun z=>by obtain⟨o,e⟩:=bxH;rw[←z,hwd]at e;cases e
 have nhb:hd≠bx:=fun z=>by obtain⟨o,e⟩:=bxI;rw[←z,hhd]at e;cases e
 have keep:∀{c:Addr}{o:HO},c≠bx->HJ c=some o->HM c=some o:=fun n e=>gM _ _ (dL.2 _ _ n (dK.2 _ _ n e));have gBM:jH HB HM:=fun c o e=>keep (jG e bxB) (gBJ _ _ e);have kdM:=keep (kc nbd) (gFJ _ _ kdF);have kwM:=keep nwb (gJ _ _ kwI);have khM:=keep nhb khJ;have hdB:HB hd=none:=(gF.trans gFI).free hhd;have ndh:di≠hd:=jG (gFI _ _ kdF) hhd;have nwh:wd≠hd:=jG kwI hhd;have nbh:bl≠hd:=kc (jG (dL.2 _ _ nhb (dK.2 _ _ nhb khJ)) hbl);have hall':=aQi (hLL ▸ hall);have hnm12:nm.length<=12:=jh (fY hnd hsub) (by omega);refine⟨_,rfl,bl,rfl,⟨_,SqL.of kM⟩,yA (xs:=bs.map fun n:Nat=>V.int (n:Int)) (fun j σ H'=>∃(o15 o16 o17:Option V),σ = [some (.ref a),some (.str (ζ "abcdghijklmnopqr")),some (.int v),some (.ref pl),some (.ref la),o5,some (.ref ra),some (.ref pg),some (.ref bx),some (.ref di),o10,some (.ref wd),some (.ref hd),some (.int ((ls.length+4:Nat):Int)),some (.ref bl),o15,o16,o17]/\But hd HM H'/\Rd H' hd (.dK (dW ks fi))) ⟨_,_,_,rfl,But.refl,.inl khM⟩ (fun j σ H' _ z=>?_) (fun j x σ H' hx z=>?_) (fun σ H' z=>q _)⟩
 ·obtain⟨o15,o16,o17,rfl,gb,rdh⟩:=z;exact SqL.of (gb _ _ nbh kM)
 obtain⟨o15,o16,o17,rfl,gb,rdh⟩:=z;obtain⟨b,hbm,rfl⟩ : ∃b:Nat,b∈bs/\x=.int (b:Int):=by
  obtain⟨n,hn,e⟩:=jz.mp (iq hx);exact⟨n,hn,e.symm⟩
 have hb5:=hb b hbm;have sB:jH HB H':=fun c o e=>gb _ _ (jG e hdB) (gBM _ _ e);refine⟨_,rfl,cK,fun el hel=>?_⟩;clear 1 el HN gN kN hel;refine fun st dst hst hdst _=>⟨st,dst,.ref ra,el,HN,rfl,jI,aO hst hdst,hst,kN,fun lk hd2 Hq gO klk khd kst=>⟨rfl,?_⟩⟩;have gNO:=gN.trans gO;have rdO:=iC rdh gNO;have sBO:=sB.trans gNO;refine⟨_,rfl,_,rfl,_,rfl,_,rfl,pg,st,hd,dst,_,b,LL,nm,ks,fi,rfl,hpr.same sBO,kst,rfl,rdO,hnd,(fun x hx=>hall' x (hks.subset hx)),hfi,sub_len hks,hnm12,(fun l hl=>⟨hlT l hl,o6_nm (hlO l hl) (hall l hl)⟩),(by omega),hb5,fun r dr ol ll fv HP gP rdP krP holN kol kll h1 h2=>?_⟩;have sBP:jH HB HP:=fun c o e=>gP _ _ (jG e hdB) (sBO _ _ e);have kwP:=gP _ _ nwh (gNO _ _ (gb _ _ nwh kwM));have kdP:=gP _ _ ndh (gNO _ _ (gb _ _ ndh kdM));refine⟨_,rfl,r,ar,_,_,_,rfl,krP,ao.cl,ao.nd,rfl,_,rfl,r,ar,_,_,_,rfl,krP,ao.cl,ao.nd,rfl,_,rfl,r,ar,_,_,_,rfl,krP,ao.cl,ao.nd,rfl,mF,fun tp htp=>?_⟩;clear 1 tp HQ gQ kQ htp;refine⟨_,rfl,_,rfl,_,rfl,la,wd,b,LL,plN v,inF ks fi,rfl,gQ _ _ (sBP _ _ klB),gQ _ _ kwP,(fun l hl=>⟨hlT l hl,hlO l hl⟩),hpT,aPm hfi,(by omega),(by omega),fun t2 ol2 fv2 HR gR kt2 kol2 h3 h4=>?_⟩;have gPR:=gQ.trans gR;refine⟨_,_,aHr (gR _ _ kQ) (gPR _ _ kol) h1 (fun z=>by obtain⟨u,e,k⟩:=h2 z;exact⟨u,e,gPR _ _ k⟩),aHr kt2 kol2 h3 h4,aCj,aCj,?_⟩;rw[aRc];have rdR:=iC rdP gPR;refine⟨_,rfl,qP ⟨_,rfl,_,rfl,hd,di,ks,_,_,rfl,rfl,(by rw[←aIk];exact rdR),(by rw[←aIk];exact .inl (gPR _ _ kdP)),(by rw[δ]),aId ks,aIo ks,_,rfl,qP ?_⟩⟩;have nO:∀{c:Addr}{o:HO},Hq c=some o->(∀kvs,o≠.dK kvs)->(∀o' u,o≠.frz o' u)->HP c=some o:=fun {c o} e z1 z2=>gP _ _ (fun z=>by rw[z]at e;rcases rdO with h|⟨o',h⟩ <;> rw[e]at h <;> cases h;exact z1 _ rfl;exact z2 _ _ rfl) e;have kst2:=gPR _ _ (nO kst (fun _ z=>by cases z) (fun _ _ z=>by cases z));have klk2:=gPR _ _ (nO klk (fun _ z=>by cases z) (fun _ _ z=>by cases z));have khd2:=gPR _ _ (nO khd (fun _ z=>by cases z) (fun _ _ z=>by cases z));have kr2:=gPR _ _ krP;refine⟨_,rfl,r,ar,_,_,_,rfl,kr2,ao.cl,ao.nd,rfl,cK,fun e1 he1=>?_⟩;clear 1 e1 HS gS kS he1;refine⟨ll,e1,[],rfl,rfl,SqL.of (gS _ _ (gPR _ _ kll)),SqL.of kS,_,rfl,qP ?_⟩;refine⟨_,rfl,st,ah,_,_,_,rfl,(gS _ _ kst2),ak.cl,ak.nd,rfl,cK,fun e2 he2=>?_⟩;clear 1 e2 HT gT kT he2;have gRT:=gS.trans gT;refine⟨lk,e2,[],rfl,rfl,SqL.of (gRT _ _ klk2),SqL.of kT,_,rfl,qP ?_⟩;refine⟨_,rfl,st,_,_,rfl,gRT _ _ kst2,rfl,st,dst,_,_,_,hd2,rfl,gRT _ _ kst2,gRT _ _ khd2,fun rc hrc=>⟨cK,fun e3 he3=>?_⟩⟩;generalize eU:upd HT rc _=HU at he3 ⊢;obtain⟨gU,kU⟩:=qG eU hrc;generalize eV:upd HU e3 _=HV;obtain⟨gV,kV'⟩:=qG eV he3;refine⟨rc,e3,[],rfl,rfl,SqL.of (gV _ _ kU),SqL.of kV',_,rfl,qP ?_⟩;have gPV:=((gPR.trans gRT).trans gU).trans gV;have hsl:=oM (LL.take (min b LL.length)) (inF ks fi);have hsl2:=List.length_take_le' (min b LL.length) LL;refine⟨_,rfl,r,ar,_,_,_,rfl,(gPV _ _ krP),ao.cl,ao.nd,rfl,.inl ⟨rfl,_,SqL.of (gPV _ _ kol)⟩,_,rfl,ol,_,_,rfl,rfl,gPV _ _ kol,(by rw[δ,jc];omega),?_⟩;clear 0 ol HW gW kW;have nho:hd≠ol:=fun z=>by rw[←z]at holN;rcases rdO with h|⟨o',h⟩ <;> rw[holN]at h <;> cases h
 refine⟨_,_,_,rfl,fun c o n e=>?_,?_⟩
 ·have eO:=gNO _ _ (gb _ _ n e);exact gW _ _ (jG eO holN) (gPV _ _ (gP _ _ n eO))
 ·exact(iC rdP gPV).imp (gW _ _ nho) fun ⟨o',z⟩=>⟨o',gW _ _ nho z⟩
end
end K36
namespace K36
open PySem L2 PyProof.Rows
local macro_rules | `(tactic| walk_at"b1") => `(tactic| exact fun _ _ _ _ _ _ us hl => by obtain ⟨a0, rfl⟩ := ls1 hl;rfl)
local macro_rules | `(tactic| walk_at"b2") => `(tactic| exact fun _ _ _ _ _ _ us hl => by obtain ⟨a0, a1, rfl⟩ := ls2 hl;rfl)
local macro_rules | `(tactic| walk_at"b3") => `(tactic| exact fun _ _ _ _ _ _ us hl => by obtain ⟨a0, a1, a2, rfl⟩ := ls3 hl;rfl)
local macro_rules | `(tactic| walk_at"b4") => `(tactic| exact fun _ _ _ _ _ _ us hl => by obtain ⟨a0, a1, a2, a3, rfl⟩ := ls4 hl;rfl)
local macro_rules | `(tactic| walk_at"b5") => `(tactic| exact fun _ _ _ _ _ _ us hl => by obtain ⟨a0, a1, a2, a3, a4, rfl⟩ := ls5 hl;rfl)
local macro_rules | `(tactic| walk_at"b7") => `(tactic| exact fun _ _ _ _ _ _ us hl => by obtain ⟨a0, a1, a2, a3, a4, a5, a6, rfl⟩ := ls7 hl;rfl)
theorem ls1{us:List Value}(h:us.length=1):∃a0,us=[a0]:=by
 cases us with
 |nil=>cases h
 |cons a0 us =>
  cases us with
  |nil=>exact⟨a0,rfl⟩
  |cons _ us=>simp only[χ]at h;omega
theorem ls2{us:List Value}(h:us.length=2):∃a0 a1,us=[a0,a1]:=by
 cases us with
 |nil=>cases h
 |cons a0 us =>
  cases us with
  |nil=>cases h
  |cons a1 us =>
   cases us with
   |nil=>exact⟨a0,a1,rfl⟩
   |cons _ us=>simp only[χ]at h;omega
theorem ls3{us:List Value}(h:us.length=3):∃a0 a1 a2,us=[a0,a1,a2]:=by
 cases us with
 |nil=>cases h
 |cons a0 us =>
  cases us with
  |nil=>cases h
  |cons a1 us =>
   cases us with
   |nil=>cases h
   |cons a2 us =>
    cases us with
    |nil=>exact⟨a0,a1,a2,rfl⟩
    |cons _ us=>simp only[χ]at h;omega
theorem ls4{us:List Value}(h:us.length=4):∃a0 a1 a2 a3,us=[a0,a1,a2,a3]:=by
 cases us with
 |nil=>cases h
 |cons a0 us =>
  cases us with
  |nil=>cases h
  |cons a1 us =>
   cases us with
   |nil=>cases h
   |cons a2 us =>
    cases us with
    |nil=>cases h
    |cons a3 us =>
     cases us with
     |nil=>exact⟨a0,a1,a2,a3,rfl⟩
     |cons _ us=>simp only[χ]at h;omega
theorem ls5{us:List Value}(h:us.length=5):∃a0 a1 a2 a3 a4,us=[a0,a1,a2,a3,a4]:=by
 cases us with
 |nil=>cases h
 |cons a0 us =>
  cases us with
  |nil=>cases h
  |cons a1 us =>
   cases us with
   |nil=>cases h
   |cons a2 us =>
    cases us with
    |nil=>cases h
    |cons a3 us =>
     cases us with
     |nil=>cases h
     |cons a4 us =>
      cases us with
      |nil=>exact⟨a0,a1,a2,a3,a4,rfl⟩
      |cons _ us=>simp only[χ]at h;omega
theorem ls7{us:List Value}(h:us.length=7):∃a0 a1 a2 a3 a4 a5 a6,us=[a0,a1,a2,a3,a4,a5,a6]:=by
 cases us with
 |nil=>cases h
 |cons a0 us =>
  cases us with
  |nil=>cases h
  |cons a1 us =>
   cases us with
   |nil=>cases h
   |cons a2 us =>
    cases us with
    |nil=>cases h
    |cons a3 us =>
     cases us with
     |nil=>cases h
     |cons a4 us =>
      cases us with
      |nil=>cases h
      |cons a5 us =>
       cases us with
       |nil=>cases h
       |cons a6 us =>
        cases us with
        |nil=>exact⟨a0,a1,a2,a3,a4,a5,a6,rfl⟩
        |cons _ us=>simp only[χ]at h;omega
theorem mO{K:Φ}{k:Nat}(h:jU P w K mg base CX j f fd ps sp)(hk:j<=k:=by decide):jU P w K mg base CX k f fd ps sp:=jU.mono h hk
structure FG (K:Φ) (n:Str) (s:Stmt) (f:Addr):Prop where
 a:rh K Ψ n=some (some (.ref f))
 l:∃fd,Fun K n n s f fd
structure FM (K:Φ) (C:Addr) (n q:Str) (s:Stmt) (f:Addr):Prop where
 a:uj K (.ref C) n=some (some (.ref f))
 i:isFn K (.ref f)=true
 l:∃fd,Fun K n q s f fd
structure CK (K:Φ) (n:Str) (C:Addr) (as:List Str):Prop where
 g:rh K Ψ n=some (some (.ref C))
 c:Cls K C
 m:PySem.W.makesIn K C=true
 k:keepIn K (.ref C)=true
 n:∀a∈as,yM K C a
section
variable {K:Φ}{h:ky}{mg:Str->Option Value}{n q:Str}{s:Stmt}{f C:Addr}{as:List Str}
theorem FG.o(X:K.In h)(G:h.Ns Ψ mg)(A:FG K n s f)(ps:List Str)(b:∀(kV doc pm:Value) (an:Option Addr) (cdv ct:Value) (us:List Value),us.length=ps.length->bindArgs (fnOf n n (cO s) (aP s) (jF s) .none kV doc pm an cdv ct) ⟨us,[]⟩=pure (ps.zip us)):∃fd,Fun K n n s f fd/\Df K mg n f fd ps:=A.l.elim fun fd F=>⟨fd,F,tj X G A.a,F.kp,F.binds b⟩
theorem FM.o(A:FM K C n q s f)(ps:List Str)(b:∀(kV doc pm:Value) (an:Option Addr) (cdv ct:Value) (us:List Value),us.length=ps.length->bindArgs (fnOf n q (cO s) (aP s) (jF s) .none kV doc pm an cdv ct) ⟨us,[]⟩=pure (ps.zip us)):∃fd,Fun K n q s f fd/\DfM K C n f fd ps:=A.l.elim fun fd F=>⟨fd,F,⟨A.a,A.i,F.kp⟩,F.binds b⟩
theorem FM.j(A:FM K C n q s f)(ps:List Str)(b:∀(kV doc pm:Value) (an:Option Addr) (cdv ct:Value) (us:List Value),us.length=ps.length->bindArgs (fnOf n q (cO s) (aP s) (jF s) .none kV doc pm an cdv ct) ⟨us,[]⟩=pure (ps.zip us)):∃fd,Fun K n q s f fd/\DfI K fd ps:=A.l.elim fun fd F=>⟨fd,F,⟨F.binds b⟩⟩
theorem CK.o(X:K.In h)(G:h.Ns Ψ mg)(A:CK K n C as)(I:FM K C "__init__" q s f):fM K mg n C f as:=⟨tj X G A.g,A.c,⟨A.m,I.a,I.i,A.k⟩,A.n⟩
theorem na0:∀a∈([]:List Str),yM K C a:=fun _ h=>nomatch h
theorem na1(h:uj K (.ref C) n=some none)(r:∀a∈as,yM K C a):∀a∈n::as,yM K C a:=fun a m=>(ο.mp m).elim (fun e=>e▸h) (r a)
end
theorem all_mk{l:PySem.W.OpenLaw}{K:Φ}{mg:Str->Option Value}(X:K.In h)(G:h.Ns Ψ mg)(hfa:mg "law" = some (.ref fa)){odt:Option Addr}{slt:Array (Option Value)}{oz1:Option Addr}{sl_1:Array (Option Value)}{y2_0 y2_1 y2_2 y2_3 y2_4:Tok}{oz2:Option Addr}{sl_2:Array (Option Value)}{oz3:Option Addr}{sl_3:Array (Option Value)}{oz4:Option Addr}{sl_4:Array (Option Value)}{oz5:Option Addr}{sl_5:Array (Option Value)}{y6_1:Tok}{oz6:Option Addr}{sl_6:Array (Option Value)}{oz7:Option Addr}{sl_7:Array (Option Value)}{y8_1:Tok}{oz8:Option Addr}{sl_8:Array (Option Value)}{oz9:Option Addr}{sl_9:Array (Option Value)}{y10_1:Tok}{oz10:Option Addr}{sl_10:Array (Option Value)}{oz11:Option Addr}{sl_11:Array (Option Value)}{y12_1:Tok}{oz12:Option Addr}{sl_12:Array (Option Value)}{oz13:Option Addr}{sl_13:Array (Option Value)}{oz14:Option Addr}{sl_14:Array (Option Value)}{oz15:Option Addr}{sl_15:Array (Option Value)}{y16_1:Tok}{oz16:Option Addr}{sl_16:Array (Option Value)}{oz17:Option Addr}{sl_17:Array (Option Value)}{oz18:Option Addr}{sl_18:Array (Option Value)}{oz19:Option Addr}{sl_19:Array (Option Value)}{oz20:Option Addr}{sl_20:Array (Option Value)}{oz21:Option Addr}{sl_21:Array (Option Value)}{y22_1:Tok}{oz22:Option Addr}{sl_22:Array (Option Value)}{oz23:Option Addr}{sl_23:Array (Option Value)}{oz24:Option Addr}{sl_24:Array (Option Value)}{oz25:Option Addr}{sl_25:Array (Option Value)}{y26_1:Tok}{oz26:Option Addr}{sl_26:Array (Option Value)}{oz27:Option Addr}{sl_27:Array (Option Value)}{oz28:Option Addr}{sl_28:Array (Option Value)}{oz29:Option Addr}{sl_29:Array (Option Value)}{oz30:Option Addr}{sl_30:Array (Option Value)}{oz31:Option Addr}{sl_31:Array (Option Value)}{oz32:Option Addr}{sl_32:Array (Option Value)}{oz33:Option Addr}{sl_33:Array (Option Value)}{oz34:Option Addr}{sl_34:Array (Option Value)}{oz35:Option Addr}{sl_35:Array (Option Value)}{oz36:Option Addr}{sl_36:Array (Option Value)}{oz37:Option Addr}{sl_37:Array (Option Value)}{oz38:Option Addr}{sl_38:Array (Option Value)}(qm1:rh K Ψ "Loop" = some (some (.ref bi)))(qm2:rh K Ψ "Choice" = some (some (.ref au)))(qm3:rh K Ψ "Store" = some (some (.ref ba)))
 (cNum:CK K "Num" Va ["width"])
 (cNested:CK K "Nested" Vb ["shape"])
 (cMany:CK K "Many" Vc ["count","kind"])
 (cPick:CK K "Pick" Vd ["shapes"])
 (cShape:CK K "Shape" Ve ["name","fields"])
 (cShapes:CK K "Shapes" Vf ["shapes"])
 (cRow:CK K "Row" ae ["line","deed","goal","reads","steps","number"])
 (cProgram:CK K "Program" ai ["shapes","rows","named","written"])
 (cRun:CK K "Run" ar ["outs","fault","done","lines"])
 (cGoing:CK K "Going" ac ["stock","words","budget","outs","fault","done","lines"])
 (cPlain:CK K "Plain" ah ["shapes","looks","bound","held"])
 (a0:FG K "is_whole" fQ f0)
 (a1:FG K "is_between" cS f1)
 (a2:FG K "is_name" mC f2)
 (a3:FG K "is_text_of" cL f3)
 (a4:FG K "number_in" dS f4)
 (a5:FG K "bound_of" fL f5)
 (a6:FG K "is_word" lH f6)
 (a7:FG K "joined" rJ f7)
 (a8:FM K Vb "units_at" "Kind.units_at" zA f8)
 (a9:FM K Va "__init__" "Num.__init__" fU f9)
 (a10:FM K Va "size" "Num.size" fG f10)
 (a11:FM K Va "depth" "Num.depth" dY f11)
 (a12:FM K Va "units_at" "Num.units_at" zX f12)
 (a13:FM K Vb "__init__" "Nested.__init__" bI f13)
 (a14:FM K Vb "size" "Nested.size" aY f14)
 (a15:FM K Vb "depth" "Nested.depth" aA f15)
 (a16:FM K Vb "parted" "Nested.parted" zE f16)
 (a17:FM K Vc "__init__" "Many.__init__" dG f17)
 (a18:FM K Vc "size" "Many.size" dM f18)
 (a19:FM K Vc "depth" "Many.depth" cE f19)
 (a20:FM K Vc "parted" "Many.parted" aV f20)
 (a21:FM K Vd "__init__" "Pick.__init__" eF f21)
 (a22:FM K Vd "size" "Pick.size" dZ f22)
 (a23:FM K Vd "greatest" "Pick.greatest" zF f23)
 (a24:FM K Vd "depth" "Pick.depth" cI f24)
 (a25:FM K Vd "units_at" "Pick.units_at" zD f25)
 (a26:FM K Ve "__init__" "Shape.__init__" bW f26)
 (a27:FM K Ve "size" "Shape.size" bY f27)
 (a28:FM K Ve "depth" "Shape.depth" bH f28)
 (a29:FM K Ve "units" "Shape.units" aX f29)
 (a30:FM K Vf "__init__" "Shapes.__init__" bJ f30)
 (a31:FM K Vf "main" "Shapes.main" aR f31)
 (a32:FM K ae "__init__" "Row.__init__" fK f32)
 (a33:FM K ai "__init__" "Program.__init__" zZ f33)
 (a34:FM K ai "names" "Program.names" zH f34)
 (a35:FG K "read_program" zY f35)
 (a36:FG K "lines_in" fR f36)
 (a37:FG K "form_of" lF f37)
 (a38:FG K "fits" aDy f38)
 (a39:FG K "need_standing" yU f39)
 (a40:FG K "begun_behind" aF f40)
 (a41:FG K "row_in" pR f41)
 (a42:FG K "names_in" fP f42)
 (a43:FG K "unlike" pG f43)
 (a44:FG K "rows_from" dO f44)
 (a45:FG K "line_behind" aU f45)
 (a46:FG K "whole_row" dF f46)
 (a47:FM K ar "__init__" "Run.__init__" fN f47)
 (a48:FM K ac "__init__" "Going.__init__" cP f48)
 (a49:FM K ac "do_rows" "Going.do_rows" yY f49)
 (a50:FM K ac "do_row" "Going.do_row" zQ f50)
 (a51:FM K ac "is_let" "Going.is_let" aE f51)
 (a52:FM K ac "do_deed" "Going.do_deed" yZ f52)
 (a53:FM K ac "told_by" "Going.told_by" zI f53)
 (a54:FG K "run" aKk f54)
 (a55:FG K "need_inputs" aQ f55)
 (a56:FG K "rest" aDa f56)
 (a57:FG K "reckoned" fF f57)
 (a58:FG K "read_shapes" bG f58)
 (a59:FG K "is_shape_line" yT f59)
 (a60:FG K "is_field_line" zG f60)
 (a61:FG K "is_kind" lK f61)
 (a62:FG K "is_single" dN f62)
 (a63:FG K "need_new_shape" yN f63)
 (a64:FG K "need_field" cA f64)
 (a65:FG K "shapes_named" aD f65)
 (a66:FG K "whole_shapes" zR f66)
 (a67:FG K "with_field" cR f67)
 (a68:FG K "kind_in" lA f68)
 (a69:FG K "is_too_much" aW f69)
 (a70:FM K ba "__init__" "Store.__init__" cN f70)
 (a71:FM K ah "ahead" "Store.ahead" aZ f71)
 (a72:FM K ah "__init__" "Plain.__init__" cD f72)
 (a73:FM K ah "records" "Plain.records" zC f73)
 (a74:FG K "need_records" zO f74)
 (a75:FG K "_law_cell" fJ f75)
 (a76:FG K "_law_mixed" eA f76)
 (a77:FG K "_law_box" mJ f77)
 (a78:FG K "_law_take" fT f78)
 (a79:FG K "_law_number" cJ f79)
 (a80:FG K "_law_line" fD f80)
 (a81:FG K "_law_due" lG f81)
 (a82:FG K "law" aJt f82)
  (z0:rh K Ψ "range" = some none)
  (z1:rh K Ψ "len" = some none)
  (z2:rh K Ψ "isinstance" = some none)
  (z3:rh K Ψ "int" = some none)
  (z4:rh K Ψ "bool" = some none)
  (z5:rh K Ψ "list" = some none)
  (z6:rh K Ψ "all" = some none)
  (z7:rh K Ψ "max" = some none)
  (z8:rh K Ψ "min" = some none)
  (z9:rh K Ψ "reversed" = some none)
  (z10:rh K Ψ "tuple" = some none)
  (z11:rh K Ψ "divmod" = some none)
  (z12:rh K Ψ "str" = some none)
  (z13:rh K Ψ "sum" = some none)
  (z14:rh K Ψ "zip" = some none)
  (z15:rh K Ψ "enumerate" = some none)
  (z16:rh K Ψ "dict" = some none)
  (z17:rh K Ψ "sorted" = some none)
  (v1:rh K Ψ "SMALL_LETTERS" = some (some (.str "abcdefghijklmnopqrstuvwxyz" t1)))(v2:rh K Ψ "FIGURES" = some (some (.str "0123456789" t2)))(v3:rh K Ψ "MOST_LETTERS" = some (some (.int 6 t3)))(v4:rh K Ψ "MOST_FIGURES" = some (some (.int 10 t4)))(v5:rh K Ψ "MOST_SHAPES" = some (some (.int 8 t5)))(v6:rh K Ψ "MOST_FIELDS" = some (some (.int 6 t6)))(v7:rh K Ψ "MOST_CELLS" = some (some (.int 64 t7)))(v8:rh K Ψ "MOST_UNITS" = some (some (.int 40 t8)))(v9:rh K Ψ "MOST_DEPTH" = some (some (.int 4 t9)))(v10:rh K Ψ "MOST_WIDTH" = some (some (.int 4 t10)))(v11:rh K Ψ "MOST_COUNT" = some (some (.int 6 t11)))(v12:rh K Ψ "LEAST_PICKED" = some (some (.int 2 t12)))(v13:rh K Ψ "MOST_PICKED" = some (some (.int 4 t13)))(v14:rh K Ψ "WORD_CELLS" = some (some (.int 4 t14)))(v15:rh K Ψ "MOST_LINES" = some (some (.int 60 t15)))(v16:rh K Ψ "MOST_NAMES" = some (some (.int 12 t16)))(v17:rh K Ψ "MOST_BEGUN" = some (some (.int 3 t17)))(v18:rh K Ψ "MOST_BUDGET" = some (some (.int 5000 t18)))
  (w1:rh K Ψ "OWN_WORDS" = some (some (.ref ts)))(w2:K.lookup ts=some ⟨.type "tuple",odt,.seq #[.str "shape" u0,.str "num" u1,.str "row" u2,.str "pick" u3,.str "tag" u4,.str "room" u5,.str "things" u6,.str "part" u7,.str "tags" u8,.str "put" u9,.str "take" u10,.str "many" u11,.str "look" u12,.str "which" u13,.str "store" u14,.str "choose" u15,.str "copy" u16,.str "each" u17,.str "span" u18,.str "if" u19,.str "else" u20,.str "end" u21,.str "out" u22] nt,slt⟩)
  (xN1:rh K Ψ "NAMES" = some (some (.ref tNa)))(xN2:K.lookup tNa=some ⟨.type "tuple",oz1,.seq #[.str "A" y1_0,.str "B" y1_1,.str "C" y1_2,.str "I" y1_3,.str "J" y1_4] nn_1,sl_1⟩)
  (xS1:rh K Ψ "SIGNS" = some (some (.ref tSi)))(xS2:K.lookup tSi=some ⟨.type "tuple",oz2,.seq #[.str "+" y2_0,.str "-" y2_1,.str "*" y2_2,.str "<" y2_3,.str "=" y2_4,.str "&" y2_5] nn_2,sl_2⟩)
  (xB1:rh K Ψ "BEGINNINGS" = some (some (.ref tBe)))(xB2:K.lookup tBe=some ⟨.type "tuple",oz3,.seq #[.str "each" y3_0,.str "span" y3_1,.str "if" y3_2] nn_3,sl_3⟩)
  (xF1:rh K Ψ "FORMS" = some (some (.ref tFo)))(xF2:K.lookup tFo=some ⟨.type "tuple",oz4,.seq #[.ref fa0,.ref fa1,.ref fa2,.ref fa3,.ref fa4,.ref fa5,.ref fa6,.ref fa7,.ref fa8,.ref fa9,.ref fa10,.ref fa11,.ref fa12,.ref fa13,.ref fa14,.ref fa15,.ref fa16] nn_4,sl_4⟩)
  (ya0:K.lookup fa0=some ⟨.type "tuple",oz5,.seq #[.str "number" y5_0,.ref ga0] nn_5,sl_5⟩)(yb0:K.lookup ga0=some ⟨.type "tuple",oz6,.seq #[.str "A" y6_0,.str "=" y6_1,.str "NUMBER" y6_2] nn_6,sl_6⟩)
  (ya1:K.lookup fa1=some ⟨.type "tuple",oz7,.seq #[.str "name" y7_0,.ref ga1] nn_7,sl_7⟩)(yb1:K.lookup ga1=some ⟨.type "tuple",oz8,.seq #[.str "A" y8_0,.str "=" y8_1,.str "B" y8_2] nn_8,sl_8⟩)
  (ya2:K.lookup fa2=some ⟨.type "tuple",oz9,.seq #[.str "OP" y9_0,.ref ga2] nn_9,sl_9⟩)(yb2:K.lookup ga2=some ⟨.type "tuple",oz10,.seq #[.str "A" y10_0,.str "=" y10_1,.str "B" y10_2,.str "OP" y10_3,.str "C" y10_4] nn_10,sl_10⟩)
  (ya3:K.lookup fa3=some ⟨.type "tuple",oz11,.seq #[.str "look" y11_0,.ref ga3] nn_11,sl_11⟩)(yb3:K.lookup ga3=some ⟨.type "tuple",oz12,.seq #[.str "A" y12_0,.str "=" y12_1,.str "look" y12_2,.str "I" y12_3,.str "PATH" y12_4] nn_12,sl_12⟩)
  (ya4:K.lookup fa4=some ⟨.type "tuple",oz13,.seq #[.str "store" y13_0,.ref ga4] nn_13,sl_13⟩)(yb4:K.lookup ga4=some ⟨.type "tuple",oz14,.seq #[.str "store" y14_0,.str "I" y14_1,.str "PATH" y14_2,.str "B" y14_3] nn_14,sl_14⟩)
  (ya5:K.lookup fa5=some ⟨.type "tuple",oz15,.seq #[.str "which" y15_0,.ref ga5] nn_15,sl_15⟩)(yb5:K.lookup ga5=some ⟨.type "tuple",oz16,.seq #[.str "A" y16_0,.str "=" y16_1,.str "which" y16_2,.str "I" y16_3,.str "PATH" y16_4] nn_16,sl_16⟩)
  (ya6:K.lookup fa6=some ⟨.type "tuple",oz17,.seq #[.str "choose" y17_0,.ref ga6] nn_17,sl_17⟩)(yb6:K.lookup ga6=some ⟨.type "tuple",oz18,.seq #[.str "choose" y18_0,.str "I" y18_1,.str "PATH" y18_2,.str "B" y18_3] nn_18,sl_18⟩)
  (ya7:K.lookup fa7=some ⟨.type "tuple",oz19,.seq #[.str "copy" y19_0,.ref ga7] nn_19,sl_19⟩)(yb7:K.lookup ga7=some ⟨.type "tuple",oz20,.seq #[.str "copy" y20_0,.str "I" y20_1,.str "J" y20_2] nn_20,sl_20⟩)
  (ya8:K.lookup fa8=some ⟨.type "tuple",oz21,.seq #[.str "put" y21_0,.ref ga8] nn_21,sl_21⟩)(yb8:K.lookup ga8=some ⟨.type "tuple",oz22,.seq #[.str "A" y22_0,.str "=" y22_1,.str "put" y22_2] nn_22,sl_22⟩)
  (ya9:K.lookup fa9=some ⟨.type "tuple",oz23,.seq #[.str "take" y23_0,.ref ga9] nn_23,sl_23⟩)(yb9:K.lookup ga9=some ⟨.type "tuple",oz24,.seq #[.str "take" y24_0,.str "I" y24_1] nn_24,sl_24⟩)
  (ya10:K.lookup fa10=some ⟨.type "tuple",oz25,.seq #[.str "many" y25_0,.ref ga10] nn_25,sl_25⟩)(yb10:K.lookup ga10=some ⟨.type "tuple",oz26,.seq #[.str "A" y26_0,.str "=" y26_1,.str "many" y26_2] nn_26,sl_26⟩)
  (ya11:K.lookup fa11=some ⟨.type "tuple",oz27,.seq #[.str "out" y27_0,.ref ga11] nn_27,sl_27⟩)(yb11:K.lookup ga11=some ⟨.type "tuple",oz28,.seq #[.str "out" y28_0,.str "A" y28_1] nn_28,sl_28⟩)
  (ya12:K.lookup fa12=some ⟨.type "tuple",oz29,.seq #[.str "each" y29_0,.ref ga12] nn_29,sl_29⟩)(yb12:K.lookup ga12=some ⟨.type "tuple",oz30,.seq #[.str "each" y30_0,.str "I" y30_1] nn_30,sl_30⟩)
  (ya13:K.lookup fa13=some ⟨.type "tuple",oz31,.seq #[.str "span" y31_0,.ref ga13] nn_31,sl_31⟩)(yb13:K.lookup ga13=some ⟨.type "tuple",oz32,.seq #[.str "span" y32_0,.str "I" y32_1,.str "B" y32_2,.str "C" y32_3] nn_32,sl_32⟩)
  (ya14:K.lookup fa14=some ⟨.type "tuple",oz33,.seq #[.str "if" y33_0,.ref ga14] nn_33,sl_33⟩)(yb14:K.lookup ga14=some ⟨.type "tuple",oz34,.seq #[.str "if" y34_0,.str "A" y34_1] nn_34,sl_34⟩)
  (ya15:K.lookup fa15=some ⟨.type "tuple",oz35,.seq #[.str "else" y35_0,.ref ga15] nn_35,sl_35⟩)(yb15:K.lookup ga15=some ⟨.type "tuple",oz36,.seq #[.str "else" y36_0] nn_36,sl_36⟩)
  (ya16:K.lookup fa16=some ⟨.type "tuple",oz37,.seq #[.str "end" y37_0,.ref ga16] nn_37,sl_37⟩)(yb16:K.lookup ga16=some ⟨.type "tuple",oz38,.seq #[.str "end" y38_0] nn_38,sl_38⟩)
  (w3:uj K (.ref Vc) "units_at" = some (some (.ref f8)))
  (q1:vf K (.builtin "object.__class__") "__get__" = some (some (.builtin "getset_descriptor.__get__")))(q2:PySem.W.takesIn K (.builtin "object.__class__")=some true)
  (qa:uj K (.ref ae) "__class__" = some (some (.builtin "object.__class__")))(qb:PySem.W.mroIn K ae (.type "object")=some true)(qn1:si K (.ref ae) (.ref ae)=some true)(qn2:si K (.ref ae) (.ref bi)=some false)(qn3:si K (.ref ae) (.ref au)=some false)
  (xr:PySem.W.readsIn K ba (.type "type")=true)(xf:PySem.W.findCls K (.ref ba) (.type "type") "__init__" = some (.val (.ref f70)))(xp:vf K (.ref ba) "__getattribute__" = some (some (.builtin "type.__getattribute__"))):
  ∃fd:tu,(∀(s:μ) (v:Value),BindsTo s fd ⟨[v],[]⟩ [("_law_script",v)])/\∀base:ky,K.In base->base.Ns Ψ mg->jU l.prog w K mg base CX0 86 fa fd ["_law_script"] (aFb K):=by
 have e:=hfa.symm.trans (tj X G a82.a);cases e;obtain⟨d82,F82⟩:=a82.l;obtain⟨d0,F0,D0⟩:=a0.o X G ["thing"] (by walk_at"b1");obtain⟨d1,F1,D1⟩:=a1.o X G ["thing","low","high"] (by walk_at"b3");obtain⟨d2,F2,D2⟩:=a2.o X G ["thing"] (by walk_at"b1");obtain⟨d3,F3,D3⟩:=a3.o X G ["thing","signs","most"] (by walk_at"b3");obtain⟨d4,F4,D4⟩:=a4.o X G ["text","low","high"] (by walk_at"b3");obtain⟨d5,F5,D5⟩:=a5.o X G ["width"] (by walk_at"b1");obtain⟨d6,F6,D6⟩:=a6.o X G ["thing","width"] (by walk_at"b2");obtain⟨d7,F7,D7⟩:=a7.o X G ["path","step"] (by walk_at"b2");obtain⟨d8,F8,D8⟩:=a8.o ["self","path"] (by walk_at"b2");obtain⟨d9,F9,D9⟩:=a9.j ["self","width"] (by walk_at"b2");obtain⟨d10,F10,D10⟩:=a10.o ["self"] (by walk_at"b1");obtain⟨d11,F11,D11⟩:=a11.o ["self"] (by walk_at"b1");obtain⟨d12,F12,D12⟩:=a12.o ["self","path"] (by walk_at"b2");obtain⟨d13,F13,D13⟩:=a13.j ["self","shape"] (by walk_at"b2");obtain⟨d14,F14,D14⟩:=a14.o ["self"] (by walk_at"b1");obtain⟨d15,F15,D15⟩:=a15.o ["self"] (by walk_at"b1");obtain⟨d16,F16,D16⟩:=a16.o ["self"] (by walk_at"b1");obtain⟨d17,F17,D17⟩:=a17.j ["self","count","kind"] (by walk_at"b3");obtain⟨d18,F18,D18⟩:=a18.o ["self"] (by walk_at"b1");obtain⟨d19,F19,D19⟩:=a19.o ["self"] (by walk_at"b1");obtain⟨d20,F20,D20⟩:=a20.o ["self"] (by walk_at"b1");obtain⟨d21,F21,D21⟩:=a21.j ["self","shapes"] (by walk_at"b2");obtain⟨d22,F22,D22⟩:=a22.o ["self"] (by walk_at"b1");obtain⟨d23,F23,D23⟩:=a23.o ["self"] (by walk_at"b1");obtain⟨d24,F24,D24⟩:=a24.o ["self"] (by walk_at"b1");obtain⟨d25,F25,D25⟩:=a25.o ["self","path"] (by walk_at"b2");obtain⟨d26,F26,D26⟩:=a26.j ["self","name","fields"] (by walk_at"b3");obtain⟨d27,F27,D27⟩:=a27.o ["self"] (by walk_at"b1");obtain⟨d28,F28,D28⟩:=a28.o ["self"] (by walk_at"b1");obtain⟨d29,F29,D29⟩:=a29.o ["self"] (by walk_at"b1");obtain⟨d30,F30,D30⟩:=a30.j ["self","shapes"] (by walk_at"b2");obtain⟨d31,F31,D31⟩:=a31.o ["self"] (by walk_at"b1");obtain⟨d32,F32,D32⟩:=a32.j ["self","line","deed","goal","reads","steps","number"] (by walk_at"b7");obtain⟨d33,F33,D33⟩:=a33.j ["self","shapes","rows","named","written"] (by walk_at"b5");obtain⟨d34,F34,D34⟩:=a34.o ["self"] (by walk_at"b1");obtain⟨d35,F35,D35⟩:=a35.o X G ["shapes","text"] (by walk_at"b2");obtain⟨d36,F36,D36⟩:=a36.o X G ["text"] (by walk_at"b1");obtain⟨d37,F37,D37⟩:=a37.o X G ["line","words"] (by walk_at"b2");obtain⟨d38,F38,D38⟩:=a38.o X G ["part","word"] (by walk_at"b2");obtain⟨d39,F39,D39⟩:=a39.o X G ["begun","line","deed"] (by walk_at"b3");obtain⟨d40,F40,D40⟩:=a40.o X G ["begun","deed"] (by walk_at"b2");obtain⟨d41,F41,D41⟩:=a41.o X G ["shape","line","deed","filled"] (by walk_at"b4");obtain⟨d42,F42,D42⟩:=a42.o X G ["form","words","steps"] (by walk_at"b3");obtain⟨d43,F43,D43⟩:=a43.o X G ["names","ahead"] (by walk_at"b2");obtain⟨d44,F44,D44⟩:=a44.o X G ["told","first"] (by walk_at"b2");obtain⟨d45,F45,D45⟩:=a45.o X G ["row"] (by walk_at"b1");obtain⟨d46,F46,D46⟩:=a46.o X G ["told","at"] (by walk_at"b2");obtain⟨d47,F47,D47⟩:=a47.j ["self","outs","fault","done","lines"] (by walk_at"b5");obtain⟨d48,F48,D48⟩:=a48.j ["self","stock","words","budget"] (by walk_at"b4");obtain⟨d49,F49,D49⟩:=a49.o ["self","rows"] (by walk_at"b2");obtain⟨d50,F50,D50⟩:=a50.o ["self","row"] (by walk_at"b2");obtain⟨d51,F51,D51⟩:=a51.o ["self","line"] (by walk_at"b2");obtain⟨d52,F52,D52⟩:=a52.o ["self","row"] (by walk_at"b2");obtain⟨d53,F53,D53⟩:=a53.o ["self","row","words"] (by walk_at"b3");obtain⟨d54,F54,D54⟩:=a54.o X G ["program","store","inputs","budget"] (by walk_at"b4");obtain⟨d55,F55,D55⟩:=a55.o X G ["names","inputs"] (by walk_at"b2");obtain⟨d56,F56,D56⟩:=a56.o X G ["number"] (by walk_at"b1");obtain⟨d57,F57,D57⟩:=a57.o X G ["sign","one","other"] (by walk_at"b3");obtain⟨d58,F58,D58⟩:=a58.o X G ["text"] (by walk_at"b1");obtain⟨d59,F59,D59⟩:=a59.o X G ["words"] (by walk_at"b1");obtain⟨d60,F60,D60⟩:=a60.o X G ["words"] (by walk_at"b1");obtain⟨d61,F61,D61⟩:=a61.o X G ["words"] (by walk_at"b1");obtain⟨d62,F62,D62⟩:=a62.o X G ["words"] (by walk_at"b1");obtain⟨d63,F63,D63⟩:=a63.o X G ["told","line","name"] (by walk_at"b3");obtain⟨d64,F64,D64⟩:=a64.o X G ["told","line","words"] (by walk_at"b3");obtain⟨d65,F65,D65⟩:=a65.o X G ["words"] (by walk_at"b1");obtain⟨d66,F66,D66⟩:=a66.o X G ["told"] (by walk_at"b1");obtain⟨d67,F67,D67⟩:=a67.o X G ["told","line","words"] (by walk_at"b3");obtain⟨d68,F68,D68⟩:=a68.o X G ["words","shapes"] (by walk_at"b2");obtain⟨d69,F69,D69⟩:=a69.o X G ["shape"] (by walk_at"b1");obtain⟨d70,F70,D70⟩:=a70.j ["self","shapes","most"] (by walk_at"b3");obtain⟨d71,F71,D71⟩:=a71.o ["self","done"] (by walk_at"b2");obtain⟨d72,F72,D72⟩:=a72.j ["self","shapes","most","records"] (by walk_at"b4");obtain⟨d73,F73,D73⟩:=a73.o ["self"] (by walk_at"b1");obtain⟨d74,F74,D74⟩:=a74.o X G ["shapes","most","things"] (by walk_at"b3");obtain⟨d75,F75,D75⟩:=a75.o X G ["_law_script","_law_k"] (by walk_at"b2");obtain⟨d76,F76,D76⟩:=a76.o X G ["_law_cell_here","_law_k"] (by walk_at"b2");obtain⟨d77,F77,D77⟩:=a77.o X G ["_law_cell_here"] (by walk_at"b1");obtain⟨d78,F78,D78⟩:=a78.o X G ["_law_box_here","_law_many"] (by walk_at"b2");obtain⟨d79,F79,D79⟩:=a79.o X G ["_law_box_here"] (by walk_at"b1");obtain⟨d80,F80,D80⟩:=a80.o X G ["_law_box_here","_law_pool"] (by walk_at"b2");obtain⟨d81,F81,D81⟩:=a81.o X G ["_law_lines","_law_words","_law_budget"] (by walk_at"b3");have Ua:=cNum.o X G a9;have Ub:=cNested.o X G a13;have Uc:=cMany.o X G a17;have Ud:=cPick.o X G a21;have Ue:=cShape.o X G a26;have Uf:=cShapes.o X G a30;have af:=cRow.o X G a32;have aj:=cProgram.o X G a33;have ao:=cRun.o X G a47;have aa:=cGoing.o X G a48;have ak:=cPlain.o X G a72;have M:Blt mg:=⟨nq X G z0,nq X G z1,nq X G z2,nq X G z3,nq X G z4,nq X G z5,nq X G z6,nq X G z7,nq X G z8,nq X G z9,nq X G z10,nq X G z11,nq X G z12,nq X G z13,nq X G z14,nq X G z15,nq X G z16,nq X G z17⟩;have C:Cst K mg t1 t2 t3 t4 t5 t6 t7 t8 t9 t10 t11 t12 t13 t14 t15 t16 t17 t18 ts tNa tSi tBe tFo:=⟨tj X G v1,tj X G v2,tj X G v3,tj X G v4,tj X G v5,tj X G v6,tj X G v7,tj X G v8,tj X G v9,tj X G v10,tj X G v11,tj X G v12,tj X G v13,tj X G v14,tj X G v15,tj X G v16,tj X G v17,tj X G v18,tj X G xN1,fun H=>.inr ⟨_,_,_,xN2,rfl,rfl,aKz,(by repeat first|exact .nil|refine .cons ⟨_,rfl⟩ ?_)⟩,tj X G xS1,fun H=>.inr ⟨_,_,_,xS2,rfl,rfl,(by show 6<=ξ;decide),(by repeat first|exact .nil|refine .cons ⟨_,rfl⟩ ?_)⟩,tj X G xB1,fun H=>.inr ⟨_,_,_,xB2,rfl,rfl,mF,(by repeat first|exact .nil|refine .cons ⟨_,rfl⟩ ?_)⟩,tj X G xF1,fun H=>⟨[fa0,fa1,fa2,fa3,fa4,fa5,fa6,fa7,fa8,fa9,fa10,fa11,fa12,fa13,fa14,fa15,fa16],.inr ⟨_,_,_,xF2,rfl,rfl,(by show 17<=ξ;decide),(.cons rfl (.cons rfl (.cons rfl (.cons rfl (.cons rfl (.cons rfl (.cons rfl (.cons rfl (.cons rfl (.cons rfl (.cons rfl (.cons rfl (.cons rfl (.cons rfl (.cons rfl (.cons rfl (.cons rfl .nil)))))))))))))))))⟩,(kP ⟨ga0,.inr ⟨_,_,_,ya0,rfl,rfl,xM,(.cons ⟨_,rfl⟩ (.cons rfl .nil))⟩,.inr ⟨_,_,_,yb0,rfl,rfl,mF,(by repeat first|exact .nil|refine .cons ⟨_,rfl⟩ ?_)⟩⟩ (kP ⟨ga1,.inr ⟨_,_,_,ya1,rfl,rfl,xM,(.cons ⟨_,rfl⟩ (.cons rfl .nil))⟩,.inr ⟨_,_,_,yb1,rfl,rfl,mF,(by repeat first|exact .nil|refine .cons ⟨_,rfl⟩ ?_)⟩⟩ (kP ⟨ga2,.inr ⟨_,_,_,ya2,rfl,rfl,xM,(.cons ⟨_,rfl⟩ (.cons rfl .nil))⟩,.inr ⟨_,_,_,yb2,rfl,rfl,aKz,(by repeat first|exact .nil|refine .cons ⟨_,rfl⟩ ?_)⟩⟩ (kP ⟨ga3,.inr ⟨_,_,_,ya3,rfl,rfl,xM,(.cons ⟨_,rfl⟩ (.cons rfl .nil))⟩,.inr ⟨_,_,_,yb3,rfl,rfl,aKz,(by repeat first|exact .nil|refine .cons ⟨_,rfl⟩ ?_)⟩⟩ (kP ⟨ga4,.inr ⟨_,_,_,ya4,rfl,rfl,xM,(.cons ⟨_,rfl⟩ (.cons rfl .nil))⟩,.inr ⟨_,_,_,yb4,rfl,rfl,aIr,(by repeat first|exact .nil|refine .cons ⟨_,rfl⟩ ?_)⟩⟩ (kP ⟨ga5,.inr ⟨_,_,_,ya5,rfl,rfl,xM,(.cons ⟨_,rfl⟩ (.cons rfl .nil))⟩,.inr ⟨_,_,_,yb5,rfl,rfl,aKz,(by repeat first|exact .nil|refine .cons ⟨_,rfl⟩ ?_)⟩⟩ (kP ⟨ga6,.inr ⟨_,_,_,ya6,rfl,rfl,xM,(.cons ⟨_,rfl⟩ (.cons rfl .nil))⟩,.inr ⟨_,_,_,yb6,rfl,rfl,aIr,(by repeat first|exact .nil|refine .cons ⟨_,rfl⟩ ?_)⟩⟩ (kP ⟨ga7,.inr ⟨_,_,_,ya7,rfl,rfl,xM,(.cons ⟨_,rfl⟩ (.cons rfl .nil))⟩,.inr ⟨_,_,_,yb7,rfl,rfl,mF,(by repeat first|exact .nil|refine .cons ⟨_,rfl⟩ ?_)⟩⟩ (kP ⟨ga8,.inr ⟨_,_,_,ya8,rfl,rfl,xM,(.cons ⟨_,rfl⟩ (.cons rfl .nil))⟩,.inr ⟨_,_,_,yb8,rfl,rfl,mF,(by repeat first|exact .nil|refine .cons ⟨_,rfl⟩ ?_)⟩⟩ (kP ⟨ga9,.inr ⟨_,_,_,ya9,rfl,rfl,xM,(.cons ⟨_,rfl⟩ (.cons rfl .nil))⟩,.inr ⟨_,_,_,yb9,rfl,rfl,xM,(.cons ⟨_,rfl⟩ (.cons ⟨_,rfl⟩ .nil))⟩⟩ (kP ⟨ga10,.inr ⟨_,_,_,ya10,rfl,rfl,xM,(.cons ⟨_,rfl⟩ (.cons rfl .nil))⟩,.inr ⟨_,_,_,yb10,rfl,rfl,mF,(by repeat first|exact .nil|refine .cons ⟨_,rfl⟩ ?_)⟩⟩ (kP ⟨ga11,.inr ⟨_,_,_,ya11,rfl,rfl,xM,(.cons ⟨_,rfl⟩ (.cons rfl .nil))⟩,.inr ⟨_,_,_,yb11,rfl,rfl,xM,(.cons ⟨_,rfl⟩ (.cons ⟨_,rfl⟩ .nil))⟩⟩ (kP ⟨ga12,.inr ⟨_,_,_,ya12,rfl,rfl,xM,(.cons ⟨_,rfl⟩ (.cons rfl .nil))⟩,.inr ⟨_,_,_,yb12,rfl,rfl,xM,(.cons ⟨_,rfl⟩ (.cons ⟨_,rfl⟩ .nil))⟩⟩ (kP ⟨ga13,.inr ⟨_,_,_,ya13,rfl,rfl,xM,(.cons ⟨_,rfl⟩ (.cons rfl .nil))⟩,.inr ⟨_,_,_,yb13,rfl,rfl,aIr,(by repeat first|exact .nil|refine .cons ⟨_,rfl⟩ ?_)⟩⟩ (kP ⟨ga14,.inr ⟨_,_,_,ya14,rfl,rfl,xM,(.cons ⟨_,rfl⟩ (.cons rfl .nil))⟩,.inr ⟨_,_,_,yb14,rfl,rfl,xM,(.cons ⟨_,rfl⟩ (.cons ⟨_,rfl⟩ .nil))⟩⟩ (kP ⟨ga15,.inr ⟨_,_,_,ya15,rfl,rfl,xM,(.cons ⟨_,rfl⟩ (.cons rfl .nil))⟩,.inr ⟨_,_,_,yb15,rfl,rfl,aKx,(.cons ⟨_,rfl⟩ .nil)⟩⟩ (kP ⟨ga16,.inr ⟨_,_,_,ya16,rfl,rfl,xM,(.cons ⟨_,rfl⟩ (.cons rfl .nil))⟩,.inr ⟨_,_,_,yb16,rfl,rfl,aKx,(.cons ⟨_,rfl⟩ .nil)⟩⟩ aGt)))))))))))))))))⟩,tj X G w1,fun H=>.inr ⟨_,_,_,w2,rfl,rfl,(by show 23<=ξ;decide),(by repeat first|exact .nil|refine .cons ⟨_,rfl⟩ ?_)⟩⟩;have KP:PrC6 K mg ae bi au:=⟨tj X G qm1,tj X G qm2,⟨af.cl,qa,q1,q2,qb⟩,qn1,qn2,qn3⟩;have TS:TB K mg "Store" ba f70:=⟨tj X G qm3,⟨xr,xf,xp,F70.kp⟩⟩;refine⟨d82,fun s v=>(F82.ex.elim fun _ ⟨_,_,_,_,_,_,_,_,e,_⟩=>e▸.of_eq rfl),fun base _ _=>?_⟩;have Z:=ZZ.mk (P:=l.prog) (w:=w) (base:=base) M C Ua Ub Uc Ud Ue Uf af aj ao aa ak;have G0:=(Cal.of D0 (aAe (k:=0) Z F0));have G1:=(Cal.of D1 (tD (k:=2) Z F1 G0.o));have G3:=(Cal.of D3 (sL (k:=0) Z F3));have G2:=(Cal.of D2 (aCy (k:=2) Z F2 G3.o));have G4:=(Cal.of D4 (wE (k:=2) Z F4 G3.o));have G5:=(Cal.of D5 (aBs (k:=0) Z F5));have G6:=(Cal.of D6 (aDk (k:=4) Z F6 G5.o G1.o));have G7:=(Cal.of D7 (aGp (k:=0) Z F7));have G76:=(Cal.of D76 (uJ (k:=0) Z F76));have G77:=(Cal.of D77 (aDv (k:=0) Z F77));have G78:=(Cal.of D78 (aAb (k:=2) Z F78 G76.o));have G75:=(Cal.of D75 (aAl (k:=0) Z F75));have G79:=(Cal.of D79 (sJ (k:=4) Z F79 G78.o));have G80:=(Cal.of D80 (aAz (k:=6) Z F80 G78.o G79.o));have G81:=(Cal.of D81 (aDh (k:=0) Z F81));have G59:=(Cal.of D59 (lR (k:=4) Z F59 G2.o));have G62:=(Cal.of D62 (uP (k:=4) Z F62 G4.o G2.o));have G61:=(Cal.of D61 (aCk (k:=6) Z F61 G4.o G62.o G2.o));have G60:=(Cal.of D60 (iY (k:=8) Z F60 G2.o G61.o));have G65:=(Cal.of D65 (nC (k:=4) Z F65 G2.o));have G63:=(Cal.of D63 (iA (k:=0) Z F63));have G66:=(Cal.of D66 (nX (k:=0) Z F66));have G64:=(Cal.of D64 (sK (k:=10) Z F64 G60.o G65.o G66.o));have G9:=(xX.of D9 (aBe (k:=0) Z F9));have G13:=(xX.of D13 (rH (k:=0) Z F13));have G17:=(xX.of D17 (uT (k:=0) Z F17));have G21:=(xX.of D21 (wK (k:=0) Z F21));have G30:=(xX.of D30 (rE (k:=0) Z F30));have G26:=(xX.of D26 (sG (k:=0) Z F26));have G31:=(vG.of D31 (pM (k:=0) Z F31));have G32:=(xX.of D32 (aBq (k:=0) Z F32));have G33:=(xX.of D33 (nS (k:=0) Z F33));have G34:=(vG.of D34 (lE (k:=0) Z F34));have G36:=(Cal.of D36 (aBh (k:=0) Z F36));have G38:=(Cal.of D38 (aMx (k:=4) Z F38 G2.o G4.o G5.o));have G37:=(Cal.of D37 (aDb (k:=6) Z F37 G38.o));have G39:=(Cal.of D39 (lC (k:=0) Z F39));have G40:=(Cal.of D40 (nI (k:=0) Z F40));have G41:=(Cal.of D41 (aGh (k:=2) Z F41 G32.o));have G42:=(Cal.of D42 (wV (k:=0) Z F42));have G43:=(Cal.of D43 (aGu (k:=0) Z F43));have G45:=(Cal.of D45 (oU (k:=0) Z F45 KP));have G46:=(Cal.of D46 (uS (k:=0) Z F46));have G44:=(Cal.of D44 (uI (k:=2) Z F44 G46.o G45.o));have G35:=(Cal.of D35 (nQ (k:=8) Z F35 G36.o G37.o G39.o G31.o G41.o G42.o G43.o G40.o G44.o G33.o));have G47:=(xX.of D47 (aBf (k:=0) Z F47));have G48:=(xX.of D48 (sT (k:=0) Z F48));have G71:=(vG.of D71 (pC (k:=0) Z F71));have G51:=(vG.of D51 (nJ (k:=2) Z F51 G71.o));have G56:=(Cal.of D56 (aMh (k:=2) Z F56 G5.o));have G57:=(Cal.of D57 (aBx (k:=4) Z F57 G56.o));have G53:=(vG.of D53 (lM (k:=6) Z F53 G57.o));have G52:=(vG.of D52 (lO (k:=8) Z F52 G53.o));have G50:=(vG.of D50 (nE (k:=10) Z F50 KP G51.o G52.o));have G49:=(vG.of D49 (mB (k:=12) Z F49 G50.o));have G55:=(Cal.of D55 (pH (k:=6) Z F55 G6.o));have G54:=(Cal.of D54 (aQy (k:=14) Z F54 G34.o G55.o G1.o G48.o G49.o G47.o));have G70:=(sZ (k:=0) Z F70);have G74:=(Cal.of D74 (mY (k:=0) Z F74));have G72:=(xX.of D72 (tE (k:=2) Z F72 TS D70 (mO G70) G74.o));have G73:=(vG.of D73 (lT (k:=0) Z F73));have t_size:∀r C sp,TV (Cl5.mk Va Vb Vc Vd Ve) K r vSz C sp->cY l.prog w K mg base CX0 (6*r+4) "size" C sp:=by
  intro r
  induction r with
  |zero =>
   rintro C' sp (⟨rfl,rfl⟩|⟨rfl,rfl⟩|⟨rfl,rfl⟩|⟨rfl,rfl⟩)
   ·exact⟨Ua.cl,_,_,_,D10.me,jU.mono (mP (k:=0) (r:=0) Z F10) (by omega),D10.b⟩
   ·exact⟨Ub.cl,_,_,_,D14.me,noFn (noV nn1),D14.b⟩
   ·exact⟨Uc.cl,_,_,_,D18.me,noFn (noV nn2),D18.b⟩
   ·exact⟨Ud.cl,_,_,_,D22.me,noFn (noV nn3),D22.b⟩
  |succ r ih =>
   have gS:=(vG.of D27 (fA (k:=6*r+4) (r:=r) Z F27 ih));have gG:=(vG.of D23 (bM (k:=6*r+6) (r:=r) Z F23 gS));rintro C' sp (⟨rfl,rfl⟩|⟨rfl,rfl⟩|⟨rfl,rfl⟩|⟨rfl,rfl⟩)
   ·exact⟨Ua.cl,_,_,_,D10.me,jU.mono (mP (k:=0) (r:=r+1) Z F10) (by omega),D10.b⟩
   ·exact⟨Ub.cl,_,_,_,D14.me,jU.mono (rN (k:=6*r+6) (r:=r) Z F14 gS) (by omega),D14.b⟩
   ·exact⟨Uc.cl,_,_,_,D18.me,jU.mono (wC (k:=6*r+4) (r:=r) Z F18 ih) (by omega),D18.b⟩
   ·exact⟨Ud.cl,_,_,_,D22.me,jU.mono (uY (k:=6*r+8) (r:=r) Z F22 gG) (by omega),D22.b⟩
 have ig:=fun r=>(vG.of D27 (fA (k:=6*r+4) (r:=r) Z F27 (t_size r)));have ip:=fun r=>(vG.of D23 (bM (k:=6*r+6) (r:=r) Z F23 (ig r)));have t_depth:∀r C sp,TV (Cl5.mk Va Vb Vc Vd Ve) K r vDp C sp->cY l.prog w K mg base CX0 (6*r+4) "depth" C sp:=by
  intro r
  induction r with
  |zero =>
   rintro C' sp (⟨rfl,rfl⟩|⟨rfl,rfl⟩|⟨rfl,rfl⟩|⟨rfl,rfl⟩)
   ·exact⟨Ua.cl,_,_,_,D11.me,jU.mono (gL (k:=0) (r:=0) Z F11) (by omega),D11.b⟩
   ·exact⟨Ub.cl,_,_,_,D15.me,noFn (noV nn1),D15.b⟩
   ·exact⟨Uc.cl,_,_,_,D19.me,noFn (noV nn2),D19.b⟩
   ·exact⟨Ud.cl,_,_,_,D24.me,noFn (noV nn3),D24.b⟩
  |succ r ih =>
   have gS:=(vG.of D28 (eG (k:=6*r+4) (r:=r) Z F28 ih));rintro C' sp (⟨rfl,rfl⟩|⟨rfl,rfl⟩|⟨rfl,rfl⟩|⟨rfl,rfl⟩)
   ·exact⟨Ua.cl,_,_,_,D11.me,jU.mono (gL (k:=0) (r:=r+1) Z F11) (by omega),D11.b⟩
   ·exact⟨Ub.cl,_,_,_,D15.me,jU.mono (mZ (k:=6*r+6) (r:=r) Z F15 gS) (by omega),D15.b⟩
   ·exact⟨Uc.cl,_,_,_,D19.me,jU.mono (sU (k:=6*r+4) (r:=r) Z F19 ih) (by omega),D19.b⟩
   ·exact⟨Ud.cl,_,_,_,D24.me,jU.mono (sI (k:=6*r+6) (r:=r) Z F24 gS) (by omega),D24.b⟩
 have ik:=fun r=>(vG.of D28 (eG (k:=6*r+4) (r:=r) Z F28 (t_depth r)));have t_parted:∀C sp,TPt (Cl5.mk Va Vb Vc Vd Ve) K C sp->cY l.prog w K mg base CX0 2 "parted" C sp:=by
  rintro C' sp (⟨rfl,rfl⟩|⟨rfl,rfl⟩)
  ·exact⟨Ub.cl,_,_,_,D16.me,(lL (k:=0) Z F16),D16.b⟩
  ·exact⟨Uc.cl,_,_,_,D20.me,(pO (k:=0) Z F20),D20.b⟩
 have DM:DfM K Vc "units_at" f8 d8 ["self","path"]:=⟨⟨w3,a8.i,F8.kp⟩,D8.b⟩;have t_units:∀r C sp,TU (Cl5.mk Va Vb Vc Vd Ve) K r C sp->cY l.prog w K mg base CX0 (6*r+4) "units_at" C sp:=by
  intro r
  induction r with
  |zero =>
   rintro C' sp (⟨rfl,rfl⟩|⟨rfl,rfl⟩|⟨rfl,rfl⟩|⟨rfl,rfl⟩)
   ·exact⟨Ua.cl,_,_,_,D12.me,jU.mono (cU (k:=0) (r:=0) Z F12) (by omega),D12.b⟩
   ·exact⟨Ub.cl,_,_,_,D8.me,noFn (noU nn1),D8.b⟩
   ·exact⟨Uc.cl,_,_,_,DM.me,noFn (noU nn2),DM.b⟩
   ·exact⟨Ud.cl,_,_,_,D25.me,noFn (noU nn3),D25.b⟩
  |succ r ih =>
   rintro C' sp (⟨rfl,rfl⟩|⟨rfl,rfl⟩|⟨rfl,rfl⟩|⟨rfl,rfl⟩)
   ·exact⟨Ua.cl,_,_,_,D12.me,jU.mono (cU (k:=0) (r:=r+1) Z F12) (by omega),D12.b⟩
   ·exact⟨Ub.cl,_,_,_,D8.me,jU.mono (bS (k:=6*r+4) (r:=r) Z ff1 F8 (fun C' sp h=>cY.mono (t_parted C' sp h) (by omega)) ih G7.o) (by omega),D8.b⟩
   ·exact⟨Uc.cl,_,_,_,DM.me,jU.mono (bS (k:=6*r+4) (r:=r) Z ff2 F8 (fun C' sp h=>cY.mono (t_parted C' sp h) (by omega)) ih G7.o) (by omega),DM.b⟩
   ·exact⟨Ud.cl,_,_,_,D25.me,jU.mono (lU (k:=6*r+8) (r:=r) Z F25 G7.o (ip r)) (by omega),D25.b⟩
 have G27:=ig 12;have G28:=ik 12;have G29:=(vG.of D29 (rG (k:=76) (r:=12) Z F29 G13.o (t_units 12)));have G69:=(Cal.of D69 (oX (k:=78) (r:=12) Z F69 G27.o G29.o G28.o));have r_kin:∀n,Cal l.prog w K mg base CX0 (2*n+2) "kind_in" (aFa (Cl5.mk Va Vb Vc Vd Ve) K n):=by
  intro n
  induction n with
  |zero=>exact Cal.of D68 (noFn (fun vs H Q E h=>by obtain⟨_,_,_,_,_,_,h,_⟩:=h;exact absurd h (by omega)))
  |succ n ih=>exact Cal.o (Cal.of D68 (aDl (k:=2*n+2) (r:=n) Z F68 ih G9.o G13.o G17.o G21.o))
 have G68:=r_kin 2;have G67:=(Cal.of D67 (sN (k:=80) (r:=12) Z F67 G68.o G66.o G26.o G69.o));have G58:=(Cal.of D58 (pI (k:=82) (r:=12) Z F58 G59.o G63.o G26.o G64.o G67.o G30.o));have G82:=(aTe (k:=84) (r:=12) Z ⟨by decide,by decide⟩ F82 G58.o G35.o G54.o G75.o G77.o G80.o G78.o G79.o G81.o G72.o G73.o);exact G82
theorem walk{l:PySem.W.OpenLaw}{YP:mx->ky->Prop}{d:DefRec}{K:Params->Φ}(hn:l.most=some 63)(hdf:d.params.defaults=[])
  (hY:∀(w:mx) (h:ky),YP w h->(K w.params).In h)
  (F:∀(w:mx) (mg:Str->Option Value) (fa:Addr) (h:ky),(K w.params).In h->h.Ns Ψ mg->mg d.name=some (.ref fa) →
   ∃fd:tu,(∀(s:μ) (u:Value),BindsTo s fd ⟨[u],[]⟩ [("_law_script",u)])/\∀base:ky,(K w.params).In base->base.Ns Ψ mg->jU l.prog w (K w.params) mg base CX0 86 fa fd ["_law_script"] (aFb (K w.params))):
  PySem.W.WalkO q loose XP YP l.row.toRowW d [] (fun f vs=>PySem.call f vs) :=
 L2.aNh (n:=63) (k:=86) (x:="_law_script") (CX:=fun _=>CX0) (sp:=fun w=>aFb (K w.params)) hn (by decide) hdf ⟨rfl,by decide,by decide,rfl⟩ hY F (fun _ _ a ns hl _ hS=>⟨a,ns,rfl,hS,hl,fun _=>rfl⟩) fun _ _ _ _ _ z=>z
end K36
namespace PySem.W.Fast
def tw9734733332258639806:=0
def tw9024999519987893389:=0
def tw14094895682426077792:=0
def tw5486332942949804689:=0
def tw5354477100024417470:=0
def tw9801582380057947098:=0
def tw10377265256625126235:=0
def tw7942079185080933706:=0
def tw12226516850337686229:=0
def tw14449962215328235438:=0
def tw649149645245216942:=0
def tw9352477643594922926:=0
def tw6763173453079479015:=0
def tw10517049616715359476:=0
def tw137935467587460255:=0
def tw11998483787875659767:=0
def tw17359502083163966769:=0
def tw16197989886493682115:=0
def tw13638531856540388514:=0
def tw14181860778603918991:=0
def tw14783168931669570602:=0
def tw18149238809933978152:=0
def tw5343691417198593317:=0
def tw17172862932163536121:=0
def tw11365380473192505655:=0
def tw10926056840733859877:=0
def tw6012982414226780814:=0
def tw16548772755984543702:=0
def tw8591160933226263470:=0
def tw11246757653269971019:=0
def tw203472948809211846:=0
def tw11756450195770997015:=0
def tw14924054198237012860:=0
def tw17950943537524459450:=0
def tw12234794774822965461:=0
def tw13668738459672611559:=0
def tw10628407993577115949:=0
def tw185012940890936318:=0
def tw11058491617859779480:=0
def tw7855890527199671936:=0
def tw15414626321636416317:=0
def tw10779589410021968977:=0
def tw15656469928521289444:=0
def tw9299523759911426210:=0
def tw9555430541390896225:=0
def tw9935644341715735537:=0
def tw9270255936683564718:=0
def tw4317971649907687158:=0
def tw4042516373457283078:=0
def tw17217565175398241598:=0
def tw15238027577456683765:=0
def tw14585686292974341746:=0
def tw7812223495819908266:=0
def tw16585870727823473509:=0
def tw1758166627110849636:=0
def tw9507061694224983417:=0
def tw1740197199700795500:=0
def tw3703711662595204457:=0
def tw6186338528268115466:=0
def tw13837949376651899079:=0
def tw11491553509525373501:=0
def tw5673887328887329610:=0
def tw10647655574088018885:=0
def tw4748719757758258925:=0
def tw2265432505549975041:=0
def tw10260736379637753301:=0
def tw13427845434590202128:=0
def tw1394866904147732512:=0
def tw12142507759935075824:=0
def tw7385353272082931861:=0
def tw13328920028470561046:=0
def tw13037197774778461524:=0
def tw18049510245271971435:=0
def tw15928808749753082675:=0
def tw5386186001171908380:=0
def tw3327080040716964173:=0
def tw16730714194114142210:=0
def tw9568799134028516818:=0
def tw825744958045402767:=0
def tw13239639285600312598:=0
def tw2481536231348719851:=0
def tw1446915121821132768:=0
def tw1126436005761248984:=0
def tw5906400100541071039:=0
def tw15110635457361002701:=0
def tw8440695203259676136:=0
def tw5762197775711708201:=0
def tw11113337092047689709:=0
def tw13342637287484053336:=0
def tw3426341646444549747:=0
def tw419571549535503756:=0
def tw17543848574612488842:=0
def tw6739246339193081666:=0
def tw1261614002093167292:=0
def tw17739913797771448164:=0
def tw14799621344782037135:=0
def tw14804872025202349098:=0
def tw15741955564200821970:=0
def tw5516521103563803030:=0
def tw13188654582574980064:=0
def tw3067863060050676892:=0
def tw4658334040855328387:=0
def tw14930745279446476015:=0
def tw12196053505285778378:=0
def tw15865479100458887063:=0
def tw4264477162380347734:=0
def tw15912297211800753999:=0
def tw3301320975444699587:=0
def tw5527949874158247581:=0
def tw13404161409950755335:=0
def tw256534187957593251:=0
def tw446091942129994347:=0
def tw12447382165564664050:=0
def tw7868614608924890601:=0
def tw10090337351320109613:=0
def tw3086509561364796601:=0
def tw14831691640995446049:=0
def tw1375483490241141385:=0
def tw8868835118545342334:=0
def tw17277798077884375999:=0
def tw5560839649552950770:=0
def tw16097148043833082287:=0
def tw9647892962643740436:=0
def tw4142690297691015143:=0
def tw11345661312089359546:=0
def tw14170609627870745952:=0
def tw6065352827328972921:=0
def tw12201800349424543010:=0
def tw16510139593081822060:=0
def tw8185905098220168340:=0
def tw4150304616220466865:=0
def tw2231530792819624943:=0
def tw2340876519884170594:=0
def tw4086574416813388285:=0
def tw6740002140344461820:=0
def tw11164603027856270266:=0
def tw1381372299605132994:=0
def tw11607888589581106129:=0
def tw15008384519342371154:=0
def tw3042796502917490414:=0
def tw10985810658920385529:=0
def tw9597308876153761304:=0
def tw9120217354025167677:=0
def tw13921706990656051289:=0
def tw3412006261993094345:=0
def tw7811502179541165421:=0
def tw14844381228214148974:=0
def tw10079742420806296419:=0
def tw14890386741454001724:=0
def tw15779072835933085885:=0
def tw8194149283817056339:=0
def tw8015569019123897777:=0
def tw2455595850036967499:=0
def tw17241909363596302638:=0
def tw10566830115911029287:=0
def tw8223337532005918933:=0
def tw626243110530623208:=0
def tw1381289252353320375:=0
def tw16453234163847304292:=0
def tw16595263856755497315:=0
def tw423646864135378767:=0
def tw5623671474779826963:=0
def tw5093022634533988369:=0
def tw14712283646414799827:=0
def tw11422045553163257395:=0
def tw1112900101033301266:=0
def tw12194342382059670231:=0
def tw4672054951700321190:=0
def tw7298784738521647120:=0
def tw11856348905357936398:=0
def tw1085371736517943606:=0
def tw18347767993178061822:=0
def tw1916966417422490234:=0
def tw10506226330915892660:=0
def tw16419544545508902047:=0
def tw14946325801093126183:=0
def tw4305776656144101455:=0
def tw4578948962091626977:=0
def tw5531757995311299339:=0
def tw12289342812862694773:=0
def tw12074287209317476439:=0
def tw17529118646050435671:=0
def tw10950792930939061083:=0
def tw7662958828718090841:=0
def tw3450568240827388121:=0
def tw7720163474992971514:=0
def tw10156981284089577359:=0
def tw1382393460134854221:=0
def tw4062226322242662459:=0
def tw17885785669851777025:=0
def tw561555420789467598:=0
def tw1838521884254312472:=0
def tw4790845970118900712:=0
def tw14235262032988998316:=0
def tw9424622987090328027:=0
def tw1579101346711868794:=0
def tw12573821784051246604:=0
def tw10845326030444768101:=0
def tw12314273209853051140:=0
def tw16742900679393022921:=0
def tw1285201733082285466:=0
def tw9309532926079788580:=0
def tw6325701204092594797:=0
def tw750675488275262100:=0
def tw3050115394561178615:=0
def tw6977766442750953626:=0
def tw17552096863705571558:=0
def tw12267838612331589467:=0
def tw12122501857275077445:=0
def tw2133187636538143270:=0
def tw962345731954607638:=0
def tw15574649971755621347:=0
def tw3667534636419661794:=0
def tw8406659046370029352:=0
def tw2930294111208075989:=0
def tw1573350847487810660:=0
def tw17983249245142426305:=0
def tw15913406538058188960:=0
def tw14799294171723316999:=0
def tw14825246799922907490:=0
def tw16375771770268657080:=0
def tw17159330926981724091:=0
def tw12205131065185175260:=0
def tw13821733949763071571:=0
def tw9116792702446271449:=0
def tw15828246497270719137:=0
def tw13596458353265725923:=0
def tw1927223388650302807:=0
def tw2889495026069355335:=0
def tw14291956205113454427:=0
def tw8156120318198522368:=0
def tw9719620946844569449:=0
def tw14941199358310981092:=0
def tw1274381519935592533:=0
def tw13642041898800769980:=0
def tw17366315059672970222:=0
def tw14551885724862479402:=0
def tw11411232216853884275:=0
def tw13407179457957996190:=0
def tw70704505450333334:=0
def tw5259274259132594867:=0
def tw10281439448241568305:=0
def tw5107550047875890610:=0
def tw2095051941809983309:=0
def tw16127732478355205803:=0
def tw8913999623099200938:=0
def tw5415146999745310054:=0
def tw16286316231517559558:=0
def tw2014668109087175033:=0
def tw5167005223013074463:=0
def tw8779814636793187526:=0
def tw11359996479524587876:=0
def tw13289714775460867274:=0
def tw17509968111412299965:=0
def tw8995713368217874087:=0
def tw6306316950160199390:=0
def tw17990384648156145226:=0
def tw5500009484310981783:=0
def tw6614425179491148298:=0
def tw13919791258744681638:=0
def tw5629975175744964346:=0
def tw4711123057073731962:=0
def tw16727770092598308494:=0
def tw2151801019278349629:=0
def tw11293676048020966644:=0
def tw18372857400667294797:=0
def tw12584131606178398359:=0
def tw2387731325192751241:=0
def tw10184320605606716498:=0
def tw4458878958787004767:=0
def tw244955670007033438:=0
def tw13175426490834157691:=0
def tw16809335667407085992:=0
def tw15594211451073508274:=0
def tw6573364154328898870:=0
def tw12488045591873092913:=0
def tw1129409663430254718:=0
def tw1804659132953057396:=0
def tw4758412183515660654:=0
def tw3343924723464965452:=0
def tw13292609473284414973:=0
def tw6193690603130339261:=0
def tw15658674071496943980:=0
def tw15011537713843076032:=0
def tw8305407632370926687:=0
def tw12636267303289767739:=0
def tw8905730564266005713:=0
def tw5166991363213454377:=0
def tw18144572203868587988:=0
def tw6213783475523173124:=0
def tw8690145991640829534:=0
def tw12589421666318746356:=0
def tw14703796799952386436:=0
def tw13320805430336030081:=0
def tw17124850317428245237:=0
def tw9490295174950658765:=0
def tw14992768162114188151:=0
def tw893467063566315512:=0
def tw16657307169458253607:=0
def tw5200628791400286164:=0
def tw11136261724347365211:=0
def tw4538987036131335433:=0
def tw1843722813152792449:=0
def tw9005730259783607819:=0
def tw14904546337570653381:=0
def tw18132878463803680237:=0
def tw15615084379899648812:=0
def tw3789025898272306303:=0
def tw5680979341242982932:=0
def tw14715933845439923700:=0
def tw16967284331255202467:=0
def tw4249227411523047921:=0
def tw3757773246639167779:=0
def tw17985019287413945768:=0
def tw17563448208947899807:=0
def tw7207184288168671290:=0
def tw2575287940864531827:=0
def tw8414339547051515419:=0
def tw16377759906140257708:=0
def tw18013605871326732459:=0
def tw3516619916322867468:=0
def tw9200551087319926184:=0
def tw12212525041768077022:=0
def tw1834359453277574688:=0
def tw5799662284878675635:=0
def tw5988958977554409264:=0
def tw11632975029757635590:=0
def tw17967161590414922377:=0
def tw10003793155474853345:=0
def tw12514194119766121693:=0
def tw9128804367413095358:=0
def tw6790878240578052307:=0
def tw13836362813196125235:=0
def tw8866210559494228310:=0
def tw8151098757795406023:=0
def tw2281330747575397796:=0
def tw6188934099195253512:=0
def tw1762443184964598652:=0
def tw17074425001225531470:=0
def tw10829000509137754969:=0
def tw4337082117614862167:=0
def tw5040879607019968127:=0
def tw5677165341025248019:=0
def tw16115925130843238650:=0
def tw11163526930346423188:=0
def tw810937488655847135:=0
def tw6191544884500047965:=0
def tw3065574524219674273:=0
def tw11866691374755249023:=0
def tw15815880110706645168:=0
def tw17366370583316339410:=0
def tw4252779442869151870:=0
def tw11150212392896140120:=0
def tw1704252673594568159:=0
def tw14371946450867271465:=0
def tw11524755229410803288:=0
def tw13923587967058097011:=0
def tw18372023998054595197:=0
def tw17070597292935979273:=0
def tw10331177096319259343:=0
def tw3576107489239317278:=0
def tw6052942492416237575:=0
def tw15741174079859255750:=0
def tw12181371346484744127:=0
def tw4180089725081065990:=0
def tw2187375302862933561:=0
def tw3075550986873126802:=0
def tw12625799876154390632:=0
def tw18098681793827450880:=0
def tw4641555374235569842:=0
def tw17251815035458009867:=0
def tw9897684433242683812:=0
def tw18005361694929845743:=0
def tw12157156657043426998:=0
def tw7928519287983664104:=0
def tw12962133354613725147:=0
def tw11327685487255820776:=0
def tw17063753458977117861:=0
def tw14418969838719587632:=0
def tw7214095415344315603:=0
def tw6224564412227445414:=0
def tw2514980636023345574:=0
def tw5174504024804059420:=0
def tw4926487619764169563:=0
def tw13428712447995884101:=0
def tw15893080570892161075:=0
def tw5443784858881840777:=0
def tw5199634142994037734:=0
def tw1434198937066298043:=0
def tw2887027441598649139:=0
def tw8735359064086915786:=0
def tw14706364530951215348:=0
def tw9857668669153790805:=0
def tw2599296197230732825:=0
def tw749442842237545406:=0
def tw5630906727561745181:=0
def tw10435369300552641345:=0
def tw13569510474603934395:=0
def tw853801217887871827:=0
def tw4171615808647675713:=0
def tw6215864259082487798:=0
def tw12835213245195113540:=0
def tw4801975464440241720:=0
def tw7275852594012749479:=0
def tw3591809095110951664:=0
def tw1463324626454151014:=0
def tw12645745911791043700:=0
def tw14799020888930868670:=0
def tw13309071678095406381:=0
def tw13655491992766483860:=0
def tw8270161254025778910:=0
def tw5967090514625705103:=0
def tw15688790438507270949:=0
def tw9808709185172140250:=0
def tw5406507906601371103:=0
def tw15793171539510126280:=0
def tw15705647849698838682:=0
def tw13820895170861948354:=0
def tw17195452152830762143:=0
def tw15253244749876240645:=0
def tw9329520309402266908:=0
def tw9552377804588053816:=0
def tw5351190691729371105:=0
def tw7718499685490538988:=0
def tw7586959562011204752:=0
def tw13193832066747598244:=0
def tw2709404482952380374:=0
def tw4128956297507518125:=0
def tw5196888852738502176:=0
def tw13364013967009895311:=0
def tw9892471810432125414:=0
def tw13662877525167368170:=0
def tw4651985444278823099:=0
def tw7159982973456037576:=0
def tw8408398159957001719:=0
def tw864523576429562929:=0
def tw780522103909466578:=0
def tw12375877691096345755:=0
def tw10893237678583142794:=0
def tw3741218022031399984:=0
def tw13273080540761044915:=0
def tw416239585263738368:=0
def tw283170784680025477:=0
def tw5994988343293776725:=0
def tw12708591252780422528:=0
def tw11096033276483739725:=0
def tw8458137257553439576:=0
def tw4132701913993088243:=0
def tw14495479018358930568:=0
def tw5994380542654159321:=0
def tw2904115076548706698:=0
def tw3519066708748295944:=0
def tw13145811727905620566:=0
def tw14671944037858375457:=0
def tw5949216959239626778:=0
def tw9276722094196305374:=0
def tw16962564337154439491:=0
def tw6786159539655958471:=0
def tw17703349262883182485:=0
def tw3121343310812657380:=0
def tw6330640836728351732:=0
def tw16838220519747603944:=0
def tw16584680215047965356:=0
def tw1392322740567354611:=0
def tw3506053379616382800:=0
def tw12925058919967139901:=0
def tw16552327768533922419:=0
def tw12814256119595612418:=0
def tw15623673045837703241:=0
def tw9815820079216978417:=0
def tw11338729879301897097:=0
def tw3581523868499277700:=0
def tw12771771664427600376:=0
def tw4337638022496483512:=0
def tw15377700097983879933:=0
def tw1051927154571727512:=0
def tw14457338889832450042:=0
def tw15030580331888982917:=0
def tw2552582090346484867:=0
def tw7414806594483259439:=0
def tw15464753359656726217:=0
def tw1558717992802131256:=0
def tw13273966704487099579:=0
def tw5240118579388769314:=0
def tw17542629921341638917:=0
def tw9362875891960887075:=0
def tw15967395929225768943:=0
def tw6584252144095686829:=0
def tw12389079427520770443:=0
def tw11915385771594625993:=0
def tw1514968797196028728:=0
def tw1947054426301729726:=0
def tw12898647113745379239:=0
def tw1331784324909958157:=0
def tw8330836251566622479:=0
def tw18284704395535288185:=0
def tw68314109576776628:=0
def tw8871622974534086538:=0
def tw14345112690472783743:=0
def tw14409731696600446002:=0
def tw1461343861392658513:=0
def tw3312080369304272295:=0
def tw10821061966817927388:=0
def tw5890677694566204000:=0
def tw7303484234211522030:=0
def tw11521654918926510185:=0
def tw10218224328435912173:=0
def tw6697118713196804955:=0
def tw10010743643821348019:=0
def tw8667472336744990412:=0
def tw14259528195855468219:=0
def tw16237720526951298907:=0
def tw2245468503143504168:=0
def tw640598033496227976:=0
def tw4921445740408227810:=0
def tw4681676183820388039:=0
def tw13901458996673916235:=0
def tw14156173333243294456:=0
def tw8180582003938331422:=0
def tw15120968422562344366:=0
def tw6265997706776556729:=0
def tw7279040746066259328:=0
def tw4602360318479387511:=0
def tw4006481616285359931:=0
def tw6918632142103938002:=0
def tw6742397400041043545:=0
def tw18077729749903860054:=0
def tw5258660602034842265:=0
def tw12239366825777915201:=0
def tw12485390975311202960:=0
def tw4688993982700551903:=0
def tw7588998983271067989:=0
def tw12917970384181237608:=0
def tw2838506954131313835:=0
def tw1173011865527480697:=0
def tw5255758989461751359:=0
def tw8525791766506589400:=0
def tw133671873451892873:=0
def tw11031510010808607746:=0
def tw13833179395079059644:=0
def tw3853392585194730705:=0
def tw11345434743227052218:=0
def tw10018334177224333369:=0
def tw14583142353723200827:=0
def tw3388747352649807019:=0
def tw9067597747517184460:=0
def tw7901764703698693011:=0
def tw2199128065191498431:=0
def tw16186194587237424053:=0
def tw13448924374402102391:=0
def tw12076127519431825383:=0
def tw11985097467838397649:=0
def tw17005402474537553707:=0
def tw7993460748654530921:=0
def tw7383957255928998834:=0
def tw5753210710018942469:=0
def tw11977961855239078738:=0
def tw16836772501773220917:=0
def tw9356880032425387722:=0
def tw8631330347683510275:=0
def tw1168430497370840535:=0
def tw1134123194635832343:=0
def tw2354338598973610086:=0
def tw7496459933707147510:=0
def tw13750633096972507987:=0
def tw10959268941306591242:=0
def tw8263060490576663334:=0
def tw13402108678452629892:=0
def tw3824913724296925658:=0
def tw16958080669379452500:=0
def tw2980439007773704198:=0
def tw9615164517154834550:=0
def tw10124549583548891104:=0
def tw7038698076629670044:=0
def tw8035424021375533687:=0
def tw10721510891999169997:=0
def tw3921267830628053591:=0
def tw17230822247450824923:=0
def tw4155391293030755503:=0
def tw6841741956981301021:=0
def tw4318256609547650152:=0
def tw6172680360668973520:=0
def tw10209608715929678455:=0
def tw13893712230606672558:=0
def tw1321353961033252483:=0
def tw11892033432199627076:=0
def tw8367868497960059721:=0
def tw6151908118551274329:=0
def tw9838633041529474052:=0
def tw6747149426048159323:=0
def tw8710973811572596684:=0
def tw14268551750037463490:=0
def tw17864814528196152810:=0
def tw5989558816621727639:=0
def tw11232116762450503503:=0
def tw12839485272608943482:=0
def tw15435193926043827566:=0
def tw14661968516577745365:=0
def tw6841852023251805045:=0
def tw15569479772801761784:=0
def tw14521509747439396648:=0
def tw965703870806775132:=0
def tw13199167613564024894:=0
def tw11710147464930413939:=0
def tw13589757880314698886:=0
def tw8157070832092539305:=0
def tw5978985135934771053:=0
def tw6359953407395082334:=0
def tw12445499194541117359:=0
def tw6441859725511094102:=0
def tw10849016321964421291:=0
def tw5248209140887427628:=0
def tw3663208850908073143:=0
def tw796808955307607329:=0
def tw4116104274528236011:=0
def tw6567276781569950757:=0
def tw4355559366384151062:=0
def tw16712129666118639010:=0
def tw13643742103752200628:=0
def tw17715278356041801589:=0
def tw6781103205804101269:=0
def tw10815572031259503252:=0
def tw11797060283001596458:=0
def tw4692128108909661935:=0
def tw15521364915414768329:=0
def tw13848555602634295399:=0
def tw18035604114153413251:=0
def tw9533874684061843682:=0
def tw5786273546042486377:=0
def tw7032942372683594262:=0
def tw4872386254000991573:=0
def tw17624588500429484144:=0
def tw5659400347502022981:=0
def tw2326635713498869896:=0
def tw13956010081064291603:=0
def tw7506023547293553249:=0
def tw1712044257135540480:=0
def tw7147380511947766775:=0
def tw14544164619490664046:=0
def tw1021391417185473787:=0
def tw10805146330943068240:=0
def tw14676224891780219396:=0
def tw15478716825807150534:=0
def tw3012163349218287672:=0
def tw6027682686656560664:=0
def tw4079617390513723265:=0
def tw14759727258031657224:=0
def tw5187998090808678338:=0
def tw16315597721040223145:=0
def tw11997594497121229942:=0
def tw14829675637327367810:=0
def tw13692899294669450920:=0
def tw98855418800231635:=0
def tw8605393452374982951:=0
def tw7453793596245825591:=0
def tw5123226589258901165:=0
def tw17528667313707391975:=0
def tw1337434922325543137:=0
def tw12814909275676361925:=0
def tw3139580871274570213:=0
def tw16703721019853009466:=0
def tw10247105384845192663:=0
def tw18294616785800398150:=0
def tw2255018100028692597:=0
def tw4417165292244576979:=0
def tw2594390144899154224:=0
def tw3155277835401470967:=0
def tw12407935332065699452:=0
def tw12015438962273695962:=0
def tw1679332504654105770:=0
def tw1439183249225419190:=0
def tw2835887078045112467:=0
def tw1477979271121905384:=0
def tw13773825896513875837:=0
def tw9559552888179921229:=0
def tw16178557461164600922:=0
def tw12188075635183210:=0
def tw12209799966052805753:=0
def tw17086793713744337591:=0
def tw7394859359623241291:=0
def tw11014068482778349388:=0
def tw14212795281023927364:=0
def tw17174394545325532568:=0
def tw8028263202574786649:=0
def tw8586103548572642475:=0
def tw12375575262349678508:=0
def tw17129582598326402911:=0
def tw4702291305193103074:=0
def tw11718569112094918321:=0
def tw6480687463038275443:=0
def tw17610379037486015741:=0
def tw870812485873681528:=0
def tw18437872141021631439:=0
def tw11663409970472734729:=0
def tw867416637988470229:=0
def tw10008853979755206604:=0
def tw12888886147955096527:=0
def tw11118358706997808157:=0
def tw7783673813169153967:=0
def tw2514730313618801752:=0
def tw4981943763868496665:=0
def tw4535735596763949176:=0
def tw3798023821068057370:=0
def tw16596942520059442436:=0
def tw5815952970192585183:=0
def tw17784461167898744351:=0
def tw4134118292129437169:=0
def tw14673096297337650282:=0
def tw9784402323977628483:=0
def tw11150910809162112335:=0
def tw14871312190267466024:=0
def tw3634351002165561464:=0
def tw8228694258895974953:=0
def tw7968688736063370654:=0
def tw11892630311656290190:=0
def tw4685762831226125297:=0
def tw14108290109411773498:=0
def tw14312759249198562193:=0
def tw423772929137531002:=0
def tw2976081250694674183:=0
def tw4037491731337395690:=0
def tw11050521724420270080:=0
def tw891270761714783632:=0
def tw6554635982067583782:=0
def tw11279097454290117032:=0
def tw11766689621927196416:=0
def tw1097180710480236386:=0
def tw13174427458779564657:=0
def tw16541609264879375604:=0
def tw17054228303386346506:=0
def tw4350034576723145934:=0
def tw15867958233065760711:=0
def tw12878181789785756512:=0
def tw15233591381180672320:=0
def tw6965807735510724033:=0
def tw8419856342433636771:=0
def tw8594225276184715554:=0
def tw6229825073204193449:=0
def tw10562864814874327175:=0
def tw9307701604799098120:=0
def tw14965517999701531392:=0
def tw3750293750416397758:=0
def tw13696669844191389661:=0
def tw7227309214757752898:=0
def tw2838468756715506631:=0
def tw26987420498408248:=0
def tw2183962004672862194:=0
def tw7728469220405696225:=0
def tw101661828659181228:=0
def tw2796428119925569405:=0
def tw2199684253948390501:=0
def tw3907745828358746125:=0
def tw4930603519757681457:=0
def tw3108955497116187638:=0
def tw11949584737034760230:=0
def tw2408941448588147374:=0
def tw4755850921051739983:=0
def tw3916171370556830371:=0
def tw14786438243401414723:=0
def tw16289510732412822003:=0
def tw1769619073571031836:=0
def tw8387908689044109710:=0
def tw94004123206750799:=0
def tw16676192595023499439:=0
def tw8532533041956678193:=0
def tw9846480672528666639:=0
def tw12374897198054610130:=0
def tw12141780688411325676:=0
def tw7061888173226057245:=0
def tw10112684255054738637:=0
def tw13023869768325776203:=0
def tw17564049631498120115:=0
def tw9150186053233153280:=0
def tw11719027633861707419:=0
def tw14106502623995774559:=0
def tw9895250105756926092:=0
def tw14504214257965158381:=0
def tw3391039452209718857:=0
def tw10330111460501336801:=0
def tw2231982114865392430:=0
def tw6609925473295442793:=0
def tw17141148174732383120:=0
def tw9661339064782175793:=0
def tw10138122383202887393:=0
def tw14257289928240911773:=0
def tw13914807326419213129:=0
def tw2466697076853354996:=0
def tw9343450411703431611:=0
def tw9586684909711171436:=0
def tw2837800739547073752:=0
def tw7439516722291988317:=0
def tw7447098385776848573:=0
def tw11162917327276476398:=0
def tw3264600551737801679:=0
def tw8208188380014421944:=0
def tw10284624466448148497:=0
def tw3085927565860042459:=0
def tw8855926959450248127:=0
def tw13667284284905993188:=0
def tw8978945712060269211:=0
def tw15651844178974023890:=0
def tw7059270918971014544:=0
def tw4027389806717067917:=0
def tw11574262480194901319:=0
def tw1599477964066176227:=0
def tw15466961760983357619:=0
def tw1414230991311495518:=0
def tw7560063281498864583:=0
def tw16867539644264008620:=0
def tw16443574909897840232:=0
def tw9246068486357881318:=0
def tw11098660353538412522:=0
def tw6187719682027690431:=0
def tw1816271976561846184:=0
def tw1758396383747045400:=0
def tw4136298759432954435:=0
def tw1269333240998178696:=0
def tw3079468877747771746:=0
def tw6721744519627776632:=0
def tw12143969318739254807:=0
def tw15784855549702191133:=0
def tw6886951785504999726:=0
def tw6726700218213603760:=0
def tw3318418727932747578:=0
def tw14878443682000889911:=0
def tw16717554740139531405:=0
def tw15668021842359256853:=0
def tw8555754293712789614:=0
def tw9432341722279902899:=0
def tw16731210599180112924:=0
def tw17201289482455924421:=0
def tw13118906165996205150:=0
def tw2216912233068247807:=0
def tw15738219981260782092:=0
def tw13861979439692182876:=0
def tw15945763146022978605:=0
def tw18406393400759109773:=0
def tw2708004955954490416:=0
def tw6843335799743076934:=0
def tw16174882289276432207:=0
def tw7951956324625746114:=0
def tw839480128537590848:=0
def tw5782213548751361743:=0
def tw9255197552670061598:=0
def tw17774836580857854727:=0
def tw7241175963175520002:=0
def tw7562602754969491025:=0
def tw2510283063036321390:=0
def tw3290198657452929662:=0
def tw8662981694812602182:=0
def tw566619322466981046:=0
def tw9756627719517949289:=0
def tw2656321117060141123:=0
def tw14842196741083532563:=0
def tw7775945579861439100:=0
def tw5297799563790609654:=0
def tw3988056276921036920:=0
def tw11208057398245214439:=0
def tw3892419462950799482:=0
def tw13735112563814769629:=0
def tw13853544074643145224:=0
def tw405608054235178841:=0
def tw5161239680513987584:=0
def tw10167819090369374564:=0
def tw1111821519905877793:=0
def tw3989162116446454073:=0
def tw16423532975566196941:=0
def tw1071619843416742949:=0
def tw7220076854957753696:=0
def tw10146378448813062747:=0
def tw9879371343214632725:=0
def tw9085826871211869616:=0
def tw4575433576131029080:=0
def tw16956645532763242493:=0
def tw1196065209214655919:=0
def tw17293623071117398225:=0
def tw5981571259358702933:=0
def tw2354899173231955707:=0
def tw10766730466318690600:=0
def tw5503489774506181519:=0
def tw7277203833762017593:=0
def tw14840798551617857742:=0
def tw7675008690665380203:=0
def tw4604178000553386760:=0
def tw6161066779511212945:=0
def tw17593098602785111808:=0
def tw7636562706667902041:=0
def tw16671809101627960840:=0
def tw6690364513154363954:=0
def tw10172117024209044842:=0
def tw3776137086038294874:=0
def tw16407297892379145100:=0
def tw7844333999219183561:=0
def tw4821721691866844307:=0
def tw12407776582959557094:=0
def tw1413694229071413105:=0
def tw16929857027431856456:=0
def tw13956044035582630302:=0
def tw11144297845042003148:=0
def tw9733776362597938816:=0
def tw2983447719720825757:=0
def tw17004552441839668888:=0
def tw10598178445029916648:=0
def tw16539359729642600874:=0
def tw17885353164723241226:=0
def tw16927018943983824681:=0
def tw14375003805676223605:=0
def tw12538060630527100830:=0
def tw6152509198604587503:=0
def tw9125076507241931389:=0
def tw425352598900202952:=0
def tw12695599850236371890:=0
def tw14571936335823602881:=0
def tw6152653563324436081:=0
def tw3425287004290425863:=0
def tw16191152108663227338:=0
def tw6180195301971628760:=0
def tw4503436088029429378:=0
def tw2189865195965825023:=0
def tw7619599210571164638:=0
def tw3200072313009826368:=0
def tw11523754966099973732:=0
def tw9950880292902455332:=0
def tw11992224535935127792:=0
def tw6354568843753990881:=0
def tw274992805296480373:=0
def tw8613543416155499773:=0
def tw124716369309075601:=0
def tw1095288573323697607:=0
def tw1099155823622563997:=0
def tw14236284913649714716:=0
def tw12031512878381578195:=0
def tw2380280621777965488:=0
def tw7425687399194826729:=0
def tw8026514089628148881:=0
def tw527475255854331962:=0
def tw13225083307544501138:=0
def tw1967749739946286821:=0
def tw12655843006323355193:=0
def tw17885628708094084319:=0
def tw1381439356500544208:=0
def tw15002463007126156095:=0
def tw4376531884067681600:=0
def tw15991060200375478254:=0
def tw15654159604322388421:=0
def tw11729778363164160449:=0
def tw16987568351348411485:=0
def tw1114138738886793577:=0
def tw1414842940477591478:=0
def tw9952724257523058298:=0
def tw11513658822288712431:=0
def tw11266105394214071881:=0
def tw9925000387478156048:=0
def tw4452387180190425863:=0
def tw14233955857484887921:=0
def tw106713814348194934:=0
def tw11481062138755037716:=0
def tw6888626621819714743:=0
def tw12213680610314735616:=0
def tw5272438186698976281:=0
def tw17189892657832434825:=0
def tw2186643692533263497:=0
def tw4984231230647088066:=0
def tw226360246146525305:=0
def tw673558883131703289:=0
def tw6947863086698537645:=0
def tw10794296174150385945:=0
def tw3712767749834157804:=0
def tw17187535436859158525:=0
def tw11284808541630447222:=0
def tw6291867318918111047:=0
def tw16992315894744803006:=0
def tw13914552174330347134:=0
def tw8739633239887100129:=0
def tw14098450632728809639:=0
def tw8568821727404930909:=0
def tw5896451997164171186:=0
def tw16655116760795473576:=0
def tw1468671431616938845:=0
def tw3920793339869840966:=0
def tw14490808686412615438:=0
def tw13986097519263095497:=0
def tw14848482414151412400:=0
def tw3722700340035786138:=0
def tw16205019945773619338:=0
def tw16313913820894542453:=0
def tw17776945620568480540:=0
def tw15797247608521025619:=0
def tw14074123810954848271:=0
def tw2545324717966883999:=0
def tw4206996713662999168:=0
def tw1435069273389511916:=0
def tw9800262229013613268:=0
def tw13675746537909619847:=0
def tw9739601527775866495:=0
def tw5834684873192101583:=0
def tw5060235816410548121:=0
def tw2106014392740362731:=0
def tw9099201208899439755:=0
def tw14704275573349730074:=0
def tw14347205275482256748:=0
def tw8602019790029382292:=0
def tw15334926323789138805:=0
def tw3418054983876803514:=0
def tw15341459662052185457:=0
def tw1527981218924735181:=0
def tw9977695744527267529:=0
def tw4717029926881344735:=0
def tw13273935990100420694:=0
def tw8166754184685975185:=0
def tw2150925925947123036:=0
def tw17599375147045123970:=0
def tw6383280609597471570:=0
def tw531376458367545911:=0
def tw17539602329585073383:=0
def tw14765846718584398790:=0
def tw8037852287621938903:=0
def tw5615182731661838696:=0
def tw8534641153837000764:=0
def tw7809412525457928042:=0
def tw2132477086995894699:=0
def tw12253183742337568067:=0
def tw11736747848625131036:=0
def tw8388966161056628674:=0
def tw184481509813769034:=0
def tw4075666949446379655:=0
def tw9086902676654461174:=0
def tw9014695702080345664:=0
def tw6853353063591447913:=0
end PySem.W.Fast
open PySem PySem.W PyProof.Rows
theorem K36.spl {α β γ : Type} {f : α → γ} {g : β → γ} {as : List α} {ks : List β} (n : Nat) (h : (List.take n as).map f = (List.take n ks).map g) (h' : (List.drop n as).map f = (List.drop n ks).map g) : as.map f = ks.map g := by
 have e1 : as.map f = (List.take n as).map f ++ (List.drop n as).map f := by rw [← List.map_append, List.take_append_drop]
 have e2 : ks.map g = (List.take n ks).map g ++ (List.drop n ks).map g := by rw [← List.map_append, List.take_append_drop]
 rw [e1, e2, h, h']
theorem K36.hof {K : Params → Frag} {as : List Addr} (e : ∀ P, as = (K P).map (·.1)) (w : World) (s : Shared) (h : ((((List.take 125 (List.take 250 (List.take 500 as))).map s.heap.get?, (List.drop 125 (List.take 250 (List.take 500 as))).map s.heap.get?), ((List.take 125 (List.drop 250 (List.take 500 as))).map s.heap.get?, (List.drop 125 (List.drop 250 (List.take 500 as))).map s.heap.get?)), (((List.take 125 (List.take 250 (List.drop 500 as))).map s.heap.get?, (List.drop 125 (List.take 250 (List.drop 500 as))).map s.heap.get?), ((List.take 125 (List.drop 250 (List.drop 500 as))).map s.heap.get?, (List.drop 125 (List.drop 250 (List.drop 500 as))).map s.heap.get?))) = ((((List.take 125 (List.take 250 (List.take 500 (K w.params)))).map (fun p => some p.2), (List.drop 125 (List.take 250 (List.take 500 (K w.params)))).map (fun p => some p.2)), ((List.take 125 (List.drop 250 (List.take 500 (K w.params)))).map (fun p => some p.2), (List.drop 125 (List.drop 250 (List.take 500 (K w.params)))).map (fun p => some p.2))), (((List.take 125 (List.take 250 (List.drop 500 (K w.params)))).map (fun p => some p.2), (List.drop 125 (List.take 250 (List.drop 500 (K w.params)))).map (fun p => some p.2)), ((List.take 125 (List.drop 250 (List.drop 500 (K w.params)))).map (fun p => some p.2), (List.drop 125 (List.drop 250 (List.drop 500 (K w.params)))).map (fun p => some p.2))))) : InK K w s.heap := by
 simp only [Prod.mk.injEq] at h
 obtain ⟨⟨⟨x1, x2⟩, ⟨x3, x4⟩⟩, ⟨⟨x5, x6⟩, ⟨x7, x8⟩⟩⟩ := h
 exact InK.of e w s (K36.spl 500 (K36.spl 250 (K36.spl 125 x1 x2) (K36.spl 125 x3 x4)) (K36.spl 250 (K36.spl 125 x5 x6) (K36.spl 125 x7 x8)))
def K36.qq : Program := { PySem.Challenge.rw_roomslaid_k36_words_reckoned.prog with main := { PySem.Challenge.rw_roomslaid_k36_words_reckoned.prog.main with body := [K36.aJt] } }
def K36.ll : List Str := [.ofString "_wall", .ofString "__name__", .ofString "RoomError", .ofString "NoShapes", .ofString "UnknownShape", .ofString "NamedTwice", .ofString "TooMuch", .ofString "NoRecord", .ofString "NoPath", .ofString "Beyond", .ofString "Other", .ofString "NoProgram", .ofString "WrongPath", .ofString "NoInput", .ofString "NoThings", .ofString "NoBudget", .ofString "OWN_WORDS", .ofString "SMALL_LETTERS", .ofString "FIGURES", .ofString "MOST_LETTERS", .ofString "MOST_FIGURES", .ofString "is_whole", .ofString "is_count", .ofString "is_between", .ofString "is_name", .ofString "is_text_of", .ofString "number_in", .ofString "bound_of", .ofString "is_word", .ofString "joined", .ofString "Kind", .ofString "Num", .ofString "Nested", .ofString "Many", .ofString "Pick", .ofString "Shape", .ofString "Shapes", .ofString "WORD_CELLS", .ofString "MOST_LINES", .ofString "MOST_NAMES", .ofString "MOST_BEGUN", .ofString "NAMES", .ofString "SIGNS", .ofString "BEGINNINGS", .ofString "FORMS", .ofString "Row", .ofString "Loop", .ofString "Choice", .ofString "Program", .ofString "read_program", .ofString "lines_in", .ofString "form_of", .ofString "fits", .ofString "need_standing", .ofString "begun_behind", .ofString "row_in", .ofString "steps_in", .ofString "step_in", .ofString "names_in", .ofString "unlike", .ofString "rows_from", .ofString "line_behind", .ofString "whole_row", .ofString "MOST_BUDGET", .ofString "Run", .ofString "Going", .ofString "run", .ofString "need_inputs", .ofString "rest", .ofString "reckoned", .ofString "asked", .ofString "MOST_SHAPES", .ofString "MOST_FIELDS", .ofString "MOST_CELLS", .ofString "MOST_UNITS", .ofString "MOST_DEPTH", .ofString "MOST_WIDTH", .ofString "MOST_COUNT", .ofString "LEAST_PICKED", .ofString "MOST_PICKED", .ofString "read_shapes", .ofString "is_shape_line", .ofString "is_field_line", .ofString "is_kind", .ofString "is_single", .ofString "need_new_shape", .ofString "need_field", .ofString "shapes_named", .ofString "whole_shapes", .ofString "with_field", .ofString "kind_in", .ofString "is_too_much", .ofString "is_record", .ofString "may_have", .ofString "has_fields", .ofString "has_count", .ofString "is_choice", .ofString "is_number_of", .ofString "blank", .ofString "blank_of", .ofString "gathered", .ofString "copied", .ofString "kind_at", .ofString "look_at", .ofString "which_at", .ofString "stored", .ofString "chosen", .ofString "found_at", .ofString "asked_kind", .ofString "reached", .ofString "stepped", .ofString "need_chosen", .ofString "need_element", .ofString "replaced", .ofString "Store", .ofString "Plain", .ofString "path_of", .ofString "need_records", .ofString "_law_cell", .ofString "_law_mixed", .ofString "_law_box", .ofString "_law_take", .ofString "_law_number", .ofString "_law_line", .ofString "_law_due"]
local macro_rules | `(tactic| refine $h:ident (q := $q) (loose := $l) (Xt := fun $s => $b && $f ($g $r) $t) (XP := $x) (Yf := $yo ($kh $k $as $e)) (Ya := $a) (YP := $p) (N := $n) $hl $ho $z*) => `(tactic| refine $h (loose := K36.ll) (q := K36.qq) (Xt := fun s => xlAt K36.qq [] s && recOk (RowW.records $r) s) (XP := XL K36.qq []) (Yf := fun s => ((((List.take 125 (List.take 250 (List.take 500 $as))).map s.heap.get?, (List.drop 125 (List.take 250 (List.take 500 $as))).map s.heap.get?), ((List.take 125 (List.drop 250 (List.take 500 $as))).map s.heap.get?, (List.drop 125 (List.drop 250 (List.take 500 $as))).map s.heap.get?)), (((List.take 125 (List.take 250 (List.drop 500 $as))).map s.heap.get?, (List.drop 125 (List.take 250 (List.drop 500 $as))).map s.heap.get?), ((List.take 125 (List.drop 250 (List.drop 500 $as))).map s.heap.get?, (List.drop 125 (List.drop 250 (List.drop 500 $as))).map s.heap.get?)))) (Ya := fun w => ((((List.take 125 (List.take 250 (List.take 500 ($k w.params)))).map (fun p => some p.2), (List.drop 125 (List.take 250 (List.take 500 ($k w.params)))).map (fun p => some p.2)), ((List.take 125 (List.drop 250 (List.take 500 ($k w.params)))).map (fun p => some p.2), (List.drop 125 (List.drop 250 (List.take 500 ($k w.params)))).map (fun p => some p.2))), (((List.take 125 (List.take 250 (List.drop 500 ($k w.params)))).map (fun p => some p.2), (List.drop 125 (List.take 250 (List.drop 500 ($k w.params)))).map (fun p => some p.2)), ((List.take 125 (List.drop 250 (List.drop 500 ($k w.params)))).map (fun p => some p.2), (List.drop 125 (List.drop 250 (List.drop 500 ($k w.params)))).map (fun p => some p.2))))) (YP := $p) (N := $n) $hl (fun w s h => K36.hof (K := $k) (as := $as) $e w s h) $z*)
set_option maxRecDepth 100000 in
set_option maxHeartbeats 0 in
theorem PySem.Challenge.cw_roomslaid_k36_words_reckoned_holds : PySem.Challenge.rw_roomslaid_k36_words_reckoned.Holds := by
 w_on;o_law;k_head; (case hw=>w_witness2)
 k_fill
 refine K36.walk (l := PySem.Challenge.rw_roomslaid_k36_words_reckoned) rfl rfl (fun w h Y => PySem.W.kIn_of Y) ?F
 case F =>
  intro w mg fa h KX G hmg
  refine' K36.all_mk KX G hmg ?_ ?_ ?_ ?_ ?_ ?_ ?_ ?_ ?_ ?_ ?_ ?_ ?_ ?_ ?_ ?_ ?_ ?_ ?_ ?_ ?_ ?_ ?_ ?_ ?_ ?_ ?_ ?_ ?_ ?_ ?_ ?_ ?_ ?_ ?_ ?_ ?_ ?_ ?_ ?_ ?_ ?_ ?_ ?_ ?_ ?_ ?_ ?_ ?_ ?_ ?_ ?_ ?_ ?_ ?_ ?_ ?_ ?_ ?_ ?_ ?_ ?_ ?_ ?_ ?_ ?_ ?_ ?_ ?_ ?_ ?_ ?_ ?_ ?_ ?_ ?_ ?_ ?_ ?_ ?_ ?_ ?_ ?_ ?_ ?_ ?_ ?_ ?_ ?_ ?_ ?_ ?_ ?_ ?_ ?_ ?_ ?_ ?_ ?_ ?_ ?_ ?_ ?_ ?_ ?_ ?_ ?_ ?_ ?_ ?_ ?_ ?_ ?_ ?_ ?_ ?_ ?_ ?_ ?_ ?_ ?_ ?_ ?_ ?_ ?_ ?_ ?_ ?_ ?_ ?_ ?_ ?_ ?_ ?_ ?_ ?_ ?_ ?_ ?_ ?_ ?_ ?_ ?_ ?_ ?_ ?_ ?_ ?_ ?_ ?_ ?_ ?_ ?_ ?_ ?_ ?_ ?_ ?_ ?_ ?_ ?_ ?_ ?_ ?_ ?_ ?_ ?_ ?_ ?_ ?_ ?_ ?_ ?_ ?_ ?_ ?_ ?_ ?_ ?_ ?_ ?_ ?_ ?_ ?_ ?_ ?_ ?_ ?_
  all_goals (first|refine' K36.FG.mk ?_ ⟨_,L2.aLl ?_ ?_ ?_⟩|refine' K36.FM.mk ?_ ?_ ⟨_,L2.aLl ?_ ?_ ?_⟩|refine' K36.CK.mk ?_ ⟨?_,?_,?_,?_⟩ ?_ ?_ ?_|skip)
  all_goals (repeat' (first|exact K36.na0|refine' K36.na1 ?_ ?_))
  all_goals (first|k_is|exact K36.na0|exact Eq.refl true|exact Eq.refl (some true)|exact Eq.refl (some false)|kernel_rfl|ac_rfl|skip)
