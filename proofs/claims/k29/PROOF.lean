import PyProof.Rows.All
import Wide.All
import OpenK.AllK
import Wide.FinOn
import Lean
import PyProof.EqAt
import PyProof.EqKinds
import PyProof.TupleCall
import PyProof.LongRange
import PyProof.ListRange
import PyProof.RaisesMany
import PyProof.ExcBaseAll.ValueError
import PyProof.ExcArgs
import PyProof.InstStoreFacts
import PyProof.ExcAttrAll.ValueError
import PyProof.RulesAs
import PyProof.RulesDel
import PyProof.ReprRoads
import PyProof.CallFns
import PyProof.InstSpecial
import PyProof.Rows.RuleN_isinstance
import KE.KIsNot
import PyProof.ReprLen
import PyProof.EnumMake
import PyProof.EnumFor
import PyProof.EnumStmt
import PyProof.Rows.EnumRows
import PyProof.RulesDelMore
import PyProof.Rows.SetFrom
import PyProof.ZipIter
import PyProof.IsRules
import PyProof.Conv_int_bool
import PyProof.IsiTuple
import PyProof.NeKinds
import KE.KEqDict
import PyProof.Rows.FStr
import PyProof.Rows.StrNews
import PyProof.StrCalls2
import PyProof.StrLawsChain
import PyProof.StrLawsTight
import PyProof.StrOps2
import PyProof.WalkInts
import PyProof.DictCompW
import PyProof.DictWalks
import PyProof.Rows.DictUnroll
import PyProof.FactsAll.dict
import PyProof.AttrMissHeap
import PyProof.FactsAll.zip
import KE.KDictOf
import PySem.Challenge.RW_roomslaid_k29_paths
set_option autoImplicit true
set_option Elab.async false
set_option linter.all false
set_option maxRecDepth 100000
local macro_rules|`(tactic|ac_rfl)=>`(tactic|decide +kernel)
theorem hide_{p:Prop}(h:let g:=p;g):p:=h
local macro_rules | `(tactic| obtain $p:rcasesPatMed := $e) => `(tactic| (refine hide_ ?_;intro G_; (rcases $e:term with $p) <;> (unfold G_;try clear G_)))
local macro_rules | `(tactic| omega) => `(tactic| lia)
open PySem.W (Frag keepIn findIn codeIn nsIn fnOf mg_of isFn mg_none_of)
open List renaming length_map->δ,getElem?_eq_getElem->η,getElem?_eq_some_iff->θ,length_append->ι,map_append->ξ,mem_of_getElem?->ο,mem_cons->ς,mem_singleton->τ,size_toArray->υ,length_cons->Δ,getD_eq_getElem?_getD->Φ,mem_cons_self->Ψ,not_mem_nil->Ω,getElem?_append_right->yb,mem_cons_of_mem->yc,length_take->yh,mem_map->yj,getElem?_append_left->yr,Nodup->yt,mem_append_right->yu,getElem?_map->yv,mem_append->za,all_eq_true->ze,map_map->zf,append_nil->zh,length_singleton->zk,map_cons->zm,zipWith->zt,take_add_one->zu,range->zw,append_assoc->zx,replicate->Ac,mem_iff_getElem?->Ai,take_length->An,length_pos_iff->Aq,filter_cons_of_neg->Av,mem_append_left->AL,length_range->AR,length_eq_zero_iff->AX,length_dropLast->AZ,sum_cons->Ba,length_replicate->Bg,getElem?_take_of_lt->Bp,mem_range->Bs,flatMap_append->By,length_take_le->Bz,flatMap_singleton->BB,zipWith_cons_cons->BC,getElem_mem->BF,take_append_drop->BN,eq_nil_or_concat->BO,concat_eq_append->BP,nodup_cons->BS,range_succ->BU,lookup->BY,replicate_succ->Cd,map_eq_nil_iff->Ce,filter_cons_of_pos->Cg,lookup_cons->Ci,getElem?_set_self->Ck,take_of_length_le->Cm,contains_cons->Cp,append_eq_nil_iff->Cr,find?_cons->Cu,length_nil->Cv,getElem?_zipWith->CA,drop_eq_getElem_cons->CV,pairwise_iff_getElem->CY,map_congr_left->Dc,length_zipWith->De,flatten_cons->DB,flatMap_cons->DE,length_filter_le->DQ,length_drop->DT,filter_cons->DU,cons_append->DW,any_eq_true->DX,getElem_map->DZ,any_cons->Ea,Pairwise->Eb,getElem?_set_ne->Ed,mem_of_mem_take->Eh
open PySem.Str renaming ofString->ε,join->yd,cps_append->Bd,append_assoc->BG
open PySem renaming wpAny_bind->ζ,Shared->ν,sizeLine->ψ,wpAny_pure->Θ,wpAny->xy,mainGlobals->ya,starEach->yi,model->yl,sizeLine_eq->ym,boot_len->yn,FuncData->zb,wpAny_mono->Ad,wpAny_field->Af,Heap->Ag,compareOp->Ah,Around->Ak,Program->Ao,mem_of_lookup->Au,wpAny_loadPart_at->Aw,strLen_append->Ax,World->AD,wpAny_truthy_bool->AI,wpAny_holding->AM,wpAny_seqItems->AU,bootBuiltins->AV,wpAny_Call_Name_kw->AW,Spec->Bb,wpAny_isSubtype_exc->Bf,wpAny_setField_rec->Bl,Within->Bm,rawInt->Bt,wpAny_pyIter_list->Bu,Builtin->BA,backTo->BH,wpAny_pyIter_tuple->BI,wpAny_passesOwn->BR,binaryOp->BX,sysModules->BZ,wpAny_standAt->Ca,attributeBase->Cb,wpAny_call_entry->Cf,cLine->Cs,behindInMarks->Cy,foldedSetIterable->CB,wpAny_newObj_type->CF,keywordEach->CH,typeLookup->CI,call_meets->CJ,wpAny_setField->CM,PyData->Da,wpAny_onRaise->Di,ZipApart->Dl,wpAny_execs_nil->Dp,letOwnedTupleGo->Dq,codeAny->Dr,assignEach->Ds,tupleKind_room_in1->Du,getMethod->Dv,sliceBounds->Dx,codeAny_mono->Dz,builtinLookup_eq_fast->DP,checkBuiltinCall->DV,wpAny_attempt->Ec,codeAny_call_builtin->Ee,wpAny_updateSeq_pair->Eg
open Nat renaming le_refl->μ,lt_of_lt_of_le->χ,ne_of_lt->yg,le_trans->yo,zero_le->yq,lt_of_le_of_lt->zy,min_le_left->Aa,not_lt_zero->Ar,ne_of_gt->As,sub_self->AA,lt_irrefl->AG,le_add_right->AY,le_of_lt->Bn,le_succ->BE,sub_mod_eq_zero_of_mod_eq->Cj,lt_succ_self->CQ,lt_trans->CT,succ_le_succ->CU,succ_mul->DC,zero_add->DG,le_succ_of_le->DK
open Bool renaming false_ne_true->π,and_eq_true->zj,false_and->AE,eq_false_iff->AS,eq_iff_iff->Bw,false_eq_true->Cq,and_false->CL,true_and->Dm
open PySem.Heap renaming get?_push_of_some->ρ,lt_size->Ξ,get?_push_size->yf,get?_update_other->Am,SameBut->AH,size_push->AT,get?_update_self->Bh,get?_none_of_le->BW,IsTuple->DI
open PySem.W renaming Frag->ω,findIn->Ap,mg_none_of->Ay,kitOne->AF,kia_one->AN,nsIn->Br,instObj->Bv,mroIn->BD,callWith_K->BJ,methodCall_KW->BM,mg_of->BV,hasDictIn->CC,specialIn->CD,looks_findIn->CG,looks_clsIn->CZ,plainGet->DR
open PySem.Value renaming ref->yk,none->Az
open Or renaming inl->yp
open PySem.PassesOwn renaming never->yw
open PySem.F renaming plainAttrs_list->yy,plainAttrs_str->zg,slot_list_append->zp,type_list_append->zr,slot_str_split->AB,type_str_split->AC,excBase_ValueError->Bc,slot_str_join->Bi,type_str_join->Bj,slot_zip_next->Bx,slot_tuple_iterator_next->BK,args_tuple_add_2->Dh,slot_list_extend->Dn,type_list_extend->Do,entry_tuple_add->Dw,slot_zip_getattribute->Dy,slot_tuple_add->DA,args_zip_next_1->DH,slot_dict_get->DN,entry_zip_next->DY
open Option.some renaming inj->zc
open PySem.Builtin.SmallTypes renaming nextOf->zd,ownedTupleIsFree->zo,ownedTupleHandOut->Dd
open False renaming elim->zi
open PySem.Txt renaming split->zv
open PySem.SeqAt renaming EqAt->Ab
open True renaming intro->Ae
open Ne renaming symm->Aj
open PyProof.Rows renaming callWith_type1->AJ,boot_isinstance->Cw,callWith_builtin1->DS
open PySem.Builtin.Str renaming occurrences->AK
open Sum renaming inr->AO
open Array renaming toList_append->AQ,length_toList->Be
open PySem.W.Looks renaming here->Bk,of_pure->Cz
open Option renaming isSome_iff_exists->Bo
open PySem.Obj renaming mapFields->Bq,data_mapFields->Co,isFreed_of_fields->DO
open PySem.SeqAt.RcNeAt renaming lists_lengths->BL
open PySem.Builtin.ObjectAttr renaming storeInOwnDict->BQ,ownDictForStores->Dj
open PySem.Builtin.List renaming listTooLong->Cc
open ForInStep renaming yield->Ct
open PySem.Shared renaming heap->CO
open PySem.Paired renaming length->Dg
open List.cons renaming inj->Dk
open PySem.Calls renaming spliced_cons->Dt
open Int renaming zero_add->DJ
namespace L2
open PySem PySem.Spec PyProof.Rows
abbrev Key:=Sum Int Str
def rZ:Key->Value->Bool
 |.inl k,v=>Value.isInt k v
 |.inr x,v=>Value.isStrOf x v
def keyH (w:AD):Key->Int
 |.inl k=>hashInt k
 |.inr x=>hashStr w x
theorem vP:∀{k:Key}{v:Value},rZ k v=true->(∃i t,k=Sum.inl i/\v=Value.int i t)\/(∃x t,k=AO x/\v=Value.str x t)
 |.inl i,v,h=>by
  obtain⟨t,e⟩:=Value.isInt_shape (k:=i) (v:=v) h;exact .inl ⟨i,t,rfl,e⟩
 |.inr x,v,h=>by
  obtain⟨t,e⟩:=Value.isStrOf_shape (x:=x) (v:=v) h;exact .inr ⟨x,t,rfl,e⟩
theorem aIg(i:Int)(t:Tok):rZ (.inl i) (.int i t)=true:=by simp[rZ,Value.isInt]
theorem aHu(x:Str)(t:Tok):rZ (.inr x) (.str x t)=true:=by simp[rZ,Value.isStrOf]
theorem aSf(a b:Int):decide ((Sum.inl a:Key)=Sum.inl b)=(a == b):=by
 by_cases e:a=b
 ·subst e;simp
 ·have h:¬ (Sum.inl a:Key)=Sum.inl b:=fun q=>e (Sum.inl.inj q);rw[decide_eq_false h];exact(beq_eq_false_iff_ne.mpr e).symm
theorem aTa(a b:Str):decide ((AO a:Key)=AO b)=decide (a=b):=by
 by_cases e:a=b
 ·subst e;simp
 ·have h:¬ (AO a:Key)=AO b:=fun q=>e (AO.inj q);rw[decide_eq_false h,decide_eq_false e]
theorem aSh(a:Int)(b:Str):decide ((Sum.inl a:Key)=AO b)=false:=decide_eq_false (fun q=>nomatch q)
theorem aQv(a:Str)(b:Int):decide ((AO a:Key)=Sum.inl b)=false:=decide_eq_false (fun q=>nomatch q)
def qT (prog:Ao) (w:AD):PySem.KeyKind prog w Key where
 is:=rZ
 hash:=keyH w
 inj:=fun v a b ha hb=>by
  rcases vP ha with⟨i,t,rfl,rfl⟩|⟨x,t,rfl,rfl⟩
  ·rcases vP hb with⟨j,u,rfl,e⟩|⟨y,u,rfl,e⟩
   ·injection e with e1 _;rw[e1]
   ·exact nomatch e
  ·rcases vP hb with⟨j,u,rfl,e⟩|⟨y,u,rfl,e⟩
   ·exact nomatch e
   ·injection e with e1 _;rw[e1]
 byValue:=fun k v h=>by
  rcases vP h with⟨i,t,rfl,rfl⟩|⟨x,t,rfl,rfl⟩ <;> rfl
 pyHash:=fun hv h=>by
  rcases vP hv with⟨i,t,rfl,rfl⟩|⟨x,t,rfl,rfl⟩
  ·exact wpAny_pyHash_int h
  ·exact wpAny_pyHash_str h
 eqBool:=fun hu hv h=>by
  rcases vP hu with⟨i,t,rfl,rfl⟩|⟨x,t,rfl,rfl⟩
  ·rcases vP hv with⟨j,u,rfl,rfl⟩|⟨y,u,rfl,rfl⟩
   ·rw[aSf]at h;exact wpAny_eqBool_int h
   ·rw[aSh]at h;exact Ab.int_str i t y u _ _ _ _ h
  ·rcases vP hv with⟨j,u,rfl,rfl⟩|⟨y,u,rfl,rfl⟩
   ·rw[aQv]at h;exact Ab.str_int x t j u _ _ _ _ h
   ·rw[aTa]at h;exact wpAny_eqBool_str h
 «strs»:=fun k x t v h=>by
  rcases vP h with⟨i,u,rfl,e⟩|⟨y,u,rfl,e⟩
  ·exact nomatch e
  ·injection e with e1 _;subst e1;cases v <;> rfl
theorem aCx(prog:Ao)(w:AD)(i:Int)(t:Tok):(qT prog w).is (.inl i) (.int i t)=true:=aIg i t
theorem aDp(prog:Ao)(w:AD)(x:Str)(t:Tok):(qT prog w).is (.inr x) (.str x t)=true:=aHu x t
inductive V where
 |non|bl (b:Bool)|int (i:Int)|str (x:Str)|byt (b:Array UInt8)|flt (b:UInt64)|ref (a:Addr)|ty (n:String)
 deriving DecidableEq
def RelV:V->Value->Prop
 |.non,u=>u=Az
 |.bl b,u=>u=Value.bool b
 |.int i,u=>∃t,u=Value.int i t
 |.str x,u=>∃t,u=Value.str x t
 |.byt b,u=>∃t,u=Value.bytes b t
 |.flt b,u=>∃t,u=Value.float b t
 |.ref a,u=>u=yk a
 |.ty n,u=>u=Value.type n
abbrev kQ:List V->List Value->Prop:=Paired RelV
theorem kQ.length(r:kQ xs us):xs.length=us.length:=Dg r
theorem kQ.get:∀{xs:List V}{us:List Value}{i:Nat}{x:V},kQ xs us->xs[i]?=some x->∃u,us[i]?=some u/\RelV x u
 |_,_,_,_,.nil,e=>by simp at e
 |_,_,0,_,.cons r _,e=>by simp at e;subst e;exact⟨_,rfl,r⟩
 |_,_,i+1,x,.cons _ t,e=>by
  obtain⟨u,h1,h2⟩:=kQ.get (i:=i) (x:=x) t (by simpa using e);exact⟨u,by simpa using h1,h2⟩
theorem kQ.set(r:RelV x u):∀{xs:List V}{us:List Value}(i:Nat),kQ xs us->kQ (xs.set i x) (us.set i u)
 |_,_,_,.nil=>.nil
 |_,_,0,.cons _ t=>.cons r t
 |_,_,i+1,.cons q t=>.cons q (kQ.set r i t)
theorem kQ.append:∀{xs ys:List V}{us ws:List Value},kQ xs us->kQ ys ws->kQ (xs++ys) (us++ws)
 |_,_,_,_,.nil,s=>s
 |_,_,_,_,.cons r t,s=>.cons r (kQ.append t s)
theorem kQ.take:∀{xs:List V}{us:List Value}(n:Nat),kQ xs us->kQ (xs.take n) (us.take n)
 |_,_,0,_=>.nil
 |_,_,_+1,.nil=>.nil
 |_,_,n+1,.cons r t=>.cons r (kQ.take n t)
theorem kQ.drop:∀{xs:List V}{us:List Value}(n:Nat),kQ xs us->kQ (xs.drop n) (us.drop n)
 |_,_,0,r=>r
 |_,_,_+1,.nil=>.nil
 |_,_,n+1,.cons _ t=>kQ.drop n t
theorem kQ.none_of:∀{xs:List V}{us:List Value}{i:Nat},kQ xs us->xs[i]?=none->us[i]?=none:=fun {xs us i} r e=>by
 have h1:=r.length;have h2:xs.length<=i:=List.getElem?_eq_none_iff.mp e;exact List.getElem?_eq_none_iff.mpr (by omega)
def aI:Option V->Option Value->Prop
 |some v,some u=>RelV v u
 |none,none=>True
 |_,_=>False
def KV {κ : Type} : List (κ×V)->List (κ×Value)->Prop:=Paired fun (p : κ×V) (q : κ×Value)=>p.1=q.1/\RelV p.2 q.2
def kV:Key->V
 |.inl i=>.int i
 |.inr x=>.str x
inductive HO where
 /-- a list -/
 |lst (xs:List V)
 /-- a tuple (never changes) -/
 |tup (xs:List V)
 /-- a dict whose keys are ints and texts;one whose keys are tuples of ints and texts (the empty one is both) -/
 |dK (kvs:List (Key×V))|dT (kvs:List (List Key×V))
 /-- a set of ints: its members,its size -/
 |set (S:Int->Bool) (n:Nat)
 /-- an instance of the class at C,its dict at dx,its attributes -/
 |ins (C dx:Addr) (fs:List (Str×V))
 /-- the dict of the instance at x -/
 |own (x:Addr)
 /-- the dict of an exception -/
 |xd (fs:List (Str×V))
 /-- a bound method,f of x -/
 |met (f x:Addr)
 /-- a range object lo,lo+1,.. below hi -/
 |rng (lo hi:Int)
 /-- a thing that is known to the object (the script;a dict while a loop walks it): read,never written while it is so -/
 |frz (o:Obj) (u:HO)
 /-- a code object's table -/
 |tbl (ps:Array Value)
 /-- any other thing,by what is true of its one object (a def of one's own: SetO a S n := HO.ext fun h => ..) -/
 |ext (φ : Ag->Prop)
abbrev Hp:=Addr->Option HO
def upd (H:Hp) (a:Addr) (o:HO):Hp:=fun b=>if b=a then some o else H b
theorem jO : upd H a o a=some o:=by unfold upd;rw[if_pos rfl]
theorem jY{H:Hp}{a b:Addr}(h:b≠a):upd H a o b=H b:=by unfold upd;rw[if_neg h]
theorem oE{H:Hp}(h:H a=some o)(h':H b=some u)(d:o≠u):a≠b:=by
 intro e;subst e;rw[h]at h';exact d (zc h')
theorem jL{H:Hp}(h:H a=some o)(h':H b=none):a≠b:=by
 intro e;subst e;rw[h]at h';cases h'
section
variable (P:Ao) (w:AD)
def vI (H:Hp) (h:Ag) (a:Addr):HO->Prop
 |.lst xs=>xs.length<=ψ/\∃(its:List Value) (n:Nat),kQ xs its/\h.get? a=some { cls:=.type "list",data:=.seq its.toArray n }
 |.tup xs=>xs.length<=ψ/\∃its:List Value,kQ xs its/\IsTup h a its.toArray
 |.dK kvs=>kvs.length<=ψ/\(a == BZ)=false/\∃vs,KV kvs vs/\h.DictOf (qT P w) a vs
 |.dT kvs=>kvs.length<=ψ/\(a == BZ)=false/\∃xs:List (List Key×Addr×Value),
   Paired (fun (p:List Key×V) (q:List Key×Addr×Value)=>p.1=q.1/\H q.2.1=some (.tup (p.1.map kV))/\RelV p.2 q.2.2) kvs xs ∧
   ∃o es ep,h.get? a=some o/\o.ExactDict/\o.data=.dict es ep/\es.toList=xs.map (entryOfKey (tupleKind (qT P w)))/\(xs.map (·.1)).Nodup
 |.set S n=>h.SetOf (intKind P w) a S n
 |.ins C dx fs=>H dx=some (.own a)/\fs.length<=1000/\dx≠a/\h.get? a=some (Bv C dx) ∧
   ∃mA,h.Ns1 dx mA/\(∀f,aI (fs.lookup f) (mA f))/\Bm mA (fs.map (·.1))
 |.own _=>∃o,h.get? a=some o
 |.xd fs=>∃mA,h.Ns1 a mA/\∀f,aI (fs.lookup f) (mA f)
 |.rng lo hi=>∃t u v,h.get? a=some { cls:=.type "range",data:=.fields #[.int lo t,.int hi u,.int 1 v] }
 |.frz o u=>h.get? a=some o/\vI H h a u
 |.tbl ps=>h.get? a=some { cls:=.none,data:=.fields ps }
 |.met f x=>h.get? a=some (PySem.W.methodObj (.ref f) (.ref x))
 |.ext φ=>φ h/\(∃o,h.get? a=some o)/\∀h1 h2:Ag,φ h1->(∀o,h1.get? a=some o->h2.get? a=some o)->φ h2
def HOk (H:Hp) (h:Ag):Prop:=∀a o,H a=some o->vI P w H h a o
end
section
variable {P:Ao}{w:AD}{H H':Hp}{h h':Ag}{a:Addr}{o:HO}
theorem vI.lt(x:vI P w H h a o):a<h.objs.size:=by
 cases o with
 |lst xs=>obtain⟨_,_,_,_,e⟩:=x;exact Ξ e
 |tup xs=>obtain⟨_,_,_,p⟩:=x;exact p.lt
 |dK kvs=>obtain⟨_,_,_,_,o,_,_,e,_⟩:=x;exact Ξ e
 |dT kvs=>obtain⟨_,_,_,_,o,_,_,e,_⟩:=x;exact Ξ e
 |set S n=>obtain⟨o,_,_,_,e,_⟩:=x;exact Ξ e
 |ins C dx fs=>obtain⟨_,_,_,e,_⟩:=x;exact Ξ e
 |own y=>obtain⟨_,e⟩:=x;exact Ξ e
 |xd fs=>obtain⟨_,⟨_,_,_,e,_⟩,_⟩:=x;exact Ξ e
 |rng lo hi=>obtain⟨_,_,_,e⟩:=x;exact Ξ e
 |frz ob u=>obtain⟨e,_⟩:=x;exact Ξ e
 |tbl ps=>exact Ξ (show h.get? a=some _ from x)
 |met f y=>exact Ξ (show h.get? a=some _ from x)
 |ext φ=>obtain⟨_,⟨_,e⟩,_⟩:=x;exact Ξ e
theorem Paired.mapP{α β : Type}{F G : α->β->Prop}: ∀{l₁ : List α}{l₂ : List β},Paired F l₁ l₂->(∀a b,F a b->G a b)->Paired G l₁ l₂
 |_,_,.nil,_=>.nil
 |_,_,.cons r t,f=>.cons (f _ _ r) (Paired.mapP t f)
theorem vI.stay(x:vI P w H h a o)(k:∀b u,(b=a\/H b=some (.own a))->h.get? b=some u->h'.get? b=some u)
  (ho:∀b,H b=some (.own a)->H' b=some (.own a))(ht:∀b xs,H b=some (.tup xs)->H' b=some (.tup xs)):vI P w H' h' a o:=by
 induction o with
 |lst xs=>obtain⟨z,its,n,r,e⟩:=x;exact⟨z,its,n,r,k _ _ (.inl rfl) e⟩
 |tup xs=>obtain⟨z,its,r,ob,e,c⟩:=x;exact⟨z,its,r,ob,k _ _ (.inl rfl) e,c⟩
 |dK kvs=>obtain⟨z,y,vs,r,ob,es,ep,e,c⟩:=x;exact⟨z,y,vs,r,ob,es,ep,k _ _ (.inl rfl) e,c⟩
 |dT kvs =>
  obtain⟨z,y,xs,r,ob,es,ep,e,c⟩:=x;exact⟨z,y,xs,Paired.mapP r fun p q z=>⟨z.1,ht _ _ z.2.1,z.2.2⟩,ob,es,ep,k _ _ (.inl rfl) e,c⟩
 |set S n=>obtain⟨ob,es,ep,t,e,c⟩:=x;exact⟨ob,es,ep,t,k _ _ (.inl rfl) e,c⟩
 |ins C dx fs =>
  obtain⟨d,z,ne,e,mA,⟨od,es,ep,e2,c⟩,r⟩:=x;exact⟨ho _ d,z,ne,k _ _ (.inl rfl) e,mA,⟨od,es,ep,k _ _ (.inr d) e2,c⟩,r⟩
 |own y=>obtain⟨ob,e⟩:=x;exact⟨ob,k _ _ (.inl rfl) e⟩
 |xd fs=>obtain⟨mA,⟨od,es,ep,e,c⟩,r⟩:=x;exact⟨mA,⟨od,es,ep,k _ _ (.inl rfl) e,c⟩,r⟩
 |rng lo hi=>obtain⟨t,u,v,e⟩:=x;exact⟨t,u,v,k _ _ (.inl rfl) e⟩
 |frz ob u ih=>obtain⟨e,q⟩:=x;exact⟨k _ _ (.inl rfl) e,ih q⟩
 |tbl ps =>
  have e:h.get? a=some { cls:=.none,data:=.fields ps }:=x;show h'.get? a=some { cls:=.none,data:=.fields ps };exact k a _ (.inl rfl) e
 |met f y =>
  have e:h.get? a=some (PySem.W.methodObj (.ref f) (.ref y)):=x;show h'.get? a=some (PySem.W.methodObj (.ref f) (.ref y));exact k a _ (.inl rfl) e
 |ext φ=>obtain⟨p,⟨o,e⟩,st⟩:=x;exact⟨st _ _ p fun o q=>k _ _ (.inl rfl) q,⟨o,k _ _ (.inl rfl) e⟩,st⟩
theorem HOk.lt(x:HOk P w H h)(e:H a=some o):a<h.objs.size:=(x a o e).lt
theorem HOk.fresh(x:HOk P w H h)(e:h.objs.size<=a):H a=none:=by
 cases q:H a with
 |none=>rfl
 |some u=>exact absurd (χ (x.lt q) e) (AG _)
theorem HOk.kept(x:HOk P w H h)(k:∀b u,h.get? b=some u->h'.get? b=some u):HOk P w H h':=fun a o e =>
 (x a o e).stay (fun b u _ q=>k b u q) (fun _ q=>q) fun _ _ q=>q
theorem HOk.laid(x:HOk P w H h)(k:∀b u,h.get? b=some u->h'.get? b=some u)(hp:h.objs.size<=a)(new:vI P w (upd H a o) h' a o):HOk P w (upd H a o) h':=fun b u e=>by
 have hn:=x.fresh hp
 by_cases hb:b=a
 ·subst hb;rw[jO]at e;cases e;exact new
 ·rw[jY hb]at e;exact(x b u e).stay (fun c v _ q=>k c v q) (fun c q=>by rw[jY (jL q hn)];exact q) fun c xs q=>by rw[jY (jL q hn)];exact q
end
def Rd (H:Hp) (a:Addr) (u:HO):Prop:=H a=some u\/∃o,H a=some (.frz o u)
theorem Rd.of{H:Hp}(h:H a=some u):Rd H a u:=.inl h
theorem Rd.ok(r:Rd H a u)(x:HOk P w H h):vI P w H h a u:=by
 rcases r with r|⟨o,r⟩
 ·exact x a u r
 ·obtain⟨_,q⟩:=x a _ r;exact q
def Mut:Option HO->Prop
 |some (.lst _)=>True
 |some (.dK _)=>True
 |some (.dT _)=>True
 |some (.set _ _)=>True
 |some (.ins _ _ _)=>True
 |some (.ext _)=>True
 |_=>False
section
variable {P:Ao}{w:AD}{H:Hp}{h h':Ag}{x e:Addr}{o':HO}
theorem HOk.write(ok:HOk P w H h)(mu:Mut (H x))(he:e=x\/H e=some (.own x))(k:∀b u,b≠e->h.get? b=some u->h'.get? b=some u)(heo:∃u,h'.get? e=some u)
  (new:vI P w (upd H x o') h' x o'):HOk P w (upd H x o') h':=fun b u q=>by
 have nown:∀c y,H c=some (.own y)->c≠x:=fun c y r z=>by subst z;rw[r]at mu;exact mu
 have ntup:∀c xs,H c=some (.tup xs)->c≠x:=fun c xs r z=>by subst z;rw[r]at mu;exact mu
 by_cases hb:b=x
 ·subst hb;rw[jO]at q;cases q;exact new
 ·rw[jY hb]at q
  by_cases hbe:b=e
  ·have q':H b=some (.own x):=by
    rcases he with z|z
    ·exact absurd (hbe.trans z) hb
    ·rw[hbe];exact z
   rw[q]at q';cases q';obtain⟨v,hv⟩:=heo;exact⟨v,by rw[hbe];exact hv⟩
  ·refine(ok b u q).stay (fun c v hc r=>k c v ?_ r) (fun c r=>by rw[jY (nown c b r)];exact r) fun c xs r=>by rw[jY (ntup c xs r)];exact r
   rcases hc with rfl|hc
   ·exact hbe
   ·rintro rfl;rcases he with z|z
    ·exact nown c b hc z
    ·rw[hc]at z;cases z;exact hb rfl
end
structure Un (fs ex:List Addr) (H H':Hp) (h h':Ag):Prop where
 keep:∀b o,h.get? b=some o->H b=none->b∉fs->b∉ex->h'.get? b=some o
 slot:∀b o,h.get? b=some o->H b=none->b∈fs->b∉ex->∃sl,h'.get? b=some { o with slots:=sl }
 free:∀b o,h.get? b=some o->H b=none->b∉ex->H' b=none
 there:∀b o,h.get? b=some o->b∉ex->∃o',h'.get? b=some o'
 tups:∀b xs,H b=some (.tup xs)->H' b=some (.tup xs)
 frzs:∀b o u,H b=some (.frz o u)->H' b=some (.frz o u)
 tbls:∀b ps,H b=some (.tbl ps)->∃more,H' b=some (.tbl (ps++more))
section
variable {fs fs' ex ex':List Addr}{H H1 H2:Hp}{h h1 h2 h':Ag}{a x e:Addr}{o:HO}
theorem Un.any(u:Un fs ex H H1 h h1){b:Addr}{ob:Obj}(q:h.get? b=some ob)(n:H b=none)(hx:b∉ex):∃sl,h1.get? b=some { ob with slots:=sl }:=by
 by_cases hb:b∈fs
 ·exact u.slot b ob q n hb hx
 ·exact⟨ob.slots,u.keep b ob q n hb hx⟩
theorem Un.trans(a:Un fs ex H H1 h h1)(b:Un fs ex H1 H2 h1 h2):Un fs ex H H2 h h2 where
 keep:=fun c ob q n hc hx=>b.keep c ob (a.keep c ob q n hc hx) (a.free c ob q n hx) hc hx
 slot:=fun c ob q n hc hx=>by
  obtain⟨sl,e1⟩:=a.slot c ob q n hc hx;obtain⟨sl',e2⟩:=b.slot c _ e1 (a.free c ob q n hx) hc hx;exact⟨sl',e2⟩
 free:=fun c ob q n hx=>by
  obtain⟨o',e1⟩:=a.there c ob q hx;exact b.free c o' e1 (a.free c ob q n hx) hx
 there:=fun c ob q hx=>by
  obtain⟨o',e1⟩:=a.there c ob q hx;exact b.there c o' e1 hx
 tups:=fun c xs q=>b.tups c xs (a.tups c xs q)
 frzs:=fun c ob xs q=>b.frzs c ob xs (a.frzs c ob xs q)
 tbls:=fun c ps q=>by
  obtain⟨m1,e1⟩:=a.tbls c ps q;obtain⟨m2,e2⟩:=b.tbls c _ e1;exact⟨m1++m2,by rw[e2,Array.append_assoc]⟩
theorem Un.kept(k:∀b u,h.get? b=some u->h'.get? b=some u):Un fs ex H H h h' :=
 ⟨fun b ob q _ _ _=>k b ob q,fun b ob q _ _ _=>⟨ob.slots,k b ob q⟩,fun _ _ _ n _=>n,fun b ob q _=>⟨ob,k b ob q⟩,fun _ _ q=>q,fun _ _ _ q=>q,fun _ ps q=>⟨#[],by rw[q];simp⟩⟩
theorem Un.refl:Un fs ex H H h h:=Un.kept fun _ _ q=>q
theorem Un.laid(k:∀b u,h.get? b=some u->h'.get? b=some u)(hp:h.objs.size<=a)(hn:H a=none):Un fs ex H (upd H a o) h h' where
 keep:=fun b u q _ _ _=>k b u q
 slot:=fun b u q _ _ _=>⟨u.slots,k b u q⟩
 free:=fun b u q n _=>by rw[jY (yg (χ (Ξ q) hp))];exact n
 there:=fun b u q _=>⟨u,k b u q⟩
 tups:=fun b xs q=>by rw[jY (jL q hn)];exact q
 frzs:=fun b u xs q=>by rw[jY (jL q hn)];exact q
 tbls:=fun b ps q=>⟨#[],by rw[jY (jL q hn),q];simp⟩
theorem Un.write(mu:Mut (H x))(he:e=x\/H e=some (.own x))(k:∀b u,b≠e->h.get? b=some u->h'.get? b=some u)(heo:∃u,h'.get? e=some u):Un fs ex H (upd H x o) h h':=by
 have hx:∀b,H b=none->b≠x:=fun b n z=>by subst z;rw[n]at mu;exact mu
 have hb:∀b,H b=none->b≠e:=fun b n z=>by
  subst z;rcases he with r|r
  ·exact hx b n r
  ·rw[n]at r;cases r
 have hm:∀b u,H b=some u->¬ Mut (some u)->b≠x:=fun b u q nm z=>by subst z;rw[q]at mu;exact nm mu
 refine⟨fun b u q n _ _=>k b u (hb b n) q,fun b u q n _ _=>⟨u.slots,k b u (hb b n) q⟩,fun b u q n _=>by rw[jY (hx b n)];exact n,fun b u q _=>?_,
  fun b xs q=>by rw[jY (hm b _ q fun z=>z)];exact q,fun b u xs q=>by rw[jY (hm b _ q fun z=>z)];exact q,fun b ps q=>⟨#[],by rw[jY (hm b _ q fun z=>z),q];simp⟩⟩
 by_cases hbe:b=e
 ·subst hbe;exact heo
 ·exact⟨u,k b u hbe q⟩
theorem Un.mono(u:Un fs ex H H1 h h1)(hs:∀b∈fs,b∈fs')(hx:∀b∈ex,b∈ex'):Un fs' ex' H H1 h h1 :=
 ⟨fun b ob q n hb he=>u.keep b ob q n (fun z=>hb (hs b z)) fun z=>he (hx b z),fun _ _ q n _ he=>u.any q n fun z=>he (hx _ z),fun b ob q n he=>u.free b ob q n fun z=>he (hx b z),fun b ob q he=>u.there b ob q fun z=>he (hx b z),u.tups,u.frzs,u.tbls⟩
end
def trk (h:Ag) (H:Hp):List Addr:=(zw h.objs.size).filter fun a=>(H a).isSome
def wX (h:Ag) (H:Hp):Ag:=PySem.W.hideAll h (trk h H)
theorem aIa(h:Ag)(H:Hp):(wX h H).objs.size=h.objs.size:=PySem.W.hideAll_size _ _
theorem aLx{h:Ag}{H:Hp}{b:Addr}(e:h.get? b=some o)(n:H b=none):(wX h H).get? b=some o :=
 PySem.W.hideAll_get _ e fun hm=>by
  have q:(H b).isSome=true:=(List.mem_filter.mp hm).2;rw[n]at q;simp at q
theorem aPc{H:Hp}{b:Addr}(e:(wX h H).get? b=some o):h.get? b=some o/\H b=none:=by
 have e':h.get? b=some o:=PySem.W.of_hideAll (trk h H) e;refine⟨e',?_⟩;cases q:H b with
 |none=>rfl
 |some x =>
  have hm:b∈trk h H:=List.mem_filter.mpr ⟨Bs.mpr (Ξ e'),by simp[q]⟩;have z:(wX h H).get? b=none:=PySem.W.hideAll_none (trk h H) hm;rw[z]at e;cases e
def aPf (g h:Ag) (L:Addr):List (Addr×Obj):=(zw h.objs.size).filterMap fun a=>if a=L\/(g.get? a).isSome=true then none else (h.get? a).map fun o=>(a,o)
def rest (g h:Ag) (L d:Addr):List (Addr×Obj):=(aPf g h L).filter fun p=>decide (p.1≠d)
structure Mod (K:ω) (mg:Str->Option Value) (base:Ag):Prop where
 kin:K.In base
 glob:base.Ns ya mg
 blt:∃mb,base.Ns builtinsNs mb/\∀x:Str,x ≠ "__name__"->mb x=AV x
 nolimit:base.NoLimit
structure Cx where
 prog:Ao
 w:AD
 K:ω
 mg:Str->Option Value
 base:Ag
 A:Ak
 N:List Str
 s₀ : ν
 H₀ : Hp
 env:Env
 outer:List Env
 stack:List Env
 ex:List Addr
 fn:Str->Bool
 calm:Bool
 pn:List (Addr×Obj)
 xe:Value->ν->Prop
def frs (l:List Env):List Addr:=l.filterMap (·.frame)
abbrev Cx.fs (X:Cx):List Addr:=frs X.outer
def Vis (sc:Scope) (x:Str):Prop:=sc.names.lookup x=some .local\/sc.names.lookup x=some .cell\/sc.names.lookup x=some .free
def Loc (sc:Scope) (x:Str):Prop:=sc.names.lookup x=some .local\/sc.names.lookup x=some .cell
def Look (env:Env) (h:Ag) (m:Str->Option Value) (x:Str) (u:Value):Prop :=
 (env.kindOf x=some .local/\m x=some u)\/((env.kindOf x=some .cell\/env.kindOf x=some .free)/\∃c,env.cells.lookup x=some c/\h.IsCell c (some u))
structure Cx.Ok (X:Cx):Prop where
 mod:Mod X.K X.mg X.base
 kind:X.env.scope.kind=.function
 glob:X.env.globals=ya
 blt:X.env.builtins=builtinsNs
 above:X.s₀.heap.objs.size<=X.env.locals
 inj:∀x y c,X.env.cells.lookup x=some c->X.env.cells.lookup y=some c->x=y
 has:∀x,(X.env.kindOf x=some .cell\/X.env.kindOf x=some .free)->∃c,X.env.cells.lookup x=some c
 cab:∀x c,X.fn x=true->X.env.cells.lookup x=some c->X.s₀.heap.objs.size<=c
 hd:X.calm=true->X.A.handled=none
 frames:X.A.frames=some X.stack
 stk:X.stack=X.outer\/(X.stack=X.env::X.outer/\X.env.frame=some X.env.locals)
 exf:∀b∈X.ex,b≠X.env.locals/\∀x c,X.env.cells.lookup x=some c->c≠b
 bs:∀b o,X.base.get? b=some o->X.s₀.heap.get? b=some o/\X.H₀ b=none
 bsz:X.base.objs.size<=X.s₀.heap.objs.size
 noex:∀b o,X.base.get? b=some o->b∉X.ex
 exfs:∀b∈X.ex,b∉X.fs
 funs:X.s₀.heap.FunFrames X.base X.outer
 frf:∀b∈X.fs,X.H₀ b=none
structure Inv (X:Cx) (pins:List (Addr×Obj)) (σ:List (Option V)) (H:Hp) (s:ν):Prop where
 ok:X.Ok
 os:s.os=X.s₀.os
 bare:AllBare s.gens
 base:Un X.fs X.ex X.H₀ H X.s₀.heap s.heap
 loc:∃m,s.heap.Ns X.env.locals m/\∀(i:Nat) (x:Str) (v:V),X.N[i]?=some x->σ[i]?=some (some v)->Vis X.env.scope x->∃u,RelV v u/\Look X.env s.heap m x u
 cell:∀x c,X.env.cells.lookup x=some c->∃v,s.heap.IsCell c v
 free:H X.env.locals=none
 freeC:∀x c,X.env.cells.lookup x=some c->H c=none
 pin:∀p∈X.pn++pins,s.heap.get? p.1=some p.2/\H p.1=none/\p.1≠X.env.locals/\p.1∉X.fs/\∀v,p.2.data≠.cell v
 hok:HOk X.prog X.w H s.heap
 len : σ.length=X.N.length
section
variable {X:Cx}{pins:List (Addr×Obj)}{σ:List (Option V)}{H H':Hp}{s:ν}{h':Ag}
theorem Cx.Ok.nofr(ok:X.Ok){b:Addr}(e:X.base.get? b=some o):b∉X.fs:=fun hb=>by
 have:=(ok.funs.mem hb).1;rw[e]at this;cases this
theorem Inv.bs(I:Inv X pins σ H s):∀b o,X.base.get? b=some o->s.heap.get? b=some o/\H b=none:=fun b o e =>
 ⟨I.base.keep b o (I.ok.bs b o e).1 (I.ok.bs b o e).2 (I.ok.nofr e) (I.ok.noex b o e),I.base.free b o (I.ok.bs b o e).1 (I.ok.bs b o e).2 (I.ok.noex b o e)⟩
theorem Inv.bk(I:Inv X pins σ H s):∀b o,X.base.get? b=some o->s.heap.get? b=some o:=fun b o e=>(I.bs b o e).1
theorem Inv.mod(I:Inv X pins σ H s):Mod X.K X.mg X.base:=I.ok.mod
theorem Inv.kIn(I:Inv X pins σ H s):X.K.In s.heap:=I.ok.mod.kin.keeps I.bk
theorem Inv.nolimit(I:Inv X pins σ H s):s.heap.NoLimit:=I.ok.mod.nolimit.keeps I.bk
theorem Inv.fr(I:Inv X pins σ H s):∃m,Fr X.base X.env.locals s.heap m :=
 let ⟨m,hn,_⟩:=I.loc
 ⟨m,hn,I.bk,yo I.ok.bsz I.ok.above⟩
theorem Inv.lt(I:Inv X pins σ H s):X.env.locals<s.heap.objs.size:=let ⟨_,hn,_⟩:=I.loc;hn.lt
theorem Inv.sz(I:Inv X pins σ H s):X.s₀.heap.objs.size<=s.heap.objs.size:=yo I.ok.above (Bn I.lt)
theorem Inv.nofs(I:Inv X pins σ H s){a:Addr}(h:s.heap.objs.size<=a):a∉X.fs:=fun hb=>by
 obtain⟨_,o,ho,_⟩:=I.ok.funs.mem hb;exact absurd (χ (Ξ ho) (yo I.sz h)) (AG _)
theorem Inv.cne(I:Inv X pins σ H s):∀x c,X.env.cells.lookup x=some c->c≠X.env.locals:=fun x c e z=>by
 obtain⟨v,o,ho,hd⟩:=I.cell x c e;obtain⟨m,⟨o',es,ep,ho',hd',_⟩,_⟩:=I.loc;rw[z,ho']at ho;cases ho;rw[hd']at hd;cases hd
theorem Inv.funs(I:Inv X pins σ H s):s.heap.FunFrames X.base X.outer:=by
 have all:∀(l:List Env),(∀b∈frs l,b∈X.fs)->X.s₀.heap.FunFrames X.base l->s.heap.FunFrames X.base l:=by
  intro l
  induction l with
  |nil=>intro _ _;trivial
  |cons env r ih =>
   intro hs hl;obtain⟨hk,⟨L,o,hf,hn,ho,hd⟩,hr⟩:=hl;have hL:L∈X.fs:=hs L (by unfold frs;rw[List.filterMap_cons,hf];exact Ψ);obtain⟨sl,e⟩:=I.base.slot L o ho (I.ok.frf L hL) hL fun z=>I.ok.exfs L z hL;exact⟨hk,⟨L,_,hf,hn,e,hd⟩,ih (fun b hb=>hs b (by unfold frs;rw[List.filterMap_cons,hf];exact yc _ hb)) hr⟩
 exact all X.outer (fun _ hb=>hb) I.ok.funs
theorem Inv.stack(I:Inv X pins σ H s):s.heap.FunFrames X.base X.stack:=by
 rcases I.ok.stk with e|⟨e,hf⟩
 ·rw[e];exact I.funs
 ·rw[e];obtain⟨m,hn,_⟩:=I.loc;refine .cons (by rw[I.ok.kind];decide) hf hn ?_ I.funs;exact BW (yo I.ok.bsz I.ok.above)
theorem Inv.stkSub(I:Inv X pins σ H s):∀b∈frs X.stack,b∈X.env.locals::X.fs:=fun b hb=>by
 rcases I.ok.stk with e|⟨e,hf⟩
 ·rw[e]at hb;exact yc _ hb
 ·rw[e]at hb;unfold frs at hb;rw[List.filterMap_cons,hf]at hb;exact hb
theorem Inv.stkFree(I:Inv X pins σ H s):∀b∈frs X.stack,H b=none:=fun b hb=>by
 rcases ς.mp (I.stkSub b hb) with e|hb
 ·rw[e];exact I.free
 ·obtain⟨_,o,ho,_⟩:=I.ok.funs.mem hb;exact I.base.free b o ho (I.ok.frf b hb) fun z=>I.ok.exfs b z hb
theorem Inv.step{t':Nat}{d':Drawn}{ch:List Addr}(I:Inv X pins σ H s)
  (hch:∀b∈ch,(b∈X.ex\/X.s₀.heap.objs.size<=b)/\b≠X.env.locals/\(∀x c,X.env.cells.lookup x=some c->c≠b)/\∀p∈X.pn++pins,p.1≠b)
  (keep:∀b o,b≠X.env.locals->b∉X.fs->b∉ch->s.heap.get? b=some o->H b=none->h'.get? b=some o)
  (slot:∀b o,b≠X.env.locals->b∈X.fs->b∉ch->s.heap.get? b=some o->H b=none->∃sl,h'.get? b=some { o with slots:=sl })(free:∀b o,b∉ch->s.heap.get? b=some o->H b=none->H' b=none)
  (there:∀b o,b∉ch->s.heap.get? b=some o->∃o',h'.get? b=some o')
  (tups:∀b xs,H b=some (.tup xs)->H' b=some (.tup xs))(frzs:∀b o u,H b=some (.frz o u)->H' b=some (.frz o u))(tbls:∀b ps,H b=some (.tbl ps)->∃more,H' b=some (.tbl (ps++more)))
  (ns:∀m,s.heap.Ns X.env.locals m->h'.Ns X.env.locals m)(hok:HOk X.prog X.w H' h')(hg:AllBare g'):
  Inv X pins σ H' { s with heap:=h',gens:=g',drawn:=d',toks:=t' }:=by
 have neL:∀b o,X.s₀.heap.get? b=some o->b≠X.env.locals:=fun b o e=>yg (χ (Ξ e) I.ok.above);have neC:∀b o,X.s₀.heap.get? b=some o->b∉X.ex->b∉ch:=fun b o e hx hb=>by
  rcases (hch b hb).1 with z|z
  ·exact hx z
  ·exact absurd (χ (Ξ e) z) (AG _)
 have cellK:∀x c,X.env.cells.lookup x=some c->∀v,s.heap.IsCell c v->h'.IsCell c v:=fun x c e v ⟨o,ho,hd⟩=>by
  have nch:c∉ch:=fun z=>(hch c z).2.2.1 x c e rfl
  by_cases hc:c∈X.fs
  ·obtain⟨sl,q⟩:=slot c o (I.cne x c e) hc nch ho (I.freeC x c e);exact⟨_,q,hd⟩
  ·exact⟨o,keep c o (I.cne x c e) hc nch ho (I.freeC x c e),hd⟩
 refine⟨I.ok,I.os,hg,⟨fun b o e n hb hx=>?_,fun b o e n hb hx=>?_,fun b o e n hx=>?_,fun b o e hx=>?_,fun b xs e=>tups b xs (I.base.tups b xs e),fun b o xs e=>frzs b o xs (I.base.frzs b o xs e),fun b ps e=>?_⟩,?_,fun x c e=>?_,?_,fun x c e=>?_,fun p hp=>?_,hok,I.len⟩
 ·exact keep b o (neL b o e) hb (neC b o e hx) (I.base.keep b o e n hb hx) (I.base.free b o e n hx)
 ·obtain⟨sl,e1⟩:=I.base.slot b o e n hb hx;obtain⟨sl',e2⟩:=slot b _ (neL b o e) hb (neC b o e hx) e1 (I.base.free b o e n hx);exact⟨sl',e2⟩
 ·obtain⟨o',e1⟩:=I.base.there b o e hx;exact free b o' (neC b o e hx) e1 (I.base.free b o e n hx)
 ·obtain⟨o',e1⟩:=I.base.there b o e hx;exact there b o' (neC b o e hx) e1
 ·obtain⟨m1,e1⟩:=I.base.tbls b ps e;obtain⟨m2,e2⟩:=tbls b _ e1;exact⟨m1++m2,by rw[e2,Array.append_assoc]⟩
 ·obtain⟨m,hn,hl⟩:=I.loc;refine⟨m,ns m hn,fun i x v e1 e2 e3=>?_⟩;obtain⟨u,r,l⟩:=hl i x v e1 e2 e3;refine⟨u,r,?_⟩;rcases l with l|⟨k,c,e,z⟩
  ·exact .inl l
  ·exact .inr ⟨k,c,e,cellK x c e _ z⟩
 ·obtain⟨v,z⟩:=I.cell x c e;exact⟨v,cellK x c e v z⟩
 ·obtain⟨m,⟨o,_,_,ho,_⟩,_⟩:=I.loc;exact free _ o (fun z=>(hch _ z).2.1 rfl) ho I.free
 ·obtain⟨v,o,ho,hd⟩:=I.cell x c e;exact free c o (fun z=>(hch c z).2.2.1 x c e rfl) ho (I.freeC x c e)
 ·obtain⟨e,n,ne,nf,d⟩:=I.pin p hp;have nch:p.1∉ch:=fun z=>(hch p.1 z).2.2.2 p hp rfl;exact⟨keep p.1 p.2 ne nf nch e n,free p.1 p.2 nch e n,ne,nf,d⟩
theorem Inv.un{t':Nat}(I:Inv X pins σ H s)(u:Un X.fs [] H H' s.heap h')(hok:HOk X.prog X.w H' h'):Inv X pins σ H' { s with heap:=h',toks:=t' }:=by
 obtain⟨m,⟨o,es,ep,ho,r⟩,_⟩:=id I.loc;obtain⟨sl,hL⟩:=u.any ho I.free (by simp);exact I.step (g':=s.gens) (d':=s.drawn) (ch:=[]) (fun _ z=>nomatch z) (fun b o _ hb _ e n=>u.keep b o e n hb (by simp)) (fun b o _ hb _ e n=>u.slot b o e n hb (by simp)) (fun b o _ e n=>u.free b o e n (by simp)) (fun b o _ e=>u.there b o e (by simp)) u.tups u.frzs u.tbls (fun m' hm=>by
  obtain⟨o',es',ep',ho',r'⟩:=hm;rw[ho]at ho';cases ho';exact⟨_,es',ep',hL,r'⟩) hok I.bare
theorem Inv.call{t':Nat}{d':Drawn}(I:Inv X pins σ H s)(u:Un (frs X.stack) ch H H' s.heap h')(hok:HOk X.prog X.w H' h')(hg:AllBare g')
  (hch:∀b∈ch,(b∈X.ex\/X.s₀.heap.objs.size<=b)/\b≠X.env.locals/\(∀x c,X.env.cells.lookup x=some c->c≠b)/\∀p∈X.pn++pins,p.1≠b):
  Inv X pins σ H' { s with heap:=h',gens:=g',drawn:=d',toks:=t' }:=by
 obtain⟨m,⟨o,es,ep,ho,r⟩,_⟩:=id I.loc;obtain⟨sl,hL⟩:=u.any ho I.free fun z=>(hch _ z).2.1 rfl;exact I.step (ch:=ch) hch (fun b o hL hb hc e n=>u.keep b o e n (fun z=>(ς.mp (I.stkSub b z)).elim hL hb) hc) (fun b o _ _ hc e n=>u.any e n hc) (fun b o hc e n=>u.free b o e n hc) (fun b o hc e=>u.there b o e hc) u.tups u.frzs u.tbls (fun m' hm=>by
  obtain⟨o',es',ep',ho',r'⟩:=hm;rw[ho]at ho';cases ho';exact⟨_,es',ep',hL,r'⟩) hok hg
theorem Inv.turned{t':Nat}{it:Addr}(I:Inv X pins σ H s)(k:∀b o,b≠it->s.heap.get? b=some o->h'.get? b=some o)(hn:H it=none)(hL:it≠X.env.locals)
  (h1:it∈X.ex\/X.s₀.heap.objs.size<=it)(h2:∀x c,X.env.cells.lookup x=some c->c≠it)(h3:∀p∈X.pn++pins,p.1≠it):Inv X pins σ H { s with heap:=h',toks:=t' }:=by
 have nit:∀b u,H b=some u->b≠it:=fun b u e z=>by rw[z,hn]at e;cases e
 refine I.step (g':=s.gens) (d':=s.drawn) (ch:=[it]) (fun b hb=>?_) (fun b o _ _ hc e _=>k b o (fun z=>hc (by simp[z])) e) (fun b o _ _ hc e _=>⟨o.slots,k b o (fun z=>hc (by simp[z])) e⟩) (fun _ _ _ _ n=>n)
  (fun b o hc e=>⟨o,k b o (fun z=>hc (by simp[z])) e⟩) (fun _ _ e=>e) (fun _ _ _ e=>e) (fun b ps e=>⟨#[],by rw[e];simp⟩) (fun m hm=>?_) (fun b u e=>?_) I.bare
 ·have e:b=it:=by simpa using hb
  subst e;exact⟨h1,hL,h2,h3⟩
 ·obtain⟨o,es,ep,ho,r⟩:=hm;exact⟨o,es,ep,k _ o (Aj hL) ho,r⟩
 ·refine(I.hok b u e).stay (fun c v hc q=>k c v ?_ q) (fun _ q=>q) fun _ _ q=>q;rcases hc with z|z
  ·rw[z];exact nit b u e
  ·exact nit c _ z
theorem Inv.tok(I:Inv X pins σ H s)(t:Nat):Inv X pins σ H { s with toks:=t }:=I.un (h':=s.heap) (t':=t) Un.refl I.hok
theorem Inv.kept{t':Nat}(I:Inv X pins σ H s)(k:∀b u,s.heap.get? b=some u->h'.get? b=some u):Inv X pins σ H { s with heap:=h',toks:=t' }:=I.un (Un.kept k) (I.hok.kept k)
theorem Inv.laid{a:Addr}{t':Nat}(I:Inv X pins σ H s)(k:∀b u,s.heap.get? b=some u->h'.get? b=some u)(hp:s.heap.objs.size<=a)(new:vI X.prog X.w (upd H a o) h' a o):
  Inv X pins σ (upd H a o) { s with heap:=h',toks:=t' }:=I.un (Un.laid k hp (I.hok.fresh hp)) (I.hok.laid k hp new)
theorem Inv.write{e:Addr}{t':Nat}(I:Inv X pins σ H s)(mu:Mut (H x))(he:e=x\/H e=some (.own x))(k:∀b u,b≠e->s.heap.get? b=some u->h'.get? b=some u)(heo:∃u,h'.get? e=some u)
  (new:vI X.prog X.w (upd H x o) h' x o):Inv X pins σ (upd H x o) { s with heap:=h',toks:=t' }:=I.un (Un.write mu he k heo) (I.hok.write mu he k heo new)
theorem Inv.pins_of{pins':List (Addr×Obj)}(I:Inv X pins σ H s)(h:∀p∈pins',s.heap.get? p.1=some p.2/\H p.1=none/\p.1≠X.env.locals/\p.1∉X.fs/\∀v,p.2.data≠.cell v):Inv X pins' σ H s :=
 ⟨I.ok,I.os,I.bare,I.base,I.loc,I.cell,I.free,I.freeC,fun p hp=>(za.mp hp).elim (fun z=>I.pin p (AL _ z)) (h p),I.hok,I.len⟩
theorem sO{N:List Str}(hN:N.Nodup){i j:Nat}(a:N[i]?=some x)(b:N[j]?=some x):i=j:=by
 obtain⟨h1,e1⟩:=θ.mp a;obtain⟨h2,e2⟩:=θ.mp b;exact(List.getElem_inj hN).mp (e1.trans e2.symm)
theorem gN{i:Nat}{Q:Unit->ν->Prop}(I:Inv X pins σ H s)(hN:X.N.Nodup)(hi:X.N[i]?=some x)(hx:Loc X.env.scope x)(r:RelV v u)
  (h:∀s',Inv X pins (σ.set i (some v)) H s'->(∃a,AH a s.heap s'.heap/\(a=X.env.locals\/X.env.cells.lookup x=some a))->Q () s')(hf:X.fn x=true\/X.env.scope.names.lookup x=some .local:=by first|exact .inl rfl|exact .inr rfl|assumption):xy M A (storeName X.env x u) Q E s:=by
 obtain⟨m,hn,hl⟩:=id I.loc;have hcls:(X.env.scope.kind == .class||(X.env.scope.kind == .module&&X.env.locals != X.env.globals))=false:=by rw[I.ok.kind];rfl
 have hiσ:i<σ.length:=by rw[I.len];exact(θ.mp hi).1
 have cne:=I.cne;have tracked:∀{a:Addr}{h':Ag},(∃o,s.heap.get? a=some o/\H a=none)->AH a s.heap h'->HOk X.prog X.w H h':=fun {a h'} ha hs b ob e=>by
  obtain⟨_,_,hfree⟩:=ha;refine(I.hok b ob e).stay (fun c w' hc q=>(hs.2 c ?_).trans q) (fun _ q=>q) fun _ _ q=>q;rintro rfl;rcases hc with rfl|hc
  ·rw[hfree]at e;cases e
  ·rw[hfree]at hc;cases hc
 rcases hx with hk|hk
 ·refine wpAny_storeName_local hk hn (fun h' hn' hs=>?_) hcls;obtain⟨oL,_,_,hoL,_⟩:=id hn;refine h _ ⟨I.ok,I.os,I.bare,⟨fun b o e n hb hx=>?_,fun b o e n hb hx=>?_,I.base.free,fun b o e hx=>?_,I.base.tups,I.base.frzs,I.base.tbls⟩,⟨_,hn',fun j y v' e1 e2 e3=>?_⟩,fun y c e=>?_,I.free,I.freeC,fun p hp=>?_,tracked ⟨oL,hoL,I.free⟩ hs,by simpa using I.len⟩ ⟨_,hs,.inl rfl⟩
  ·exact(hs.2 b (yg (χ (Ξ e) I.ok.above))).trans (I.base.keep b o e n hb hx)
  ·obtain⟨sl,e1⟩:=I.base.slot b o e n hb hx;exact⟨sl,(hs.2 b (yg (χ (Ξ e) I.ok.above))).trans e1⟩
  ·obtain⟨o',e1⟩:=I.base.there b o e hx;exact⟨o',(hs.2 b (yg (χ (Ξ e) I.ok.above))).trans e1⟩
  ·by_cases hj:j=i
   ·subst hj;rw[hi]at e1;cases e1;rw[Ck hiσ]at e2;cases e2;exact⟨u,r,.inl ⟨hk,by simp⟩⟩
   ·rw[Ed (Aj hj)]at e2;obtain⟨u',r',q⟩:=hl j y v' e1 e2 e3;refine⟨u',r',?_⟩;rcases q with⟨k,e⟩|⟨k,c,e,z⟩
    ·refine .inl ⟨k,?_⟩;have:y≠x:=fun e=>hj (sO hN e1 (e ▸ hi));simp[this,e]
    ·exact .inr ⟨k,c,e,z.sameBut hs (cne y c e)⟩
  ·obtain⟨w',z⟩:=I.cell y c e;exact⟨w',z.sameBut hs (cne y c e)⟩
  ·obtain⟨e,n,ne,nf,d⟩:=I.pin p hp;exact⟨(hs.2 p.1 ne).trans e,n,ne,nf,d⟩
 ·have hfn:X.fn x=true:=by
   rcases hf with z|z
   ·exact z
   ·rw[z]at hk;cases hk
  obtain⟨c,hc⟩:=I.ok.has x (.inl hk);obtain⟨w',z⟩:=I.cell x c hc;refine wpAny_storeName_cell I.ok.kind hk hc z (fun h' hc' hs=>?_);obtain⟨oc,hoc,hocd⟩:=id z;refine h { s with heap:=h' } ⟨I.ok,I.os,I.bare,⟨fun b o e n hb hx=>?_,fun b o e n hb hx=>?_,I.base.free,fun b o e hx=>?_,I.base.tups,I.base.frzs,I.base.tbls⟩,⟨m,hn.sameBut hs (Aj (cne x c hc)),fun j y v' e1 e2 e3=>?_⟩,fun y c' e=>?_,I.free,I.freeC,fun p hp=>?_,tracked ⟨oc,hoc,I.freeC x c hc⟩ hs,by simpa using I.len⟩ ⟨c,hs,.inr hc⟩
  ·exact(hs.2 b (yg (χ (Ξ e) (I.ok.cab x c hfn hc)))).trans (I.base.keep b o e n hb hx)
  ·obtain⟨sl,e1⟩:=I.base.slot b o e n hb hx;exact⟨sl,(hs.2 b (yg (χ (Ξ e) (I.ok.cab x c hfn hc)))).trans e1⟩
  ·obtain⟨o',e1⟩:=I.base.there b o e hx;exact⟨o',(hs.2 b (yg (χ (Ξ e) (I.ok.cab x c hfn hc)))).trans e1⟩
  ·by_cases hj:j=i
   ·subst hj;rw[hi]at e1;cases e1;rw[Ck hiσ]at e2;cases e2;exact⟨u,r,.inr ⟨.inl hk,c,hc,hc'⟩⟩
   ·rw[Ed (Aj hj)]at e2;obtain⟨u',r',q⟩:=hl j y v' e1 e2 e3;refine⟨u',r',?_⟩;rcases q with q|⟨k,c',e,z'⟩
    ·exact .inl q
    ·refine .inr ⟨k,c',e,z'.sameBut hs ?_⟩;rintro rfl;exact hj (sO hN e1 (I.ok.inj _ _ _ e hc ▸ hi))
  ·by_cases hcc:c'=c
   ·subst hcc;exact⟨_,hc'⟩
   ·obtain⟨w2,z2⟩:=I.cell y c' e;exact⟨w2,z2.sameBut hs hcc⟩
  ·obtain⟨e,n,ne,nf,d⟩:=I.pin p hp;refine⟨(hs.2 p.1 ?_).trans e,n,ne,nf,d⟩;intro q;rw[q,hoc]at e;have q':oc=p.2:=zc e;exact d w' (by rw[←q'];exact hocd)
theorem aCd{i:Nat}{Q:Unit->ν->Prop}(I:Inv X pins σ H s)(hN:X.N.Nodup)(hi:X.N[i]?=some x)(hx:Loc X.env.scope x)(r:RelV v u)
  (h:∀s',Inv X pins (σ.set i (some v)) H s'->Q () s')(hf:X.fn x=true\/X.env.scope.names.lookup x=some .local:=by first|exact .inl rfl|exact .inr rfl|assumption):xy M A (storeName X.env x u) Q E s :=
 gN I hN hi hx r (fun s' I' _=>h s' I') hf
theorem Inv.call'{s':ν}(I:Inv X pins σ H s)(ho:s'.os=s.os)(u:Un (frs X.stack) ch H H' s.heap s'.heap)(hok:HOk X.prog X.w H' s'.heap)(hg:AllBare s'.gens)
  (hch:∀b∈ch,(b∈X.ex\/X.s₀.heap.objs.size<=b)/\b≠X.env.locals/\(∀x c,X.env.cells.lookup x=some c->c≠b)/\∀p∈X.pn++pins,p.1≠b):Inv X pins σ H' s':=by
 obtain⟨h',g',d',t',o'⟩:=s';have e:o'=s.os:=ho;subst e;exact I.call (g':=g') (t':=t') (d':=d') u hok hg hch
end
abbrev XK:=Value->Option Addr->Hp->Prop
abbrev St:=List (Option V)
abbrev VK:=V->Hp->Prop
abbrev TE:=St->Hp->VK->Prop
abbrev TT:=St->Hp->(Bool->Hp->Prop)->Prop
abbrev TA:=St->Hp->(List V->Hp->Prop)->Prop
structure Ends where
 nx:St->Hp->Prop
 rt:VK
 bk:St->Hp->Prop:=fun _ _=>False
 ct:St->Hp->Prop:=fun _ _=>False
abbrev TS:=Ends->St->Hp->Prop
def EP (X:Cx) (pins:List (Addr×Obj)) (σ:St) (Q:VK) (u:Value) (s':ν):Prop:=∃v H',Inv X pins σ H' s'/\RelV v u/\Q v H'
def TP (X:Cx) (pins:List (Addr×Obj)) (σ:St) (Q:Bool->Hp->Prop) (b:Bool) (s':ν):Prop:=∃H',Inv X pins σ H' s'/\Q b H'
def AP (X:Cx) (pins:List (Addr×Obj)) (σ:St) (Q:List V->Hp->Prop) (us:List Value) (s':ν):Prop:=∃vs H',Inv X pins σ H' s'/\kQ vs us/\Q vs H'
def SP (X:Cx) (pins:List (Addr×Obj)) (D:Ends) (f:Flow) (s':ν):Prop :=
 match f with
 |.next=>∃σ' H',Inv X pins σ' H' s'/\D.nx σ' H'
 |.brk=>∃σ' H',Inv X pins σ' H' s'/\D.bk σ' H'
 |.cont=>∃σ' H',Inv X pins σ' H' s'/\D.ct σ' H'
 |.ret u=>∃v σ' H',Inv X pins σ' H' s'/\RelV v u/\D.rt v H'
def PE (X:Cx) (e:Expr) (t:TE):Prop :=
 ∀(pins:List (Addr×Obj)) (s:ν) (σ:St) (H:Hp) (Q:VK),Inv X pins σ H s->t σ H Q->xy (yl X.prog X.w) X.A (eval e X.env) (EP X pins σ Q) X.xe s
def PT (X:Cx) (e:Expr) (t:TT):Prop :=
 ∀(pins:List (Addr×Obj)) (s:ν) (σ:St) (H:Hp) (Q:Bool->Hp->Prop),Inv X pins σ H s->t σ H Q->xy (yl X.prog X.w) X.A (isTrue e X.env (eval e X.env)) (TP X pins σ Q) X.xe s
def PW (X:Cx) (e:Expr) (t:TT):Prop :=
 ∀(whole:Sem Value) (pins:List (Addr×Obj)) (s:ν) (σ:St) (H:Hp) (Q:Bool->Hp->Prop),Inv X pins σ H s->t σ H Q->xy (yl X.prog X.w) X.A (isTrue e X.env whole) (TP X pins σ Q) X.xe s
theorem PW.pt(h:PW X e t):PT X e t:=h _
def PA (X:Cx) (es:List Expr) (t:TA):Prop :=
 ∀(pos:Pos) (pins:List (Addr×Obj)) (s:ν) (σ:St) (H:Hp) (Q:List V->Hp->Prop),Inv X pins σ H s->t σ H Q->xy (yl X.prog X.w) X.A (spliced (BH pos (yi es X.env))) (AP X pins σ Q) X.xe s
def PS (X:Cx) (st:Stmt) (t:TS):Prop :=
 ∀(pins:List (Addr×Obj)) (s:ν) (σ:St) (H:Hp) (D:Ends),Inv X pins σ H s->t D σ H->xy (yl X.prog X.w) X.A (exec st X.env) (SP X pins D) X.xe s
def PSs (X:Cx) (st:List Stmt) (t:TS):Prop :=
 ∀(pins:List (Addr×Obj)) (s:ν) (σ:St) (H:Hp) (D:Ends),Inv X pins σ H s->t D σ H->xy (yl X.prog X.w) X.A (execs st X.env) (SP X pins D) X.xe s
theorem thn{α : Type}{t:Sem α}{Q Q' : α->ν->Prop}{M:Model}{A:Ak}{E:Value->ν->Prop}{s:ν}(h:xy M A t Q E s)(hQ:∀a s,Q a s->Q' a s):xy M A t Q' E s:=Ad h hQ fun _ _ x=>x
section
variable {X:Cx}
inductive aJs (i:Nat) (σ:St) (H:Hp) (Q:VK):Prop|mk:∀v,σ[i]?=some (some v)->Q v H->aJs i σ H Q
def aJf (i:Nat):TE:=fun σ H Q=>aJs i σ H Q
def tC (v:V):TE:=fun _ H Q=>Q v H
theorem aRo{i:Nat}(hN:X.N[i]?=some x)(hv:Vis X.env.scope x)(hd:(x == ("__debug__" : Str))=false:=by decide)(hcd:(x == ("__classdict__" : Str))=false:=by decide):PE X (.Name x pos) (aJf i):=by
 intro pins s σ H Q I h;obtain⟨v,e,h⟩:=h;obtain⟨m,hn,hl⟩:=I.loc;obtain⟨u,r,l⟩:=hl i x v hN e hv;have fin:EP X pins σ Q u s:=⟨v,H,I,r,h⟩;rcases l with⟨hk,hm⟩|⟨hk,c,hc,hcell⟩
 ·exact wpAny_Name (wpAny_loadName_local I.ok.kind hk hn hm fin) hd
 ·rcases hk with hk|hk
  ·exact wpAny_Name (wpAny_loadName_cell I.ok.kind hk hc hcell fin) hd
  ·exact wpAny_Name (wpAny_loadName_free I.ok.kind hk hc hcell fin hcd) hd
theorem jE{i j pos}: PE X (.Constant (.int i) j pos) (tC (.int i)):=fun _ _ _ H _ I h=>wpAny_Constant_int ⟨.int i,H,I.tok _,⟨_,rfl⟩,h⟩
theorem lU{b j pos}: PE X (.Constant (.bool b) j pos) (tC (.bl b)):=fun _ _ _ H _ I h=>Constant_bool ⟨.bl b,H,I,rfl,h⟩
theorem xC{j pos}: PE X (.Constant .none j pos) (tC .non):=fun _ _ _ H _ I h=>Constant_none ⟨.non,H,I,rfl,h⟩
theorem jH{x j pos}: PE X (.Constant (.str x) j pos) (tC (.str x)):=fun _ _ _ H _ I h=>Calls.Constant_str ⟨.str x,H,I.tok _,⟨_,rfl⟩,h⟩
def Gl (X:Cx) (x:Str):Prop:=X.env.kindOf x=some .globalImplicit
theorem gL{Q:Value->ν->Prop}(I:Inv X pins σ H s)(hg:Gl X x)(hm:X.mg x=some u)(h:Q u s)
  (hd:(x == ("__debug__" : Str))=false:=by decide):xy (yl X.prog X.w) X.A (eval (.Name x pos) X.env) Q E s :=
 Calls.Name_function_global I.ok.kind hg (Calls.loadGlobal_global (by rw[I.ok.glob];exact I.mod.glob.keeps I.bk) hm h) hd
theorem eN{Q:Value->ν->Prop}(I:Inv X pins σ H s)(hg:Gl X x)(hm:X.mg x=none)(hv:AV x=some u)(h:Q u s)
  (hn:x ≠ "__name__":=by decide)(hd:(x == ("__debug__" : Str))=false:=by decide):xy (yl X.prog X.w) X.A (eval (.Name x pos) X.env) Q E s:=by
 obtain⟨mb,h1,h2⟩:=I.mod.blt;exact Calls.Name_function_global I.ok.kind hg (Calls.loadGlobal_builtin (by rw[I.ok.glob];exact I.mod.glob.keeps I.bk) hm (by rw[I.ok.blt];exact h1.keeps I.bk) ((h2 x hn).trans hv) h) hd
theorem qC(hg:Gl X x)(hm:X.mg x=some u)(r:RelV v u)(hd:(x == ("__debug__" : Str))=false:=by decide):PE X (.Name x pos) (tC v) :=
 fun _ _ _ H _ I h=>gL I hg hm ⟨v,H,I,r,h⟩ hd
theorem lD(hg:Gl X x)(hm:X.mg x=none)(hv:AV x=some u)(r:RelV v u)(hn:x ≠ "__name__":=by decide)(hd:(x == ("__debug__" : Str))=false:=by decide):PE X (.Name x pos) (tC v) :=
 fun _ _ _ H _ I h=>eN I hg hm hv ⟨v,H,I,r,h⟩ hn hd
variable {a b:Expr}{ta tb:TE}{pos:Pos}
def PC (X:Cx) (op:CmpOp) (a b:Expr) (t:TE):Prop :=
 ∀(pins:List (Addr×Obj)) (s:ν) (σ:St) (H:Hp) (Q:VK),Inv X pins σ H s->t σ H Q →
  xy (yl X.prog X.w) X.A (eval a X.env) (fun v s₁=>xy (yl X.prog X.w) X.A (eval b X.env) (fun u s₂=>xy (yl X.prog X.w) X.A (Ah op v u) (EP X pins σ Q) X.xe s₂) X.xe s₁) X.xe s
theorem aMk(b:Expr){op:CmpOp}(h:op≠.In)(h2:op≠.NotIn):Cy op b=false:=by
 have e1:(op == CmpOp.In)=false:=by cases op <;> first|rfl|exact absurd rfl h
 have e2:(op == CmpOp.NotIn)=false:=by cases op <;> first|rfl|exact absurd rfl h2
 cases b <;> simp[Cy,e1,e2]
def tB (t:TE):TT:=fun σ H Q=>t σ H fun x H1=>∃c,x=.bl c/\Q c H1
theorem aAl(h:PC X op a b t)(h1:Cy op b=false:=by first|exact aMk _ (by decide) (by decide)|rfl):PT X (.Compare a [op] [b] pos) (tB t):=by
 intro pins s σ H Q I hw;refine wpAny_isTrue_Compare1 (thn (h pins s σ H _ I hw) fun v s1 h1=>thn h1 fun u s2 h2=>thn h2 fun c s3 zq=>?_) h1;obtain⟨x,H1,I1,r1,q1⟩:=zq;obtain⟨d,rfl,q⟩:=q1;cases r1;exact AI ⟨H1,I1,q⟩
theorem xJ(h:PE X e t)(he:∀whole,isTrue e X.env whole=(do let v ←whole;standAt e.pos;holding [v] (truthy v)):=by intro _;rfl):PT X e (tB t):=by
 intro pins s σ H Q I hw;refine isTrue_plain (thn (h pins s σ H _ I hw) fun v s1 zq=>?_) (he _);obtain⟨x,H1,I1,r1,q1⟩:=zq;obtain⟨d,rfl,q⟩:=q1;cases r1;exact AI ⟨H1,I1,q⟩
variable {tA tB':TT}{rest:List Expr}
def tAnd (t u:TT):TT:=fun σ H Q=>t σ H fun c H1=>if c=true then u σ H1 Q else Q false H1
def tOr (t u:TT):TT:=fun σ H Q=>t σ H fun c H1=>if c=true then Q true H1 else u σ H1 Q
def tNot (t:TT):TT:=fun σ H Q=>t σ H fun c H1=>Q (!c) H1
theorem vX(ha:PT X a tA):PW X (.BoolOp .And [a] pos) tA:=by
 intro wh pins s σ H Q I h;refine isTrue_and (thn (ha pins s σ H Q I h) fun c s1 e=>?_);cases c with
 |true=>exact isTrue_and_nil e
 |false=>exact e
theorem iD(ha:PT X a tA):PW X (.BoolOp .Or [a] pos) tA:=by
 intro wh pins s σ H Q I h;refine isTrue_or (thn (ha pins s σ H Q I h) fun c s1 e=>?_);cases c with
 |false=>exact isTrue_or_nil e
 |true=>exact e
theorem yA(ha:PT X a tA)(hb:PW X (.BoolOp .And (b::rest) pos) tB'):PW X (.BoolOp .And (a::b::rest) pos) (tAnd tA tB'):=by
 intro wh pins s σ H Q I h;refine isTrue_and (thn (ha pins s σ H _ I h) fun c s1 zq=>?_);obtain⟨H1,I1,q1⟩:=zq;cases c with
 |true=>exact hb wh pins s1 σ H1 Q I1 q1
 |false=>exact⟨H1,I1,q1⟩
theorem sP(ha:PT X a tA)(hb:PW X (.BoolOp .Or (b::rest) pos) tB'):PW X (.BoolOp .Or (a::b::rest) pos) (tOr tA tB'):=by
 intro wh pins s σ H Q I h;refine isTrue_or (thn (ha pins s σ H _ I h) fun c s1 zq=>?_);obtain⟨H1,I1,q1⟩:=zq;cases c with
 |true=>exact⟨H1,I1,q1⟩
 |false=>exact hb wh pins s1 σ H1 Q I1 q1
theorem yK(ha:PT X a tA):PT X (.UnaryOp .Not a pos) (tNot tA):=by
 intro pins s σ H Q I h;exact isTrue_not (ha pins s σ H (fun c H1=>Q (!c) H1) I h)
def tAndV (ta tb:TE):TE:=fun σ H Q=>ta σ H fun x H1=>∃c,x=.bl c/\if c=true then tb σ H1 Q else Q (.bl false) H1
def tOrV (ta tb:TE):TE:=fun σ H Q=>ta σ H fun x H1=>∃c,x=.bl c/\if c=true then Q (.bl true) H1 else tb σ H1 Q
theorem bV{op}(h:PE X a t):PE X (.BoolOp op [a] pos) t:=fun pins s σ H Q I hw=>BoolOp_one (h pins s σ H Q I hw)
theorem aC(ha:PE X a ta)(hb:PE X (.BoolOp .And (b::rest) pos) tb):PE X (.BoolOp .And (a::b::rest) pos) (tAndV ta tb):=by
 intro pins s σ H Q I h;refine BoolOp_and (thn (ha pins s σ H _ I h) fun v s1 zq=>?_);obtain⟨x,H1,I1,r1,q1⟩:=zq;obtain⟨c,rfl,q1⟩:=q1;cases r1;refine AI ?_;cases c with
 |true=>exact hb pins s1 σ H1 Q I1 q1
 |false=>exact⟨.bl false,H1,I1,rfl,q1⟩
theorem pe_or(ha:PE X a ta)(hb:PE X (.BoolOp .Or (b::rest) pos) tb):PE X (.BoolOp .Or (a::b::rest) pos) (tOrV ta tb):=by
 intro pins s σ H Q I h;refine BoolOp_or (thn (ha pins s σ H _ I h) fun v s1 zq=>?_);obtain⟨x,H1,I1,r1,q1⟩:=zq;obtain⟨c,rfl,q1⟩:=q1;cases r1;refine AI ?_;cases c with
 |false=>exact hb pins s1 σ H1 Q I1 q1
 |true=>exact⟨.bl true,H1,I1,rfl,q1⟩
def tIf (t:TT) (ta tb:TE):TE:=fun σ H Q=>t σ H fun c H1=>if c=true then ta σ H1 Q else tb σ H1 Q
theorem yC(hc:PT X c tA)(ha:PE X a ta)(hb:PE X b tb):PE X (.IfExp c a b pos) (tIf tA ta tb):=by
 intro pins s σ H Q I h;refine wpAny_IfExp (thn (hc pins s σ H _ I h) fun d s1 zq=>?_);obtain⟨H1,I1,q1⟩:=zq;cases d with
 |true=>exact ha pins s1 σ H1 Q I1 q1
 |false=>exact hb pins s1 σ H1 Q I1 q1
end
def SqL (K:ω) (H:Hp) (a:Addr) (xs:List V):Prop :=
 Rd H a (.lst xs) ∨
  ∃(o:Obj) (its:Array Value) (n:Nat),K.lookup a=some o/\o.cls=.type "list"/\o.dict=none/\o.data=.seq its n/\its.size<=ψ/\kQ xs its.toList
def SqT (K:ω) (H:Hp) (a:Addr) (xs:List V):Prop :=
 Rd H a (.tup xs) ∨
  ∃(o:Obj) (its:Array Value) (n:Nat),K.lookup a=some o/\o.cls=.type "tuple"/\o.data=.seq its n/\its.size<=ψ/\kQ xs its.toList
def absV:Value->Option V
 |.none=>some .non
 |.bool b=>some (.bl b)
 |.int i _=>some (.int i)
 |.str x _=>some (.str x)
 |.bytes b _=>some (.byt b)
 |.float b _=>some (.flt b)
 |.ref a=>some (.ref a)
 |.type n=>some (.ty n)
 |_=>none
theorem RelV.abs(r:RelV x u):absV u=some x:=by
 cases x with
 |non=>cases r;rfl
 |bl _=>cases r;rfl
 |int _=>obtain⟨t,rfl⟩:=r;rfl
 |str _=>obtain⟨t,rfl⟩:=r;rfl
 |byt _=>obtain⟨t,rfl⟩:=r;rfl
 |flt _=>obtain⟨t,rfl⟩:=r;rfl
 |ref _=>cases r;rfl
 |ty _=>cases r;rfl
theorem RelV.inj(r:RelV x u)(q:RelV y u):x=y:=zc (r.abs.symm.trans q.abs)
theorem kQ.inj:∀{xs ys:List V}{us:List Value},kQ xs us->kQ ys us->xs=ys
 |_,_,_,.nil,.nil=>rfl
 |_,_,_,.cons r t,.cons r' t'=>by rw[r.inj r',kQ.inj t t']
section
variable {X:Cx}{pins:List (Addr×Obj)}{σ:St}{H:Hp}{s:ν}{a:Addr}{xs ys:List V}
theorem SqL.of{K:ω}(h:H a=some (.lst xs)):SqL K H a xs:=.inl (.inl h)
theorem SqT.of{K:ω}(h:H a=some (.tup xs)):SqT K H a xs:=.inl (.inl h)
theorem Inv.list(I:Inv X pins σ H s)(h:SqL X.K H a xs):∃its:List Value,kQ xs its/\PlainL s.heap a its.toArray/\xs.length<=ψ:=by
 rcases h with h|⟨o,its,n,hk,hc,hd,hs,hz,r⟩
 ·obtain⟨z,its,n,r,e⟩:=h.ok I.hok;exact⟨its,r,⟨_,n,e,rfl,rfl,rfl⟩,z⟩
 ·refine⟨its.toList,r,⟨o,n,I.kIn a o hk,hc,hd,by simpa using hs⟩,?_⟩;have e:=r.length;simp only[Be]at e;omega
theorem Inv.tuple(I:Inv X pins σ H s)(h:SqT X.K H a xs):∃its:List Value,kQ xs its/\IsTup s.heap a its.toArray/\xs.length<=ψ:=by
 rcases h with h|⟨o,its,n,hk,hc,hs,hz,r⟩
 ·obtain⟨z,its,r,p⟩:=h.ok I.hok;exact⟨its,r,p,z⟩
 ·refine⟨its.toList,r,⟨o,I.kIn a o hk,hc,n,by simpa using hs⟩,?_⟩;have e:=r.length;simp only[Be]at e;omega
theorem Inv.list_inj(I:Inv X pins σ H s)(h:SqL X.K H a xs)(h':SqL X.K H a ys):xs=ys:=by
 obtain⟨its,r,⟨o,n,e,_,_,d⟩,_⟩:=I.list h;obtain⟨its',r',⟨o',n',e',_,_,d'⟩,_⟩:=I.list h';rw[e]at e';cases e';rw[d]at d';injection d' with d1 _;have:its=its':=by simpa using congrArg Array.toList d1
 subst this;exact r.inj r'
theorem Inv.tuple_inj(I:Inv X pins σ H s)(h:SqT X.K H a xs)(h':SqT X.K H a ys):xs=ys:=by
 obtain⟨its,r,⟨o,e,_,n,d⟩,_⟩:=I.tuple h;obtain⟨its',r',⟨o',e',_,n',d'⟩,_⟩:=I.tuple h';rw[e]at e';cases e';rw[d]at d';injection d' with d1 _;have:its=its':=by simpa using congrArg Array.toList d1
 subst this;exact r.inj r'
end
abbrev Cx.wish (X:Cx) (E:Value->ν->Prop):Cx:={ X with xe:=E }
abbrev Cx.nox (X:Cx):Cx:=X.wish fun _ _=>False
theorem Cx.Ok.wish{X:Cx}(ok:X.Ok)(E:Value->ν->Prop):(X.wish E).Ok :=
 ⟨ok.mod,ok.kind,ok.glob,ok.blt,ok.above,ok.inj,ok.has,ok.cab,ok.hd,ok.frames,ok.stk,ok.exf,ok.bs,ok.bsz,ok.noex,ok.exfs,ok.funs,ok.frf⟩
theorem Cx.Ok.unwish{X:Cx}(ok:(X.wish E).Ok):X.Ok :=
 ⟨ok.mod,ok.kind,ok.glob,ok.blt,ok.above,ok.inj,ok.has,ok.cab,ok.hd,ok.frames,ok.stk,ok.exf,ok.bs,ok.bsz,ok.noex,ok.exfs,ok.funs,ok.frf⟩
section
variable {X:Cx}{pins:List (Addr×Obj)}{σ:St}{H:Hp}{s:ν}{E:Value->ν->Prop}
theorem Inv.wish(I:Inv X pins σ H s)(E:Value->ν->Prop):Inv (X.wish E) pins σ H s:=⟨I.ok.wish E,I.os,I.bare,I.base,I.loc,I.cell,I.free,I.freeC,I.pin,I.hok,I.len⟩
theorem Inv.unwish(I:Inv (X.wish E) pins σ H s):Inv X pins σ H s:=⟨I.ok.unwish,I.os,I.bare,I.base,I.loc,I.cell,I.free,I.freeC,I.pin,I.hok,I.len⟩
theorem SP.unwish(h:SP (X.wish E) pins D f s'):SP X pins D f s':=by
 cases f with
 |next=>obtain⟨σ',H',I,q⟩:=h;exact⟨σ',H',I.unwish,q⟩
 |brk=>obtain⟨σ',H',I,q⟩:=h;exact⟨σ',H',I.unwish,q⟩
 |cont=>obtain⟨σ',H',I,q⟩:=h;exact⟨σ',H',I.unwish,q⟩
 |ret u=>obtain⟨v,σ',H',I,r,q⟩:=h;exact⟨v,σ',H',I.unwish,r,q⟩
theorem PE.nox(h:PE X.nox e t):PE X e t:=fun pins s σ H Q I hw =>
 Ad (h pins s σ H Q (I.wish _) hw) (fun _ _ ⟨v,H',I',r,q⟩=>⟨v,H',I'.unwish,r,q⟩) fun _ _ z=>zi z
theorem PT.nox(h:PT X.nox e t):PT X e t:=fun pins s σ H Q I hw =>
 Ad (h pins s σ H Q (I.wish _) hw) (fun _ _ ⟨H',I',q⟩=>⟨H',I'.unwish,q⟩) fun _ _ z=>zi z
theorem PSs.nox{st:List Stmt}{t:TS}(h:PSs X.nox st t):PSs X st t:=fun pins s σ H D I hw =>
 Ad (h pins s σ H D (I.wish _) hw) (fun _ _ q=>q.unwish) fun _ _ z=>zi z
end
section
variable {X:Cx}{st:Stmt}{rest:List Stmt}{t u:TS}{e:Expr}{te:TE}{pos:Pos}
def aQe:TS:=fun D σ H=>D.nx σ H
def vS (t u:TS):TS:=fun D σ H=>t { D with nx:=u D } σ H
theorem jR:PSs X [] aQe:=fun _ _ σ H _ I h=>Dp ⟨σ,H,I,h⟩
theorem jC(h1:PS X st t)(h2:PSs X rest u):PSs X (st::rest) (vS t u):=by
 intro pins s σ H D I h;refine wpAny_execs_cons (thn (h1 pins s σ H { D with nx:=u D } I h) fun f s1 q=>?_);cases f with
 |next =>
  obtain⟨σ',H',I',q⟩:=q;exact h2 pins s1 σ' H' D I' q
 |ret v=>exact q
 |brk=>exact q
 |cont=>exact q
theorem jD(h1:PS X st t):PSs X [st] t:=by
 intro pins s σ H D I h;refine wpAny_execs_cons (thn (h1 pins s σ H D I h) fun f s1 q=>?_);cases f with
 |next=>exact Dp q
 |ret v=>exact q
 |brk=>exact q
 |cont=>exact q
theorem Inv.quiet(I:Inv X pins σ H s):interactive X.env=false:=by simp[interactive,I.ok.kind]
def tDrop (te:TE):TS:=fun D σ H=>te σ H fun _ H1=>D.nx σ H1
theorem vL(he:PE X e te)(hs:swapsWith e none pos.line X.env=pure false:=by rfl):PS X (.Expr e pos) (tDrop te):=by
 intro pins s σ H D I h;exact wpAny_Expr_any (thn (he pins s σ H _ I h) fun v s1 ⟨x,H1,I1,r1,q1⟩=>⟨σ,H1,I1,q1⟩) I.quiet hs
def tRet (te:TE):TS:=fun D σ H=>te σ H D.rt
theorem jJ(he:PE X e te):PS X (.Return (some e) pos) (tRet te):=by
 intro pins s σ H D I h;exact wpAny_Return_some (thn (he pins s σ H _ I h) fun v s1 ⟨x,H1,I1,r1,q1⟩=>⟨x,σ,H1,I1,r1,q1⟩)
def tIfS (c:TT) (t u:TS):TS:=fun D σ H=>c σ H fun b H1=>if b=true then t D σ H1 else u D σ H1
theorem kM(hc:PT X c tc)(ha:PSs X a t)(hb:PSs X b u):PS X (.If c a b pos) (tIfS tc t u):=by
 intro pins s σ H D I h;refine wpAny_If (thn (hc pins s σ H _ I h) fun d s1 zq=>?_);obtain⟨H1,I1,q1⟩:=zq;cases d with
 |true=>exact ha pins s1 σ H1 D I1 q1
 |false=>exact hb pins s1 σ H1 D I1 q1
def aRm:TS:=fun _ _ _=>False
theorem yF:PS X st aRm:=fun _ _ _ _ _ _ h=>h.elim
end
abbrev TG:=V->St->Hp->(St->Hp->Prop)->Prop
abbrev TGs:=List V->St->Hp->(St->Hp->Prop)->Prop
def PG (X:Cx) (target:Expr) (t:TG):Prop :=
 ∀(pins:List (Addr×Obj)) (s:ν) (σ:St) (H:Hp) (v:V) (u:Value) (Q:St->Hp->Prop),Inv X pins σ H s->RelV v u->t v σ H Q →
  xy (yl X.prog X.w) X.A (assign target X.env u) (fun _ s'=>∃σ' H',Inv X pins σ' H' s'/\Q σ' H') X.xe s
def PGs (X:Cx) (ts:List Expr) (t:TGs):Prop :=
 ∀(pins:List (Addr×Obj)) (s:ν) (σ:St) (H:Hp) (vs:List V) (us:List Value) (Q:St->Hp->Prop),Inv X pins σ H s->kQ vs us->t vs σ H Q →
  xy (yl X.prog X.w) X.A (assignInOrder ((Ds ts X.env).map (·.2)) us) (fun _ s'=>∃σ' H',Inv X pins σ' H' s'/\Q σ' H') X.xe s
abbrev TSet:=V->V->V->Hp->(Hp->Prop)->Prop
def PSet (X:Cx) (t:TSet):Prop :=
 ∀(pins:List (Addr×Obj)) (s:ν) (σ:St) (H:Hp) (o i v:V) (ov iv u:Value) (Q:Hp->Prop),Inv X pins σ H s->RelV o ov->RelV i iv->RelV v u->t o i v H Q →
  xy (yl X.prog X.w) X.A (setItem ov iv u) (fun _ s'=>∃H',Inv X pins σ H' s'/\Q H') X.xe s
section
variable {X:Cx}{pos:Pos}
def cW (i:Nat):TG:=fun v σ H Q=>Q (σ.set i (some v)) H
theorem jM{i:Nat}(hN:X.N.Nodup)(hi:X.N[i]?=some x)(hx:Loc X.env.scope x)(hf:X.fn x=true\/X.env.scope.names.lookup x=some .local:=by first|exact .inl rfl|exact .inr rfl|assumption):PG X (.Name x pos) (cW i):=by
 intro pins s σ H v u Q I r h;exact wpAny_assign_Name (aCd I hN hi hx r (fun s' I'=>⟨_,H,I',h⟩) hf)
inductive aKp (vs:List V) (σ:St) (H:Hp) (Q:St->Hp->Prop):Prop|mk:vs=[]->Q σ H->aKp vs σ H Q
def gNil:TGs:=fun vs σ H Q=>aKp vs σ H Q
inductive aHf (t:TG) (u:TGs) (vs:List V) (σ:St) (H:Hp) (Q:St->Hp->Prop):Prop|mk:∀v r,vs=v::r->(t v σ H fun σ' H'=>u r σ' H' Q)->aHf t u vs σ H Q
def gCons (t:TG) (u:TGs):TGs:=fun vs σ H Q=>aHf t u vs σ H Q
theorem qL:PGs X [] gNil:=by
 intro pins s σ H vs us Q I r h;obtain⟨e,h⟩:=h;subst e;cases r;exact assignInOrder_nil ⟨σ,H,I,h⟩
theorem jW(h1:PG X e t)(h2:PGs X es u)
  (hs:(Ds (e::es) X.env).map (·.2)=assign e X.env::(Ds es X.env).map (·.2):=by rfl):PGs X (e::es) (gCons t u):=by
 intro pins s σ H vs us Q I r h;obtain⟨v,vr,e1,h⟩:=h;subst e1;cases r with
 |cons r rr =>
  rw[hs];refine assignInOrder_cons (thn (h1 pins s σ H _ _ _ I r h) fun _ s1 zq=>?_);obtain⟨σ1,H1,I1,q1⟩:=zq;exact h2 pins s1 σ1 H1 _ _ Q I1 rr q1
inductive aKu (K:ω) (n:Nat) (t:TGs) (v:V) (σ:St) (H:Hp) (Q:St->Hp->Prop):Prop|mk:∀a xs,v=.ref a->SqT K H a xs->xs.length=n->t xs σ H Q->aKu K n t v σ H Q
def gTup (K:ω) (n:Nat) (t:TGs):TG:=fun v σ H Q=>aKu K n t v σ H Q
theorem xZ{n:Nat}(hc:X.calm=true)(h:PGs X es t)
  (hn:(Ds es X.env).length=n:=by rfl)(hst:(Ds es X.env).findIdx? (·.1)=none:=by rfl):PG X (.Tuple es k pos) (gTup X.K n t):=by
 intro pins s σ H v u Q I r hw;obtain⟨a,xs,e1,hq,hl,hw⟩:=hw;subst e1;cases r;obtain⟨its,rv,ht,hz⟩:=I.tuple hq;refine assign_Tuple_tuple (I.ok.hd hc) ht (by simp[hn,←hl,rv.length]) hst fun h' hx=>?_;have I1:Inv X pins σ H { s with heap:=h' }:=I.kept (t':=s.toks) fun b o e=>hx b o (yg (Ξ e)) e;exact h pins _ σ H xs _ Q I1 (by simpa using rv) hw
def gSub (to ti:TE) (t:TSet):TG:=fun v σ H Q=>to σ H fun o H1=>ti σ H1 fun i H2=>t o i v H2 fun H3=>Q σ H3
theorem aAt(ho:PE X o to)(hi:PE X i ti)(hs:PSet X t)
  (ha:∀v,assign (.Subscript o i pos) X.env v=(do
   let ov ←holding [v] (eval o X.env)
   let iv ←holding [v,ov] (eval i X.env)
   standAt pos
   holding [v,ov,iv] (setItem ov iv v)
   release [v,ov,iv] []):=by intro _;rfl):PG X (.Subscript o i pos) (gSub to ti t):=by
 intro pins s σ H v u Q I r h;rw[ha];refine ζ (AM (thn (ho pins s σ H _ I h) fun ov s1 zq=>?_));obtain⟨x,H1,I1,r1,q1⟩:=zq;refine ζ (AM (thn (hi pins s1 σ H1 _ I1 q1) fun iv s2 zq=>?_));obtain⟨y,H2,I2,r2,q2⟩:=zq;refine ζ (Ca (ζ (AM (thn (hs pins s2 σ H2 x y v ov iv u _ I2 r1 r2 r q2) fun _ s3 zq=>?_))));obtain⟨H3,I3,q3⟩:=zq;exact wpAny_release ⟨σ,H3,I3,q3⟩
def tAsg (te:TE) (g:TG):TS:=fun D σ H=>te σ H fun x H1=>g x σ H1 D.nx
theorem eI(he:PE X e te)(hg:PG X tg g)(hs:swapsWithSole [tg] e pos.line X.env=pure false:=by rfl)(hw:swappedStores [tg] e X.env=pure none:=by rfl)
  (h1:(Ds [tg] X.env).map (·.2)=[assign tg X.env]:=by rfl):PS X (.Assign [tg] e pos) (tAsg te g):=by
 intro pins s σ H D I h;refine wpAny_Assign_stores (thn (he pins s σ H _ I h) fun v s1 zq=>?_) hs hw;obtain⟨x,H1,I1,r1,q1⟩:=zq;rw[h1];exact thn (hg pins s1 σ H1 x v _ I1 r1 q1) fun _ s2 q=>q
theorem jU{i:Nat}(hN:X.N.Nodup)(hi:X.N[i]?=some x)(hx:Loc X.env.scope x)(he:PE X e te)(hs:swapsWith e (some (.Name x pos')) pos.line X.env=pure false:=by rfl)(hf:X.fn x=true\/X.env.scope.names.lookup x=some .local:=by first|exact .inl rfl|exact .inr rfl|assumption):
  PS X (.Assign [.Name x pos'] e pos) (tAsg te (cW i)):=by
 intro pins s σ H D I h;refine wpAny_Assign_Name (thn (he pins s σ H _ I h) fun v s1 zq=>?_) hs;obtain⟨y,H1,I1,r1,q1⟩:=zq;exact aCd I1 hN hi hx r1 (fun s2 I2=>⟨_,H1,I2,q1⟩) hf
end
section
variable {X:Cx}{pos:Pos}
def aSy (c:TT) (tb:TS):TS:=fun D σ H=>∃W:Nat->St->Hp->Prop,(∃m,W m σ H)/\∀m σ H,W m σ H →
 c σ H fun b H1=>if b=true then ∃N:St->Hp->Prop,(∀σ' H',N σ' H'->∃m',m'<m/\W m' σ' H')/\tb { D with nx:=N,ct:=N,bk:=D.nx } σ H1 else D.nx σ H1
theorem aMr(hp:PassesOwn (yl X.prog X.w) X.A X.env X.xe)(hc:PT X c tc)(hb:PSs X body tb):PS X (.While c body [] pos) (aSy tc tb):=by
 intro pins s σ H D I h;obtain⟨W,⟨m0,w0⟩,turn⟩:=h;refine wpAny_While (codeAny_whileLoop (fun n s'=>∃σ' H',Inv X pins σ' H' s'/\W n σ' H') ?_ m0 ⟨σ,H,I,w0⟩);rintro n s1 ⟨σ1,H1,I1,w1⟩;refine BR hp (thn (hc pins s1 σ1 H1 _ I1 (turn n σ1 H1 w1)) fun b s2 zq=>?_);obtain⟨H2,I2,q2⟩:=zq;cases b with
 |true =>
  obtain⟨N,hN,q2⟩:=q2;rw[if_pos rfl];refine BR hp (thn (hb pins s2 σ1 H2 _ I2 q2) fun f s3 q3=>?_);cases f with
  |next =>
   obtain⟨σ3,H3,I3,n3⟩:=q3;obtain⟨m',hm,w3⟩:=hN σ3 H3 n3;exact⟨m',hm,σ3,H3,I3,w3⟩
  |cont =>
   obtain⟨σ3,H3,I3,n3⟩:=q3;obtain⟨m',hm,w3⟩:=hN σ3 H3 n3;exact⟨m',hm,σ3,H3,I3,w3⟩
  |brk=>exact q3
  |ret v=>exact q3
 |false =>
  rw[if_neg π];exact Dp ⟨σ1,H2,I2,q2⟩
end
structure It where
 go:Nat->Hp->Prop
 yld:Nat->Hp->V->Hp->Prop
 stop:Nat->Hp->Prop
def dY (X:Cx) (pins:List (Addr×Obj)) (H:Hp) (b:Addr):Prop :=
 H b=none/\b≠X.env.locals/\b∉X.fs/\(b∈X.ex\/X.s₀.heap.objs.size<=b)/\(∀x c,X.env.cells.lookup x=some c->c≠b)/\∀p∈X.pn++pins,p.1≠b
theorem Inv.fpOk{H':Hp}{b:Addr}(I:Inv X pins σ H s)(hb:s.heap.objs.size<=b)(hn:H' b=none):dY X pins H' b:=by
 refine⟨hn,As (χ I.lt hb),I.nofs hb,.inr (yo I.sz hb),fun x c e z=>?_,fun p hp z=>?_⟩
 ·obtain⟨v,q⟩:=I.cell x c e;exact absurd (χ q.lt (by rw[z];exact hb)) (AG _)
 ·exact absurd (χ (Ξ (I.pin p hp).1) (by rw[z];exact hb)) (AG _)
structure Turn (P:Ao) (w:AD) (K:ω) (tg:Expr) (J:It) (fp:List Addr) (it:Addr) (tn:Nat->Ag->Prop):Prop where
 mem:it∈fp
 obj:∀i h,tn i h->∀b∈fp,∃o,h.get? b=some o/\∀v,o.data≠.cell v
 keep:∀i h h',tn i h->(∀b∈fp,∀o,h.get? b=some o->h'.get? b=some o)->tn i h'
 item:∀(X:Cx),X.prog=P->X.w=w->X.K=K->X.calm=true->∀(i:Nat) (pins:List (Addr×Obj)) (s:ν) (σ:St) (H:Hp) (E:Value->ν->Prop),Inv X pins σ H s->(∀b∈fp,dY X pins H b)->tn i s.heap->J.go i H →
  xy (yl P w) X.A (pyNext (.ref it)) (fun r s1=>∃u,r=some u ∧
   xy (yl P w) X.A (Dq tg (.ref it) u) (fun _ s2=>∃x H',Inv X pins σ H' s2/\RelV x u/\J.yld i H x H'/\tn (i+1) s2.heap/\∀b∈fp,H' b=none) E s1) E s
 done:∀(X:Cx),X.prog=P->X.w=w->X.K=K->X.calm=true->∀(i:Nat) (pins:List (Addr×Obj)) (s:ν) (σ:St) (H:Hp) (E:Value->ν->Prop),Inv X pins σ H s->(∀b∈fp,dY X pins H b)->tn i s.heap->J.stop i H →
  xy (yl P w) X.A (pyNext (.ref it)) (fun r s1=>r=none/\Inv X pins σ H s1) E s
 self:∀(A:Ak) (i:Nat) (s:ν) (Q:Value->ν->Prop) (E:Value->ν->Prop),tn i s.heap->Q (.ref it) s->xy (yl P w) A (pyIter (.ref it)) Q E s
abbrev TI:=St->Hp->(It->Hp->Prop)->Prop
def PIE (X:Cx) (pins:List (Addr×Obj)) (σ:St) (tg:Expr) (R:It->Hp->Prop) (itv:Value) (s2:ν):Prop :=
 ∃(it:Addr) (fp:List Addr) (tn:Nat->Ag->Prop) (J:It) (H':Hp),itv=.ref it/\Inv X pins σ H' s2/\Turn X.prog X.w X.K tg J fp it tn/\tn 0 s2.heap/\(∀b∈fp,dY X pins H' b)/\R J H'
def PI (X:Cx) (tg iter:Expr) (wi:TI):Prop :=
 ∀(pins:List (Addr×Obj)) (s:ν) (σ:St) (H:Hp) (R:It->Hp->Prop),Inv X pins σ H s->wi σ H R →
  xy (yl X.prog X.w) X.A (eval iter X.env) (fun v s1=>xy (yl X.prog X.w) X.A (pyIter v) (PIE X pins σ tg R) X.xe s1) X.xe s
theorem aGz{s:ν}{it:Addr}{Q:Unit->ν->Prop}(ho:s.heap.get? it=some o)(hc:o.cls=.type n)(hd:o.data=.fields vs)
  (hn : ["enumerate","zip","dict_itemiterator","dict_reverseitemiterator","odict_iterator","itertools.zip_longest","itertools.pairwise"].contains n=false)(hQ:Q () s):xy M A (Dq tg (.ref it) u) Q E s:=by
 unfold Dq;cases tg <;> first
  |exact Θ hQ
  | (cases u <;> first
      |exact Θ hQ
      | (refine ζ (wpAny_load ho ?_)
         rw[hc,hd];show xy M A (if (["enumerate","zip","dict_itemiterator","dict_reverseitemiterator","odict_iterator","itertools.zip_longest","itertools.pairwise"].contains n&&vs[0]? == some (Bt _))=true then _ else _) Q E s;rw[if_neg (by intro h;rw[hn,AE]at h;cases h)];exact Θ hQ))
def Itl (K:ω) (a:Addr):It :=
 ⟨fun i H=>∃xs x,SqL K H a xs/\xs[i]?=some x,fun i H x H'=>H'=H/\∀xs,SqL K H a xs->xs[i]?=some x,fun i H=>∃xs,SqL K H a xs/\xs.length<=i⟩
def Itt (K:ω) (a:Addr):It :=
 ⟨fun i H=>∃xs x,SqT K H a xs/\xs[i]?=some x,fun i H x H'=>H'=H/\∀xs,SqT K H a xs->xs[i]?=some x,fun i H=>∃xs,SqT K H a xs/\xs.length<=i⟩
def Itr (lo:Int) (n:Nat):It:=⟨fun i _=>i<n,fun i H x H'=>H'=H/\x=.int (lo+i),fun i _=>n<=i⟩
theorem uW{K:ω}(a it:Addr):Turn P w K tg (Itl K a) [it] it (fun i h=>h.IsListIter it a i) where
 mem:=by simp
 obj:=fun i h st b hb=>by
  have e:b=it:=by simpa using hb
  subst e;obtain⟨o,e,c,d⟩:=st;exact⟨o,e,fun v z=>by rw[d]at z;cases z⟩
 keep:=fun i h h' st k=>st.at fun o e=>k it (by simp) o e
 item:=by
  intro X hP hw hK hc i pins s σ H E I hf st hg;subst hP hw hK;obtain⟨xs,x,hq,hx⟩:=hg;obtain⟨its,rv,p,hz⟩:=I.list hq;obtain⟨u,hu,ru⟩:=rv.get hx;obtain⟨f0,f1,f2,f3,f4,f5⟩:=hf it (by simp);refine wpAny_pyNext_list_item st p.isList (x:=u) (by simpa using hu) fun h' st' sb=>?_;have I1:Inv X pins σ H { s with heap:=h' }:=I.turned (t':=s.toks) (fun b o hb e=>(sb.2 b hb).trans e) f0 f1 f3 f4 f5;obtain⟨o,e,c,d⟩:=id st';exact⟨u,rfl,aGz (s:={ s with heap:=h' }) e c d (by decide) ⟨x,H,I1,ru,⟨rfl,fun ys hy=>by rw[I.list_inj hy hq];exact hx⟩,st',fun b hb=>(hf b hb).1⟩⟩
 done:=by
  intro X hP hw hK hc i pins s σ H E I hf st hg;subst hP hw hK;obtain⟨xs,hq,hx⟩:=hg;obtain⟨its,rv,p,hz⟩:=I.list hq;obtain⟨f0,f1,f2,f3,f4,f5⟩:=hf it (by simp);have hl:=rv.length;exact wpAny_pyNext_list_end (I.ok.hd hc) st p.isList (by simp;omega) fun h' eb=>⟨rfl,I.turned (t':=s.toks) (fun b o hb e=>eb b o hb e) f0 f1 f3 f4 f5⟩
 self:=fun _ _ _ _ _ st h=>wpAny_pyIter_listiter st h
theorem pZ{K:ω}(a it:Addr):Turn P w K tg (Itt K a) [it] it (fun i h=>h.IsTupleIter it a i) where
 mem:=by simp
 obj:=fun i h st b hb=>by
  have e:b=it:=by simpa using hb
  subst e;obtain⟨o,e,c,d⟩:=st;exact⟨o,e,fun v z=>by rw[d]at z;cases z⟩
 keep:=fun i h h' st k=>st.at fun o e=>k it (by simp) o e
 item:=by
  intro X hP hw hK hc i pins s σ H E I hf st hg;subst hP hw hK;obtain⟨xs,x,hq,hx⟩:=hg;obtain⟨its,rv,p,hz⟩:=I.tuple hq;obtain⟨u,hu,ru⟩:=rv.get hx;obtain⟨f0,f1,f2,f3,f4,f5⟩:=hf it (by simp);refine wpAny_pyNext_tuple_item st (show s.heap.IsTuple a its.toArray from p) (x:=u) (by simpa using hu) fun h' st' sb=>?_;have I1:Inv X pins σ H { s with heap:=h' }:=I.turned (t':=s.toks) (fun b o hb e=>(sb.2 b hb).trans e) f0 f1 f3 f4 f5;obtain⟨o,e,c,d⟩:=id st';exact⟨u,rfl,aGz (s:={ s with heap:=h' }) e c d (by decide) ⟨x,H,I1,ru,⟨rfl,fun ys hy=>by rw[I.tuple_inj hy hq];exact hx⟩,st',fun b hb=>(hf b hb).1⟩⟩
 done:=by
  intro X hP hw hK hc i pins s σ H E I hf st hg;subst hP hw hK;obtain⟨xs,hq,hx⟩:=hg;obtain⟨its,rv,p,hz⟩:=I.tuple hq;obtain⟨f0,f1,f2,f3,f4,f5⟩:=hf it (by simp);have hl:=rv.length;exact wpAny_pyNext_tuple_end (I.ok.hd hc) st (show s.heap.IsTuple a its.toArray from p) (by simp;omega) fun h' eb=>⟨rfl,I.turned (t':=s.toks) (fun b o hb e=>eb b o hb e) f0 f1 f3 f4 f5⟩
 self:=fun _ _ _ _ _ st h=>wpAny_pyIter_tupleiter st h
theorem aFf{K:ω}(it:Addr)(lo:Int)(n:Nat):Turn P w K tg (Itr lo n) [it] it (fun i h=>IsRangeIter h it (lo+(i:Nat)*1) ((n:Int)-(i:Nat)) 1) where
 mem:=by simp
 obj:=fun i h st b hb=>by
  have e:b=it:=by simpa using hb
  subst e;exact⟨_,st,fun v z=>by
   have z':Data.fields _=Data.cell v:=z;cases z'⟩
 keep:=fun i h h' st k=>k it (by simp) _ st
 item:=by
  intro X hP hw hK hc i pins s σ H E I hf st hg;subst hP hw hK;obtain⟨f0,f1,f2,f3,f4,f5⟩:=hf it (by simp);have W:=Walks.range (prog:=X.prog) (w:=X.w) (I.ok.hd hc) it lo 1 n;refine W.item i s _ _ hg st fun v h' tk hv st' kk=>?_;obtain⟨t,rfl⟩:=hv;have I1:Inv X pins σ H { s with heap:=h',toks:=tk }:=I.turned (fun b o hb e=>kk b o (by simpa using hb) e) f0 f1 f3 f4 f5;refine⟨_,rfl,aGz (s:={ s with heap:=h',toks:=tk }) (n:="range_iterator") st' rfl rfl (by decide) ⟨.int (lo+i),H,I1,⟨t,?_⟩,⟨rfl,rfl⟩,st',fun b hb=>(hf b hb).1⟩⟩;rw[Int.mul_one]
 done:=by
  intro X hP hw hK hc i pins s σ H E I hf st hg;subst hP hw hK;obtain⟨f0,f1,f2,f3,f4,f5⟩:=hf it (by simp);exact wpAny_pyNext_range_end (I.ok.hd hc) st (by have:n<=i:=hg;omega) fun h' eb=>⟨rfl,I.turned (t':=s.toks) (fun b o hb e=>eb b o hb e) f0 f1 f3 f4 f5⟩
 self:=fun _ _ _ _ _ st h=>wpAny_pyIter_rangeiter st h
section
variable {X:Cx}{tg:Expr}
inductive aGt (K:ω) (R:It->Hp->Prop) (x:V) (H1:Hp):Prop|mk:∀a,x=.ref a->((∃xs,SqL K H1 a xs))->R (Itl K a) H1->aGt K R x H1
def iList (K:ω) (tl:TE):TI:=fun σ H R=>tl σ H fun x H1=>aGt K R x H1
def iTup (K:ω) (tl:TE):TI:=fun σ H R=>tl σ H fun x H1=>∃a,x=.ref a/\(∃xs,SqT K H1 a xs)/\R (Itt K a) H1
theorem kU(hl:PE X l tl):PI X tg l (iList X.K tl):=by
 intro pins s σ H R I h;refine thn (hl pins s σ H _ I h) fun v s1 zq=>?_;obtain⟨x,H1,I1,r1,q1⟩:=zq;obtain⟨a,e,⟨xs,hq⟩,q⟩:=q1;subst e;cases r1;obtain⟨its,rv,p,hz⟩:=I1.list hq;refine Bu p.isList ?_;refine⟨s1.heap.objs.size,[s1.heap.objs.size],_,_,H1,rfl,I1.kept (t':=s1.toks) fun b o e=>ρ _ e,uW a _,⟨_,yf _ rfl,rfl,rfl⟩,fun b hb=>?_,q⟩;have e:b=s1.heap.objs.size:=by simpa using hb
 subst e;exact I1.fpOk (μ _) (I1.hok.fresh (μ _))
theorem fL(hl:PE X l tl):PI X tg l (iTup X.K tl):=by
 intro pins s σ H R I h;refine thn (hl pins s σ H _ I h) fun v s1 zq=>?_;obtain⟨x,H1,I1,r1,q1⟩:=zq;obtain⟨a,e,⟨xs,hq⟩,q⟩:=q1;subst e;cases r1;obtain⟨its,rv,p,hz⟩:=I1.tuple hq;refine BI (show s1.heap.IsTuple a its.toArray from p) ?_;refine⟨s1.heap.objs.size,[s1.heap.objs.size],_,_,H1,rfl,I1.kept (t':=s1.toks) fun b o e=>ρ _ e,pZ a _,⟨_,yf _ rfl,rfl,rfl⟩,fun b hb=>?_,q⟩;have e:b=s1.heap.objs.size:=by simpa using hb
 subst e;exact I1.fpOk (μ _) (I1.hok.fresh (μ _))
theorem aJz{s:ν}{R:It->Hp->Prop}{lo hi:Int}{tk:Nat}(I:Inv X pins σ H s)(h1 : -(2 ^ 62)<=lo)(h2:lo<2 ^ 62)(h3 : -(2 ^ 62)<=hi)(h4:hi<2 ^ 62)
  (q:R (Itr lo (hi-lo).toNat) H):xy (yl X.prog X.w) X.A (pyIter (.ref s.heap.objs.size)) (PIE X pins σ tg R) E { s with heap:=s.heap.push { cls:=.type "range",data:=.fields #[.int lo t,.int hi u,.int 1 v] },toks:=tk }:=by
 refine wpAny_pyIter_range (IsRange.new ..) (small_one h1 h2 h3 h4) ?_;have I1:Inv X pins σ H { s with heap:=s.heap.push { cls:=.type "range",data:=.fields #[.int lo t,.int hi u,.int 1 v] },toks:=tk }:=I.kept fun b o e=>ρ _ e;refine⟨(s.heap.push { cls:=.type "range",data:=.fields #[.int lo t,.int hi u,.int 1 v] }).objs.size,[(s.heap.push { cls:=.type "range",data:=.fields #[.int lo t,.int hi u,.int 1 v] }).objs.size],_,_,H,rfl,
  I1.kept (t':=tk) fun b o e=>ρ _ e,aFf _ lo (hi-lo).toNat,?_,fun b hb=>?_,q⟩
 ·have e1:lo+((0:Nat):Int)*1=lo:=by simp
  have e2:(((hi-lo).toNat:Nat):Int)-((0:Nat):Int)=BA.Range.rangeSize lo hi 1:=by rw[rangeSize_one];split <;> omega
  show IsRangeIter _ _ (lo+((0:Nat):Int)*1) ((((hi-lo).toNat:Nat):Int)-((0:Nat):Int)) 1;rw[e1,e2];exact yf _ rfl
 ·have e:b=(s.heap.push { cls:=.type "range",data:=.fields #[.int lo t,.int hi u,.int 1 v] }).objs.size:=by simpa using hb
  subst e;exact I1.fpOk (μ _) (I1.hok.fresh (μ _))
inductive aFv (R:It->Hp->Prop) (vs:List V) (H1:Hp):Prop|mk:∀j:Int,vs=[.int j]->-(2 ^ 62)<=j->j<2 ^ 62->R (Itr 0 j.toNat) H1->aFv R vs H1
def iRng1 (ta:TA):TI:=fun σ H R=>ta σ H fun vs H1=>aFv R vs H1
theorem xT{a:Expr}(hg:Gl X "range")(hm:X.mg "range" = none)(ha:PA X [a] ta)(hs:yi [a] X.env=[(false,eval a X.env)]:=by rfl):PI X tg (.Call (.Name "range" p) [a] [] pos) (iRng1 ta):=by
 intro pins s σ H R I h;refine Call_ (eN I hg hm boot_range (AJ (thn (ha pos pins s σ H _ I h) fun us s1 zq=>?_) hs rfl));obtain⟨vs,H1,I1,r1,q1⟩:=zq;obtain⟨j,e,q1,q2,q⟩:=q1;subst e;cases r1 with
 |cons r rr =>
  cases rr;obtain⟨t,rfl⟩:=r;exact call_range_1 (aJz I1 (by omega) (by omega) q1 q2 (by simpa using q))
def tFor (wi:TI) (g:TG) (tb:TS):TS:=fun D σ H=>wi σ H fun J H1=>∃W:Nat->Nat->St->Hp->Prop,(∃m,W 0 m σ H1)/\∀i m σ H,W i m σ H →
 (J.stop i H/\D.nx σ H)\/(J.go i H/\∃N:St->Hp->Prop,(∀σ' H',N σ' H'->∃m',m'<m/\W (i+1) m' σ' H')/\∀x H',J.yld i H x H'->g x σ H' fun σ2 H2=>tb { D with nx:=N,ct:=N,bk:=D.nx } σ2 H2)
def eC (fp:List Addr) (h:Ag):List (Addr×Obj):=fp.filterMap fun b=>(h.get? b).map fun o=>(b,o)
theorem yY{fp:List Addr}{h:Ag}{b:Addr}(hb:b∈fp)(e:h.get? b=some o):(b,o)∈eC fp h:=List.mem_filterMap.mpr ⟨b,hb,by rw[e];rfl⟩
theorem aHx{p:Addr×Obj}(hp:p∈eC fp h):p.1∈fp/\h.get? p.1=some p.2:=by
 obtain⟨b,hb,e⟩:=List.mem_filterMap.mp hp;cases q:h.get? b with
 |none=>rw[q]at e;cases e
 |some o =>
  rw[q]at e;have e':(b,o)=p:=zc e;subst e';exact⟨hb,q⟩
theorem Inv.pinned{fp:List Addr}(I:Inv X pins σ H s)(hf:∀b∈fp,dY X pins H b)(ho:∀b∈fp,∃o,s.heap.get? b=some o/\∀v,o.data≠.cell v):Inv X (pins++eC fp s.heap) σ H s :=
 I.pins_of fun p hp=>(za.mp hp).elim (fun z=>I.pin p (yu _ z)) fun z=>by
  obtain⟨hb,e⟩:=aHx z;obtain⟨f0,f1,f2,_⟩:=hf p.1 hb;obtain⟨o,e',d⟩:=ho p.1 hb;rw[e]at e';cases e';exact⟨e,f0,f1,f2,d⟩
theorem Inv.unpinned{pins pl:List (Addr×Obj)}(I:Inv X (pins++pl) σ H s):Inv X pins σ H s:=I.pins_of fun p hp=>I.pin p (yu _ (AL _ hp))
theorem vF(hp:PassesOwn (yl X.prog X.w) X.A X.env X.xe)(hc:X.calm=true)(hi:PI X tg iter wi)(hg:PG X tg g)(hb:PSs X body tb)
  (hs:∀x,CB iter X.env x=pure x:=by intro _;rfl):PS X (.For tg iter body [] pos) (tFor wi g tb):=by
 intro pins s σ H D I h;refine wpAny_For (thn (hi pins s σ H _ I h) fun v s1 h1=>thn h1 fun itv s2 h2=>?_) hs;obtain⟨it,fp,tn,J,H2,e,I2,T,st2,f2,W,⟨m0,w0⟩,turn⟩:=h2;subst e;have stat:∀{H':Hp},(∀b∈fp,H' b=none)->∀b∈fp,dY X pins H' b:=fun hn b hb=>⟨hn b hb,(f2 b hb).2⟩;refine codeAny_forLoop_any (fun n s'=>∃i σ' H',Inv X pins σ' H' s'/\tn i s'.heap/\(∀b∈fp,H' b=none)/\W i n σ' H') ?_ m0 ⟨0,σ,H2,I2,st2,fun b hb=>(f2 b hb).1,w0⟩;rintro n s3 ⟨i,σ3,H3,I3,st3,fr3,w3⟩;rcases turn i n σ3 H3 w3 with⟨stop,qn⟩|⟨go,N,hN,step⟩
 ·refine BR hp (thn (T.done X rfl rfl rfl hc i pins s3 σ3 H3 X.xe I3 (stat fr3) st3 stop) fun r s4 zq=>?_);obtain⟨hr,I4⟩:=zq;subst hr;exact Dp ⟨σ3,H3,I4,qn⟩
 ·refine BR hp (thn (T.item X rfl rfl rfl hc i pins s3 σ3 H3 X.xe I3 (stat fr3) st3 go) fun r s4 zq=>?_);obtain⟨u,hr,h4⟩:=zq;subst hr;refine BR hp (thn h4 fun _ s5 zq=>?_);obtain⟨x,H5,I5,r5,y5,st5,fr5⟩:=zq;have I5':=I5.pinned (stat fr5) (T.obj _ _ st5);refine BR hp (thn (hg _ s5 σ3 H5 x u _ I5' r5 (step x H5 y5)) fun _ s6 zq=>?_);obtain⟨σ6,H6,I6,q6⟩:=zq;refine BR hp (thn (hb _ s6 σ6 H6 _ I6 q6) fun f s7 q7=>?_);have again:∀{σ7:St}{H7:Hp},Inv X (pins++eC fp s5.heap) σ7 H7 s7->N σ7 H7->∃m,m<n/\∃i σ' H',Inv X pins σ' H' s7/\tn i s7.heap/\(∀b∈fp,H' b=none)/\W i m σ' H':=fun {σ7 H7} I7 n7=>by
   obtain⟨m',hm,w7⟩:=hN σ7 H7 n7;refine⟨m',hm,i+1,σ7,H7,I7.unpinned,T.keep _ _ _ st5 fun b hb o e=>(I7.pin (b,o) (yu _ (yu _ (yY hb e)))).1,fun b hb=>?_,w7⟩;obtain⟨o,e,d⟩:=T.obj _ _ st5 b hb;exact(I7.pin (b,o) (yu _ (yu _ (yY hb e)))).2.1
  cases f with
  |next=>obtain⟨σ7,H7,I7,n7⟩:=q7;exact again I7 n7
  |cont=>obtain⟨σ7,H7,I7,n7⟩:=q7;exact again I7 n7
  |brk=>obtain⟨σ7,H7,I7,q7⟩:=q7;exact⟨σ7,H7,I7.unpinned,q7⟩
  |ret v=>obtain⟨x7,σ7,H7,I7,r7,q7⟩:=q7;exact⟨x7,σ7,H7,I7.unpinned,r7,q7⟩
end
theorem vN{K:ω}{xs:List V}{g:TG}{tb:TS}{D:Ends}{σ:St}(Pv:Nat->St->Hp->Prop)(h0:Pv 0 σ H)(hl:∀i σ H,i<=xs.length->Pv i σ H->SqL K H a xs)
  (hs:∀i x σ H,xs[i]?=some x->Pv i σ H->g x σ H fun σ2 H2=>tb { D with nx:=Pv (i+1),ct:=Pv (i+1),bk:=D.nx } σ2 H2)(hd:∀σ H,Pv xs.length σ H->D.nx σ H):
  ∃W:Nat->Nat->St->Hp->Prop,(∃m,W 0 m σ H)/\∀i m σ H,W i m σ H →
   ((Itl K a).stop i H/\D.nx σ H)\/((Itl K a).go i H/\∃N:St->Hp->Prop,(∀σ' H',N σ' H'->∃m',m'<m/\W (i+1) m' σ' H')/\∀x H',(Itl K a).yld i H x H'->g x σ H' fun σ2 H2=>tb { D with nx:=N,ct:=N,bk:=D.nx } σ2 H2):=by
 refine⟨fun i m σ H=>m=xs.length-i/\i<=xs.length/\Pv i σ H,⟨xs.length,by simp,yq _,h0⟩,?_⟩;rintro i m σ H ⟨rfl,hi,p⟩;have q:=hl i σ H hi p
 by_cases hlt:i<xs.length
 ·refine .inr ⟨⟨xs,xs[i],q,by simp[hlt]⟩,Pv (i+1),fun σ' H' p'=>⟨xs.length-(i+1),by omega,rfl,hlt,p'⟩,fun x H' y=>?_⟩;obtain⟨e,y⟩:=y;subst e;exact hs i x σ _ (y xs q) p
 ·have e:i=xs.length:=by omega
  subst e;exact .inl ⟨⟨xs,q,μ _⟩,hd σ H p⟩
theorem aBa{K:ω}{xs:List V}{g:TG}{tb:TS}{D:Ends}{σ:St}(Pv:Nat->St->Hp->Prop)(h0:Pv 0 σ H)(hl:∀i σ H,i<=xs.length->Pv i σ H->SqT K H a xs)
  (hs:∀i x σ H,xs[i]?=some x->Pv i σ H->g x σ H fun σ2 H2=>tb { D with nx:=Pv (i+1),ct:=Pv (i+1),bk:=D.nx } σ2 H2)(hd:∀σ H,Pv xs.length σ H->D.nx σ H):
  ∃W:Nat->Nat->St->Hp->Prop,(∃m,W 0 m σ H)/\∀i m σ H,W i m σ H →
   ((Itt K a).stop i H/\D.nx σ H)\/((Itt K a).go i H/\∃N:St->Hp->Prop,(∀σ' H',N σ' H'->∃m',m'<m/\W (i+1) m' σ' H')/\∀x H',(Itt K a).yld i H x H'->g x σ H' fun σ2 H2=>tb { D with nx:=N,ct:=N,bk:=D.nx } σ2 H2):=by
 refine⟨fun i m σ H=>m=xs.length-i/\i<=xs.length/\Pv i σ H,⟨xs.length,by simp,yq _,h0⟩,?_⟩;rintro i m σ H ⟨rfl,hi,p⟩;have q:=hl i σ H hi p
 by_cases hlt:i<xs.length
 ·refine .inr ⟨⟨xs,xs[i],q,by simp[hlt]⟩,Pv (i+1),fun σ' H' p'=>⟨xs.length-(i+1),by omega,rfl,hlt,p'⟩,fun x H' y=>?_⟩;obtain⟨e,y⟩:=y;subst e;exact hs i x σ _ (y xs q) p
 ·have e:i=xs.length:=by omega
  subst e;exact .inl ⟨⟨xs,q,μ _⟩,hd σ H p⟩
theorem fY{lo:Int}{n:Nat}{g:TG}{tb:TS}{D:Ends}{σ:St}(Pv:Nat->St->Hp->Prop)(h0:Pv 0 σ H)
  (hs:∀i σ H,i<n->Pv i σ H->g (.int (lo+i)) σ H fun σ2 H2=>tb { D with nx:=Pv (i+1),ct:=Pv (i+1),bk:=D.nx } σ2 H2)(hd:∀σ H,Pv n σ H->D.nx σ H):
  ∃W:Nat->Nat->St->Hp->Prop,(∃m,W 0 m σ H)/\∀i m σ H,W i m σ H →
   ((Itr lo n).stop i H/\D.nx σ H)\/((Itr lo n).go i H/\∃N:St->Hp->Prop,(∀σ' H',N σ' H'->∃m',m'<m/\W (i+1) m' σ' H')/\∀x H',(Itr lo n).yld i H x H'->g x σ H' fun σ2 H2=>tb { D with nx:=N,ct:=N,bk:=D.nx } σ2 H2):=by
 refine⟨fun i m σ H=>m=n-i/\i<=n/\Pv i σ H,⟨n,by simp,yq _,h0⟩,?_⟩;rintro i m σ H ⟨rfl,hi,p⟩
 by_cases hlt:i<n
 ·refine .inr ⟨hlt,Pv (i+1),fun σ' H' p'=>⟨n-(i+1),by omega,rfl,hlt,p'⟩,fun x H' y=>?_⟩;obtain⟨e,y⟩:=y;subst e y;exact hs i σ _ hlt p
 ·have e:i=n:=by omega
  subst e;exact .inl ⟨μ _,hd σ H p⟩
abbrev R2:=V->V->Hp->VK->Prop
def OpR (X:Cx) (f:Value->Value->Sem Value) (r:R2):Prop :=
 ∀(pins:List (Addr×Obj)) (s:ν) (σ:St) (H:Hp) (x y:V) (v u:Value) (Q:VK),Inv X pins σ H s->RelV x v->RelV y u->r x y H Q →
  xy (yl X.prog X.w) X.A (f v u) (EP X pins σ Q) X.xe s
def UnR (X:Cx) (f:Value->Sem Value) (r:V->Hp->VK->Prop):Prop :=
 ∀(pins:List (Addr×Obj)) (s:ν) (σ:St) (H:Hp) (x:V) (v:Value) (Q:VK),Inv X pins σ H s->RelV x v->r x H Q →
  xy (yl X.prog X.w) X.A (f v) (EP X pins σ Q) X.xe s
def xD (X:Cx) (f:Value) (r:List V->Hp->VK->Prop):Prop :=
 ∀(pins:List (Addr×Obj)) (s:ν) (σ:St) (H:Hp) (xs:List V) (us:List Value) (Q:VK),Inv X pins σ H s->kQ xs us->r xs H Q →
  xy (yl X.prog X.w) X.A (call f us) (EP X pins σ Q) X.xe s
def TruR (X:Cx) (r:V->Hp->(Bool->Hp->Prop)->Prop):Prop :=
 ∀(pins:List (Addr×Obj)) (s:ν) (σ:St) (H:Hp) (x:V) (v:Value) (Q:Bool->Hp->Prop),Inv X pins σ H s->RelV x v->r x H Q →
  xy (yl X.prog X.w) X.A (truthy v) (TP X pins σ Q) X.xe s
def tOp (r:R2) (ta tb:TE):TE:=fun σ H Q=>ta σ H fun x H1=>tb σ H1 fun y H2=>r x y H2 Q
def tUn (r:V->Hp->VK->Prop) (ta:TE):TE:=fun σ H Q=>ta σ H fun x H1=>r x H1 Q
inductive rI_i (C:Int->Int->Prop) (g:Int->Int->V) (x:V) (y:V) (H:Hp) (Q:VK):Prop|mk:∀i j,x=.int i->y=.int j->C i j->Q (g i j) H->rI_i C g x y H Q
def rI (C:Int->Int->Prop) (g:Int->Int->V):R2:=fun x y H Q=>rI_i C g x y H Q
inductive aPq (g:Int->Int->V) (x:V) (y:V) (H:Hp) (Q:VK):Prop|mk:∀i j,x=.int i->y=.int j->Q (g i j) H->aPq g x y H Q
def rI0 (g:Int->Int->V):R2:=fun x y H Q=>aPq g x y H Q
def rU (g:Int->V):V->Hp->VK->Prop:=fun x H Q=>∃i,x=.int i/\Q (g i) H
section
variable {X:Cx}{a b c:Expr}{ta tb tc:TE}{pos:Pos}
theorem binT(ha:PE X a ta)(hb:PE X b tb){R:V->V->Hp->Prop}(I:Inv X pins σ H s)
  (h:ta σ H fun x H1=>tb σ H1 fun y H2=>R x y H2){f:Value->Value->Sem Value}
  (hf:∀v u s2 x y H2,Inv X pins σ H2 s2->RelV x v->RelV y u->R x y H2->xy (yl X.prog X.w) X.A (f v u) Q X.xe s2):
  xy (yl X.prog X.w) X.A (eval a X.env) (fun v s₁=>xy (yl X.prog X.w) X.A (eval b X.env) (fun u s₂=>xy (yl X.prog X.w) X.A (f v u) Q X.xe s₂) X.xe s₁) X.xe s:=by
 refine thn (ha pins s σ H _ I h) fun v s1 zq=>?_;obtain⟨x,H1,I1,r1,q1⟩:=zq;refine thn (hb pins s1 σ H1 _ I1 q1) fun u s2 zq=>?_;obtain⟨y,H2,I2,r2,q2⟩:=zq;exact hf v u s2 x y H2 I2 r1 r2 q2
theorem jS(ho:OpR X (BX op) r)(ha:PE X a ta)(hb:PE X b tb):PE X (.BinOp a op b pos) (tOp r ta tb):=by
 intro pins s σ H Q I h;exact wpAny_BinOp (binT ha hb I h fun v u s2 x y H2 I2 rx ry q=>ho pins s2 σ H2 x y v u Q I2 rx ry q)
theorem bO(ho:UnR X (unaryOp op) r)(ha:PE X a ta):PE X (.UnaryOp op a pos) (tUn r ta):=by
 intro pins s σ H Q I h;exact UnaryOp_ (thn (ha pins s σ H _ I h) fun v s1 ⟨x,H1,I1,r1,q1⟩=>ho pins s1 σ H1 x v Q I1 r1 q1)
theorem opI{f:Value->Value->Sem Value}{C:Int->Int->Prop}{g:Int->Int->Int}
  (rule:∀(i j:Int) (t u:Tok) (s:ν) (Q:Value->ν->Prop) (E:Value->ν->Prop),C i j->Q (.int (g i j) s.toks) { s with toks:=s.toks+1 }->xy (yl X.prog X.w) X.A (f (.int i t) (.int j u)) Q E s):
  OpR X f (rI C fun i j=>.int (g i j)):=by
 intro pins s σ H x y v u Q I rx ry h;obtain⟨i,j,rfl,rfl,hc,q⟩:=h;obtain⟨t,rfl⟩:=rx;obtain⟨t',rfl⟩:=ry;exact rule i j t t' s _ _ hc ⟨.int (g i j),H,I.tok _,⟨_,rfl⟩,q⟩
theorem opI0{f:Value->Value->Sem Value}{g:Int->Int->Int}
  (rule:∀(i j:Int) (t u:Tok) (s:ν) (Q:Value->ν->Prop) (E:Value->ν->Prop),Q (.int (g i j) s.toks) { s with toks:=s.toks+1 }->xy (yl X.prog X.w) X.A (f (.int i t) (.int j u)) Q E s):
  OpR X f (rI0 fun i j=>.int (g i j)):=by
 intro pins s σ H x y v u Q I rx ry h;obtain⟨i,j,rfl,rfl,q⟩:=h;obtain⟨t,rfl⟩:=rx;obtain⟨t',rfl⟩:=ry;exact rule i j t t' s _ _ ⟨.int (g i j),H,I.tok _,⟨_,rfl⟩,q⟩
theorem opB0{f:Value->Value->Sem Value}{g:Int->Int->Bool}
  (rule:∀(i j:Int) (t u:Tok) (s:ν) (Q:Value->ν->Prop) (E:Value->ν->Prop),Q (.bool (g i j)) s->xy (yl X.prog X.w) X.A (f (.int i t) (.int j u)) Q E s):
  OpR X f (rI0 fun i j=>.bl (g i j)):=by
 intro pins s σ H x y v u Q I rx ry h;obtain⟨i,j,rfl,rfl,q⟩:=h;obtain⟨t,rfl⟩:=rx;obtain⟨t',rfl⟩:=ry;exact rule i j t t' s _ _ ⟨.bl (g i j),H,I,rfl,q⟩
def CDiv (i j:Int):Prop:=0<j/\j<1073741824
def CPow (i j:Int):Prop:=0<=j/\j<=1000000/\i.natAbs<2 ^ 64
def CMul (i j:Int):Prop:=(-(2 ^ 64)<i/\i<2 ^ 64)\/(-(2 ^ 64)<j/\j<2 ^ 64)
theorem CMul.ok(h:CMul i j):IntMulOk i j:=by
 rcases h with⟨h1,h2⟩|⟨h1,h2⟩
 ·exact .of_left (intBits_le_64 h1 h2)
 ·exact .of_right (intBits_le_64 h1 h2)
theorem qO:OpR X (BX .Add) (rI0 fun i j=>.int (i+j)):=opI0 fun _ _ _ _ _ _ _ q=>add_int q
theorem iR:OpR X (BX .Sub) (rI0 fun i j=>.int (i-j)):=opI0 fun _ _ _ _ _ _ _ q=>sub_int q
theorem yW:OpR X (BX .Mult) (rI CMul fun i j=>.int (i*j)):=opI fun _ _ _ _ _ _ _ hc q=>mul_int q hc.ok
theorem aBh:OpR X (BX .FloorDiv) (rI CDiv fun i j=>.int (i / j)):=opI fun i j _ _ _ _ _ hc q=>by
 have h1:(0:Int)<j:=hc.1;have h2:j<1073741824:=hc.2;exact floordiv_int (by omega) (by rw[Int.fdiv_eq_ediv_of_nonneg i (by omega)];exact q) (.inl (PyProof.noPylong_small (by omega)))
theorem zS:OpR X (BX .Mod) (rI (fun _ j=>0<j) fun i j=>.int (i % j)):=opI fun i j _ _ _ _ _ hc q=>by
 have h1:(0:Int)<j:=hc;exact mod_int' (by omega) (by rw[Int.fmod_eq_emod_of_nonneg i (by omega)];exact q)
theorem aTf:OpR X (BX .Pow) (rI CPow fun i j=>.int (i ^ j.toNat)):=opI fun _ _ _ _ _ _ _ hc q=>pow_int_small hc.1 hc.2.1 hc.2.2 q
theorem aTd:OpR X (BX .LShift) (rI CPow fun i j=>.int (i*2 ^ j.toNat)):=opI fun _ _ _ _ _ _ _ hc q=>lshift_int_small hc.1 hc.2.1 hc.2.2 q
theorem unI{f:Value->Sem Value}{g:Int->Int}
  (rule:∀(i:Int) (t:Tok) (s:ν) (Q:Value->ν->Prop) (E:Value->ν->Prop),Q (.int (g i) s.toks) { s with toks:=s.toks+1 }->xy (yl X.prog X.w) X.A (f (.int i t)) Q E s):
  UnR X f (rU fun i=>.int (g i)):=by
 intro pins s σ H x v Q I rx h;obtain⟨i,rfl,q⟩:=h;obtain⟨t,rfl⟩:=rx;exact rule i t s _ _ ⟨.int (g i),H,I.tok _,⟨_,rfl⟩,q⟩
theorem yQ:UnR X (unaryOp .USub) (rU fun i=>.int (-i)):=unI fun _ _ _ _ _ q=>neg_int q
end
def scal:V->V->Bool
 |.non,.non=>true | .non,.int _=>true | .int _,.non=>true | .non,.bl _=>true | .bl _,.non=>true | .non,.str _=>true | .str _,.non=>true
 |.int _,.int _=>true | .bl _,.bl _=>true | .str _,.str _=>true | .byt _,.byt _=>true
 |.int _,.str _=>true | .str _,.int _=>true | .bl _,.str _=>true | .str _,.bl _=>true
 |_,_=>false
inductive aPu (x:V) (y:V) (H:Hp) (Q:VK):Prop|mk:scal x y=true->Q (.bl (decide (x=y))) H->aPu x y H Q
def rEq:R2:=fun x y H Q=>aPu x y H Q
inductive aQg (x:V) (y:V) (H:Hp) (Q:VK):Prop|mk:scal x y=true->Q (.bl (!decide (x=y))) H->aQg x y H Q
def rNe:R2:=fun x y H Q=>aQg x y H Q
theorem aHq : decide (V.int i=V.int j)=(i == j):=by
 rw[Bw];simp
theorem aKi : decide (V.bl i=V.bl j)=(i == j):=by
 rw[Bw];simp
theorem aGm : decide (V.str i=V.str j)=(i == j):=by
 rw[Bw];simp
theorem aGs : decide (V.byt i=V.byt j)=(i.toList == j.toList):=by
 rw[Bw];cases i;cases j;simp
section
variable {X:Cx}{a b c:Expr}{ta tb tc:TE}{pos:Pos}
theorem qK{Q:VK}{k':Bool}(I:Inv X pins σ H s)(q:Q (.bl k) H)(e:k=k'):EP X pins σ Q (.bool k') s:=by
 subst e;exact⟨.bl k,H,I,rfl,q⟩
theorem qI:OpR X (Ah .Eq) rEq:=by
 intro pins s σ H x y v u Q I rx ry h;obtain⟨hs,q⟩:=h;cases x with
 |non =>
  cases rx;cases y with
  |non=>cases ry;exact PySem.EqNone.eq_none_none (qK I q (by simp))
  |bl j=>cases ry;exact PySem.EqNone.eq_none_bool (qK I q (by simp))
  |int j=>obtain⟨t',rfl⟩:=ry;exact PySem.EqNone.eq_none_int (qK I q (by simp))
  |str j=>obtain⟨t',rfl⟩:=ry;exact PySem.EqNone.eq_none_str (qK I q (by simp))
  |_=>exact absurd (show false=true from hs) π
 |bl i =>
  cases rx;cases y with
  |non=>cases ry;exact PySem.EqNone.eq_bool_none (qK I q (by simp))
  |bl j=>cases ry;exact eq_bool (qK I q aKi)
  |str j=>obtain⟨t',rfl⟩:=ry;exact PySem.EqMixed.eq_bool_str (qK I q (by simp))
  |_=>exact absurd (show false=true from hs) π
 |int i =>
  obtain⟨t,rfl⟩:=rx;cases y with
  |non=>cases ry;exact PySem.EqNone.eq_int_none (qK I q (by simp))
  |int j=>obtain⟨t',rfl⟩:=ry;exact eq_int (qK I q aHq)
  |str j=>obtain⟨t',rfl⟩:=ry;exact PySem.EqMixed.eq_int_str (qK I q (by simp))
  |_=>exact absurd (show false=true from hs) π
 |str i =>
  obtain⟨t,rfl⟩:=rx;cases y with
  |non=>cases ry;exact PySem.EqNone.eq_str_none (qK I q (by simp))
  |bl j=>cases ry;exact PySem.EqMixed.eq_str_bool (qK I q (by simp))
  |int j=>obtain⟨t',rfl⟩:=ry;exact PySem.EqMixed.eq_str_int (qK I q (by simp))
  |str j=>obtain⟨t',rfl⟩:=ry;exact eq_str (qK I q aGm)
  |_=>exact absurd (show false=true from hs) π
 |byt i =>
  obtain⟨t,rfl⟩:=rx;cases y with
  |byt j=>obtain⟨t',rfl⟩:=ry;exact PySem.W.eq_bytes (qK I q aGs)
  |_=>exact absurd (show false=true from hs) π
 |_=>cases y <;> exact absurd (show false=true from hs) π
theorem aDy:OpR X (Ah .NotEq) rNe:=by
 intro pins s σ H x y v u Q I rx ry h;obtain⟨hs,q⟩:=h;cases x with
 |non =>
  cases rx;cases y with
  |non=>cases ry;exact PySem.EqNone.ne_none_none (qK I q (by simp))
  |bl j=>cases ry;exact PySem.EqNone.ne_none_bool (qK I q (by simp))
  |int j=>obtain⟨t',rfl⟩:=ry;exact PySem.EqNone.ne_none_int (qK I q (by simp))
  |str j=>obtain⟨t',rfl⟩:=ry;exact PySem.EqNone.ne_none_str (qK I q (by simp))
  |_=>exact absurd (show false=true from hs) π
 |bl i =>
  cases rx;cases y with
  |non=>cases ry;exact PySem.EqNone.ne_bool_none (qK I q (by simp))
  |bl j=>cases ry;exact ne_bool (qK I q (congrArg not aKi))
  |str j=>obtain⟨t',rfl⟩:=ry;exact PySem.EqMixed.ne_bool_str (qK I q (by simp))
  |_=>exact absurd (show false=true from hs) π
 |int i =>
  obtain⟨t,rfl⟩:=rx;cases y with
  |non=>cases ry;exact PySem.EqNone.ne_int_none (qK I q (by simp))
  |int j=>obtain⟨t',rfl⟩:=ry;exact ne_int (qK I q (congrArg not aHq))
  |str j=>obtain⟨t',rfl⟩:=ry;exact PySem.EqMixed.ne_int_str (qK I q (by simp))
  |_=>exact absurd (show false=true from hs) π
 |str i =>
  obtain⟨t,rfl⟩:=rx;cases y with
  |non=>cases ry;exact PySem.EqNone.ne_str_none (qK I q (by simp))
  |bl j=>cases ry;exact PySem.EqMixed.ne_str_bool (qK I q (by simp))
  |int j=>obtain⟨t',rfl⟩:=ry;exact PySem.EqMixed.ne_str_int (qK I q (by simp))
  |str j=>obtain⟨t',rfl⟩:=ry;exact ne_str (qK I q (congrArg not aGm))
  |_=>exact absurd (show false=true from hs) π
 |byt i =>
  obtain⟨t,rfl⟩:=rx;cases y with
  |byt j=>obtain⟨t',rfl⟩:=ry;exact PySem.W.ne_bytes (qK I q (congrArg not aGs))
  |_=>exact absurd (show false=true from hs) π
 |_=>cases y <;> exact absurd (show false=true from hs) π
theorem aPz:OpR X (Ah .Lt) (rI0 fun i j=>.bl (decide (i<j))):=opB0 fun _ _ _ _ _ _ _ q=>lt_int q
theorem oB:OpR X (Ah .LtE) (rI0 fun i j=>.bl (decide (i<=j))):=opB0 fun _ _ _ _ _ _ _ q=>le_int q
theorem dU:OpR X (Ah .Gt) (rI0 fun i j=>.bl (decide (j<i))):=opB0 fun _ _ _ _ _ _ _ q=>gt_int q
theorem op_ge:OpR X (Ah .GtE) (rI0 fun i j=>.bl (decide (j<=i))):=opB0 fun _ _ _ _ _ _ _ q=>ge_int q
theorem aHz:OpR X (Ah .In) (fun x y H Q=>∃i j,x=.str i/\y=.str j/\Q (.bl (!(AK j i 0 j.length 1).isEmpty)) H):=by
 intro pins s σ H x y v u Q I rx ry h;obtain⟨i,j,rfl,rfl,q⟩:=h;obtain⟨t,rfl⟩:=rx;obtain⟨t',rfl⟩:=ry;exact in_str (qK I q rfl)
theorem mV:OpR X (Ah .Is) (fun x y H Q=>y=.non/\Q (.bl (decide (x=.non))) H):=by
 intro pins s σ H x y v u Q I rx ry h;obtain⟨rfl,q⟩:=h;cases ry;refine is_none_gen (qK I q ?_);cases x <;> first
  | (cases rx;rfl)
  | (obtain⟨t,rfl⟩:=rx;rfl)
theorem pJ:OpR X (Ah .IsNot) (fun x y H Q=>y=.non/\Q (.bl (!decide (x=.non))) H):=by
 intro pins s σ H x y v u Q I rx ry h;obtain⟨rfl,q⟩:=h;cases ry;refine isnot_none_gen (qK I q ?_);cases x <;> first
  | (cases rx;rfl)
  | (obtain⟨t,rfl⟩:=rx;rfl)
theorem aBn:OpR X (Ah .NotIn) (fun x y H Q=>∃i j,x=.str i/\y=.str j/\Q (.bl (!(!(AK j i 0 j.length 1).isEmpty))) H):=by
 intro pins s σ H x y v u Q I rx ry h;obtain⟨i,j,rfl,rfl,q⟩:=h;obtain⟨t,rfl⟩:=rx;obtain⟨t',rfl⟩:=ry;exact notIn_str (qK I q rfl)
theorem OpR.or{r r':R2}(h:OpR X f r)(h':OpR X f r'):OpR X f (fun x y H Q=>r x y H Q\/r' x y H Q):=by
 intro pins s σ H x y v u Q I rx ry q;rcases q with q|q
 ·exact h pins s σ H x y v u Q I rx ry q
 ·exact h' pins s σ H x y v u Q I rx ry q
theorem jT(b:Expr){op:CmpOp}(h:op≠.In:=by decide)(h2:op≠.NotIn:=by decide):Cy op b=false:=by
 have e1:(op == CmpOp.In)=false:=by cases op <;> first|rfl|exact absurd rfl h
 have e2:(op == CmpOp.NotIn)=false:=by cases op <;> first|rfl|exact absurd rfl h2
 cases b <;> simp[Cy,e1,e2]
theorem vA(ho:OpR X (Ah op) r)(ha:PE X a ta)(hb:PE X b tb)(hm:Cy op b=false):PE X (.Compare a [op] [b] pos) (tOp r ta tb):=by
 intro pins s σ H Q I h;exact wpAny_Compare1 (binT ha hb I h fun v u s2 x y H2 I2 rx ry q=>ho pins s2 σ H2 x y v u Q I2 rx ry q) hm
inductive aFz (Q:Bool->Hp->Prop) (x:V) (H':Hp):Prop|mk:∀k,x=.bl k->Q k H'->aFz Q x H'
def aQa (t:TE):TT:=fun σ H Q=>t σ H fun x H'=>aFz Q x H'
theorem jP(ho:OpR X (Ah op) r)(ha:PE X a ta)(hb:PE X b tb)(hm:Cy op b=false):PT X (.Compare a [op] [b] pos) (aQa (tOp r ta tb)):=by
 intro pins s σ H Q I h;refine wpAny_isTrue_Compare1 (thn (ha pins s σ H _ I h) fun v s1 ⟨x,H1,I1,r1,q1⟩=>thn (hb pins s1 σ H1 _ I1 q1) fun u s2 ⟨y,H2,I2,r2,q2⟩ =>
  thn (ho pins s2 σ H2 x y v u _ I2 r1 r2 q2) fun c s3 ⟨z,H3,I3,r3,k,e,q3⟩=>?_) hm
 subst e;cases r3;exact AI ⟨H3,I3,q3⟩
def aMj (r r':R2) (ta tb tc:TE):TE:=fun σ H Q=>ta σ H fun x H1=>tb σ H1 fun y H2=>r x y H2 fun z H3=>∃k,z=.bl k ∧
 (if k=true then tc σ H3 fun w' H4=>r' y w' H4 Q else Q (.bl false) H3)
theorem aJp(ho:OpR X (Ah op) r)(ho':OpR X (Ah op') r')(ha:PE X a ta)(hb:PE X b tb)(hc:PE X c tc)
  (hm:lastMarks [op,op'] [b,c]=false:=by with_unfolding_all rfl):PE X (.Compare a [op,op'] [b,c] pos) (aMj r r' ta tb tc):=by
 intro pins s σ H Q I h;refine Compare_chain (thn (ha pins s σ H _ I h) fun v s1 ⟨x,H1,I1,r1,q1⟩=>chain_link (thn (hb pins s1 σ H1 _ I1 q1) fun u s2 ⟨y,H2,I2,r2,q2⟩ =>
  thn (ho pins s2 σ H2 x y v u _ I2 r1 r2 q2) fun d s3 ⟨z,H3,I3,r3,k,e,q3⟩=>?_)) hm
 subst e;cases r3;refine AI ?_;cases k with
 |false=>exact ite_ff ⟨.bl false,H3,I3,rfl,q3⟩
 |true=>exact ite_tt (chain_last (thn (hc pins s3 σ H3 _ I3 q3) fun w' s4 ⟨z',H4,I4,r4,q4⟩=>ho' pins s4 σ H4 y z' u w' Q I4 r2 r4 q4))
theorem rP(ho:OpR X (Ah op) r)(ho':OpR X (Ah op') r')(ha:PE X a ta)(hb:PE X b tb)(hc:PE X c tc)
  (hm:lastMarks [op,op'] [b,c]=false:=by with_unfolding_all rfl):PT X (.Compare a [op,op'] [b,c] pos) (aQa (aMj r r' ta tb tc)):=by
 intro pins s σ H Q I h;refine isTrue_chain (thn (ha pins s σ H _ I h) fun v s1 ⟨x,H1,I1,r1,q1⟩=>test_link (thn (hb pins s1 σ H1 _ I1 q1) fun u s2 ⟨y,H2,I2,r2,q2⟩ =>
  thn (ho pins s2 σ H2 x y v u _ I2 r1 r2 q2) fun d s3 ⟨z,H3,I3,r3,k,e,q3⟩=>?_)) hm
 subst e;cases r3;refine AI ?_;cases k with
 |false =>
  obtain⟨k',e',q'⟩:=q3;cases e';exact ite_ff ⟨H3,I3,q'⟩
 |true =>
  refine ite_tt (test_last (thn (hc pins s3 σ H3 _ I3 q3) fun w' s4 ⟨z',H4,I4,r4,q4⟩=>thn (ho' pins s4 σ H4 y z' u w' _ I4 r2 r4 q4) fun d' s5 zq=>?_));obtain⟨z2,H5,I5,r5,k2,e2,q5⟩:=zq;subst e2;cases r5;exact AI ⟨H5,I5,q5⟩
def TruV (K:ω) (x:V) (H:Hp) (k:Bool):Prop :=
 match x with
 |.non=>k=false
 |.bl b=>k=b
 |.int i=>k=(i != 0)
 |.str y=>y.length<=ψ/\k=((y.length:Int) != 0)
 |.byt y=>y.size<=ψ/\k=((y.size:Int) != 0)
 |.ref p=>(∃xs,SqL K H p xs/\k = !xs.isEmpty)\/(∃xs,SqT K H p xs/\k = !xs.isEmpty)\/∃kvs,H p=some (.dK kvs)/\k = !kvs.isEmpty
 |_=>False
theorem aEn{κ : Type}{kvs:List (κ×V)}{vs:List (κ×Value)}(r:KV kvs vs):(!vs.isEmpty) = !kvs.isEmpty:=by
 cases r <;> rfl
theorem sF(r:kQ xs its):(!its.toArray.isEmpty) = !xs.isEmpty:=by
 cases r <;> simp
theorem iH:(ψ:Nat)<2 ^ 63:=by rw[ym];decide
theorem aSz:TruR X (fun x H Q=>∃k,TruV X.K x H k/\Q k H):=by
 intro pins s σ H x v Q I rx h;obtain⟨k,e,q⟩:=h;have hl:=iH;have hs:ψ=16777216:=ym;cases x with
 |non =>
  cases rx;have e':k=false:=e;subst e';exact truthy_none ⟨H,I,q⟩
 |bl b =>
  cases rx;have e':k=b:=e;subst e';exact AI ⟨H,I,q⟩
 |int i =>
  obtain⟨t,rfl⟩:=rx;have e':k=(i != 0):=e;subst e';exact PySem.P.truthy_int ⟨H,I,q⟩
 |str y =>
  obtain⟨t,rfl⟩:=rx;obtain⟨hy,e'⟩ : y.length<=ψ/\k=((y.length:Int) != 0):=e;subst e';exact PySem.P.truthy_str (by omega) ⟨H,I.tok _,q⟩
 |byt y =>
  obtain⟨t,rfl⟩:=rx;obtain⟨hy,e'⟩ : y.size<=ψ/\k=((y.size:Int) != 0):=e;subst e';exact PySem.W.truthy_bytes (by omega) ⟨H,I.tok _,q⟩
 |ref p =>
  cases rx;have e':(∃xs,SqL X.K H p xs/\k = !xs.isEmpty)\/(∃xs,SqT X.K H p xs/\k = !xs.isEmpty)\/∃kvs,H p=some (.dK kvs)/\k = !kvs.isEmpty:=e;rcases e' with⟨xs,hx,e'⟩|⟨xs,hx,e'⟩|⟨kvs,hx,e'⟩
  ·subst e';obtain⟨its,r,pl,hz⟩:=I.list hx;have hlen:=r.length;exact wpAny_truthy_list pl.isList (by simp only[υ];omega) ⟨H,I.tok _,by rw[sF r];exact q⟩
  ·subst e';obtain⟨its,r,pl,hz⟩:=I.tuple hx;have hlen:=r.length;exact truthy_tuple pl (by simp only[υ];omega) ⟨H,I.tok _,by rw[sF r];exact q⟩
  ·subst e';obtain⟨hz,hS,vs,r,m⟩ : kvs.length<=ψ/\(p == BZ)=false/\∃vs,KV kvs vs/\s.heap.DictOf (qT X.prog X.w) p vs:=I.hok p _ hx;have hlen:kvs.length=vs.length:=Dg r;exact wpAny_truthy_dict hS m (by omega) ⟨H,I.tok _,by rw[aEn r];exact q⟩
 |_=>exact(show False from e).elim
theorem zK(ha:PE X a ta)(he:∀whole,isTrue a X.env whole=(do let v ←whole;standAt a.pos;holding [v] (truthy v))):
  PT X a (fun σ H Q=>ta σ H fun x H'=>∃k,TruV X.K x H' k/\Q k H'):=by
 intro pins s σ H Q I h;exact isTrue_plain (thn (ha pins s σ H _ I h) fun v s1 ⟨x,H1,I1,r1,q1⟩=>aSz pins s1 σ H1 x v Q I1 r1 q1) (he _)
theorem qA:OpR X (BX .Add) (fun x y H Q=>∃i j,x=.str i/\y=.str j/\i.length+j.length<=ψ/\Q (.str (i++j)) H):=by
 intro pins s σ H x y v u Q I rx ry h;obtain⟨i,j,rfl,rfl,hz,q⟩:=h;obtain⟨t,rfl⟩:=rx;obtain⟨t',rfl⟩:=ry;exact add_str (fun t' tk=>⟨.str (i++j),H,I.tok _,⟨_,rfl⟩,q⟩) hz
theorem vals1{x:V}(r:kQ [x] us):∃u,us=[u]/\RelV x u:=by
 cases r with
 |cons r1 r2=>cases r2;exact⟨_,rfl,r1⟩
theorem vals2{x y:V}(r:kQ [x,y] us):∃u w',us=[u,w']/\RelV x u/\RelV y w':=by
 cases r with
 |cons r1 r2 =>
  cases r2 with
  |cons r3 r4=>cases r4;exact⟨_,_,rfl,r1,r3⟩
theorem uN(hc:X.calm=true):xD X (.builtin "max") (fun xs H Q=>∃i j,xs=[.int i,.int j]/\Q (.int (if j > i then j else i)) H):=by
 intro pins s σ H xs us Q I r h;obtain⟨i,j,rfl,q⟩:=h;obtain⟨u,w',rfl,⟨t,rfl⟩,⟨t',rfl⟩⟩:=vals2 r;refine max_two_ints (I.ok.hd hc) fun h' tk k=>⟨_,H,I.kept k,?_,q⟩
 by_cases hj:j > i
 ·rw[if_pos hj,if_pos hj];exact⟨_,rfl⟩
 ·rw[if_neg hj,if_neg hj];exact⟨_,rfl⟩
theorem xW:xD X (.type "str") (fun xs H Q=>∃i,xs=[.int i]/\i.natAbs.log2<1920/\Q (.str (toString i)) H):=by
 intro pins s σ H xs us Q I r h;obtain⟨i,rfl,hz,q⟩:=h;obtain⟨u,rfl,t,rfl⟩:=vals1 r;exact PySem.P.str_of_int hz ⟨.str _,H,I.tok _,⟨_,rfl⟩,q⟩
def LenV (K:ω) (x:V) (H:Hp) (n:Nat):Prop :=
 match x with
 |.str y=>y.length<=ψ/\n=y.length
 |.byt y=>y.size<=ψ/\n=y.size
 |.ref p=>(∃xs,SqL K H p xs/\n=xs.length)\/∃xs,SqT K H p xs/\n=xs.length
 |_=>False
theorem lV:xD X (.builtin "len") (fun xs H Q=>∃x n,xs=[x]/\LenV X.K x H n/\Q (.int n) H):=by
 intro pins s σ H xs us Q I r h;obtain⟨x,n,rfl,e,q⟩:=h;obtain⟨u,rfl,rx⟩:=vals1 r;have hl:=iH;have hs:ψ=16777216:=ym;cases x with
 |str y =>
  obtain⟨t,rfl⟩:=rx;obtain⟨hy,e'⟩ : y.length<=ψ/\n=y.length:=e;subst e';exact len_str (by omega) ⟨.int _,H,I.tok _,⟨_,rfl⟩,q⟩
 |byt y =>
  obtain⟨t,rfl⟩:=rx;obtain⟨hy,e'⟩ : y.size<=ψ/\n=y.size:=e;subst e';exact PySem.W.len_bytes (by omega) ⟨.int _,H,I.tok _,⟨_,rfl⟩,q⟩
 |ref p =>
  cases rx;have e':(∃xs,SqL X.K H p xs/\n=xs.length)\/∃xs,SqT X.K H p xs/\n=xs.length:=e;rcases e' with⟨xs,hx,e'⟩|⟨xs,hx,e'⟩
  ·subst e';obtain⟨its,r',pl,hz⟩:=I.list hx;have hlen:=r'.length;exact Calls.call_len_list pl.isList (by simp only[υ];omega) ⟨.int xs.length,H,I.tok _,⟨_,by simp only[υ];rw[hlen]⟩,q⟩
  ·subst e';obtain⟨its,r',pl,hz⟩:=I.tuple hx;have hlen:=r'.length;exact len_tuple pl (by simp only[υ];omega) ⟨.int xs.length,H,I.tok _,⟨_,by simp only[υ];rw[hlen]⟩,q⟩
 |_=>exact(show False from e).elim
end
structure aEd (h:Ag) (x dx C:Addr) (mA:Str->Option Value):Prop where
 obj:h.get? x=some (Bv C dx)
 ns:h.Ns1 dx mA
 ne:dx≠x
theorem uY{h:Ag}{mA:Str->Option Value}(n:h.Ns1 dx mA):∃od,h.get? dx=some od/\∀name,PySem.W.lookIn name od=some (mA name):=by
 obtain⟨o,es,ep,ho,hd,hk,_,hm⟩:=n;refine⟨o,ho,fun name=>?_⟩;have e:=hm name;unfold nsFind findBy at e;rw[←Array.find?_toList]at e;unfold PySem.W.lookIn;rw[hd];dsimp only
 split
 ·rename_i y q;rw[q]at e;exact congrArg some e
 ·rename_i q;rw[q]at e;have a:es.toList.any (·.refKey)=false:=by
   rw[List.any_eq_false];intro y hy;obtain⟨z,t,hkey⟩:=hk y (Array.mem_toList_iff.mp hy);simp[DictEntry.refKey,hkey]
  have a':¬ es.toList.any (·.refKey)=true:=by rw[a];exact π
  rw[if_neg a'];exact congrArg some e
theorem aEd.look{mA:Str->Option Value}(I:aEd h x dx C mA):∃od,PySem.W.InstAt h x (Bv C dx) C (some od)/\∀name,PySem.W.lookIn name od=some (mA name) :=
 let ⟨od,ho,hl⟩:=uY I.ns
 ⟨od,⟨I.obj,rfl,rfl,ho⟩,hl⟩
section
variable {prog:Ao}{w:AD}{A:Ak}{E:Value->ν->Prop}{s:ν}{K:ω}{x dx C f:Addr}{mA:Str->Option Value}{name:Str}{v:Value}
theorem aOm{Q:Value->ν->Prop}(X:K.In s.heap)(I:aEd s.heap x dx C mA)(hg:DR K C name=true)(hh:CC K C=true)
  (ha:Ap K (.ref C) name=some none)(hv:mA name=some v)(hv':PySem.W.handedIn v=true)(h:Q v { s with toks:=s.toks+1 }):
  xy (yl prog w) A (getAttr (.ref x) name expr) Q E s:=by
 obtain⟨od,J,hl⟩:=I.look;exact PySem.W.get_value X J (PySem.W.plainGet_of hg).1 (PySem.W.findObj_own hh ha rfl (by rw[hl,hv])) hv' h
theorem aMw{Q:Value×List Value->ν->Prop}(X:K.In s.heap)(I:aEd s.heap x dx C mA)(hg:DR K C name=true)
  (hf:Ap K (.ref C) name=some (some (.ref f)))(ht:isFn K (.ref f)=true)(hv:mA name=none)(h:Q (.ref f,[.ref x]) s):
  xy (yl prog w) A (Dv (.ref x) name pl) Q E s:=by
 obtain⟨od,J,hl⟩:=I.look;exact PySem.W.method_fn X J (PySem.W.plainGet_of hg).1 (PySem.W.plainGet_of hg).2 hf (beq_iff_eq.mp ht) (by show(PySem.W.lookIn name od).map (·.isSome)=some false;rw[hl,hv];rfl) h
theorem aOx{Q:Unit->ν->Prop}(X:K.In s.heap)(I:aEd s.heap x dx C mA)
  (hs:Ap K (.ref C) "__setattr__" = some (some (.builtin "object.__setattr__")))(hp:PySem.W.plainOver K C=true)(ht:PySem.W.takerIn K C name=some none)(hh:CC K C=true)
  (hw:Bm mA ns)(hsz:ns.length<=ψ)
  (h:∀h',aEd h' x dx C (fun y=>if y=name then some v else mA y)->AH dx s.heap h'->Q () { s with heap:=h',toks:=s.toks+2 }):
  xy (yl prog w) A (setAttr (.ref x) name v) Q E s:=by
 obtain⟨od,J,hl⟩:=I.look;refine PySem.W.set_plain X J hs (PySem.W.osa_open (s:={ s with toks:=s.toks+1 }) (r:=none) X J hp ht fun b=>?_);obtain⟨cd,hc,hd'⟩:=PySem.W.any_some hh;have hx:s.heap.get? x=some ⟨.ref C,some dx,.plain,#[]⟩:=I.obj;refine ζ (Θ (ζ (ζ (wpAny_loadPart hx (ζ (Bk (s:={ s with toks:=s.toks+1 }) (CZ X hc) ?_))))));rw[hd'];refine Θ (a:=some dx) (ζ (Θ (ζ ?_)));refine wpAny_nsSet1 (s:={ s with toks:=s.toks+1 }) I.ns fun h' hn2 hs2=>?_;obtain⟨oD,esD,epD,hoD,hdD,hcD⟩:=hn2.count (Bm.cons name v hw);refine ζ (wpAny_lookBehind hoD (by rw[hdD];exact pastItsLine_dict (yo hcD (by rw[Δ];omega))) ?_);exact Θ (h _ ⟨(hs2.2 _ (Aj I.ne)).trans I.obj,hn2,I.ne⟩ hs2)
theorem aMx{vs:List Value}{kw:List (Str×Value)}(X:K.In s.heap)(hm:PySem.W.makesIn K C=true)
  (hi:Ap K (.ref C) "__init__" = some (some (.ref f)))(hf:PySem.W.typeIn K (.ref f)=some (.type "function"))
  (h:Dr (yl prog w) (A.under (.builtin "type.__call__" ⟨.ref C::vs,kw⟩)) (.call (.ref f) ⟨.ref (s.heap.objs.size+1)::vs,kw⟩) (PySem.W.InitBack (s.heap.objs.size+1) R)
   { s with heap:=(s.heap.push PySem.W.emptyDict).push (Bv C s.heap.objs.size) }):
  Dr (yl prog w) A (.call (.ref C) ⟨vs,kw⟩) R s:=by
 obtain⟨hh,g,d,t,os⟩:=s;exact PySem.W.make_core (PySem.W.makes_of X hm) (CG X hi) (fun self=>PySem.W.bind_fn X self hf) (.inl rfl) h
end
def aN (f:Str) (v:V):List (Str×V)->List (Str×V)
 |[]=>[(f,v)]
 | (g,x)::r=>if g=f then (g,v)::r else (g,x)::aN f v r
theorem fQ(f g:Str)(v:V):∀fs:List (Str×V),(aN f v fs).lookup g=if g=f then some v else fs.lookup g
 |[]=>by
  show BY g [(f,v)]=_
  by_cases h:g=f
  ·have hb:(g == f)=true:=beq_iff_eq.mpr h;simp only[BY,hb,if_pos h]
  ·have hb:(g == f)=false:=beq_eq_false_iff_ne.mpr h;simp only[BY,hb,if_neg h]
 | (k,x)::r=>by
  have ih:=fQ f g v r;rw[show aN f v ((k,x)::r)=(if k=f then (k,v)::r else (k,x)::aN f v r) from rfl]
  by_cases hk:k=f
  ·rw[if_pos hk]
   by_cases h:g=k
   ·have hb:(g == k)=true:=beq_iff_eq.mpr h;simp only[BY,hb,if_pos (h.trans hk)]
   ·have hb:(g == k)=false:=beq_eq_false_iff_ne.mpr h;simp only[BY,hb,if_neg (fun e:g=f=>h (e.trans hk.symm))]
  ·rw[if_neg hk]
   by_cases h:g=k
   ·have hb:(g == k)=true:=beq_iff_eq.mpr h;simp only[BY,hb,if_neg (fun e:g=f=>hk (h.symm.trans e))]
   ·have hb:(g == k)=false:=beq_eq_false_iff_ne.mpr h;simp only[BY,hb];exact ih
theorem cR(f:Str)(v:V):∀fs:List (Str×V),f∈(aN f v fs).map (·.1)/\∀g,g∈fs.map (·.1)->g∈(aN f v fs).map (·.1)
 |[]=>⟨by simp[aN],fun g h=>by simp at h⟩
 | (k,x)::r=>by
  obtain⟨i1,i2⟩:=cR f v r;rw[show aN f v ((k,x)::r)=(if k=f then (k,v)::r else (k,x)::aN f v r) from rfl]
  by_cases hk:k=f
  ·rw[if_pos hk];subst hk;exact⟨by simp,fun g h=>by simpa using h⟩
  ·rw[if_neg hk];refine⟨?_,fun g h=>?_⟩
   ·rw[zm];exact yc _ i1
   ·rw[zm]at h ⊢;rcases ς.mp h with e|e
    ·exact ς.mpr (.inl e)
    ·exact yc _ (i2 g e)
theorem oC(f:Str)(v:V):∀fs:List (Str×V),(aN f v fs).length<=fs.length+1
 |[]=>by simp[aN]
 | (k,x)::r=>by
  have ih:=oC f v r;rw[show aN f v ((k,x)::r)=(if k=f then (k,v)::r else (k,x)::aN f v r) from rfl]
  by_cases hk:k=f
  ·rw[if_pos hk,Δ,Δ];omega
  ·rw[if_neg hk,Δ,Δ];omega
theorem aI.some_of(r:aI (some v) o):∃u,o=some u/\RelV v u:=by
 cases o with
 |none=>exact(show False from r).elim
 |some u=>exact⟨u,rfl,r⟩
theorem aI.none_of(r:aI none o):o=none:=by
 cases o with
 |none=>rfl
 |some u=>exact(show False from r).elim
theorem uR(r:RelV v u):PySem.W.handedIn u=true:=by
 cases v with
 |non=>cases (show u=Az from r);rfl
 |bl b=>cases (show u=Value.bool b from r);rfl
 |int i=>obtain⟨t,e⟩:=(show ∃t,u=Value.int i t from r);cases e;rfl
 |str x=>obtain⟨t,e⟩:=(show ∃t,u=Value.str x t from r);cases e;rfl
 |byt b=>obtain⟨t,e⟩:=(show ∃t,u=Value.bytes b t from r);cases e;rfl
 |flt b=>obtain⟨t,e⟩:=(show ∃t,u=Value.float b t from r);cases e;rfl
 |ref a=>cases (show u=yk a from r);rfl
 |ty n=>cases (show u=Value.type n from r);rfl
section
variable {P:Ao}{w:AD}{H H':Hp}{h h':Ag}{a C dx:Addr}{fs fs':List (Str×V)}
theorem pP(hok:HOk P w H h)(e:H a=some (.ins C dx fs)):∃mA,aEd h a dx C mA/\(∀f,aI (fs.lookup f) (mA f))/\Bm mA (fs.map (·.1))/\fs.length<=1000/\H dx=some (.own a):=by
 obtain⟨d,z,ne,ob,mA,n,r,q⟩:=(show vI P w H h a (.ins C dx fs) from hok a _ e);exact⟨mA,⟨ob,n,ne⟩,r,q,z,d⟩
end
structure Cls (K:ω) (C:Addr):Prop where
 pg:DR K C Str.empty=true
 hd:CC K C=true
 po:PySem.W.plainOver K C=true
 sa:Ap K (.ref C) "__setattr__" = some (some (.builtin "object.__setattr__"))
theorem Cls.get{K:ω}(c:Cls K C)(f:Str):DR K C f=true:=c.pg
def aX (K:ω) (C:Addr) (f:Str):Prop:=Ap K (.ref C) f=some none
theorem aX.taker{K:ω}(n:aX K C f):PySem.W.takerIn K C f=some none:=by
 unfold PySem.W.takerIn;rw[show Ap K (.ref C) f=some none from n];rfl
structure Meth (K:ω) (C:Addr) (m:Str) (f:Addr):Prop where
 at_:Ap K (.ref C) m=some (some (.ref f))
 fn:isFn K (.ref f)=true
 kp:keepIn K (.ref f)=true
section
variable {X:Cx}{pins:List (Addr×Obj)}{σ:St}{H:Hp}{s:ν}{a C dx:Addr}{fs:List (Str×V)}{f:Str}{v:V}{A:Ak}{E:Value->ν->Prop}
theorem aFc{Q:Value->ν->Prop}(I:Inv X pins σ H s)(e:H a=some (.ins C dx fs))(c:Cls X.K C)(n:aX X.K C f)(l:fs.lookup f=some v)
  (h:∀u s',Inv X pins σ H s'->RelV v u->Q u s'):xy (yl X.prog X.w) A (getAttr (.ref a) f b) Q E s:=by
 obtain⟨mA,O,r,_,_,_⟩:=pP I.hok e;obtain⟨u,hu,ru⟩:=aI.some_of (v:=v) (o:=mA f) (by rw[←l];exact r f);exact aOm I.kIn O (c.get f) c.hd n hu (uR ru) (h u _ (I.tok _) ru)
theorem iQ{Q:Value×List Value->ν->Prop}(I:Inv X pins σ H s)(e:H a=some (.ins C dx fs))(c:Cls X.K C)(k:Meth X.K C m g)(l:fs.lookup m=none)
  (h:Q (.ref g,[.ref a]) s):xy (yl X.prog X.w) A (Dv (.ref a) m pl) Q E s:=by
 obtain⟨mA,O,r,_,_,_⟩:=pP I.hok e;have hn:mA m=none:=aI.none_of (by rw[←l];exact r m);exact aMw I.kIn O (c.get m) k.at_ k.fn hn h
theorem aEo{Q:Unit->ν->Prop}(I:Inv X pins σ H s)(e:H a=some (.ins C dx fs))(c:Cls X.K C)(n:aX X.K C f)(hl:fs.length<1000)(ry:RelV y u)
  (h:∀s',Inv X pins σ (upd H a (.ins C dx (aN f y fs))) s'->Q () s'):xy (yl X.prog X.w) A (setAttr (.ref a) f u) Q E s:=by
 obtain⟨mA,O,r,wi,_,ho⟩:=pP I.hok e;have hz:(fs.map (·.1)).length<=ψ:=by rw[δ,ym];omega
 refine aOx I.kIn O c.sa c.po n.taker c.hd wi hz fun h' O' sb=>h _ ?_;have hd:∃o,h'.get? dx=some o:=let ⟨o,_,_,e',_⟩:=O'.ns; ⟨o,e'⟩;refine I.write (x:=a) (e:=dx) (by rw[e];exact Ae) (.inr ho) (fun b q hb z=>(sb.2 b hb).trans z) hd ?_;refine⟨by rw[jY O.ne];exact ho,?_,O.ne,O'.obj,_,O'.ns,fun g=>?_,fun g hg=>?_⟩
 ·have:=oC f y fs;omega
 ·show aI ((aN f y fs).lookup g) (if g=f then some u else mA g);rw[fQ]
  by_cases q:g=f
  ·rw[if_pos q,if_pos q];exact ry
  ·rw[if_neg q,if_neg q];exact r g
 ·by_cases q:g=f
  ·rw[q];exact(cR f y fs).1
  ·refine(cR f y fs).2 g (wi g fun z=>hg ?_);show(if g=f then some u else mA g)=none;rw[if_neg q];exact z
theorem Inv.made(I:Inv X pins σ H s):Inv X pins σ (upd (upd H s.heap.objs.size (.own (s.heap.objs.size+1))) (s.heap.objs.size+1) (.ins C s.heap.objs.size []))
  { s with heap:=(s.heap.push PySem.W.emptyDict).push (Bv C s.heap.objs.size) }:=by
 have e1:(s.heap.push PySem.W.emptyDict).get? s.heap.objs.size=some PySem.W.emptyDict:=yf s.heap rfl;have e2:((s.heap.push PySem.W.emptyDict).push (Bv C s.heap.objs.size)).get? (s.heap.objs.size+1)=some (Bv C s.heap.objs.size):=by
  have:=yf (s.heap.push PySem.W.emptyDict) (o:=Bv C s.heap.objs.size) rfl
  rwa [AT]at this
 have e3:(s.heap.push PySem.W.emptyDict).Ns s.heap.objs.size (fun _=>none):=⟨PySem.W.emptyDict,#[],_,e1,rfl,(fun e he=>absurd he (by simp)),fun _=>rfl⟩;have I1:=I.laid (a:=s.heap.objs.size) (o:=.own (s.heap.objs.size+1)) (h':=s.heap.push PySem.W.emptyDict) (t':=s.toks) (fun b u q=>ρ _ q) (μ _) ⟨_,e1⟩;refine I1.laid (a:=s.heap.objs.size+1) (o:=.ins C s.heap.objs.size []) (t':=s.toks) (fun b u q=>ρ _ q) (Nat.le_of_eq (AT _ _)) ?_;have ne:s.heap.objs.size≠s.heap.objs.size+1:=yg (CQ _);refine⟨by rw[jY ne,jO],yq _,ne,e2,fun _=>none,(Ag.Ns1.of_empty e3).at fun o q=>ρ _ q,fun _=>Ae,fun y hy=>absurd rfl hy⟩
theorem aHr(hb:Cb e f env (eval e env)=eval e env)
  (h:xy (yl prog w) A (eval e env) (fun o s₁=>xy (yl prog w) A (getAttr o f true) Q E s₁) E s):xy (yl prog w) A (eval (.Attribute e f pos) env) Q E s :=
 Attribute_any_ h (by rw[arm_eval_Attribute,hb])
end
inductive aLl (K:ω) (f:Str) (Q:VK) (x:V) (H1:Hp):Prop|mk:∀a C dx fs v,x=.ref a->H1 a=some (.ins C dx fs)->Cls K C->aX K C f->fs.lookup f=some v->Q v H1->aLl K f Q x H1
def tFld (K:ω) (ta:TE) (f:Str):TE:=fun σ H Q=>ta σ H fun x H1=>aLl K f Q x H1
def sFld (K:ω) (ta tv:TE) (f:Str):TS:=fun D σ H=>tv σ H fun y H1=>ta σ H1 fun x H2=>∃a C dx fs,x=.ref a/\H2 a=some (.ins C dx fs)/\Cls K C/\aX K C f/\fs.length<1000 ∧
 D.nx σ (upd H2 a (.ins C dx (aN f y fs)))
section
variable {X:Cx}{o e value:Expr}{f:Str}{pos pos' tpos:Pos}{ta tv:TE}
theorem kW(he:PE X e ta)(hb:Cb e f X.env (eval e X.env)=eval e X.env):PE X (.Attribute e f pos) (tFld X.K ta f):=by
 intro pins s σ H Q I h;refine aHr hb (thn (he pins s σ H _ I h) fun u s1 zq=>?_);obtain⟨x,H1,I1,rx,a,C,dx,fs,v,ex,ea,c,n,l,q⟩:=zq;subst ex;obtain rfl:u=yk a:=rx;exact aFc I1 ea c n l fun u' s2 I2 ru=>⟨v,H1,I2,ru,q⟩
theorem xI(ha:PE X o ta)(hv:PE X value tv)(hs:swapsWith value (some (.Attribute o f pos')) pos.line X.env=pure false):PS X (.Assign [.Attribute o f pos'] value pos) (sFld X.K ta tv f):=by
 intro pins s σ H D I h;refine plainObj_wpAny_Assign_Attribute (thn (hv pins s σ H _ I h) fun u s1 ⟨y,H1,I1,ry,q⟩=>thn (ha pins s1 σ H1 _ I1 q) fun ov s2 zq=>?_) hs;obtain⟨x,H2,I2,rx,a,C,dx,fs,ex,ea,c,n,l,q2⟩:=zq;subst ex;obtain rfl:ov=yk a:=rx;exact aEo I2 ea c n l ry fun s3 I3=>⟨σ,_,I3,q2⟩
end
section
variable {X:Cx}{pins:List (Addr×Obj)}{σ:St}{H:Hp}{s:ν}{A:Ak}{E:Value->ν->Prop}{Q:Value->ν->Prop}{c:Value}{b:Bool}
inductive gZ (K:ω) (H:Hp):V->Value->Prop where
 |non:gZ K H .non (.type "NoneType")
 |bl (x:Bool):gZ K H (.bl x) (.type "bool")
 |int (i:Int):gZ K H (.int i) (.type "int")
 |str (x:Str):gZ K H (.str x) (.type "str")
 |flt (x:UInt64):gZ K H (.flt x) (.type "float")
 |lst {a:Addr}{xs:List V}(e:H a=some (.lst xs)):gZ K H (.ref a) (.type "list")
 |frz {a:Addr}{o:Obj}{xs:List V}(e:H a=some (.frz o (.lst xs))):gZ K H (.ref a) (.type "list")
 |tup {a:Addr}{xs:List V}(e:H a=some (.tup xs)):gZ K H (.ref a) (.type "tuple")
 |dK {a:Addr}{kvs:List (Key×V)}(e:H a=some (.dK kvs)):gZ K H (.ref a) (.type "dict")
 |dT {a:Addr}{kvs:List (List Key×V)}(e:H a=some (.dT kvs)):gZ K H (.ref a) (.type "dict")
 |ins {a C dx:Addr}{fs:List (Str×V)}(e:H a=some (.ins C dx fs)) (cl:Cls K C) (ha:Ap K (.ref C) "__class__" = some (some (.builtin "object.__class__")))
   (hn:CD K (.builtin "object.__class__") "__get__" = some (some (.builtin "getset_descriptor.__get__"))) (htk:PySem.W.takesIn K (.builtin "object.__class__")=some true)
   (hm:BD K C (.type "object")=some true):gZ K H (.ref a) (.ref C)
theorem aIr(I:Inv X pins σ H s)(rx:RelV x u)(ty:gZ X.K H x t)(e:AF X.K t c=some b)(h:∀tk,Q (.bool b) { s with toks:=tk }):
  xy (yl X.prog X.w) A (call (.builtin "isinstance") [u,c]) Q E s:=by
 cases ty with
 |non=>cases (show u=Az from rx);exact AN PySem.W.kitx_none I.kIn Ae e (fun z=>nomatch z) h
 |bl y=>cases (show u=Value.bool y from rx);exact AN PySem.W.kitx_bool I.kIn Ae e (fun z=>nomatch z) h
 |int i=>obtain⟨t,q⟩:=(show ∃t,u=Value.int i t from rx);cases q;exact AN PySem.W.kitx_int I.kIn Ae e (fun z=>nomatch z) h
 |str y=>obtain⟨t,q⟩:=(show ∃t,u=Value.str y t from rx);cases q;exact AN PySem.W.kitx_str I.kIn Ae e (fun z=>nomatch z) h
 |flt y=>obtain⟨t,q⟩:=(show ∃t,u=Value.float y t from rx);cases q;exact AN PySem.W.kitx_float I.kIn Ae e (fun z=>nomatch z) h
 | @lst a xs ea =>
  cases (show u=yk a from rx);obtain⟨_,_,n,_,h1⟩:=(show vI X.prog X.w H s.heap a (.lst xs) from I.hok a _ ea);exact AN PySem.W.kitx_list I.kIn ⟨_,h1,rfl⟩ e (fun z=>nomatch z) h
 | @frz a ob xs ea =>
  cases (show u=yk a from rx);obtain⟨_,_,_,n,_,h1⟩:=(show vI X.prog X.w H s.heap a (.frz ob (.lst xs)) from I.hok a _ ea);exact AN PySem.W.kitx_list I.kIn ⟨_,h1,rfl⟩ e (fun z=>nomatch z) h
 | @tup a xs ea =>
  cases (show u=yk a from rx);obtain⟨_,_,_,p⟩:=(show vI X.prog X.w H s.heap a (.tup xs) from I.hok a _ ea);obtain⟨o,h1,h2,_⟩:=p;exact AN PySem.W.kitx_tuple I.kIn ⟨o,h1,h2⟩ e (fun z=>nomatch z) h
 | @dK a kvs ea =>
  cases (show u=yk a from rx);obtain⟨_,_,vs,_,p⟩:=(show vI X.prog X.w H s.heap a (.dK kvs) from I.hok a _ ea);obtain⟨o,es,ep,h1,h2,_⟩:=p;exact AN PySem.W.kitx_dict I.kIn ⟨o,h1,h2.1⟩ e (fun z=>nomatch z) h
 | @dT a kvs ea =>
  cases (show u=yk a from rx);obtain⟨_,_,xs,_,o,es,ep,h1,h2,_⟩:=(show vI X.prog X.w H s.heap a (.dT kvs) from I.hok a _ ea);exact AN PySem.W.kitx_dict I.kIn ⟨o,h1,h2.1⟩ e (fun z=>nomatch z) h
 | @ins a C dx fs ea cl ha hn htk hm =>
  cases (show u=yk a from rx);obtain⟨mA,O,_⟩:=pP I.hok ea;obtain⟨od,J,_⟩:=O.look;exact AN (PySem.W.kitx_own (cl.get _) cl.hd ha hn htk hm) I.kIn J e (fun z=>nomatch z) h
end
structure xF (k:Nat) (A:Ak):Prop where
 hd:A.handled=none
 dp:A.depth+3*k+5<recursionLimit
 un:A.units+16*k+200<Cs
 gd:A.guards=some []
theorem xF.mono{j:Nat}(r:xF k A)(h:j<=k):xF j A:=⟨r.hd,by have:=r.dp;omega,by have:=r.un;omega,r.gd⟩
theorem xF.deeper{k:Nat}(r:xF (k+1) A)(env:Env):xF k (A.deeper env) :=
 ⟨r.hd,by have:=r.dp;show A.depth+1+3*k+5<_;omega,by have:=r.un;show A.units+3+16*k+200<_;omega,r.gd⟩
theorem xF.in1{k:Nat}(r:xF (k+1) A):xF k A.in1 :=
 ⟨r.hd,by have:=r.dp;show A.depth+3*k+5<_;omega,by have:=r.un;show A.units+1+16*k+200<_;omega,r.gd⟩
theorem aFm{A:Ak}{us:List Value}{kw:List (Str×Value)}: (A.under (.builtin "type.__call__" ⟨.ref C::us,kw⟩)).depth=A.depth+1:=by
 first|rfl|simp[Ak.under,Code.weight,Code.isCreation,Code.isGuard,Code.isCaller,Code.frames,Code.isFrame,guardIds]
theorem aFo{A:Ak}{us:List Value}{kw:List (Str×Value)}: (A.under (.builtin "type.__call__" ⟨.ref C::us,kw⟩)).units=A.units+1:=by
 first|rfl|simp[Ak.under,Code.cUnits,Code.frames,Code.isFrame]
theorem aBw{A:Ak}{us:List Value}{kw:List (Str×Value)}: (A.under (.builtin "type.__call__" ⟨.ref C::us,kw⟩)).guards=A.guards:=by
 have hg:guardIds.contains "type.__call__" = false:=by ac_rfl
 have e:Code.guards (.builtin "type.__call__" ⟨.ref C::us,kw⟩)=[]:=by
  unfold Code.guards;rw[if_neg (fun z=>by rw[show Code.isGuard (.builtin "type.__call__" ⟨.ref C::us,kw⟩)=guardIds.contains "type.__call__" from rfl,hg]at z;cases z)]
 unfold Ak.under;rw[e];rfl
theorem xF.make{k:Nat}(r:xF (k+1) A)(C:Addr)(us:List Value)(kw:List (Str×Value)):xF k (A.under (.builtin "type.__call__" ⟨.ref C::us,kw⟩)) :=
 ⟨r.hd,by have:=r.dp;rw[aFm];omega,by have:=r.un;rw[aFo];omega,aBw.trans r.gd⟩
theorem xF.depth(r:xF k A):A.depth<recursionLimit:=by have:=r.dp;omega
theorem xF.units(r:xF k A):A.units+64<Cs:=by have:=r.un;omega
def aEf:TA:=fun _ H Q=>Q [] H
def aFw (ta:TE) (tr:TA):TA:=fun σ H Q=>ta σ H fun x H1=>tr σ H1 fun xs H2=>Q (x::xs) H2
section
variable {X:Cx}{e:Expr}{es:List Expr}{te:TE}{t:TA}{pos:Pos}
theorem jB:PA X [] aEf:=fun _ _ _ _ H Q I h=>Calls.spliced_nil ⟨[],H,I,.nil,h⟩
theorem jA(ha:PE X e te)(hr:PA X es t)(hs:yi (e::es) X.env=(false,eval e X.env)::yi es X.env:=by rfl):PA X (e::es) (aFw te t):=by
 intro pos pins s σ H Q I h;rw[hs];show xy _ _ (spliced ((false,eval e X.env)::BH pos (yi es X.env))) _ _ s;refine Dt (thn (ha pins s σ H _ I h) fun u s1 zq=>?_);obtain⟨x,H1,I1,r1,q1⟩:=zq;exact thn (hr pos pins s1 σ H1 _ I1 q1) fun us s2 ⟨xs,H2,I2,r2,q2⟩=>⟨x::xs,H2,I2,.cons r1 r2,q2⟩
inductive aLr (Q:VK) (xs:List V) (H1:Hp):Prop|mk:xs.length<=ψ->(∀p,H1 p=none->Q (.ref p) (upd H1 p (.tup xs)))->aLr Q xs H1
def tTup (t:TA):TE:=fun σ H Q=>t σ H fun xs H1=>aLr Q xs H1
inductive aLq (Q:VK) (xs:List V) (H1:Hp):Prop|mk:xs.length<=ψ->(∀p,H1 p=none->Q (.ref p) (upd H1 p (.lst xs)))->aLq Q xs H1
def tLst (t:TA):TE:=fun σ H Q=>t σ H fun xs H1=>aLq Q xs H1
theorem qP{x1}(h:PA X es t):PE X (.Tuple es x1 pos) (tTup t):=by
 intro pins s σ H Q I hq;refine wpAny_Tuple_spliced (thn (h pos pins s σ H _ I hq) fun us s1 ⟨xs,H1,I1,r,z,q⟩=>⟨by rw[←r.length];exact z,?_⟩);have hf:H1 s1.heap.objs.size=none:=I1.hok.fresh (μ _);refine⟨.ref s1.heap.objs.size,upd H1 s1.heap.objs.size (.tup xs),I1.laid (t':=s1.toks) (fun b u e=>ρ _ e) (μ _) ?_,rfl,q _ hf⟩;exact⟨z,us,r,⟨_,yf _ rfl,rfl,_,rfl⟩⟩
theorem kK(h:PA X es t):PE X (.List es pos) (tLst t):=by
 intro pins s σ H Q I hq;refine wpAny_List_spliced (thn (h pos pins s σ H _ I hq) fun us s1 ⟨xs,H1,I1,r,z,q⟩=>⟨by rw[←r.length];exact z,?_⟩);have hf:H1 s1.heap.objs.size=none:=I1.hok.fresh (μ _);refine⟨.ref s1.heap.objs.size,upd H1 s1.heap.objs.size (.lst xs),I1.laid (t':=s1.toks) (fun b u e=>ρ _ e) (μ _) ?_,rfl,q _ hf⟩;exact⟨z,us,0,r,yf _ rfl⟩
end
abbrev Sp:=List V->Hp->VK->XK->Prop
abbrev CXT:=List Env->Hp->ν->XK->Value->ν->Prop
structure tX (P:Ao) (w:AD) (K:ω) (mg:Str->Option Value) (base:Ag) (A:Ak) (outer:List Env) (s:ν) (H:Hp):Prop where
 frames:A.frames=some outer
 mod:Mod K mg base
 bs:∀b o,base.get? b=some o->s.heap.get? b=some o/\H b=none
 bsz:base.objs.size<=s.heap.objs.size
 funs:s.heap.FunFrames base outer
 frf:∀b∈frs outer,H b=none
 hok:HOk P w H s.heap
 bare:AllBare s.gens
def CE (outer:List Env) (P:Ao) (w:AD) (H:Hp) (s:ν) (Q:VK) (u:Value) (s':ν):Prop :=
 ∃v H',s'.os=s.os/\AllBare s'.gens/\Un (frs outer) [] H H' s.heap s'.heap/\HOk P w H' s'.heap/\RelV v u/\Q v H'
def CR (CX:CXT) (outer:List Env) (P:Ao) (w:AD) (H:Hp) (s:ν) (Q:VK) (E:XK) (r:Result) (s':ν):Prop :=
 match r with
 |.ok (.ret u)=>CE outer P w H s Q u s'
 |.ok _=>False
 |.error e=>CX outer H s E e s'
structure jI (P:Ao) (w:AD) (K:ω) (mg:Str->Option Value) (base:Ag) (CX:CXT) (k:Nat) (f:Addr) (fd:zb) (ps:List Str) (sp:Sp):Prop where
 len:∀vs H Q E,sp vs H Q E->vs.length=ps.length
 run:∀(A:Ak) (outer:List Env) (s:ν) (H:Hp) (args:Args) (us:List Value) (vs:List V) (Q:VK) (E:XK),xF k A->tX P w K mg base A outer s H->BindsTo s fd args (ps.zip us)->kQ vs us->sp vs H Q E →
  Dr (yl P w) A (.call (.ref f) args) (CR CX outer P w H s Q E) s
theorem jI.mono{K:ω}{k:Nat}(F:jI P w K mg base CX j f fd ps sp)(h:j<=k):
  jI P w K mg base CX k f fd ps sp:=⟨F.len,fun A outer s H args us vs Q E hr=>F.run A outer s H args us vs Q E (hr.mono h)⟩
theorem jI.imp{K:ω}{sp sp':Sp}(F:jI P w K mg base CX k f fd ps sp)
  (h:∀vs H Q E,sp' vs H Q E->sp vs H Q E):jI P w K mg base CX k f fd ps sp' :=
 ⟨fun vs H Q E q=>F.len vs H Q E (h _ _ _ _ q),fun A outer s H args us vs Q E hr he hb hv hs=>F.run A outer s H args us vs Q E hr he hb hv (h _ _ _ _ hs)⟩
theorem tX.make{K:ω}(e:tX P w K mg base A outer s H)(C:Addr)(us:List Value)(kw:List (Str×Value)):
  tX P w K mg base (A.under (.builtin "type.__call__" ⟨.ref C::us,kw⟩)) outer s H:=⟨by first|exact e.frames|(simpa [Ak.under,Code.envs,Code.isFrame,pushEnvs] using e.frames),e.mod,e.bs,e.bsz,e.funs,e.frf,e.hok,e.bare⟩
theorem tX.in1{K:ω}(e:tX P w K mg base A outer s H):
  tX P w K mg base A.in1 outer s H:=⟨e.frames,e.mod,e.bs,e.bsz,e.funs,e.frf,e.hok,e.bare⟩
section
variable {X:Cx}{pins:List (Addr×Obj)}{σ:St}{H:Hp}{s s':ν}
theorem Inv.env0(I:Inv X pins σ H s):tX X.prog X.w X.K X.mg X.base X.A X.stack s H :=
 ⟨I.ok.frames,I.ok.mod,I.bs,yo I.ok.bsz I.sz,I.stack,I.stkFree,I.hok,I.bare⟩
theorem Inv.after(I:Inv X pins σ H s)(h:CE X.stack X.prog X.w H s Q u s'):EP X pins σ Q u s':=by
 obtain⟨v,H',os,bare,un,hok,r,q⟩:=h;obtain⟨hh,g,d,t,os'⟩:=s';obtain rfl:os'=s.os:=os;exact⟨v,H',I.call (h':=hh) (g':=g) (d':=d) (t':=t) (ch:=[]) un hok bare (fun b z=>absurd z (by simp)),r,q⟩
end
def aLu (sp:Sp) (dvs:List V) (E:XK) (t:TA):TE:=fun σ H Q=>t σ H fun vs H1=>sp (vs++dvs) H1 Q E
def tMeth (C:Addr) (m:Str) (sp:Sp) (dvs:List V) (E:XK) (ta:TE) (t:TA):TE:=fun σ H Q=>ta σ H fun x H1=>∃a dx fs,x=.ref a/\H1 a=some (.ins C dx fs)/\fs.lookup m=none ∧
 t σ H1 fun vs H2=>sp (x::(vs++dvs)) H2 Q E
def tMake (C:Addr) (sp:Sp) (dvs:List V) (E:XK) (t:TA):TE:=fun σ H Q=>t σ H fun vs H1=>∀x dx,H1 x=none->H1 dx=none->dx≠x →
 sp (.ref x::(vs++dvs)) (upd (upd H1 dx (.own x)) x (.ins C dx [])) (fun v H2=>v=.non/\Q (.ref x) H2) E
def Binds (K:ω) (fd:zb) (ps:List Str) (ds:List Value):Prop :=
 ∀(s:ν) (us:List Value),K.In s.heap->(us++ds).length=ps.length->BindsTo s fd ⟨us,[]⟩ (ps.zip (us++ds))
theorem Binds.all{K:ω}{ps:List Str}(h:∀us:List Value,us.length=ps.length->bindArgs fd ⟨us,[]⟩=pure (ps.zip us)):Binds K fd ps []:=fun s us _ hl=>by
 rw[zh]at hl ⊢;exact .of_eq (h us hl)
def zZ (CX:CXT) (X:Cx) (E:XK):Prop:=∀(pins:List (Addr×Obj)) (σ:St) (H:Hp) (s:ν) (e:Value) (s':ν),Inv X pins σ H s->CX X.stack H s E e s'->X.xe e s'
section
variable {X:Cx}{CX:CXT}{k:Nat}{f C:Addr}{fd:zb}{ps:List Str}{sp:Sp}{dvs:List V}{ds:List Value}{E:XK}{x m:Str}{p pos apos:Pos}{e o:Expr}{es:List Expr}{ta:TE}{t:TA}
theorem rB{Q:VK}(F:jI X.prog X.w X.K X.mg X.base CX k f fd ps sp)(hr:xF k X.A)(hb:Binds X.K fd ps ds)(hd:kQ dvs ds)(hx:zZ CX X E)
  (I:Inv X pins σ H s)(r:kQ vs us)(h:sp (vs++dvs) H Q E):xy (yl X.prog X.w) X.A (call (.ref f) us) (EP X pins σ Q) X.xe s:=by
 have r2:kQ (vs++dvs) (us++ds):=r.append hd;have hl:(us++ds).length=ps.length:=by rw[←r2.length];exact F.len _ _ _ _ h
 refine wpAny_call (Dz (F.run X.A X.stack s H ⟨us,[]⟩ (us++ds) (vs++dvs) Q E hr I.env0 (hb s us I.kIn hl) r2 h) fun r s' hq=>?_);cases r with
 |error e=>exact hx pins σ H s e s' I hq
 |ok fl =>
  cases fl with
  |ret u=>exact I.after hq
  |next=>exact zi hq
  |brk=>exact zi hq
  |cont=>exact zi hq
theorem jK(F:jI X.prog X.w X.K X.mg X.base CX k f fd ps sp)(hr:xF k X.A)(hg:Gl X x)(hm:X.mg x=some (.ref f))(hk:keepIn X.K (.ref f)=true)(hb:Binds X.K fd ps ds)(hd:kQ dvs ds)(hx:zZ CX X E)
  (ha:PA X (e::es) t)(hdb:(x == ("__debug__" : Str))=false:=by decide)(he:yi (e::es) X.env=(false,eval e X.env)::yi es X.env:=by rfl)(hpl:(BH pos (yi es X.env)).any (·.1)=false:=by rfl):
  PE X (.Call (.Name x p) (e::es) [] pos) (aLu sp dvs E t):=by
 intro pins s σ H Q I h;refine AW (gL I hg hm ?_ hdb);refine BJ (h₀:=X.base) I.ok.mod.kin hk (thn (ha pos pins s σ H _ I h) fun us s1 ⟨vs,H1,I1,r,q⟩=>⟨I1.kIn,?_⟩) he hpl;exact rB F hr hb hd hx I1 r q
theorem yB(he:PE X o ta)(c:Cls X.K C)(hm:Meth X.K C m f)(F:jI X.prog X.w X.K X.mg X.base CX k f fd ps sp)(hr:xF k X.A)(hb:Binds X.K fd ps ds)(hd:kQ dvs ds)(hx:zZ CX X E)
  (ht:eval (.Call (.Attribute o m apos) [] [] pos) X.env=(do
   let ov ←eval o X.env
   standAt apos.atName
   let (f,first) ←holding [ov] (Dv ov m pl)
   callWith pos f first (BH pos (yi [] X.env)) (backToKw pos (CH [] X.env))):=by rfl):
  PE X (.Call (.Attribute o m apos) [] [] pos) (tMeth C m sp dvs E ta aEf):=by
 intro pins s σ H Q I h;refine BM (pl:=pl) (thn (he pins s σ H _ I h) fun u s1 zq=>?_) ht;obtain⟨x,H1,I1,rx,a,dx,fs,ex,ea,l,q⟩:=zq;subst ex;obtain rfl:u=yk a:=rx;refine iQ I1 ea c hm l ?_;exact PySem.W.callWith_K0 (first:=[.ref a]) I1.kIn hm.kp (rB (us:=[.ref a]) (vs:=[.ref a]) F hr hb hd hx I1 (.cons rfl .nil) q)
structure Mk (K:ω) (C f:Addr):Prop where
 makes:PySem.W.makesIn K C=true
 init:Ap K (.ref C) "__init__" = some (some (.ref f))
 fn:isFn K (.ref f)=true
 kp:keepIn K (.ref C)=true
theorem aMi{H:Hp}{Q:VK}(M:Mk X.K C f)(F:jI X.prog X.w X.K X.mg X.base CX k f fd ps sp)(hr:xF (k+1) X.A)(hb:Binds X.K fd ps ds)(hd:kQ dvs ds)
  (hx:zZ CX X E)(I:Inv X pins σ H s)(r:kQ vs us)
  (h:∀x dx,H x=none->H dx=none->dx≠x->sp (.ref x::(vs++dvs)) (upd (upd H dx (.own x)) x (.ins C dx [])) (fun v H2=>v=.non/\Q (.ref x) H2) E):
  xy (yl X.prog X.w) X.A (call (.ref C) us) (EP X pins σ Q) X.xe s:=by
 have hq:=h (s.heap.objs.size+1) s.heap.objs.size (I.hok.fresh (BE _)) (I.hok.fresh (μ _)) (yg (CQ _));have I2:=Inv.made (C:=C) I;have r2:kQ (V.ref (s.heap.objs.size+1)::(vs++dvs)) (yk (s.heap.objs.size+1)::(us++ds)):=.cons rfl (r.append hd);have hl:(yk (s.heap.objs.size+1)::us++ds).length=ps.length:=by
  have e:=r2.length;rw[F.len _ _ _ _ hq]at e;exact e.symm
 refine wpAny_call (aMx (f:=f) I.kIn M.makes M.init (beq_iff_eq.mp M.fn) (Dz (F.run _ X.stack _ _ ⟨yk (s.heap.objs.size+1)::us,[]⟩ (yk (s.heap.objs.size+1)::(us++ds)) _ _ E (hr.make C us [])
  (I2.env0.make C us []) (hb _ (yk (s.heap.objs.size+1)::us) I2.kIn hl) r2 hq) fun r s' hq'=>?_))
 cases r with
 |error e=>exact hx pins σ _ _ e s' I2 hq'
 |ok fl =>
  cases fl with
  |ret u =>
   obtain⟨v,H',I3,rv,ev,q3⟩:=I2.after hq';subst ev;exact⟨rv,⟨V.ref (s.heap.objs.size+1),H',I3,rfl,q3⟩⟩
  |next=>exact zi hq'
  |brk=>exact zi hq'
  |cont=>exact zi hq'
theorem xH(M:Mk X.K C f)(F:jI X.prog X.w X.K X.mg X.base CX k f fd ps sp)(hr:xF (k+1) X.A)(hg:Gl X x)(hm:X.mg x=some (.ref C))(hb:Binds X.K fd ps ds)(hd:kQ dvs ds)(hx:zZ CX X E)
  (ha:PA X (e::es) t)(hdb:(x == ("__debug__" : Str))=false:=by decide)(he:yi (e::es) X.env=(false,eval e X.env)::yi es X.env:=by rfl)(hpl:(BH pos (yi es X.env)).any (·.1)=false:=by rfl):
  PE X (.Call (.Name x p) (e::es) [] pos) (tMake C sp dvs E t):=by
 intro pins s σ H Q I h;refine AW (gL I hg hm ?_ hdb);refine BJ (h₀:=X.base) I.ok.mod.kin M.kp (thn (ha pos pins s σ H _ I h) fun us s1 ⟨vs,H1,I1,r,q⟩=>⟨I1.kIn,?_⟩) he hpl;exact aMi M F hr hb hd hx I1 r q
end
structure jN (N P:List Str) (sc:Scope):Prop where
 kind:sc.kind=.function
 co:sc.isCoroutine=false
 gen:sc.isGenerator=false
 nd:N.Nodup
 pre:N.take P.length=P
 par:∀x∈P,sc.names.lookup x=some .local\/sc.names.lookup x=some .cell
 nofree:∀y∈sc.names,y.2≠.free
theorem uX{kindOf:Str->Option NameKind}{x:Str}: ∀{binds:List (Str×Value)}{m:Str->Option Value},(∀v,(x,v)∉binds)->bindL kindOf binds m x=m x
 |[],_,_=>rfl
 | (n,v)::r,m,h=>by
  unfold bindL;rw[uX fun w hw=>h w (yc _ hw)]
  split
  ·have:x≠n:=by rintro rfl;exact h v Ψ
   simp[this]
  ·rfl
theorem wE{kindOf:Str->Option NameKind}{x:Str}: ∀{binds:List (Str×Value)}{m:Str->Option Value},(∀v,(x,v)∉binds)->bindC kindOf binds m x=m x
 |[],_,_=>rfl
 | (n,v)::r,m,h=>by
  unfold bindC;rw[wE fun w hw=>h w (yc _ hw)]
  split
  ·rfl
  ·have:x≠n:=by rintro rfl;exact h v Ψ
   simp[this]
theorem uT{kindOf:Str->Option NameKind}: ∀{P:List Str}{vs:List Value}{i:Nat}{m:Str->Option Value},P.Nodup->P[i]?=some x->vs[i]?=some v->kindOf x=some .local →
  bindL kindOf (P.zip vs) m x=some v
 |[],_,_,_,_,h,_,_=>by simp at h
 |_::_,[],_,_,_,_,h,_=>by simp at h
 |p::P,w::vs,0,m,nd,h1,h2,hk=>by
  simp at h1 h2;subst h1;subst h2;show bindL kindOf ((p,w)::P.zip vs) m p=_;unfold bindL;rw[uX fun v hv=>(BS.mp nd).1 (List.of_mem_zip hv).1,if_pos hk];simp
 |p::P,w::vs,i+1,m,nd,h1,h2,hk=>by
  show bindL kindOf ((p,w)::P.zip vs) m x=_;unfold bindL;exact uT (i:=i) (BS.mp nd).2 (by simpa using h1) (by simpa using h2) hk
theorem uM{kindOf:Str->Option NameKind}: ∀{P:List Str}{vs:List Value}{i:Nat}{m:Str->Option Value},P.Nodup->P[i]?=some x->vs[i]?=some v->kindOf x≠some .local →
  bindC kindOf (P.zip vs) m x=some v
 |[],_,_,_,_,h,_,_=>by simp at h
 |_::_,[],_,_,_,_,h,_=>by simp at h
 |p::P,w::vs,0,m,nd,h1,h2,hk=>by
  simp at h1 h2;subst h1;subst h2;show bindC kindOf ((p,w)::P.zip vs) m p=_;unfold bindC;rw[wE fun v hv=>(BS.mp nd).1 (List.of_mem_zip hv).1,if_neg hk];simp
 |p::P,w::vs,i+1,m,nd,h1,h2,hk=>by
  show bindC kindOf ((p,w)::P.zip vs) m x=_;unfold bindC;exact uM (i:=i) (BS.mp nd).2 (by simpa using h1) (by simpa using h2) hk
def start (N:List Str) (vs:List V):St:=vs.map some++Ac (N.length-vs.length) none
def lW (CX:CXT) (P:Ao) (w:AD) (K:ω) (mg:Str->Option Value) (base:Ag) (N:List Str) (qual:Str) (scope:Scope) (f:Addr) (cd:Value) (A:Ak) (outer:List Env) (s:ν) (H:Hp) (E:XK):Cx where
 prog:=P
 w:=w
 K:=K
 mg:=mg
 base:=base
 A:=A.deeper (envOfC qual scope s.heap.objs.size f cd)
 N:=N
 s₀:=s
 H₀:=H
 env:=envOfC qual scope s.heap.objs.size f cd
 outer:=outer
 stack:=envOfC qual scope s.heap.objs.size f cd::outer
 ex:=[]
 calm:=true
 fn:=fun _=>true
 pn:=[]
 xe:=fun e s'=>xy (yl P w) (A.deeper (envOfC qual scope s.heap.objs.size f cd)) (leaving (envOfC qual scope s.heap.objs.size f cd) e) (fun _ s''=>CX outer H s E e s'') (fun e' s''=>CX outer H s E e' s'') s'
theorem aCn{sc:Scope}(h:sc.names.lookup x=some .cell):∃c,(cellsFrom n sc.names []).lookup x=some c:=by
 have q:=PySem.W.cellsFrom_some sc.names n [] (.inl h);exact Bo.mp q
theorem aJc{K:ω}{A:Ak}{vs:List V}
  (S:jN N ps scope)(hd:A.handled=none)(e0:tX P w K mg base A outer s H)(hl:vs.length=ps.length)(r:kQ vs us)
  (x:InCallC s s.heap.objs.size (bindL (envOfC qual scope s.heap.objs.size f cd).kindOf (ps.zip us) fun _=>none) (cellsFrom (s.heap.objs.size+1) scope.names []) (bindC (envOfC qual scope s.heap.objs.size f cd).kindOf (ps.zip us) fun _=>none) s1):
  Inv (lW CX P w K mg base N qual scope f cd A outer s H E) [] (start N vs) H s1:=by
 have hpl:ps.length<=N.length:=by have:=congrArg List.length S.pre;rw[yh]at this;omega
 obtain⟨h1,tk,rfl,hk⟩:=x.done;have noA:∀b:Addr,b∉(lW CX P w K mg base N qual scope f cd A outer s H E).ex:=fun b z=>absurd (show b∈([]:List Addr) from z) (by simp);refine⟨⟨e0.mod,S.kind,rfl,rfl,μ _,fun y z c h1 h2=>?_,fun y hy=>?_,fun y c _ h=>?_,fun _=>hd,Ak.frames_deeper e0.frames,.inr ⟨rfl,rfl⟩,fun b z=>absurd z (noA b),e0.bs,e0.bsz,fun b _ _=>noA b,fun b z=>absurd z (noA b),e0.funs,e0.frf⟩,
  rfl,e0.bare,Un.kept hk,⟨_,x.toInCall.ns,fun i y v h1 h2 h3=>?_⟩,fun y c h=>⟨_,x.cell y c h⟩,e0.hok.fresh (μ _),fun y c h=>?_,fun p hp=>absurd (show p∈([]:List (Addr×Obj)) from hp) (by simp),e0.hok.kept hk,?_⟩
 ·exact name_of_addr x.apart (Au h1) (Au h2)
 ·have hy:scope.names.lookup y=some .cell\/scope.names.lookup y=some .free:=hy;rcases hy with hy|hy
  ·exact aCn hy
  ·exact absurd rfl (S.nofree _ (Au hy))
 ·exact Bn (x.above y c (Au h))
 ·have hi:i<vs.length:=by
   unfold start at h2
   by_cases hi:i<vs.length
   ·exact hi
   ·rw[yb (by simpa using hi)]at h2;rw[List.getElem?_replicate]at h2
    split at h2 <;> cases h2
  have ha:vs[i]?=some v:=by
   unfold start at h2;rw[yr (by simpa using hi),yv]at h2;cases e:vs[i]? with
   |none=>rw[e]at h2;cases h2
   |some a=>rw[e]at h2;cases h2;rfl
  obtain⟨u,hu,rv⟩:=r.get ha;have hp:ps[i]?=some y:=by
   rw[←S.pre,Bp (by omega)];exact h1
  have ndP:ps.Nodup:=by rw[←S.pre];exact S.nd.sublist (List.take_sublist _ _)
  refine⟨u,rv,?_⟩;rcases S.par y (ο hp) with k|k
  ·exact .inl ⟨k,uT ndP hp hu k⟩
  ·obtain⟨c,e⟩:=aCn (n:=s.heap.objs.size+1) k;refine .inr ⟨.inl k,c,e,?_⟩;have q:=x.cell y c e;rw[uM ndP hp hu (by show scope.names.lookup y≠_;rw[k];decide)]at q;exact q
 ·exact e0.hok.fresh (Bn (x.above y c (Au h)))
 ·unfold start;show _=N.length;rw[ι,δ,Bg];omega
theorem aPt{CX:CXT}{P:Ao}{w:AD}{K:ω}{mg:Str->Option Value}{base:Ag}{k:Nat}{f:Addr}{name qual:Str}{params:Arguments}{body:List Stmt}{scope:Scope}{dV kV doc pm cdv ct oc:Value}{an od:Option Addr}
  {osl:Array (Option Value)}{N ps:List Str}{sp:Sp}(lk:K.lookup f=some ⟨oc,od,.func (fnOf name qual params body scope dV kV doc pm an cdv ct),osl⟩)(hcd:codeIn K cdv qual=true)(S:jN N ps scope)
  (len:∀vs H Q E,sp vs H Q E->vs.length=ps.length)
  (hbody:∀(A:Ak) (outer:List Env) (s:ν) (H:Hp) (vs:List V) (Q:VK) (E:XK),xF k (A.deeper (envOfC qual scope s.heap.objs.size f cdv))->sp vs H Q E →
   ∃t,PSs (lW CX P w K mg base N qual scope f cdv A outer s H E) body t/\t { nx:=fun _ H'=>Q .non H',rt:=Q } (start N vs) H):
  jI P w K mg base CX (k+1) f (fnOf name qual params body scope dV kV doc pm an cdv ct) ps sp:=by
 refine⟨len,fun A outer s H args us vs Q E hr e0 hb r hsp=>?_⟩;have hl:=len _ _ _ _ hsp;have KX:K.In s.heap:=e0.mod.kin.keeps fun b o e=>(e0.bs b o e).1;have lim:s.heap.NoLimit:=e0.mod.nolimit.keeps fun b o e=>(e0.bs b o e).1;have hkind:∀y∈ps.zip us,scope.names.lookup y.1=some .local\/(scope.names.lookup y.1=some .cell/\((cellsFrom (s.heap.objs.size+1) scope.names []).lookup y.1).isSome=true):=fun ⟨n,v⟩ hy=>by
  rcases S.par n (List.of_mem_zip hy).1 with q|q
  ·exact .inl q
  ·exact .inr ⟨q,PySem.W.cellsFrom_some _ _ _ (.inl q)⟩
 refine codeAny_call_function hr.depth (KX _ _ lk) rfl S.co S.gen rfl (PySem.W.codeRec_of KX hcd) (hb _ _ _ _ ?_);refine wpAny_newFunctionEnv_cells S.kind hkind fun env he s1 x=>?_;subst he;refine⟨lim.keeps x.toInCall.keep,codeAny_func ?_⟩;obtain⟨t,ht,hq⟩:=hbody A outer s H vs Q E (hr.deeper _) hsp;have I:Inv (lW CX P w K mg base N qual scope f cdv A outer s H E) [] (start N vs) H s1:=aJc S hr.hd e0 hl r x;refine Ad (ht [] s1 (start N vs) H _ I hq) (fun fl s' hs=>?_) fun e s' hs=>hs;have fin:∀{σ':St}{H':Hp}{v:V}{u:Value},Inv (lW CX P w K mg base N qual scope f cdv A outer s H E) [] σ' H' s'->RelV v u->Q v H'->CE outer P w H s Q u s' :=
  fun {σ' H' v u} J rv q=>⟨v,H',J.os,J.bare,J.base,J.hok,rv,q⟩
 cases fl with
 |ret u =>
  obtain⟨v,σ',H',J,rv,q⟩:=hs;exact fin J rv q
 |next =>
  obtain⟨σ',H',J,q⟩:=hs;exact fin (v:=V.non) (u:=Az) J rfl q
 |brk =>
  obtain⟨_,_,_,q⟩:=hs;exact zi q
 |cont =>
  obtain⟨_,_,_,q⟩:=hs;exact zi q
section
variable {X:Cx}{x:Str}{p pos:Pos}{e:Expr}{es:List Expr}{t:TA}{id T:String}{r:List V->Hp->VK->Prop}
def tCB (r:List V->Hp->VK->Prop) (t:TA):TE:=fun σ H Q=>t σ H fun vs H1=>r vs H1 Q
theorem jZ(hc:xD X (.builtin id) r)(hg:Gl X x)(hm:X.mg x=none)(hv:AV x=some (.builtin id))(ha:PA X (e::es) t)(hn:x ≠ "__name__":=by decide)(hdb:(x == ("__debug__" : Str))=false:=by decide)
  (he:yi (e::es) X.env=(false,eval e X.env)::yi es X.env:=by rfl)(hpl:(BH pos (yi es X.env)).any (·.1)=false:=by rfl):PE X (.Call (.Name x p) (e::es) [] pos) (tCB r t):=by
 intro pins s σ H Q I h;refine AW (eN I hg hm hv ?_ hn hdb);exact DS (thn (ha pos pins s σ H _ I h) fun us s1 ⟨vs,H1,I1,r1,q1⟩=>hc pins s1 σ H1 vs us Q I1 r1 q1) he hpl
theorem qR(hc:xD X (.type T) r)(hg:Gl X x)(hm:X.mg x=none)(hv:AV x=some (.type T))(ha:PA X (e::es) t)(hn:x ≠ "__name__":=by decide)(hdb:(x == ("__debug__" : Str))=false:=by decide)
  (he:yi (e::es) X.env=(false,eval e X.env)::yi es X.env:=by rfl)(hpl:(BH pos (yi es X.env)).any (·.1)=false:=by rfl):PE X (.Call (.Name x p) (e::es) [] pos) (tCB r t):=by
 intro pins s σ H Q I h;refine AW (eN I hg hm hv ?_ hn hdb);exact AJ (thn (ha pos pins s σ H _ I h) fun us s1 ⟨vs,H1,I1,r1,q1⟩=>hc pins s1 σ H1 vs us Q I1 r1 q1) he hpl
end
end L2
namespace HT
open PySem PyProof.Rows
section
open PySem.SeqAt
open PySem.AutoSeq1 (wpAny_loadPart')
open PySem.MeetsSeq PySem.MeetsSeq2 PySem.MeetsSeq3
end
section
variable {prog:Ao}{w:AD}{A:Ak}{E:Value->ν->Prop}{s:ν}
theorem cat_tup{vs ws:List Value}{Q:Value->ν->Prop}(ht:IsTup s.heap t vs.toArray)(hb:IsTup s.heap b ws.toArray)(hv:vs≠[])
  (h1:ws=[]->Q (.ref t) s)(h2:ws≠[]->Q (.ref s.heap.objs.size) { s with heap:=s.heap.push { cls:=.type "tuple",data:=.seq (vs++ws).toArray } })
  (hsz:vs.length+ws.length<=ψ):xy (yl prog w) A (BX .Add (.ref t) (.ref b)) Q E s:=by
 obtain⟨⟨cls,dd,data,sl⟩,ho,hc,n,hd⟩:=id ht;obtain⟨⟨cls2,dd2,data2,sl2⟩,ho2,hc2,n2,hd2⟩:=id hb;simp only at hc hd hc2 hd2;subst hc hd hc2 hd2;have e:vs.toArray++ws.toArray=(vs++ws).toArray:=by simp
 by_cases hw:ws=[]
 ·exact concat_meets ⟨_,ho,rfl⟩ ⟨_,ho2,rfl⟩ noFill_tuple_add seq_tuple_add DA Dw (Dh _ _)
   (tuple_addW1 t b vs.toArray ws.toArray n n2 dd dd2 sl sl2 (by simpa using hv) (by simp[hw])) ⟨ho,ho2,h1 hw⟩
 ·refine concat_meets ⟨_,ho,rfl⟩ ⟨_,ho2,rfl⟩ noFill_tuple_add seq_tuple_add DA Dw (Dh _ _)
   (tuple_addW2 t b vs.toArray ws.toArray n n2 dd dd2 sl sl2 (by simpa using hv) (by simpa using hw) (by rw[υ,υ];exact hsz)) ⟨ho,ho2,?_⟩
  rw[e];exact h2 hw
def sIx (n d:Nat):Option Int->Nat
 |none=>d
 |some v=>if v<0 then (v+(n:Int)).toNat else min v.toNat n
theorem sIx_none(n d:Nat):sIx n d none=d:=rfl
theorem sIx_nat(n d k:Nat):sIx n d (some (k:Int))=min k n:=by
 show(if (k:Int)<0 then ((k:Int)+(n:Int)).toNat else min (k:Int).toNat n)=min k n;rw[if_neg (by omega),Int.toNat_natCast]
end
end HT
namespace L2
open PySem PySem.Spec PyProof.Rows
abbrev TO:=St->Hp->(Option Int->Hp->Prop)->Prop
def PO (X:Cx) (e:Option Expr) (t:TO):Prop :=
 ∀(pins:List (Addr×Obj)) (s:ν) (σ:St) (H:Hp) (Q:Option Int->Hp->Prop),Inv X pins σ H s->t σ H Q →
  xy (yl X.prog X.w) X.A (evalPart e X.env) (fun u s'=>∃o H',Inv X pins σ H' s'/\IsPart u o/\Q o H') X.xe s
def aAv:TO:=fun _ H Q=>Q none H
inductive aHe (Q:Option Int->Hp->Prop) (x:V) (H1:Hp):Prop|mk:∀i,x=.int i->Q (some i) H1->aHe Q x H1
def aKh (t:TE):TO:=fun σ H Q=>t σ H fun x H1=>aHe Q x H1
theorem intsAre_of{ns:List Int}: ∀{us:List Value},kQ (ns.map V.int) us->IntsAre us ns:=by
 induction ns with
 |nil=>intro us r;rw[List.map_nil]at r;cases r;exact .nil
 |cons n ns ih =>
  intro us r;rw[zm]at r;cases r with
  |cons r1 r2 =>
   obtain⟨t,e⟩:=r1;subst e;exact .cons n t (ih r2)
section
variable {X:Cx}{e:Expr}{te:TE}{lo hi:Option Expr}{tl th:TO}{pos p2:Pos}
theorem qU:PO X none aAv:=by
 intro pins s σ H Q I h;rw[evalPart_none];exact Θ ⟨none,H,I,.none,h⟩
theorem qE(h:PE X e te):PO X (some e) (aKh te):=by
 intro pins s σ H Q I hw;rw[evalPart_some];refine thn (h pins s σ H _ I hw) fun u s1 zq=>?_;obtain⟨x,H1,I1,r1,q1⟩:=zq;obtain⟨i,rfl,q⟩:=q1;obtain⟨t,rfl⟩:=r1;exact⟨some i,H1,I1,.int i t,q⟩
def SlR (X:Cx) (r:V->Option Int->Option Int->Hp->VK->Prop):Prop :=
 ∀(pins:List (Addr×Obj)) (s:ν) (σ:St) (H:Hp) (x:V) (v vl vu:Value) (lo hi:Option Int) (sl:Addr) (Q:VK),Inv X pins σ H s->RelV x v->s.heap.IsSliceOf sl vl vu .none->IsPart vl lo->IsPart vu hi->r x lo hi H Q →
  ∃T id,CI (.type T) "__getitem__" = pure (some (.builtin id))/\s.TypeIs v T/\xy (yl X.prog X.w) X.A (getItem v (.ref sl)) (EP X pins σ Q) X.xe s
theorem SlR.or{r r':V->Option Int->Option Int->Hp->VK->Prop}(h:SlR X r)(h':SlR X r'):SlR X (fun x lo hi H Q=>r x lo hi H Q\/r' x lo hi H Q):=by
 intro pins s σ H x v vl vu lo hi sl Q I rx hs pl pu q;rcases q with q|q
 ·exact h pins s σ H x v vl vu lo hi sl Q I rx hs pl pu q
 ·exact h' pins s σ H x v vl vu lo hi sl Q I rx hs pl pu q
def tSl (r:V->Option Int->Option Int->Hp->VK->Prop) (te:TE) (tl th:TO):TE:=fun σ H Q=>te σ H fun x H1=>tl σ H1 fun l H2=>th σ H2 fun u H3=>r x l u H3 Q
theorem kZ(hr:SlR X r)(he:PE X e te)(hl:PO X lo tl)(hu:PO X hi th):PE X (.Subscript e (.Slice lo hi none p2) pos) (tSl r te tl th):=by
 intro pins s σ H Q I h;refine Subscript_ (thn (he pins s σ H _ I h) fun v s1 zq=>?_);obtain⟨x,H1,I1,r1,q1⟩:=zq;refine wpAny_Slice (thn (hl pins s1 σ H1 _ I1 q1) fun vl s2 ⟨l,H2,I2,pl,q2⟩=>thn (hu pins s2 σ H2 _ I2 q2) fun vu s3 zq=>?_);obtain⟨u,H3,I3,pu,q3⟩:=zq;rw[evalPart_none];refine Θ ?_;have I4:Inv X pins σ H3 { s3 with heap:=s3.heap.push { cls:=.type "slice",data:=.fields #[vl,vu,.none] } }:=I3.kept (t':=s3.toks) fun b ob q=>ρ _ q;obtain⟨T,id,hT,ht,hg⟩:=hr pins { s3 with heap:=s3.heap.push { cls:=.type "slice",data:=.fields #[vl,vu,.none] } } σ H3 x v vl vu l u s3.heap.objs.size Q I4 r1 (Ag.IsSliceOf.new ..) pl pu q3;show xy (yl X.prog X.w) X.A (subscriptTail e (.Slice lo hi none p2) v (.ref s3.heap.objs.size)) (EP X pins σ Q) X.xe { s3 with heap:=s3.heap.push { cls:=.type "slice",data:=.fields #[vl,vu,.none] } };exact tail_any (ops:=[.ref s3.heap.objs.size,v]) ht hT hg (by with_unfolding_all rfl)
def zW (xs:List V) (lo hi:Option Int):List V:=(xs.drop (HT.sIx xs.length 0 lo)).take (HT.sIx xs.length xs.length hi-HT.sIx xs.length 0 lo)
theorem nZ(xs:List V)(lo hi:Option Int):(zW xs lo hi).length<=xs.length:=by
 unfold zW;rw[yh,DT];omega
def rCatT (K:ω):R2:=fun x y H Q=>∃a b xs ys,x=.ref a/\y=.ref b/\SqT K H a xs/\SqT K H b ys/\xs≠[]/\xs.length+ys.length<=ψ ∧
 (ys=[]->Q (.ref a) H)/\(ys≠[]->∀p,H p=none->Q (.ref p) (upd H p (.tup (xs++ys))))
theorem kQ.nil_iff(r:kQ xs us):us=[] ↔ xs=[]:=by
 cases r with
 |nil=>simp
 |cons _ _=>simp
theorem aOr:OpR X (BX .Add) (rCatT X.K):=by
 intro pins s σ H x y v u Q I rx ry h;obtain⟨a,b,xs,ys,rfl,rfl,ha,hb,hx,hz,q1,q2⟩:=h;cases rx;cases ry;obtain⟨its,r1,p1,_⟩:=I.tuple ha;obtain⟨its2,r2,p2,_⟩:=I.tuple hb;refine HT.cat_tup p1 p2 (fun z=>hx (r1.nil_iff.mp z)) (fun z=>⟨.ref a,H,I,rfl,q1 (r2.nil_iff.mp z)⟩) (fun z=>?_) (by rw[←r1.length,←r2.length];exact hz);refine⟨.ref s.heap.objs.size,_,I.laid (t':=s.toks) (o:=.tup (xs++ys)) (fun b ob q=>ρ _ q) (μ _) ?_,rfl,q2 (fun w=>z (r2.nil_iff.mpr w)) _ (I.hok.fresh (μ _))⟩;exact⟨by rw[ι];exact hz,_,r1.append r2,IsTup.new _ _⟩
end
def ixN (n:Nat) (i:Int):Option Nat:=if 0<=i then (if i<n then some i.toNat else none) else if -(n:Int)<=i then some (i+n).toNat else none
def atI {α : Type}(xs:List α) (i:Int):Option α:=(ixN xs.length i).bind fun j=>xs[j]?
theorem aGc{i:Int}(h:ixN n i=some j):seqIndex? i n=some j/\j<n/\-(n:Int)<=i/\i<n:=by
 unfold ixN at h
 by_cases h0 : 0<=i
 ·rw[if_pos h0]at h
  by_cases h1:i<n
  ·rw[if_pos h1]at h;have e:i.toNat=j:=zc h;exact⟨by rw[seqIndex_of h0 h1,e],by omega,by omega,h1⟩
  ·rw[if_neg h1]at h;cases h
 ·rw[if_neg h0]at h
  by_cases h1 : -(n:Int)<=i
  ·rw[if_pos h1]at h;have e:(i+n).toNat=j:=zc h;exact⟨by rw[seqIndex_neg (by omega) h1,e],by omega,h1,by omega⟩
  ·rw[if_neg h1]at h;cases h
theorem aAs{α : Type}{xs:List α}{i:Int}{v : α}(h:atI xs i=some v):∃j,seqIndex? i xs.length=some j/\xs[j]?=some v/\j<xs.length/\-(xs.length:Int)<=i/\i<xs.length:=by
 unfold atI at h;cases e:ixN xs.length i with
 |none=>rw[e]at h;cases h
 |some j =>
  rw[e]at h;obtain⟨h1,h2,h3,h4⟩:=aGc e;exact⟨j,h1,h,h2,h3,h4⟩
theorem zI{α : Type}{xs:List α}{j:Nat}{v : α}(h:xs[j]?=some v):atI xs (j:Int)=some v:=by
 have hj:j<xs.length:=(θ.mp h).1;have e:ixN xs.length (j:Int)=some j:=by
  unfold ixN;rw[if_pos (by omega),if_pos (by omega)];simp
 unfold atI;rw[e];exact h
def aNq (b:Expr):Prop:=∀o i,subscripted b false o i=operate [o,i] (getItem o i)
def IxR (X:Cx) (r:R2):Prop :=
 ∀(value slice:Expr) (pins:List (Addr×Obj)) (s:ν) (σ:St) (H:Hp) (x y:V) (v u:Value) (Q:VK),Inv X pins σ H s->RelV x v->RelV y u->r x y H Q →
  subscripted slice false v u=operate [v,u] (getItem v u)->xy (yl X.prog X.w) X.A (subscriptTail value slice v u) (EP X pins σ Q) X.xe s
def MtR (X:Cx) (id:String) (r:V->List V->Hp->VK->Prop):Prop :=
 ∀(pins:List (Addr×Obj)) (s:ν) (σ:St) (H:Hp) (x:V) (xs:List V) (v:Value) (us:List Value) (Q:VK),Inv X pins σ H s->RelV x v->kQ xs us->r x xs H Q →
  xy (yl X.prog X.w) X.A (call (.builtin id) (v::us)) (EP X pins σ Q) X.xe s
section
variable {X:Cx}{a b:Expr}{ta tb:TE}{pos:Pos}
theorem IxR.or{r r':R2}(h:IxR X r)(h':IxR X r'):IxR X (fun x y H Q=>r x y H Q\/r' x y H Q):=by
 intro value slice pins s σ H x y v u Q I rx ry q hs;rcases q with q|q
 ·exact h value slice pins s σ H x y v u Q I rx ry q hs
 ·exact h' value slice pins s σ H x y v u Q I rx ry q hs
theorem MtR.or{id:String}{r r':V->List V->Hp->VK->Prop}(h:MtR X id r)(h':MtR X id r'):MtR X id (fun x xs H Q=>r x xs H Q\/r' x xs H Q):=by
 intro pins s σ H x xs v us Q I rx rs q;rcases q with q|q
 ·exact h pins s σ H x xs v us Q I rx rs q
 ·exact h' pins s σ H x xs v us Q I rx rs q
theorem jX(hr:IxR X r)(ha:PE X a ta)(hb:PE X b tb)(hs:aNq b):PE X (.Subscript a b pos) (tOp r ta tb):=by
 intro pins s σ H Q I h;exact Subscript_ (binT ha hb I h fun v u s2 x y H2 I2 rx ry q=>hr a b pins s2 σ H2 x y v u Q I2 rx ry q (hs _ _))
inductive aJu (K:ω) (x:V) (y:V) (H:Hp) (Q:VK):Prop|mk:∀p xs i v,x=.ref p->y=.int i->SqL K H p xs->atI xs i=some v->Q v H->aJu K x y H Q
def rIxL (K:ω):R2:=fun x y H Q=>aJu K x y H Q
inductive aLf (K:ω) (x:V) (y:V) (H:Hp) (Q:VK):Prop|mk:∀p xs i v,x=.ref p->y=.int i->SqT K H p xs->atI xs i=some v->Q v H->aLf K x y H Q
def rIxT (K:ω):R2:=fun x y H Q=>aLf K x y H Q
def rIxS:R2:=fun x y H Q=>∃z i c,x=.str z/\y=.int i/\z.length<=ψ/\atI z.cps.toList i=some c/\Q (.str ⟨#[c]⟩) H
theorem kF:IxR X (rIxL X.K):=by
 intro value slice pins s σ H x y v u Q I rx ry h hs;obtain⟨p,xs,i,z,rfl,rfl,hq,he,q⟩:=h;cases rx;obtain⟨t,rfl⟩:=ry;obtain⟨its,r,pl,hz⟩:=I.list hq;obtain⟨j,h1,h2,h3,h4,h5⟩:=aAs he;obtain⟨w,ew,rw'⟩:=r.get h2;have hl:=r.length;have hn:=iH;have fin:EP X pins σ Q w s:=⟨z,H,I,rw',q⟩
 by_cases h0 : 0<=i
 ·have hj:i.toNat=j:=by
   rw[seqIndex_of h0 h5]at h1;exact zc h1
  exact item_listR pl.isList h0 (by omega) (by rw[hj];simpa using ew) fin hs
 ·have hj:(i+(its.toArray.size:Int)).toNat=j:=by
   rw[seqIndex_neg (by omega) h4]at h1;rw[υ,←hl];exact zc h1
  exact subscriptTail_builtinR (x:=w) pl.isList.typeIs slot_list_getitem.lookup
   (wpAny_getItem_list_neg (Q:=fun r s'=>r=w/\EP X pins σ Q r s') pl.isList (by omega) (by rw[υ] <;> omega) (by omega) (by rw[hj];simpa using ew) ⟨rfl,fin⟩) hs
theorem kY:IxR X (rIxT X.K):=by
 intro value slice pins s σ H x y v u Q I rx ry h hs;obtain⟨p,xs,i,z,rfl,rfl,hq,he,q⟩:=h;cases rx;obtain⟨t,rfl⟩:=ry;obtain⟨its,r,pl,hz⟩:=I.tuple hq;obtain⟨j,h1,h2,h3,h4,h5⟩:=aAs he;obtain⟨w,ew,rw'⟩:=r.get h2;have hl:=r.length;have hn:=iH;have fin:EP X pins σ Q w s:=⟨z,H,I,rw',q⟩;exact subscriptTail_builtinR (x:=w) pl.typeIs slot_tuple_getitem.lookup
  (getItem_tuple (j:=j) (Q:=fun r s'=>r=w/\EP X pins σ Q r s') pl (by omega) (by omega) (by rw[υ,←hl];exact h1) (by simpa using ew) ⟨rfl,fin⟩) hs
theorem aEx:IxR X rIxS:=by
 intro value slice pins s σ H x y v u Q I rx ry h hs;obtain⟨z,i,c,rfl,rfl,hz,he,q⟩:=h;obtain⟨t,rfl⟩:=rx;obtain⟨t',rfl⟩:=ry;obtain⟨j,h1,h2,h3,h4,h5⟩:=aAs he;have hl:z.cps.toList.length=z.length:=by simp[Str.length]
 rw[hl]at h1 h4 h5;have hn:=iH;exact tail_any (typeIs_str s z t) slot_str_getitem.lookup (getItem_str (c:=c) (by
  have e1:decide (i < -(2 ^ 63:Int))=false:=decide_eq_false (by omega);have e2:decide (i≥2 ^ 63)=false:=decide_eq_false (by omega);rw[e1,e2,Bool.or_false]) (by rw[h1];simpa using h2) ⟨.str ⟨#[c]⟩,H,I.tok _,⟨_,rfl⟩,q⟩) hs
theorem aEm(its:List Value)(n j:Nat)(u:Value):Obj.mapSeq (·.setIfInBounds j u) { cls:=.type "list",data:=.seq its.toArray n }={ cls:=.type "list",data:=.seq (its.set j u).toArray n }:=by
 simp[Obj.mapSeq]
theorem Inv.lst{pins:List (Addr×Obj)}{σ:St}{H:Hp}{s:ν}{p:Addr}{xs:List V}(I:Inv X pins σ H s)(h:H p=some (.lst xs)):
  ∃(its:List Value) (n:Nat),kQ xs its/\s.heap.get? p=some { cls:=.type "list",data:=.seq its.toArray n }/\xs.length<=ψ:=by
 obtain⟨z,its,n,r,e⟩:=I.hok p _ h;exact⟨its,n,r,e,z⟩
theorem Inv.lstUpd{H:Hp}{s:ν}{its its':List Value}{f:Obj->Obj}(I:Inv X pins σ H s)(h:H p=some (.lst xs))
  (ho:s.heap.get? p=some { cls:=.type "list",data:=.seq its.toArray n })(hf:f { cls:=.type "list",data:=.seq its.toArray n }={ cls:=.type "list",data:=.seq its'.toArray n' })(r:kQ ys its')(hz:ys.length<=ψ)(t:Nat):
  Inv X pins σ (upd H p (.lst ys)) { s with heap:=s.heap.update p f,toks:=t }:=by
 have e:(s.heap.update p f).get? p=some { cls:=.type "list",data:=.seq its'.toArray n' }:=by
  rw[Bh f ho (by rw[hf] <;> rfl),hf]
 refine I.write (x:=p) (e:=p) (by rw[h];trivial) (.inl rfl) (fun b u hb q=>(Am _ _ (Aj hb)).trans q) ⟨_,e⟩ ?_;exact⟨hz,its',n',r,e⟩
def rSetL:V->V->V->Hp->(Hp->Prop)->Prop:=fun o i v H Q=>∃p xs k j,o=.ref p/\i=.int k/\H p=some (.lst xs)/\ixN xs.length k=some j/\Q (upd H p (.lst (xs.set j v)))
theorem set_list:PSet X rSetL:=by
 intro pins s σ H o i v ov iv u Q I ro ri rv h;obtain⟨p,xs,k,j,rfl,rfl,hp,hj,q⟩:=h;cases ro;obtain⟨t,rfl⟩:=ri;obtain⟨its,n,r,ho,hz⟩:=I.lst hp;obtain⟨h1,h2,h3,h4⟩:=aGc hj;have hl:=r.length;have hn:=iH;have I':Inv X pins σ (upd H p (.lst (xs.set j v))) { s with heap:=s.heap.update p (Obj.mapSeq (·.setIfInBounds j u)) } :=
  I.lstUpd hp ho (aEm its n j u) (r.set rv j) (by rw[List.length_set];exact hz) s.toks
 by_cases h0 : 0<=k
 ·have hk:k.toNat=j:=by
   rw[seqIndex_of h0 h4]at h1;exact zc h1
  exact PySem.W.ki_setAt ho h0 (by omega) (by rw[υ,←hl];exact h4) (by rw[hk];exact⟨_,I',q⟩)
 ·have hk:(k+(its.toArray.size:Int)).toNat=j:=by
   rw[seqIndex_neg (by omega) h3]at h1;rw[υ,←hl];exact zc h1
  exact PySem.W.ki_setBack ho (by omega) (by rw[υ,←hl];exact h3) (by omega) (by rw[hk];exact⟨_,I',q⟩)
theorem aAz(lo hi:Option Int)(n:Nat):(Dx lo hi none n).1=((HT.sIx n 0 lo:Nat):Int)/\(Dx lo hi none n).2.1=((HT.sIx n n hi:Nat):Int)/\(Dx lo hi none n).2.2=1:=by
 refine⟨?_,?_,rfl⟩
 ·cases lo with
  |none=>simp[Dx,HT.sIx]
  |some i =>
   simp only[Dx,HT.sIx,Option.getD_none,show(1:Int) > 0 by decide,if_true]
   by_cases h:i<0
   ·simp only[h,if_true] <;> omega
   ·simp only[h,if_false] <;> omega
 ·cases hi with
  |none=>simp[Dx,HT.sIx]
  |some i =>
   simp only[Dx,HT.sIx,Option.getD_none,show(1:Int) > 0 by decide,if_true]
   by_cases h:i<0
   ·simp only[h,if_true] <;> omega
   ·simp only[h,if_false] <;> omega
theorem uD(its:List Value)(lo hi:Option Int):slicePick its.toArray lo hi none=((its.drop (HT.sIx its.length 0 lo)).take (HT.sIx its.length its.length hi-HT.sIx its.length 0 lo)).toArray:=by
 obtain⟨h1,h2,h3⟩:=aAz lo hi its.toArray.size;unfold slicePick;rw[h1,h2,h3];simp only[sliceRange_one,pick_run,υ] <;> rfl
inductive aLz (K:ω) (x:V) (lo:Option Int) (hi:Option Int) (H:Hp) (Q:VK):Prop|mk:∀a xs,x=.ref a->SqL K H a xs->(∀p,H p=none->Q (.ref p) (upd H p (.lst (zW xs lo hi))))->aLz K x lo hi H Q
def rSlL (K:ω):V->Option Int->Option Int->Hp->VK->Prop:=fun x lo hi H Q=>aLz K x lo hi H Q
theorem qM:SlR X (rSlL X.K):=by
 intro pins s σ H x v vl vu lo hi sl Q I rx hs pl pu h;obtain⟨a,xs,rfl,hx,q⟩:=h;cases rx;obtain⟨its,r,ht,hz⟩:=I.list hx;have hlen:=r.length;refine⟨"list",_,slot_list_getitem.lookup,ht.isList.typeIs,?_⟩;refine wpAny_getItem_list_slice ht.isList hs pl pu .none (by simp) ?_ (by rw[υ] <;> omega);rw[uD,←hlen];refine⟨.ref s.heap.objs.size,_,I.laid (t':=s.toks) (o:=.lst (zW xs lo hi)) (fun b ob q=>ρ _ q) (μ _) ?_,rfl,q _ (I.hok.fresh (μ _))⟩;exact⟨yo (nZ xs lo hi) hz,_,0,(r.drop (HT.sIx xs.length 0 lo)).take (HT.sIx xs.length xs.length hi-HT.sIx xs.length 0 lo),yf _ rfl⟩
def fB:V->Bool
 |.non=>true
 |.bl _=>true
 |.int _=>true
 |.str _=>true
 |_=>false
def eqV:V->V->Bool
 |.non,.non=>true
 |.bl a,.bl b=>a == b
 |.bl a,.int b=>(if a then 1 else 0) == b
 |.int a,.bl b=>a == (if b then 1 else 0)
 |.int a,.int b=>a == b
 |.str a,.str b=>a == b
 |_,_=>false
theorem aNe(ry:RelV y u)(rx:RelV x v)(fy:fB y=true)(fx:fB x=true):Ab A s u v (eqV y x):=by
 cases y with
 |non =>
  cases ry;cases x with
  |non=>cases rx;exact Ab.same _
  |bl b=>cases rx;exact Ab.none_bool b
  |int b=>obtain⟨t,rfl⟩:=rx;exact Ab.none_int b t
  |str b=>obtain⟨t,rfl⟩:=rx;exact Ab.none_str b t
  |_=>exact absurd (show false=true from fx) π
 |bl a =>
  cases ry;cases x with
  |non=>cases rx;exact Ab.bool_none a
  |bl b=>cases rx;exact Ab.bool_bool a b
  |int b=>obtain⟨t,rfl⟩:=rx;exact Ab.bool_int a b t
  |str b=>obtain⟨t,rfl⟩:=rx;exact Ab.bool_str a b t
  |_=>exact absurd (show false=true from fx) π
 |int a =>
  obtain⟨t',rfl⟩:=ry;cases x with
  |non=>cases rx;exact Ab.int_none a t'
  |bl b=>cases rx;exact Ab.int_bool a t' b
  |int b=>obtain⟨t,rfl⟩:=rx;exact Ab.int_int a t' b t
  |str b=>obtain⟨t,rfl⟩:=rx;exact Ab.int_str a t' b t
  |_=>exact absurd (show false=true from fx) π
 |str a =>
  obtain⟨t',rfl⟩:=ry;cases x with
  |non=>cases rx;exact Ab.str_none a t'
  |bl b=>cases rx;exact Ab.str_bool a t' b
  |int b=>obtain⟨t,rfl⟩:=rx;exact Ab.str_int a t' b t
  |str b=>obtain⟨t,rfl⟩:=rx;exact Ab.str_str a t' b t
  |_=>exact absurd (show false=true from fx) π
 |_=>exact absurd (show false=true from fy) π
def eqU (x:V) (u:Value):Bool:=match u with
 |.none=>eqV .non x
 |.bool b=>eqV (.bl b) x
 |.int i _=>eqV (.int i) x
 |.str z _=>eqV (.str z) x
 |_=>false
theorem aMa(r:RelV y u)(f:fB y=true):eqU x u=eqV y x:=by
 cases y with
 |non=>cases r;rfl
 |bl b=>cases r;rfl
 |int i=>obtain⟨t,rfl⟩:=r;rfl
 |str z=>obtain⟨t,rfl⟩:=r;rfl
 |_=>exact absurd (show false=true from f) π
theorem lN : ∀{xs:List V}{us:List Value},kQ xs us->xs.all fB=true->us.any (eqU x)=xs.any fun y=>eqV y x
 |_,_,.nil,_=>rfl
 |y::xs,u::us,.cons r t,f=>by
  rw[List.all_cons,zj]at f;rw[Ea,Ea,aMa r f.1,lN t f.2]
theorem eE(rx:RelV x v)(fx:fB x=true):∀{xs:List V}{us:List Value},kQ xs us->xs.all fB=true->∀u∈us,Ab A s u v (eqU x u)
 |_,_,.nil,_=>fun u hu=>by cases hu
 |y::xs,u::us,.cons r t,f=>fun u' hu=>by
  rw[List.all_cons,zj]at f;rcases ς.mp hu with rfl|hu
  ·rw[aMa r f.1];exact aNe r rx f.1 fx
  ·exact eE rx fx t f.2 u' hu
def inV (x:V) (xs:List V):Bool:=xs.any fun y=>eqV y x
def rIn (K:ω) (neg:Bool):R2:=fun x y H Q=>∃p xs,y=.ref p/\(SqL K H p xs\/SqT K H p xs)/\fB x=true/\xs.all fB=true/\Q (.bl (if neg then !inV x xs else inV x xs)) H
theorem vU:OpR X (Ah .In) (rIn X.K false):=by
 intro pins s σ H x y v u Q I rx ry h;obtain⟨p,xs,rfl,hq,fx,fs,q⟩:=h;cases ry;rcases hq with hq|hq
 ·obtain⟨its,r,pl,hz⟩:=I.list hq;refine SeqAt.in_listAt (eqU x) pl.isList (fun w hw=>eE rx fx r fs w (by simpa using hw)) ⟨.bl _,H,I,rfl,?_⟩;rw[show its.toArray.any (eqU x)=its.any (eqU x) by simp,lN r fs];exact q
 ·obtain⟨its,r,pl,hz⟩:=I.tuple hq;refine SeqAt.in_tupleAt (eqU x) pl (fun w hw=>eE rx fx r fs w (by simpa using hw)) ⟨.bl _,H,I,rfl,?_⟩;rw[show its.toArray.any (eqU x)=its.any (eqU x) by simp,lN r fs];exact q
theorem yU:OpR X (Ah .NotIn) (rIn X.K true):=by
 intro pins s σ H x y v u Q I rx ry h;obtain⟨p,xs,rfl,hq,fx,fs,q⟩:=h;cases ry;rcases hq with hq|hq
 ·obtain⟨its,r,pl,hz⟩:=I.list hq;refine SeqAt.notIn_listAt (eqU x) pl.isList (fun w hw=>eE rx fx r fs w (by simpa using hw)) ⟨.bl _,H,I,rfl,?_⟩;rw[show its.toArray.any (eqU x)=its.any (eqU x) by simp,lN r fs];exact q
 ·obtain⟨its,r,pl,hz⟩:=I.tuple hq;refine SeqAt.notIn_tupleAt (eqU x) pl (fun w hw=>eE rx fx r fs w (by simpa using hw)) ⟨.bl _,H,I,rfl,?_⟩;rw[show its.toArray.any (eqU x)=its.any (eqU x) by simp,lN r fs];exact q
theorem kG:xD X (.builtin "len") (fun xs H Q=>∃p ys,xs=[.ref p]/\(SqL X.K H p ys\/SqT X.K H p ys)/\Q (.int ys.length) H):=by
 intro pins s σ H xs us Q I r h;obtain⟨p,ys,rfl,hq,q⟩:=h;obtain⟨u,rfl,rx⟩:=vals1 r;cases rx;have hn:=iH;rcases hq with hq|hq
 ·obtain⟨its,r',pl,hz⟩:=I.list hq;have hlen:=r'.length;exact Calls.call_len_list pl.isList (by simp only[υ] <;> omega) ⟨.int ys.length,H,I.tok _,⟨s.toks+1,by rw[υ,hlen]⟩,q⟩
 ·obtain⟨its,r',pl,hz⟩:=I.tuple hq;have hlen:=r'.length;exact len_tuple pl (by simp only[υ] <;> omega) ⟨.int ys.length,H,I.tok _,⟨s.toks+1,by rw[υ,hlen]⟩,q⟩
theorem xD.or{r r':List V->Hp->VK->Prop}(h:xD X f r)(h':xD X f r'):xD X f (fun xs H Q=>r xs H Q\/r' xs H Q):=by
 intro pins s σ H xs us Q I rs q;rcases q with q|q
 ·exact h pins s σ H xs us Q I rs q
 ·exact h' pins s σ H xs us Q I rs q
theorem lH:xD X (.type "list") (fun xs H Q=>∃p ys,xs=[.ref p]/\(SqL X.K H p ys\/SqT X.K H p ys)/\∀l,H l=none->Q (.ref l) (upd H l (.lst ys))):=by
 intro pins s σ H xs us Q I r h;obtain⟨p,ys,rfl,hq,q⟩:=h;obtain⟨u,rfl,rx⟩:=vals1 r;cases rx;have fin:∀(its:List Value),kQ ys its->ys.length<=ψ->∀(h':Ag) (c':Nat),(∀b o',s.heap.get? b=some o'->h'.get? b=some o') →
   h'.get? s.heap.objs.size=some { cls:=.type "list",dict:=none,data:=.seq its.toArray c',slots:=#[] }->EP X pins σ Q (.ref s.heap.objs.size) { s with heap:=h' }:=fun its r' hz h' c' kp e =>
  ⟨.ref s.heap.objs.size,_,I.laid (t':=s.toks) kp (μ _) (show vI X.prog X.w _ h' _ (.lst ys) from⟨hz,its,c',r',e⟩),rfl,q _ (I.hok.fresh (μ _))⟩
 rcases hq with hq|hq
 ·obtain⟨its,r',pl,hz⟩:=I.list hq;have hlen:=r'.length;obtain⟨o,ho,hc,n,hd⟩:=pl.isList;exact call_list_seq p (.inl rfl) ho hc hd (fun h' c' kp e=>fin its r' hz h' c' kp e) (by simp only[υ] <;> omega)
 ·obtain⟨its,r',pl,hz⟩:=I.tuple hq;have hlen:=r'.length;obtain⟨o,ho,hc,n,hd⟩:=pl;exact call_list_seq p (.inr rfl) ho hc hd (fun h' c' kp e=>fin its r' hz h' c' kp e) (by simp only[υ] <;> omega)
theorem cA:xD X (.type "tuple") (fun xs H Q=>∃p ys,xs=[.ref p]/\((SqL X.K H p ys/\∀l,H l=none->Q (.ref l) (upd H l (.tup ys)))\/(SqT X.K H p ys/\Q (.ref p) H))):=by
 intro pins s σ H xs us Q I r h;obtain⟨p,ys,rfl,h⟩:=h;obtain⟨u,rfl,rx⟩:=vals1 r;cases rx;rcases h with⟨hq,q⟩|⟨hq,q⟩
 ·obtain⟨its,r',pl,hz⟩:=I.list hq;have hlen:=r'.length;refine call_tuple_list pl.isList (fun h' kp=>?_) (by simp only[υ] <;> omega);have I1:Inv X pins σ H { s with heap:=h' }:=I.kept (t':=s.toks) kp;have I2:Inv X pins σ (upd H h'.objs.size (.tup ys)) { s with heap:=h'.push { cls:=.type "tuple",data:=.seq its.toArray } } :=
   I1.laid (t':=s.toks) (fun b o e=>ρ _ e) (μ _) (show vI X.prog X.w _ _ _ (.tup ys) from⟨hz,its,r',IsTup.new _ _⟩)
  exact⟨.ref h'.objs.size,_,I2,rfl,q _ (I1.hok.fresh (μ _))⟩
 ·obtain⟨its,r',pl,hz⟩:=I.tuple hq;exact call_tuple_same pl ⟨.ref p,H,I,rfl,q⟩
def tyV (K:ω) (T:String) (x:V) (H:Hp):Prop:=match x with
 |.str _=>T = "str"
 |.int _=>T = "int"
 |.ref p=>(T = "list"/\∃xs,SqL K H p xs)\/(T = "tuple"/\∃o,K.lookup p=some o/\o.cls=.type "tuple"/\o.dict=none) ∨
   (T = "dict"/\((∃kvs,H p=some (.dK kvs))\/∃kvs,H p=some (.dT kvs)))\/(T = "set"/\∃S n,H p=some (.set S n))
 |_=>False
theorem aRq(I:Inv X pins σ H s)(r:RelV x v)(ty:tyV X.K T x H):
  s.TypeIs v T/\∀a,v=.ref a->∃ob,s.heap.get? a=some ob/\ob.dict=none:=by
 cases x with
 |str z =>
  obtain⟨t,rfl⟩:=r;cases (show T = "str" from ty);exact⟨typeIs_str s z t,fun _ e=>nomatch e⟩
 |int i =>
  obtain⟨t,rfl⟩:=r;cases (show T = "int" from ty);exact⟨typeIs_int s i t,fun _ e=>nomatch e⟩
 |ref p =>
  cases r;rcases ty with⟨rfl,xs,hq⟩|⟨rfl,o,hk,hc,hd⟩|⟨rfl,hk⟩|⟨rfl,S,n,hk⟩
  ·obtain⟨its,_,pl,_⟩:=I.list hq;refine⟨pl.isList.typeIs,fun a e=>?_⟩;cases e;obtain⟨o,n,e,c,hd,_⟩:=pl;exact⟨o,e,hd⟩
  ·refine⟨⟨o,I.kIn p o hk,hc⟩,fun a e=>?_⟩;cases e;exact⟨o,I.kIn _ o hk,hd⟩
  ·have z:∃o,s.heap.get? p=some o/\o.ExactDict:=by
    rcases hk with⟨kvs,hk⟩|⟨kvs,hk⟩
    ·obtain⟨_,_,_,_,o,_,_,e,ex,_⟩:=I.hok p _ hk;exact⟨o,e,ex⟩
    ·obtain⟨_,_,_,_,o,_,_,e,ex,_⟩:=I.hok p _ hk;exact⟨o,e,ex⟩
   obtain⟨o,e,ex⟩:=z;refine⟨⟨o,e,ex.1⟩,fun a e2=>?_⟩;cases e2;exact⟨o,e,ex.2.1⟩
  ·obtain⟨o,_,_,_,e,ex,_⟩:=I.hok p _ hk;refine⟨⟨o,e,ex.1⟩,fun a e2=>?_⟩;cases e2;exact⟨o,e,ex.2.1⟩
 |_=>exact zi ty
inductive aQm (K:ω) (T:String) (r:V->List V->Hp->VK->Prop) (t:TA) (σ:St) (Q:VK) (x:V) (H1:Hp):Prop|mk:tyV K T x H1->(t σ H1 fun xs H2=>r x xs H2 Q)->aQm K T r t σ Q x H1
def tBM (K:ω) (T:String) (r:V->List V->Hp->VK->Prop) (to:TE) (t:TA):TE:=fun σ H Q=>to σ H fun x H1=>aQm K T r t σ Q x H1
variable {o e:Expr}{es:List Expr}{to:TE}{t:TA}{name:Str}{apos cpos:Pos}{T id:String}{r:V->List V->Hp->VK->Prop}
theorem xA(pa:PlainAttrs T)(slot:Slot T name id)(hty:typeOf (.builtin id)=pure (.type "method_descriptor"))(hm:MtR X id r)(ho:PE X o to)(ha:PA X (e::es) t)
  (hbase:Cb o name X.env (eval o X.env)=eval o X.env:=by rfl)
  (hfew:((BH cpos (yi (e::es) X.env)).all (fun x=>!x.1)&&(backToKw cpos (CH [] X.env)).all (fun x=>x.1.isSome)
   && decide ((e::es).length+([]:List Keyword).length+(if ([]:List Keyword).isEmpty then 0 else 1)<30))=true:=by rfl)
  (hline:(apos.endLine == cpos.line)=true:=by rfl)(hs:yi (e::es) X.env=(false,eval e X.env)::yi es X.env:=by rfl)(hplain:(BH cpos (yi es X.env)).any (·.1)=false:=by rfl):
  PE X (.Call (.Attribute o name apos) (e::es) [] cpos) (tBM X.K T r to t):=by
 intro pins s σ H Q I h;refine wpAny_Call_method_late hbase hfew hline rfl (thn (ho pins s σ H _ I h) fun v s1 zq=>?_);obtain⟨x,H1,I1,r1,ty,q1⟩:=zq;obtain⟨h1,h2⟩:=aRq I1 r1 ty;refine⟨T,id,pa,slot,hty,h1,h2,?_⟩;have hA:=ha cpos pins s1 σ H1 _ I1 q1;rw[hs]at hA ⊢;refine Calls.callWith_builtin (by show(false||(BH cpos (yi es X.env)).any (·.1))=false;rw[hplain] <;> rfl) (Calls.evalArgs_plain ?_);exact thn hA fun us s2 ⟨vs,H2,I2,r2,q2⟩=>hm pins s2 σ H2 x vs v us Q I2 r1 r2 q2
end
def MtM (X:Cx) (id:String) (r:V->List V->Hp->VK->Prop):Prop :=
 ∀(pins:List (Addr×Obj)) (s:ν) (σ:St) (H:Hp) (x:V) (xs:List V) (v:Value) (us:List Value) (Q:VK),Inv X pins σ H s->RelV x v->kQ xs us->r x xs H Q →
  xy (yl X.prog X.w) X.A (call (.builtin id) (v::us)) (EP X pins σ Q) X.xe s
theorem kQ.one:∀{x:V}{us:List Value},kQ [x] us->∃u,us=[u]/\RelV x u
 |_,_,.cons r .nil=>⟨_,rfl,r⟩
theorem kQ.two:∀{x y:V}{us:List Value},kQ [x,y] us->∃u v,us=[u,v]/\RelV x u/\RelV y v
 |_,_,_,.cons r (.cons q .nil)=>⟨_,_,rfl,r,q⟩
theorem kQ.zero:∀{us:List Value},kQ [] us->us=[]
 |_,.nil=>rfl
theorem kQ.dropLast(h:kQ xs us):kQ xs.dropLast us.dropLast:=by
 induction h with
 |nil=>exact .nil
 |cons r t ih =>
  cases t with
  |nil=>exact .nil
  |cons q t'=>exact .cons r ih
theorem kQ.rep(h:kQ xs us):∀k:Nat,kQ (Ac k xs).flatten (Ac k us).flatten
 |0=>.nil
 |k+1=>by
  rw[Cd,Cd,DB,DB];exact kQ.append h (kQ.rep h k)
theorem foldl_rep(its:List Value):∀(k:Nat) (acc:List Value),
  List.foldl (fun x1 x2=>x1++x2) acc.toArray (Ac k its.toArray)=(acc++(Ac k its).flatten).toArray
 |0,acc=>by simp
 |k+1,acc=>by
  have e:acc.toArray++its.toArray=(acc++its).toArray:=by simp
  have e2:(acc++its)++(Ac k its).flatten=acc++(Ac (k+1) its).flatten:=by
   rw[Cd,DB,zx]
  rw[←e2,←foldl_rep its k (acc++its),←e,Cd,List.foldl_cons]
section
variable {X:Cx}{pins:List (Addr×Obj)}{σ:St}{H:Hp}{s:ν}{l b:Addr}{xs ys zs:List V}
theorem Inv.lset{its its':List Value}{f:Array Value->Array Value}{t':Nat}(I:Inv X pins σ H s)(hH:H l=some (.lst xs))
  (e:s.heap.get? l=some { cls:=.type "list",data:=.seq its.toArray n })(hf:f its.toArray=its'.toArray)(hv:kQ ys its')(hz:ys.length<=ψ):
  Inv X pins σ (upd H l (.lst ys)) { s with heap:=s.heap.update l (Obj.mapSeq f),toks:=t' }:=by
 have q:=PySem.IsL.update e f;rw[hf]at q;refine I.write (x:=l) (e:=l) (by rw[hH];exact trivial) (.inl rfl) (fun b' u hb hu=>(Am s.heap (Obj.mapSeq f) (Aj hb)).trans hu) ⟨_,q⟩ ?_;exact⟨hz,its',_,hv,q⟩
theorem Inv.lnew{t':Nat}(I:Inv X pins σ H s)(hv:kQ ys its)(hz:ys.length<=ψ):
  Inv X pins σ (upd H s.heap.objs.size (.lst ys)) { s with heap:=s.heap.push { cls:=.type "list",data:=.seq its.toArray },toks:=t' } :=
 I.laid (fun _ _ q=>ρ _ q) (μ _) ⟨hz,its,0,hv,yf _ rfl⟩
theorem Inv.fresh(I:Inv X pins σ H s):H s.heap.objs.size=none:=I.hok.fresh (μ _)
theorem Inv.lstM(I:Inv X pins σ H s)(hH:H l=some (.lst xs)):xs.length<=ψ/\∃(its:List Value) (n:Nat),kQ xs its/\xs.length=its.length/\s.heap.get? l=some { cls:=.type "list",data:=.seq its.toArray n }:=by
 obtain⟨z,its,n,r,e⟩:=I.hok l _ hH;exact⟨z,its,n,r,r.length,e⟩
theorem aBt{n:Nat}(h:n<=ψ):Cc n=false:=by
 unfold Cc;exact decide_eq_false (by omega)
end
section
variable {X:Cx}
inductive uO (x:V) (vs:List V) (H:Hp) (Q:VK):Prop|mk:∀l xs y,x=.ref l->vs=[y]->H l=some (.lst xs)->xs.length<ψ->Q .non (upd H l (.lst (xs++[y])))->uO x vs H Q
def aOy:V->List V->Hp->VK->Prop:=fun x vs H Q=>uO x vs H Q
theorem vT:MtM X "list.append" aOy:=by
 intro pins s σ H x vs v us Q I rx rv h;obtain⟨l,xs,y,rfl,rfl,hH,hz,q⟩:=h;cases rx;obtain⟨u,rfl,ru⟩:=rv.one;obtain⟨z,its,n,r,hl,e⟩:=I.lstM hH;refine CJ F.slot_list_append ⟨_,e,rfl⟩ F.entry_list_append (F.args_list_append_2 _ _) (PySem.list_append l its.toArray n u (by rw[υ];omega)) ⟨e,?_⟩;refine⟨.non,_,I.lset (its':=its++[u]) hH e (by simp) (r.append (.cons ru .nil)) ?_,rfl,q⟩;rw[ι,zk];omega
def aOl:V->List V->Hp->VK->Prop:=fun x vs H Q=>∃l b xs zs,x=.ref l/\vs=[.ref b]/\H l=some (.lst xs)/\H b=some (.lst zs)/\xs.length+zs.length<=ψ/\Q .non (upd H l (.lst (xs++zs)))
theorem mX:MtM X "list.extend" aOl:=by
 intro pins s σ H x vs v us Q I rx rv h;obtain⟨l,b,xs,zs,rfl,rfl,hH,hB,hz,q⟩:=h;cases rx;obtain⟨u,rfl,ru⟩:=rv.one;cases ru;obtain⟨z,its,n,r,hl,e⟩:=I.lstM hH;obtain⟨z2,its2,n2,r2,hl2,e2⟩:=I.lstM hB;have hsz:its.toArray.size+its2.toArray.size<=ψ:=by rw[υ,υ];omega
 have hlong:¬ (!its.toArray.isEmpty&&Cc (its.toArray.size+its2.toArray.size))=true:=by
  rw[aBt hsz,CL];exact π
 refine CJ F.slot_list_extend ⟨_,e,rfl⟩ F.entry_list_extend (F.args_list_extend_2 _ _)
  (AutoSeq1.list_extend_list_list_0 l its.toArray n b its2.toArray n2 hlong (by rw[υ];omega) (by omega)) ⟨e,e2,?_⟩
 refine⟨.non,_,I.lset (its':=its++its2) hH e (by simp) (r.append r2) ?_,rfl,q⟩;rw[ι];omega
def rRep:R2:=fun x y H Q=>∃l k xs,x=.ref l/\y=.int k/\H l=some (.lst xs)/\-(2 ^ 63)<=k/\k<2 ^ 63/\xs.length*k.toNat<=ψ ∧
 ∀p,H p=none->Q (.ref p) (upd H p (.lst (Ac k.toNat xs).flatten))
theorem len_rep{α : Type}(xs:List α)(k:Nat):(Ac k xs).flatten.length=k*xs.length:=by
 induction k with
 |zero=>simp
 |succ k ih=>rw[Cd,DB,ι,ih,DC,Nat.add_comm]
theorem aSo:OpR X (BX .Mult) rRep:=by
 intro pins s σ H x y v u Q I rx ry h;obtain⟨l,k,xs,rfl,rfl,hH,h1,h2,hz,q⟩:=h;cases rx;obtain⟨t,rfl⟩:=ry;obtain⟨z,its,n,r,hl,e⟩:=I.lstM hH;have hlen:its.toArray.size*k.toNat<=ψ:=by rw[υ,←hl];exact hz
 have hcap:¬ its.toArray.size*k.toNat > (2 ^ 63-1) / 8:=by
  have:(ψ:Nat)<=(2 ^ 63-1) / 8:=by decide
  omega
 have hfit:¬ (!Builtin.List.listFitsIndex k)=true:=by
  rw[fitsIndex_both h1 h2];exact π
 have hlong:¬ Cc (its.toArray.size*k.toNat)=true:=by
  rw[aBt hlen];exact π
 have hnew:List.foldl (fun x1 x2=>x1++x2) #[] (Ac (if its.toArray.isEmpty=true then 0 else k.toNat) its.toArray)=(Ac k.toNat its).flatten.toArray:=by
  have f0:∀m:Nat,List.foldl (fun x1 x2=>x1++x2) #[] (Ac m its.toArray)=(Ac m its).flatten.toArray:=fun m=>by
   have:=foldl_rep its m [];rw[List.nil_append]at this;exact this
  rw[f0];cases its with
  |nil=>simp
  |cons a r'=>rw[if_neg (by simp)]
 refine wpAny_binaryOp_repeat_ref (T:="list") (U:="int") (by decide) ⟨_,e,rfl⟩ (fun s'=>typeIs_int s' k t) noFill_list_mul F.fills_int_mul F.slot_int_rmul repeat_list F.slot_int_index.lookup
  (CJ F.slot_int_rmul (typeIs_int s k t) F.entry_int_rmul (F.args_int_rmul_2 _ _) (int___rmul___int_list k t l its.toArray n)
   ⟨e,rfl,⟨_,e,rfl⟩,CJ F.slot_list_mul ⟨_,e,rfl⟩ F.entry_list_mul (F.args_list_mul_2 _ _) (AutoListH.list___mul___list_int_3 l its.toArray n k t hfit hcap hlong) ⟨e,?_⟩⟩)
 rw[hnew];exact⟨.ref _,_,I.lnew (t':=s.toks) (r.rep k.toNat) (by rw[len_rep,Nat.mul_comm];exact hz),rfl,q _ I.fresh⟩
end
end L2
namespace Att
open PySem PySem.W PySem.Calls PyProof.Rows
theorem oN : ∀(ns:List Int) (vs:List Value),WellAll P h vs (ns.map WData.int)->IntsAre vs ns:=by
 intro ns
 induction ns with
 |nil =>
  intro vs w;rw[List.map_nil]at w;cases w;exact .nil
 |cons n ns ih =>
  intro vs w;rw[zm]at w;cases w with
  |cons a b =>
   cases a;exact .cons _ _ (ih _ b)
theorem aIn{l:OpenLaw}(hn:l.most=some n)
  (hpre:l.row.toRowW.claim.pre args=true)(hwl:WellAll P h vals args):
  ∃a vs ns,vals=[yk a]/\args=[WData.list (ns.map WData.int)]/\h.get? a=some { cls:=.type "list",data:=.seq vs.toArray }/\IntsAre vs ns/\ns.length<=n:=by
 have hsh:WShape.hasAll [] args [.list .int]=true:=(pre_splitW hpre).1;have hc:l.pre.holds [] { args:=args }=true:=(pre_splitW hpre).2;obtain⟨d,r,rfl,h1,h2⟩:=hasAllW_cons hsh;obtain rfl:=hasAllW_nil h2;obtain⟨xs,rfl,h3⟩:=hasW_list h1;obtain⟨ns,rfl⟩:=items_int h3;have hlen:ns.length<=n:=by
  unfold OpenLaw.pre at hc;have h4:(WTm.not (.lt (.lit (.int (n:Int))) (.len (.arg 0)))).holds [] { args:=[.list (ns.map .int)] }=true:=by
   have h4:=(holds_andW hc).1;rw[hn]at h4;exact h4
  have h5:=condW_of h4 (w_not (w_lt w_lit (w_len_list (w_arg rfl))));rw[δ]at h5;refine Nat.le_of_not_lt fun q=>?_;have q':(n:Int)<((ns.length:Nat):Int):=by omega
  first
   | (rw[decide_eq_true q']at h5;exact absurd h5 (by decide))
   | (simp at h5;omega)
 cases hwl with
 |cons w1 w2 =>
  cases w2;cases w1 with
  |list ho hall=>exact⟨_,_,ns,rfl,rfl,ho,oN ns _ hall,hlen⟩
theorem aIs(l:OpenLaw)(args:List WData):l.row.toRowW.claim.post args (.bool true) args=true :=
 postW_of (r:=l.row.toRowW) (X:=(true == true))
  (show WShape.has [] (.bool true) .bool=true by first|rfl|decide|simp[WShape.has,WShape.arms,WShape.armsAll])
  (show(WTm.eq .res (.lit (.bool true))).value [] { args:=args,res:=some (.bool true),after:=args }=some (.bool (true == true)) from w_eq_bool (w_res rfl) w_lit) rfl
theorem attach_call{l:OpenLaw}{YP:AD->Ag->Prop}{d:DefRec}
  (hn:l.most=some n)(hdf:d.params.defaults=[])
  (call:∀(w:AD) (s₀ s₁ : ν) (mg mb:Str->Option Value) (fa:Addr) (o:Obj) (pm cd doc:Value) (a:Addr) (vs:List Value) (ns:List Int),
   Ground q loose [] XP w s₀ mg mb s₁.heap->YP w s₁.heap →
   s₁.heap.get? fa=some o->o.data=.func (docDef d.name d.params d.body d.scope pm cd doc)->s₁.heap.CodeRec cd d.name->mg d.name=some (.ref fa) →
   s₁.heap.get? a=some { cls:=.type "list",data:=.seq vs.toArray }->IntsAre vs ns->ns.length<=n->s₁.gens = #[] →
   Dr (yl l.prog w) callerA (.call (.ref fa) ⟨[.ref a],[]⟩) (fun r s'=>r=.ok (.ret (.bool true))/\OldK s₁.heap s'.heap/\s'.os=s₁.os/\AllBare s'.gens) s₁):
  WalkO q loose XP YP l.row.toRowW d [] (fun f vs=>PySem.call f vs):=by
 intro w s₀ s₁ mg mb G Y fa o pm cd doc dV kV ho hd hcd hD hmg hg args vals as hpre hlay hrd hwl hlo;obtain rfl:dV=.none:=Dflts.none hD hdf;obtain rfl:kV=.none:=Dflts.noKw hD;obtain⟨a,vs,ns,rfl,rfl,hobj,hints,hlen⟩:=aIn hn hpre hwl;refine enter_call (Dz (call w s₀ s₁ mg mb fa o pm cd doc a vs ns G Y ho (fd_plain hd) hcd hmg hobj hints hlen hg) fun r s' hq=>?_);obtain⟨rfl,h2,h3,h4⟩:=hq;exact⟨.inl ⟨.bool true,.bool true,[],rfl,fun _=>rfl,.bool true,aIs l _,fun _=>⟨Eb.nil,fun _ hm=>(nomatch hm)⟩⟩,h2,h3,h4⟩
section
variable {prog:Ao}{w:AD}{A:Ak}{E:Value->ν->Prop}{s:ν}{K:ω}
end
end Att
namespace L2
open PySem PySem.Spec PyProof.Rows
theorem uS:∀{vs:List Value}{ns:List Int},IntsAre vs ns->kQ (ns.map V.int) vs
 |_,_,.nil=>.nil
 |_,_,.cons n t h=>.cons ⟨t,rfl⟩ (uS h)
def Only (H:Hp):Prop:=∀b,H b=none\/∃o xs,H b=some (.frz o (.lst xs))
theorem aLj{K:ω}{mb:Str->Option Value}{CX:CXT}{a:Addr}{x:Str}{sp:Sp}{s₁: ν}{vs:List Value}
  (KX:K.In s₁.heap)(hns:s₁.heap.Ns ya mg)(hb:s₁.heap.Ns builtinsNs mb)(hbb:∀x:Str,x ≠ "__name__"->mb x=AV x)(hlim:s₁.heap.NoLimit)(hg:s₁.gens = #[])
  (ha:s₁.heap.get? a=some { cls:=.type "list",data:=.seq vs.toArray })(hi:IntsAre vs ns)(hl:ns.length<=ψ)(hr:xF k callerA)
  (F:∀base:Ag,K.In base->base.Ns ya mg->jI P w K mg base CX k fa fd [x] sp)(hbind:∀(s:ν) (u:Value),BindsTo s fd ⟨[u],[]⟩ [(x,u)])
  (hsp:∀H:Hp,Only H->SqL K H a (ns.map V.int)->sp [.ref a] H (fun v _=>v=.bl true) fun _ _ _=>False)
  (hCX:∀H e s',CX [] H s₁ (fun _ _ _=>False) e s'->False):
  Dr (yl P w) callerA (.call (.ref fa) ⟨[.ref a],[]⟩) (fun r s'=>r=.ok (.ret (.bool true))/\OldK s₁.heap s'.heap/\s'.os=s₁.os/\AllBare s'.gens) s₁:=by
 have rv:=uS hi;have lenV:=hi.length;have core:∀H:Hp,Only H->SqL K H a (ns.map V.int)->HOk P w H s₁.heap->(∀b,H b≠none->b=a)->(H a≠none->K.lookup a=none) →
   Dr (yl P w) callerA (.call (.ref fa) ⟨[.ref a],[]⟩) (fun r s'=>r=.ok (.ret (.bool true))/\OldK s₁.heap s'.heap/\s'.os=s₁.os/\AllBare s'.gens) s₁:=by
  intro H hO hS hok hA hK;have base_of:∀{b:Addr}{o:Obj},s₁.heap.get? b=some o->H b=none->(wX s₁.heap H).get? b=some o:=fun e n=>aLx e n;have noA:∀{b:Addr}{o:Obj}{es:Array DictEntry}{ep:Nat},s₁.heap.get? b=some o->o.data=.dict es ep->H b=none:=fun {b o es ep} e d=>by
   cases q:H b with
   |none=>rfl
   |some u =>
    have e':b=a:=hA b (by rw[q];simp);subst e';rw[ha]at e;cases e;have d':Data.seq vs.toArray _=Data.dict es ep:=d;cases d'
  have nsK:∀{b:Addr}{m:Str->Option Value},s₁.heap.Ns b m->(wX s₁.heap H).Ns b m:=fun {b m} ⟨o,es,ep,e,d,r⟩=>⟨o,es,ep,base_of e (noA e d),d,r⟩;have hKb:K.In (wX s₁.heap H):=fun b o e=>base_of (KX b o e) (by
   cases q:H b with
   |none=>rfl
   |some u =>
    have e':b=a:=hA b (by rw[q];simp);subst e';rw[hK (by rw[q];simp)]at e;cases e)
  have hM:Mod K mg (wX s₁.heap H):=⟨hKb,nsK hns,⟨mb,nsK hb,hbb⟩,let ⟨mc,h1,h2⟩:=hlim; ⟨mc,nsK h1,h2⟩⟩;have e0:tX P w K mg (wX s₁.heap H) callerA [] s₁ H:=⟨rfl,hM,fun b o e=>aPc e,Nat.le_of_eq (aIa _ _),trivial,fun b hb=>absurd (show b∈([]:List Addr) from hb) (by simp),hok,.of_eq hg⟩;refine Dz ((F _ hKb (nsK hns)).run callerA [] s₁ H ⟨[.ref a],[]⟩ [.ref a] [.ref a] _ _ hr e0 (hbind s₁ (.ref a)) (.cons rfl .nil) (hsp H hO hS)) fun r s' h=>?_;cases r with
  |error e=>exact(hCX H e s' h).elim
  |ok fl =>
   cases fl with
   |next=>exact zi h
   |brk=>exact zi h
   |cont=>exact zi h
   |ret u =>
    obtain⟨v,H',os,bare,un,hok',r',q⟩:=h;have q':v=.bl true:=q;subst q';obtain rfl:u=Value.bool true:=r';refine⟨rfl,OldK.of_keep fun b o e=>?_,os,bare⟩;cases q:H b with
    |none=>exact un.keep b o e q (by intro z;exact absurd (show b∈([]:List Addr) from z) (by simp)) (by simp)
    |some u =>
     rcases hO b with z|⟨ob,xs,z⟩
     ·rw[q]at z;cases z
     ·have z2:=un.frzs b ob _ z;obtain⟨e1,_⟩:=hok b _ z;obtain⟨e2,_⟩:=hok' b _ z2;rw[e]at e1;cases e1;exact e2
 cases hk:K.lookup a with
 |some o =>
  have e:=KX a o hk;rw[ha]at e;cases e;refine core (fun _=>none) (fun _=>.inl rfl) (.inr ⟨_,vs.toArray,_,hk,rfl,rfl,rfl,by rw[υ,lenV];exact hl,by simpa using rv⟩) (fun b u z=>by have z':(none:Option HO)=some u:=z;cases z') (fun b z=>absurd rfl z) fun z=>absurd rfl z
 |none =>
  refine core (fun b=>if b=a then some (.frz { cls:=.type "list",data:=.seq vs.toArray } (.lst (ns.map V.int))) else none) (fun b=>?_) (.inl (.inr ⟨{ cls:=.type "list",data:=.seq vs.toArray },if_pos rfl⟩)) (fun b u z=>?_) (fun b z=>?_) fun _=>hk
  ·by_cases hb:b=a
   ·exact .inr ⟨_,_,if_pos hb⟩
   ·exact .inl (if_neg hb)
  ·by_cases hb:b=a
   ·have z':=(if_pos hb).symm.trans z;cases z';subst hb;exact⟨ha,by rw[δ];exact hl,vs,_,rv,ha⟩
   ·have z':=(if_neg hb).symm.trans z;cases z'
  ·by_cases hb:b=a
   ·exact hb
   ·exact absurd (if_neg hb) z
theorem aOf{l:PySem.W.OpenLaw}{YP:AD->Ag->Prop}{d:DefRec}{K:Params->ω}{CX:AD->CXT}{sp:AD->Sp}{x:Str}
  (hn:l.most=some n)(hn2:n<=ψ)(hdf:d.params.defaults=[])(hr:xF k callerA)
  (hY:∀(w:AD) (h:Ag),YP w h->(K w.params).In h)
  (F:∀(w:AD) (mg:Str->Option Value) (fa:Addr) (h:Ag),(K w.params).In h->h.Ns ya mg->mg d.name=some (.ref fa) →
   ∃fd:zb,(∀(s:ν) (u:Value),BindsTo s fd ⟨[u],[]⟩ [(x,u)]) ∧
    ∀base:Ag,(K w.params).In base->base.Ns ya mg->jI l.prog w (K w.params) mg base (CX w) k fa fd [x] (sp w))
  (hsp:∀(w:AD) (H:Hp) (a:Addr) (ns:List Int),ns.length<=n->Only H->SqL (K w.params) H a (ns.map V.int)->sp w [.ref a] H (fun v _=>v=.bl true) fun _ _ _=>False)
  (hCX:∀(w:AD) (H:Hp) (s:ν) (e:Value) (s':ν),CX w [] H s (fun _ _ _=>False) e s'->False):
  PySem.W.WalkO q loose XP YP l.row.toRowW d [] (fun f vs=>PySem.call f vs):=by
 refine Att.attach_call hn hdf fun w s₀ s₁ mg mb fa o pm cd doc a vs ns G Y ho hd hcd hmg hobj hints hlen hg=>?_;have KX:=hY w _ Y;obtain⟨fd,hb,hF⟩:=F w mg fa _ KX G.T.g hmg;exact aLj KX G.T.g G.T.b G.T.builtins G.T.nolimit hg hobj hints (yo hlen hn2) hr hF hb (fun H hO hS=>hsp w H a ns hlen hO hS) fun H e s'=>hCX w H s₁ e s'
def inClass (s:Stmt) (j:Nat):Stmt:=match s with
 |.ClassDef _ _ _ body _ _ _ _ _ _ _=>body.getD j (.Pass ⟨0,0,0,0⟩)
 |_=>.Pass ⟨0,0,0,0⟩
def dJ (s:Stmt):Arguments:=match s with
 |.FunctionDef _ a _ _ _ _ _ _ _ _=>a
 |_=>{ posonlyargs:=[],args:=[],vararg:=none,kwonlyargs:=[],kw_defaults:=[],kwarg:=none,defaults:=[] }
def aJ (s:Stmt):List Stmt:=match s with
 |.FunctionDef _ _ b _ _ _ _ _ _ _=>b
 |_=>[]
def jG (s:Stmt):Scope:=match s with
 |.FunctionDef _ _ _ _ _ _ sc _ _ _=>sc
 |_=>{ kind:=.function,names:=[],isGenerator:=false,isCoroutine:=false }
abbrev CX0:CXT:=fun _ _ _ _ _ _=>False
abbrev E0:XK:=fun _ _ _=>False
theorem jQ : zZ CX0 X E0:=fun _ _ _ _ _ _ _ h=>h.elim
structure Fun (K:ω) (x qual:Str) (st:Stmt) (f:Addr) (fd:zb):Prop where
 ex:∃(oc:Value) (od:Option Addr) (kV doc pm:Value) (an:Option Addr) (cdv ct:Value) (osl:Array (Option Value)),
  fd=fnOf x qual (dJ st) (aJ st) (jG st) .none kV doc pm an cdv ct/\K.lookup f=some ⟨oc,od,.func fd,osl⟩/\codeIn K cdv qual=true
 kp:keepIn K (.ref f)=true
section
variable {P:Ao}{w:AD}{K:ω}{mg:Str->Option Value}{base:Ag}
theorem Fun.ok{x qual:Str}{st:Stmt}{f:Addr}{fd:zb}{N ps:List Str}{k:Nat}{sp:Sp}(F:Fun K x qual st f fd)(S:jN N ps (jG st))(len:∀vs H Q E,sp vs H Q E->vs.length=ps.length)
  (hbody:∀(cdv:Value) (A:Ak) (outer:List Env) (s:ν) (H:Hp) (vs:List V) (Q:VK) (E:XK),xF k (A.deeper (envOfC qual (jG st) s.heap.objs.size f cdv))->sp vs H Q E →
   ∃t,PSs (lW CX0 P w K mg base N qual (jG st) f cdv A outer s H E).nox (aJ st) t/\t { nx:=fun _ H'=>Q .non H',rt:=Q } (start N vs) H):jI P w K mg base CX0 (k+1) f fd ps sp:=by
 obtain⟨oc,od,kV,doc,pm,an,cdv,ct,osl,rfl,lk,hcd⟩:=F.ex;refine aPt lk hcd S len fun A outer s H vs Q E hr hsp=>?_;obtain⟨t,h,q⟩:=hbody cdv A outer s H vs Q E hr hsp;exact⟨t,h.nox,q⟩
theorem Fun.binds{x qual:Str}{st:Stmt}{f:Addr}{fd:zb}{ps:List Str}(F:Fun K x qual st f fd)
  (h:∀(kV doc pm:Value) (an:Option Addr) (cdv ct:Value) (us:List Value),us.length=ps.length->bindArgs (fnOf x qual (dJ st) (aJ st) (jG st) .none kV doc pm an cdv ct) ⟨us,[]⟩=pure (ps.zip us)):Binds K fd ps []:=by
 obtain⟨oc,od,kV,doc,pm,an,cdv,ct,osl,rfl,lk,hcd⟩:=F.ex;exact .all (h kV doc pm an cdv ct)
theorem aKm{x qual:Str}{st:Stmt}{f:Addr}{oc:Value}{od an:Option Addr}{osl:Array (Option Value)}{kV doc pm cdv ct:Value}(l:K.lookup f=some ⟨oc,od,.func (fnOf x qual (dJ st) (aJ st) (jG st) .none kV doc pm an cdv ct),osl⟩)
  (c:codeIn K cdv qual=true)(k:keepIn K (.ref f)=true):Fun K x qual st f (fnOf x qual (dJ st) (aJ st) (jG st) .none kV doc pm an cdv ct):=⟨⟨oc,od,kV,doc,pm,an,cdv,ct,osl,rfl,l,c⟩,k⟩
end
theorem kN{n:Nat}(h:n<=1000):n<ψ:=zy h (by decide)
section
variable {X:Cx}
theorem pv(i:Nat)(hN:X.N[i]?=some x:=by rfl)(hv:Vis X.env.scope x:=by first|exact yp rfl|exact Or.inr (yp rfl)|exact Or.inr (Or.inr rfl))(hd:(x == ("__debug__" : Str))=false:=by decide)
  (hcd:(x == ("__classdict__" : Str))=false:=by decide):PE X (.Name x pos) (aJf i):=aRo hN hv hd hcd
end
theorem dX{A B:Prop}(h:B):if false=true then A else B:=by
 rw[if_neg π];exact h
theorem aId{A B:Prop}(h:A):if true=true then A else B:=by
 rw[if_pos rfl];exact h
theorem vE{c A B:Prop}[Decidable c](h1:c->A)(h2:¬ c->B):if c then A else B:=by
 by_cases h:c
 ·rw[if_pos h];exact h1 h
 ·rw[if_neg h];exact h2 h
def jF (H H':Hp):Prop:=∀b o,H b=some o->H' b=some o
theorem jF.refl(H:Hp):jF H H:=fun _ _ h=>h
theorem jF.trans(a:jF H H1)(b:jF H1 H2):jF H H2:=fun c o h=>b c o (a c o h)
theorem jF.free{H H':Hp}(e:jF H H')(h:H' l=Option.none):H l=Option.none:=by
 cases q:H l with
 |none=>rfl
 |some o =>
  rw[e l o q]at h;cases h
theorem jF.seq{K:ω}(e:jF H H')(h:SqL K H a xs):SqL K H' a xs:=by
 rcases h with (h|⟨o,h⟩)|h
 ·exact .inl (.inl (e _ _ h))
 ·exact .inl (.inr ⟨o,e _ _ h⟩)
 ·exact .inr h
end L2
set_option maxHeartbeats 4000000
namespace L2
open PySem PySem.Spec PyProof.Rows
theorem kQ.getR:∀{xs:List V}{us:List Value}{i:Nat}{u:Value},kQ xs us->us[i]?=some u->∃x,xs[i]?=some x/\RelV x u
 |_,_,_,_,.nil,e=>by simp at e
 |_,_,0,_,.cons r _,e=>by simp at e;subst e;exact⟨_,rfl,r⟩
 |_,_,i+1,u,.cons _ t,e=>by
  obtain⟨x,h1,h2⟩:=kQ.getR (i:=i) (u:=u) t (by simpa using e);exact⟨x,by simpa using h1,h2⟩
def isa (t T:String):Bool:=t == T||(t == "bool" && T == "int")
def tyN (K:ω) (x:V) (H:Hp) (t:String):Prop :=
 match x with
 |.non=>t = "NoneType"
 |.bl _=>t = "bool"
 |.int _=>t = "int"
 |.str _=>t = "str"
 |.ref p=>(t = "list"/\∃xs,SqL K H p xs)\/(t = "tuple"/\∃xs,SqT K H p xs)
 |_=>False
def wF:List String:=["int","bool","str","list","tuple","dict"]
section
variable {X:Cx}
theorem mI:xD X (.builtin "isinstance") (fun xs H Q=>∃x T t,xs=[x,.ty T]/\T∈wF/\tyN X.K x H t/\Q (.bl (isa t T)) H):=by
 intro pins s σ H xs us Q I r h;obtain⟨x,T,t,rfl,hT,ht,q⟩:=h;obtain⟨u,w',rfl,rx,rT⟩:=vals2 r;cases rT;have hT':T = "int" ∨ T = "bool" ∨ T = "str" ∨ T = "list" ∨ T = "tuple" ∨ T = "dict":=by simpa [wF] using hT
 have fin:∀{k:Bool}{s':ν},isa t T=k->Inv X pins σ H s'->EP X pins σ Q (.bool k) s':=fun {k s'} e I'=>by subst e;exact⟨.bl _,H,I',rfl,q⟩
 cases x with
 |non =>
  cases rx;have ht':t = "NoneType":=ht;subst ht';rcases hT' with rfl|rfl|rfl|rfl|rfl|rfl
  ·exact IsiPair.NoneType_int (fin (by decide) (I.tok _))
  ·exact IsiPair.NoneType_bool (fin (by decide) (I.tok _))
  ·exact IsiPair.NoneType_str (fin (by decide) (I.tok _))
  ·exact IsiPair.NoneType_list (fin (by decide) (I.tok _))
  ·exact IsiPair.NoneType_tuple (fin (by decide) (I.tok _))
  ·exact IsiPair.NoneType_dict (fin (by decide) (I.tok _))
 |bl b =>
  cases rx;have ht':t = "bool":=ht;subst ht';rcases hT' with rfl|rfl|rfl|rfl|rfl|rfl
  ·exact IsiPair.bool_int (fin (by decide) I)
  ·exact IsiPair.bool_bool (fin (by decide) I)
  ·exact IsiPair.bool_str (fin (by decide) (I.tok _))
  ·exact IsiPair.bool_list (fin (by decide) (I.tok _))
  ·exact IsiPair.bool_tuple (fin (by decide) (I.tok _))
  ·exact IsiPair.bool_dict (fin (by decide) (I.tok _))
 |int i =>
  obtain⟨tk,rfl⟩:=rx;have ht':t = "int":=ht;subst ht';rcases hT' with rfl|rfl|rfl|rfl|rfl|rfl
  ·exact IsiPair.int_int (fin (by decide) I)
  ·exact IsiPair.int_bool (fin (by decide) (I.tok _))
  ·exact IsiPair.int_str (fin (by decide) (I.tok _))
  ·exact IsiPair.int_list (fin (by decide) (I.tok _))
  ·exact IsiPair.int_tuple (fin (by decide) (I.tok _))
  ·exact IsiPair.int_dict (fin (by decide) (I.tok _))
 |str y =>
  obtain⟨tk,rfl⟩:=rx;have ht':t = "str":=ht;subst ht';rcases hT' with rfl|rfl|rfl|rfl|rfl|rfl
  ·exact IsiPair.str_int (fin (by decide) (I.tok _))
  ·exact IsiPair.str_bool (fin (by decide) (I.tok _))
  ·exact IsiPair.str_str (fin (by decide) I)
  ·exact IsiPair.str_list (fin (by decide) (I.tok _))
  ·exact IsiPair.str_tuple (fin (by decide) (I.tok _))
  ·exact IsiPair.str_dict (fin (by decide) (I.tok _))
 |ref p =>
  cases rx;have ht':(t = "list"/\∃xs,SqL X.K H p xs)\/(t = "tuple"/\∃xs,SqT X.K H p xs):=ht;rcases ht' with⟨rfl,ys,hy⟩|⟨rfl,ys,hy⟩
  ·obtain⟨its,rv,⟨o,n,e,hc,_,_⟩,hz⟩:=I.list hy;rcases hT' with rfl|rfl|rfl|rfl|rfl|rfl
   ·exact IsiPair.list_int e hc (fin (by decide) (I.tok _))
   ·exact IsiPair.list_bool e hc (fin (by decide) (I.tok _))
   ·exact IsiPair.list_str e hc (fin (by decide) (I.tok _))
   ·exact IsiPair.list_list e hc (fin (by decide) I)
   ·exact IsiPair.list_tuple e hc (fin (by decide) (I.tok _))
   ·exact IsiPair.list_dict e hc (fin (by decide) (I.tok _))
  ·obtain⟨its,rv,⟨o,e,hc,n,_⟩,hz⟩:=I.tuple hy;rcases hT' with rfl|rfl|rfl|rfl|rfl|rfl
   ·exact IsiPair.tuple_int e hc (fin (by decide) (I.tok _))
   ·exact IsiPair.tuple_bool e hc (fin (by decide) (I.tok _))
   ·exact IsiPair.tuple_str e hc (fin (by decide) (I.tok _))
   ·exact IsiPair.tuple_list e hc (fin (by decide) (I.tok _))
   ·exact IsiPair.tuple_tuple e hc (fin (by decide) I)
   ·exact IsiPair.tuple_dict e hc (fin (by decide) (I.tok _))
 |_=>exact(show False from ht).elim
end
section
variable {X:Cx}{pos:Pos}
theorem pA(bs:List Bool):(zw bs.length).all (fun i=>bs.getD i false)=bs.all id:=by
 rw[Bw];simp only[ze,Bs,id];constructor
 ·intro h x hx;obtain⟨i,hi,rfl⟩:=List.mem_iff_getElem.mp hx;have:=h i hi;simpa [Φ,η hi] using this
 ·intro h i hi;have:=h bs[i] (BF hi);simpa [Φ,η hi] using this
theorem rG(hc:X.calm=true):xD X (.builtin "all") (fun xs H Q=>∃(a:Addr) (bs:List Bool),xs=[.ref a]/\SqL X.K H a (bs.map V.bl)/\Q (.bl (bs.all id)) H):=by
 intro pins s σ H xs us Q I r h;obtain⟨a,bs,rfl,ha,q⟩:=h;obtain⟨u,rfl,rx⟩:=vals1 r;cases rx;obtain⟨its,rv,pl,hz⟩:=I.list ha;have hlen:bs.length=its.length:=by have:=rv.length;simpa using this
 have hlt:a≠s.heap.objs.size:=by obtain⟨o,n,ho,_⟩:=pl;exact yg (Ξ ho)
 refine call_all_walk (Bu pl.isList ?_);refine⟨s.heap.objs.size,_,_,_,_,_,fun i=>bs.getD i false,rfl,Walks.list (show X.A.in1.handled=none from I.ok.hd hc) _ a hlt its.toArray,⟨⟨_,yf _ rfl,rfl,rfl⟩,pl.isList.push _⟩,?_,fun h' tk hk=>?_⟩
 ·intro i v s' Q' E' hP hQ;have hv:its[i]?=some v:=by simpa using hP
  obtain⟨x,hx,rxv⟩:=rv.getR hv;rw[yv]at hx;cases hb:bs[i]? with
  |none=>rw[hb]at hx;cases hx
  |some b =>
   rw[hb]at hx;cases hx;cases rxv;have e:bs.getD i false=b:=by simp[Φ,hb]
   have hQ':Q' (bs.getD i false) s':=hQ;rw[e]at hQ';exact AI hQ'
 ·refine⟨.bl (bs.all id),H,I.kept fun b o e=>hk b o (by simp;exact yg (Ξ e)) (ρ _ e),?_,q⟩;show Value.bool _=Value.bool _;rw[←pA bs,hlen];simp
end
abbrev Cx.comp (X:Cx) (scope:Scope) (cl:List (Str×Addr)) (N:List Str) (s:ν) (H:Hp) (fp:List Addr) (C:Addr):Cx where
 prog:=X.prog
 w:=X.w
 K:=X.K
 mg:=X.mg
 base:=X.base
 A:=X.A
 N:=N
 s₀:=s
 H₀:=H
 env:=compEnvC scope cl C X.env
 outer:=X.stack
 stack:=X.stack
 ex:=fp
 fn:=fun _=>false
 calm:=X.calm
 pn:=[]
 xe:=fun _ _=>False
def fF (env:Env):List (Str×Addr)->Prop
 |[]=>True
 |p::r=>env.cells.lookup p.1=some p.2/\fF env r
theorem fF.all : ∀{cl:List (Str×Addr)},fF env cl->∀p∈cl,env.cells.lookup p.1=some p.2
 |[],_,p,hp=>by simp at hp
 |_::_,h,p,hp=>(ς.mp hp).elim (fun e=>e ▸ h.1) (fF.all h.2 p)
theorem fF.at(h:fF env cl)(e:cl.lookup x=some c):env.cells.lookup x=some c :=
 h.all (x,c) (Au e)
def oY (X:Cx) (scope:Scope) (cl:List (Str×Addr)):List Str->List Nat->Prop
 |[],[]=>True
 |y::ys,j::js=>(X.N[j]?=some y/\X.env.kindOf y=some .cell/\(relabel scope X.env).names.lookup y=some .cell/\∃c,cl.lookup y=some c)/\oY X scope cl ys js
 |_,_=>False
theorem oY.get : ∀{ys:List Str}{js:List Nat}{k:Nat}{y:Str},oY X scope cl ys js->ys[k]?=some y →
  ∃j,js[k]?=some j/\X.N[j]?=some y/\X.env.kindOf y=some .cell/\(relabel scope X.env).names.lookup y=some .cell/\∃c,cl.lookup y=some c
 |[],[],k,y,_,e=>by simp at e
 |y'::ys,j::js,0,y,h,e=>by
  simp at e;subst e;exact⟨j,rfl,h.1⟩
 |y'::ys,j::js,k+1,y,h,e=>by
  obtain⟨j',e1,r⟩:=oY.get (k:=k) h.2 (by simpa using e);exact⟨j',by simpa using e1,r⟩
 |[],_::_,_,_,h,_=>h.elim
 |_::_,[],_,_,h,_=>h.elim
theorem oY.len : ∀{ys:List Str}{js:List Nat},oY X scope cl ys js->ys.length=js.length
 |[],[],_=>rfl
 |_::_,_::_,h=>by rw[Δ,Δ,oY.len h.2]
 |[],_::_,h=>h.elim
 |_::_,[],h=>h.elim
def lY (k:Nat) (js:List Nat) (σ:St):St:=Ac k none++js.map fun j=>σ.getD j none
def PIf (X:Cx) (ifs:List Expr) (t:TT):Prop :=
 ∀(pins:List (Addr×Obj)) (s:ν) (σ:St) (H:Hp) (Q:Bool->Hp->Prop),Inv X pins σ H s->t σ H Q →
  xy (yl X.prog X.w) X.A (forIn ifs true fun c r=>if r=true then do let ok ←isTrue c X.env (eval c X.env);pure (Ct ok) else pure (Ct r)) (TP X pins σ Q) X.xe s
def tYes:TT:=fun _ H Q=>Q true H
theorem qB : PIf X [] tYes:=fun _ _ _ H _ I h=>wpAny_tests_nil ⟨H,I,h⟩
theorem fV(h:PT X c t):PIf X [c] t:=fun pins s σ H Q I hq=>wpAny_tests_one (h pins s σ H Q I hq)
def mH (J:It) (k:Nat) (js:List Nat) (g:TG) (tc:TT) (te:TE) (σ:St) (Q:VK) (H1:Hp):Prop :=
 ∃W:Nat->Nat->St->List V->Hp->Prop,(∃m,W 0 m (lY k js σ) [] H1)/\∀i m σ' xs H',W i m σ' xs H' →
  (J.stop i H'/\∀p,H' p=none->Q (.ref p) (upd H' p (.lst xs))) ∨
  (J.go i H'/\xs.length<ψ/\∃N:St->List V->Hp->Prop,(∀σ' ys H',N σ' ys H'->∃m',m'<m/\W (i+1) m' σ' ys H') ∧
   ∀x H2,J.yld i H' x H2->g x σ' H2 fun σ3 H3=>tc σ3 H3 fun b H4=>if b=true then te σ3 H4 fun v H5=>N σ3 (xs++[v]) H5 else N σ3 xs H4)
def aKn (wi:TI) (k:Nat) (js:List Nat) (g:TG) (tc:TT) (te:TE):TE:=fun σ H Q=>wi σ H fun J H1=>mH J k js g tc te σ Q H1
section
variable {prog:Ao}{w:AD}{A:Ak}{R:Result->ν->Prop}{s:ν}
theorem wU{iter:Expr}{acc:Value}(I:Nat->ν->Prop)
  (turn:∀n s,I n s->xy (yl prog w) A (pyNext it) (fun r s₁=>match r with
   |none=>R (.ok .next) s₁
   |some v=>xy (yl prog w) A (Dq target it v) (fun _ s₀=>xy (yl prog w) A (assign target env v) (fun _ s₂ =>
     xy (yl prog w) A (forIn ifs true fun c r=>if r=true then do let ok ←isTrue c env (eval c env);pure (Ct ok) else pure (Ct r)) (fun ok s₃ =>
      if ok=true then xy (yl prog w) A (eval elt env) (fun x s₄ =>
       xy (yl prog w) A (call (.builtin "list.append") [acc,x]) (fun _ s₅=>∃m,m<n/\I m s₅) (fun _ _=>False) s₄) (fun _ _=>False) s₃
      else ∃m,m<n/\I m s₃) (fun _ _=>False) s₂) (fun _ _=>False) s₀) (fun _ _=>False) s₁) (fun _ _=>False) s)
  (n:Nat)(h:I n s):Dr (yl prog w) A (.compLoop (.ListComp elt [⟨target,iter,ifs,0⟩] scope pos) 0 it acc env) R s:=by
 refine codeAny_loop rfl I (fun n s hI=>?_) n h;show xy _ A ((compTurn (.ListComp elt [⟨target,iter,ifs,0⟩] scope pos) 0 it acc env).onRaise (fun x=>do noteFrame x env;theTreesLotGoes x)) _ _ s;refine wpAny_noted ?_;rw[compTurn_list];refine ζ (Ca (ζ (Ad (turn n s hI) (fun r s₁ h₁=>?_) fun _ _ z=>zi z)));cases r with
 |none=>exact Θ h₁
 |some v =>
  refine ζ (Ad h₁ (fun _ s₀ h₀=>?_) fun _ _ z=>zi z);refine ζ (Ad h₀ (fun _ s₂ h₂=>ζ (Ad h₂ (fun ok s₃ h₃=>?_) fun _ _ z=>zi z)) fun _ _ z=>zi z);cases ok with
  |false=>exact Θ ⟨rfl,h₃⟩
  |true =>
   exact ζ (ζ (Ad h₃ (fun x s₄ h₄=>ζ (Ad h₄ (fun _ s₅ h₅=>Θ (Θ ⟨rfl,h₅⟩)) fun _ _ z=>zi z)) fun _ _ z=>zi z))
end
theorem HOk.but{H:Hp}{h':Ag}(x:HOk P w H h)(hn:H C=none)(k:∀b o,b≠C->h.get? b=some o->h'.get? b=some o):HOk P w H h':=fun b u e =>
 (x b u e).stay (fun c v hc q=>k c v (by
  rcases hc with z|z
  ·intro y;rw[←z,y,hn]at e;cases e
  ·intro y;rw[y,hn]at z;cases z) q) (fun _ q=>q) fun _ _ q=>q
theorem HOk.track{H:Hp}(x:HOk P w H h)(hn:H a=none)(new:vI P w (upd H a o) h a o):HOk P w (upd H a o) h:=fun b u e=>by
 by_cases hb:b=a
 ·subst hb;rw[jO]at e;cases e;exact new
 ·rw[jY hb]at e;exact(x b u e).stay (fun _ _ _ q=>q) (fun c q=>by rw[jY (jL q hn)];exact q) fun c xs q=>by rw[jY (jL q hn)];exact q
section
variable {X:Cx}{elt tg iter:Expr}{ifs:List Expr}{scope:Scope}{cl:List (Str×Addr)}{ts ys:List Str}{js:List Nat}{pos:Pos}{wi:TI}{g:TG}{tc:TT}{te:TE}
theorem aJd{i:Nat}(h:(lY k js σ)[i]?=some (some v)):∃n j,i=k+n/\js[n]?=some j/\σ[j]?=some (some v):=by
 unfold lY at h
 by_cases hi:i<k
 ·rw[yr (by simpa using hi),List.getElem?_replicate]at h
  split at h <;> cases h
 ·rw[yb (by simpa using hi),yv,Bg]at h;cases e:js[i-k]? with
  |none=>rw[e]at h;cases h
  |some j =>
   rw[e]at h;have h' : σ.getD j none=some v:=zc h;refine⟨i-k,j,by omega,e,?_⟩;rw[Φ]at h';cases q : σ[j]? with
   |none=>rw[q]at h';cases h'
   |some o=>rw[q]at h';exact congrArg some h'
theorem aBv{s:ν}{fp:List Addr}{C:Addr}{h1:Ag}{t':Nat}(I:Inv X pins σ H s)(hsub:fF X.env cl)(hcap:oY X scope cl ys js)
  (hkind:scope.kind=.function)(hhas:∀x,((relabel scope X.env).names.lookup x=some .cell\/(relabel scope X.env).names.lookup x=some .free)->∃c,cl.lookup x=some c)
  (f2:∀b∈fp,dY X pins H b)(fl:∀b∈fp,b<s.heap.objs.size)(hC:s.heap.objs.size<=C)(hn:h1.Ns C m)(old:∀b o,s.heap.get? b=some o->h1.get? b=some o):
  Inv (X.comp scope cl (ts++ys) s H fp C) [] (lY ts.length js σ) H { s with heap:=h1,toks:=t' }:=by
 obtain⟨mo,hno,hlo⟩:=id I.loc;refine⟨⟨I.ok.mod,hkind,I.ok.glob,I.ok.blt,hC,fun x y c e1 e2=>I.ok.inj x y c (hsub.at e1) (hsub.at e2),fun x hx=>hhas x hx,fun x c z _=>(by cases z),I.ok.hd,I.ok.frames,.inl rfl,
   fun b hb=>⟨yg (χ (fl b hb) hC),fun x c e=>(f2 b hb).2.2.2.2.1 x c (hsub.at e)⟩,I.bs,yo I.ok.bsz I.sz,fun b o e hb=>?_,fun b hb z=>?_,I.stack,I.stkFree⟩,
  rfl,I.bare,Un.kept old,⟨m,hn,fun i x v e1 e2 e3=>?_⟩,fun x c e=>?_,I.hok.fresh hC,fun x c e=>I.freeC x c (hsub.at e),fun p hp=>absurd (show p∈([]:List (Addr×Obj)) from hp) (by simp),I.hok.kept old,?_⟩
 ·-- an object of the base is none of the iterator's
  obtain⟨_,_,_,h3,_⟩:=f2 b hb;rcases h3 with z|z
  ·exact I.ok.noex b o e z
  ·exact absurd (χ (Ξ e) (yo I.ok.bsz z)) (AG _)
 ·obtain⟨_,h1',h2',_⟩:=f2 b hb;rcases ς.mp (I.stkSub b z) with e|e
  ·exact h1' e
  ·exact h2' e
 ·obtain⟨n,j,rfl,ej,es⟩:=aJd e2;have ey:ys[n]?=some x:=by
   have e1':(ts++ys)[ts.length+n]?=some x:=e1;rw[yb (by omega)]at e1';simpa using e1'
  obtain⟨j',ej',hN,hk,hr,c,hc⟩:=hcap.get ey;rw[ej]at ej';cases ej';obtain⟨u,ru,l⟩:=hlo j x v hN es (.inr (.inl hk));refine⟨u,ru,.inr ⟨.inl hr,c,hc,?_⟩⟩;rcases l with⟨k1,_⟩|⟨_,c',hc',⟨o,ho,hd⟩⟩
  ·rw[hk]at k1;cases k1
  ·have:=hsub.at hc;rw[hc']at this;cases this;exact⟨o,old _ o ho,hd⟩
 ·obtain⟨v,o,ho,hd⟩:=I.cell x c (hsub.at e);exact⟨v,o,old _ o ho,hd⟩
 ·show(lY ts.length js σ).length=(ts++ys).length;unfold lY;rw[ι,ι,Bg,δ,hcap.len]
theorem aDl{H3:Hp}{s4:ν}{fp:List Addr}{D:Addr}(I2:Inv X pins σ H2 s2)(f2:∀b∈fp,dY X pins H2 b)
  (I4:Inv (X.comp scope cl N s2 H2 fp C) pins' σ' H3 s4)(hC:s2.heap.objs.size<=C)(hD:s2.heap.objs.size<=D)(hDC:D≠C)(hs':AH C s4.heap h')(rv:kQ xs its)(hz:xs.length<=ψ)(e4:s4.heap.get? D=some { cls:=.type "list",data:=.seq its.toArray n })(hn:H3 D=none):
  Inv X pins σ (upd H3 D (.lst xs)) { s4 with heap:=h' }:=by
 have ext:=hs'.extBut;have neC:∀b o,s2.heap.get? b=some o->b≠C:=fun b o e=>yg (χ (Ξ e) hC);have neD:∀b o,s2.heap.get? b=some o->b≠D:=fun b o e=>yg (χ (Ξ e) hD);have hok:HOk X.prog X.w (upd H3 D (.lst xs)) h':=by
  have h1:HOk X.prog X.w H3 h':=HOk.but (C:=C) I4.hok I4.free fun b o hb e=>ext b o hb e;exact HOk.track h1 hn ⟨hz,its,n,rv,ext D _ hDC e4⟩
 have B:Un (frs X.stack) fp H2 H3 s2.heap s4.heap:=I4.base;have u:Un (frs X.stack) fp H2 (upd H3 D (.lst xs)) s2.heap h':=by
  refine⟨fun b o e q hb hx=>ext b o (neC b o e) (B.keep b o e q hb hx),fun b o e q hb hx=>?_,fun b o e q hx=>?_,fun b o e hx=>?_,fun b ys q=>?_,fun b o ys q=>?_,fun b ps q=>?_⟩
  ·obtain⟨sl,e1⟩:=B.slot b o e q hb hx;exact⟨sl,ext b _ (neC b o e) e1⟩
  ·rw[jY (neD b o e)];exact B.free b o e q hx
  ·obtain⟨o',e1⟩:=B.there b o e hx;exact⟨o',ext b _ (neC b o e) e1⟩
  ·have:=B.tups b ys q;rw[jY (jL this hn)];exact this
  ·have:=B.frzs b o ys q;rw[jY (jL this hn)];exact this
  ·obtain⟨m1,e1⟩:=B.tbls b ps q;exact⟨m1,by rw[jY (jL e1 hn)];exact e1⟩
 have os:s4.os=s2.os:=I4.os;have gb:=I4.bare;obtain⟨hh,gg,dd,tt,os'⟩:=s4;obtain rfl:os'=s2.os:=os;have fin:=I2.call (h':=h') (g':=gg) (d':=dd) (t':=tt) (ch:=fp) u hok gb fun b hb=>⟨(f2 b hb).2.2.2.1,(f2 b hb).2.1,(f2 b hb).2.2.2.2.1,(f2 b hb).2.2.2.2.2⟩;exact fin
end
abbrev xE (js:List Nat) (σ:St):St:=js.map fun j=>σ.getD j none
def aW (P:Nat->List V->Hp->Prop) (i:Nat) (js:List Nat) (σ:St):St->List V->Hp->Prop:=fun σ' ys H=>P (i+1) ys H/\∃o,σ'=o::xE js σ
theorem vQ{K:ω}{xs:List V}{k:Nat}{tc:TT}{te:TE}{Q:VK}(P:Nat->List V->Hp->Prop)(h0:P 0 [] H1)(hl:∀i ys H,i<=xs.length->P i ys H->SqL K H a xs/\ys.length<=i)(hz:xs.length<ψ)
  (hs:∀i x ys H,xs[i]?=some x->P i ys H->tc (some x::xE js σ) H fun b H2=>if b=true then te (some x::xE js σ) H2 fun v H3=>aW P i js σ (some x::xE js σ) (ys++[v]) H3 else aW P i js σ (some x::xE js σ) ys H2)
  (hd:∀ys H,P xs.length ys H->∀p,H p=none->Q (.ref p) (upd H p (.lst ys)))(hk:k=1:=by rfl):
  mH (Itl K a) k js (cW 0) tc te σ Q H1:=by
 subst hk;refine⟨fun i m σ' ys H=>m=xs.length-i/\i<=xs.length/\P i ys H/\∃o,σ'=o::xE js σ,⟨xs.length,by simp,yq _,h0,none,rfl⟩,?_⟩;rintro i m σ' ys H ⟨rfl,hi,p,o,rfl⟩;obtain⟨q,hy⟩:=hl i ys H hi p
 by_cases hlt:i<xs.length
 ·refine .inr ⟨⟨xs,xs[i],q,by simp[hlt]⟩,by omega,aW P i js σ,fun σ3 zs H3 z=>⟨xs.length-(i+1),by omega,rfl,hlt,z.1,z.2⟩,fun x H' y=>?_⟩;obtain⟨e,y⟩:=y;subst e;exact hs i x ys _ (y xs q) p
 ·have e:i=xs.length:=by omega
  subst e;exact .inl ⟨⟨xs,q,μ _⟩,hd ys H p⟩
theorem aBz{K:ω}{xs:List V}{k:Nat}{tc:TT}{te:TE}{Q:VK}(P:Nat->List V->Hp->Prop)(h0:P 0 [] H1)(hl:∀i ys H,i<=xs.length->P i ys H->SqT K H a xs/\ys.length<=i)(hz:xs.length<ψ)
  (hs:∀i x ys H,xs[i]?=some x->P i ys H->tc (some x::xE js σ) H fun b H2=>if b=true then te (some x::xE js σ) H2 fun v H3=>aW P i js σ (some x::xE js σ) (ys++[v]) H3 else aW P i js σ (some x::xE js σ) ys H2)
  (hd:∀ys H,P xs.length ys H->∀p,H p=none->Q (.ref p) (upd H p (.lst ys)))(hk:k=1:=by rfl):
  mH (Itt K a) k js (cW 0) tc te σ Q H1:=by
 subst hk;refine⟨fun i m σ' ys H=>m=xs.length-i/\i<=xs.length/\P i ys H/\∃o,σ'=o::xE js σ,⟨xs.length,by simp,yq _,h0,none,rfl⟩,?_⟩;rintro i m σ' ys H ⟨rfl,hi,p,o,rfl⟩;obtain⟨q,hy⟩:=hl i ys H hi p
 by_cases hlt:i<xs.length
 ·refine .inr ⟨⟨xs,xs[i],q,by simp[hlt]⟩,by omega,aW P i js σ,fun σ3 zs H3 z=>⟨xs.length-(i+1),by omega,rfl,hlt,z.1,z.2⟩,fun x H' y=>?_⟩;obtain⟨e,y⟩:=y;subst e;exact hs i x ys _ (y xs q) p
 ·have e:i=xs.length:=by omega
  subst e;exact .inl ⟨⟨xs,q,μ _⟩,hd ys H p⟩
theorem bE{lo:Int}{n:Nat}{k:Nat}{tc:TT}{te:TE}{Q:VK}(P:Nat->List V->Hp->Prop)(h0:P 0 [] H1)(hl:∀i ys H,i<=n->P i ys H->ys.length<=i)(hz:n<ψ)
  (hs:∀i ys H,i<n->P i ys H->tc (some (.int (lo+i))::xE js σ) H fun b H2=>if b=true then te (some (.int (lo+i))::xE js σ) H2 fun v H3=>aW P i js σ (some (.int (lo+i))::xE js σ) (ys++[v]) H3 else aW P i js σ (some (.int (lo+i))::xE js σ) ys H2)
  (hd:∀ys H,P n ys H->∀p,H p=none->Q (.ref p) (upd H p (.lst ys)))(hk:k=1:=by rfl):
  mH (Itr lo n) k js (cW 0) tc te σ Q H1:=by
 subst hk;refine⟨fun i m σ' ys H=>m=n-i/\i<=n/\P i ys H/\∃o,σ'=o::xE js σ,⟨n,by simp,yq _,h0,none,rfl⟩,?_⟩;rintro i m σ' ys H ⟨rfl,hi,p,o,rfl⟩;have hy:=hl i ys H hi p
 by_cases hlt:i<n
 ·refine .inr ⟨hlt,by omega,aW P i js σ,fun σ3 zs H3 z=>⟨n-(i+1),by omega,rfl,hlt,z.1,z.2⟩,fun x H' y=>?_⟩;obtain⟨e,y⟩:=y;subst e;subst y;exact hs i ys _ hlt p
 ·have e:i=n:=by omega
  subst e;exact .inl ⟨μ _,hd ys H p⟩
section
variable {X:Cx}
theorem aHi(K:ω)(h:X.K=K):IxR X (rIxT K):=h ▸ kY
theorem aDr(K:ω)(h:X.K=K):IxR X (rIxL K):=h ▸ kF
end
section
variable {κ : Type} [DecidableEq κ]
def zT (kvs:List (κ×V)) (k : κ):Option V:=(kvs.find? fun kv=>decide (kv.1=k)).map (·.2)
def putK (kvs:List (κ×V)) (k : κ) (v:V):List (κ×V) :=
 if (kvs.any fun kv=>decide (kv.1=k))=true then kvs.map (fun kv=>if kv.1=k then (kv.1,v) else kv) else kvs++[(k,v)]
def aQl (kvs:List (κ×V)) (k : κ):List (κ×V):=kvs.filter fun kv=>decide (kv.1≠k)
theorem mE{p: κ×V}{r:List (κ×V)}{k: κ}(e:p.1=k):zT (p::r) k=some p.2:=by simp[zT,Cu,e]
theorem lI{p: κ×V}{r:List (κ×V)}{k: κ}(e:¬ p.1=k):zT (p::r) k=zT r k:=by simp[zT,Cu,e]
theorem aBp(k : κ):∀kvs:List (κ×V),(kvs.any fun kv=>decide (kv.1=k))=(zT kvs k).isSome
 |[]=>rfl
 |p::r=>by
  rw[Ea]
  by_cases e:p.1=k
  ·simp only[mE e,decide_eq_true e,Bool.true_or,Option.isSome_some]
  ·rw[lI e,decide_eq_false e,Bool.false_or];exact aBp k r
theorem oH(kvs:List (κ×V))(k : κ)(v:V):(putK kvs k v).length<=kvs.length+1:=by
 unfold putK
 split
 ·rw[δ];omega
 ·rw[ι,Δ,Cv];omega
theorem aI.isSome_eq(r:aI o u):o.isSome=u.isSome:=by
 cases o with
 |none=>cases u with
  |none=>rfl
  |some _=>exact(show False from r).elim
 |some _=>cases u with
  |none=>exact(show False from r).elim
  |some _=>rfl
theorem aI.getD(r:aI o u)(rd:RelV d d'):RelV (o.getD d) (u.getD d'):=by
 cases o with
 |none=>cases u with
  |none=>exact rd
  |some _=>exact(show False from r).elim
 |some _=>cases u with
  |none=>exact(show False from r).elim
  |some _=>exact r
theorem KV.val(r:KV kvs vs)(k : κ):aI (zT kvs k) (valueAt vs k):=by
 unfold KV at r
 induction r with
 |nil=>exact Ae
 | @cons p q ps qs h t ih =>
  obtain⟨h1,h2⟩:=h
  by_cases e:p.1=k
  ·have e':q.1=k:=h1.symm.trans e;have b:valueAt (q::qs) k=some q.2:=by simp[valueAt,Cu,e']
   rw[mE e,b];exact h2
  ·have e':¬ q.1=k:=fun z=>e (h1.trans z);have b:valueAt (q::qs) k=valueAt qs k:=by simp[valueAt,Cu,e']
   rw[lI e,b];exact ih
theorem KV.any(r:KV kvs vs)(k : κ):(kvs.any fun kv=>decide (kv.1=k))=vs.any fun kv=>decide (kv.1=k):=by
 unfold KV at r
 induction r with
 |nil=>rfl
 |cons h t ih=>rw[Ea,Ea,ih,h.1]
theorem KV.repl(r:KV kvs vs)(k : κ)(ry:RelV y u):
  KV (kvs.map fun kv=>if kv.1=k then (kv.1,y) else kv) (vs.map fun kv=>if kv.1=k then (kv.1,u) else kv):=by
 unfold KV at r ⊢
 induction r with
 |nil=>exact .nil
 | @cons p q ps qs h t ih =>
  rw[zm,zm];refine .cons ?_ ih;obtain⟨h1,h2⟩:=h
  by_cases e:p.1=k
  ·rw[if_pos e,if_pos (h1.symm.trans e)];exact⟨h1,ry⟩
  ·rw[if_neg e,if_neg (fun z=>e (h1.trans z))];exact⟨h1,h2⟩
theorem KV.put(r:KV kvs vs)(k : κ)(ry:RelV y u):KV (putK kvs k y) (stored vs k u):=by
 unfold putK stored;rw[r.any k]
 by_cases e:(vs.any fun kv=>decide (kv.1=k))=true
 ·rw[if_pos e,if_pos e];exact r.repl k ry
 ·rw[if_neg e,if_neg e];exact Paired.snoc r ⟨rfl,ry⟩
theorem KV.drop(r:KV kvs vs)(k : κ):KV (aQl kvs k) (without vs k):=by
 unfold KV at r ⊢;unfold aQl without
 induction r with
 |nil=>exact .nil
 | @cons p q ps qs h t ih =>
  obtain⟨h1,h2⟩:=h;rw[DU,DU]
  by_cases e:p.1=k
  ·have a:¬ decide (p.1≠k)=true:=by simp[e]
   have b:¬ decide (q.1≠k)=true:=by simp[h1.symm.trans e]
   rw[if_neg a,if_neg b];exact ih
  ·have e':¬ q.1=k:=fun z=>e (h1.trans z);have a:decide (p.1≠k)=true:=by simp[e]
   have b:decide (q.1≠k)=true:=by simp[e']
   rw[if_pos a,if_pos b];exact .cons ⟨h1,h2⟩ ih
theorem KV.keys{kvs:List (κ×V)}{vs:List (κ×Value)}(r:KV kvs vs):kvs.map (·.1)=vs.map (·.1):=by
 unfold KV at r
 induction r with
 |nil=>rfl
 |cons h t ih=>rw[zm,zm,ih,h.1]
theorem KV.length(r:KV kvs vs):kvs.length=vs.length:=Dg r
end
theorem sQ(r:RelV (kV k) u):(qT P w).is k u=true:=by
 cases k with
 |inl i=>obtain⟨t,e⟩:=(show ∃t,u=Value.int i t from r);subst e;exact aCx P w i t
 |inr x=>obtain⟨t,e⟩:=(show ∃t,u=Value.str x t from r);subst e;exact aDp P w x t
theorem uK : ∀{ks:List Key}{us:List Value},kQ (ks.map kV) us->ItemsAre (qT P w) ks us
 |[],_,r=>by rw[List.map_nil]at r;cases r;exact .nil
 |k::ks,_,r=>by
  rw[zm]at r;cases r with
  |cons h t=>exact .cons (sQ h) (uK t)
abbrev KT (H:Hp):List (List Key×V)->List (List Key×Addr×Value)->Prop:=Paired fun p q=>p.1=q.1/\H q.2.1=some (.tup (p.1.map kV))/\RelV p.2 q.2.2
theorem KT.val(r:KT H kvs xs)(k:List Key):aI (zT kvs k) ((atKey xs k).map (·.2)):=by
 induction r with
 |nil=>exact Ae
 | @cons p q ps qs h t ih =>
  obtain⟨h1,_,h2⟩:=h
  by_cases e:p.1=k
  ·have e':q.1=k:=h1.symm.trans e;have b:atKey (q::qs) k=some q.2:=by simp[atKey,Cu,e']
   rw[mE e,b];exact h2
  ·have e':¬ q.1=k:=fun z=>e (h1.trans z);have b:atKey (q::qs) k=atKey qs k:=by simp[atKey,Cu,e']
   rw[lI e,b];exact ih
theorem KT.repl(r:KT H kvs xs)(k:List Key)(ry:RelV y u):
  KT H (kvs.map fun kv=>if kv.1=k then (kv.1,y) else kv) (xs.map (putAt k u)):=by
 induction r with
 |nil=>exact .nil
 | @cons p q ps qs h t ih =>
  rw[zm,zm];refine .cons ?_ ih;obtain⟨h1,h2,h3⟩:=h;unfold putAt
  by_cases e:p.1=k
  ·rw[if_pos e,if_pos (h1.symm.trans e)];exact⟨h1,h2,ry⟩
  ·rw[if_neg e,if_neg (fun z=>e (h1.trans z))];exact⟨h1,h2,h3⟩
theorem KT.put{H:Hp}(r:KT H kvs xs)(k:List Key)(hb:H b=some (.tup (k.map kV)))(ry:RelV y u):
  KT H (putK kvs k y) (storedH xs k b u):=by
 have e:(kvs.any fun kv=>decide (kv.1=k))=(atKey xs k).isSome:=by
  rw[aBp,(r.val k).isSome_eq,Option.isSome_map]
 unfold putK storedH;rw[e]
 by_cases q:(atKey xs k).isSome=true
 ·rw[if_pos q,if_pos q];exact r.repl k ry
 ·rw[if_neg q,if_neg q];exact Paired.snoc r ⟨rfl,hb,ry⟩
theorem KT.keeps{H H':Hp}(r:KT H kvs xs)(ht:∀b ys,H b=some (.tup ys)->H' b=some (.tup ys)):KT H' kvs xs :=
 Paired.mapP r fun _ _ z=>⟨z.1,ht _ _ z.2.1,z.2.2⟩
section
variable {P:Ao}{w:AD}{H:Hp}{h:Ag}{a:Addr}
theorem aPs(ok:HOk P w H h)(e:Rd H a u):vI P w H h a u:=e.ok ok
theorem tM(ok:HOk P w H h)(e:Rd H a (.dK kvs)):kvs.length<=ψ/\(a == BZ)=false/\∃vs,KV kvs vs/\h.DictOf (qT P w) a vs :=
 show vI P w H h a (.dK kvs) from aPs ok e
theorem aPv(ok:HOk P w H h)(e:H a=some (.dK kvs)):kvs.length<=ψ/\(a == BZ)=false/\∃vs,KV kvs vs/\h.DictOf (qT P w) a vs:=tM ok (.inl e)
theorem tO{ks:List Key}(ok:HOk P w H h)(e:H a=some (.tup (ks.map kV))):(tupleKind (qT P w)).is h ks a:=by
 obtain⟨_,its,r,o,h1,h2,n,h3⟩:=(show vI P w H h a (.tup (ks.map kV)) from ok a _ e);exact⟨o,its.toArray,n,h1,h2,h3,by simpa using uK r⟩
theorem wA(ok:HOk P w H h)(e:Rd H a (.dT kvs)):kvs.length<=ψ/\(a == BZ)=false ∧
  ∃xs,KT H kvs xs/\h.DictOfH (tupleKind (qT P w)) a xs:=by
 obtain⟨z,y,xs,r,o,es,ep,h1,h2,h3,h4,h5⟩:=(show vI P w H h a (.dT kvs) from aPs ok e);refine⟨z,y,xs,r,o,es,ep,h1,h2,h3,h4,fun x hx=>?_,h5⟩;have all:∀{l:List (List Key×V)}{m:List (List Key×Addr×Value)},KT H l m->∀x∈m,(tupleKind (qT P w)).is h x.1 x.2.1:=by
  intro l m q
  induction q with
  |nil=>intro x hx;exact nomatch hx
  | @cons p q ps qs hq t ih =>
   intro x hx;rcases ς.mp hx with e|hx
   ·subst e;exact tO ok (by rw[←hq.1];exact hq.2.1)
   ·exact ih x hx
 exact all r x hx
end
def bY (H:Hp) (a:Addr) (y:V) (r:Option V):Prop :=
 (∃kvs k,Rd H a (.dK kvs)/\y=kV k/\r=zT kvs k)\/∃kvs k b,Rd H a (.dT kvs)/\y=.ref b/\H b=some (.tup (k.map kV))/\r=zT kvs k
theorem bY.k{H:Hp}{a:Addr}{kvs:List (Key×V)}{k:Key}(e:H a=some (.dK kvs)):bY H a (kV k) (zT kvs k):=.inl ⟨kvs,k,.inl e,rfl,rfl⟩
theorem bY.t{H:Hp}{k:List Key}(e:H a=some (.dT kvs))(eb:H b=some (.tup (k.map kV))):bY H a (.ref b) (zT kvs k):=.inr ⟨kvs,k,b,.inl e,rfl,eb,rfl⟩
section
variable {X:Cx}{pins:List (Addr×Obj)}{σ:St}{H:Hp}{s:ν}{a:Addr}{y v:V}{u r:Value}{o:Option V}{A:Ak}{E:Value->ν->Prop}
theorem Inv.big(I:Inv X pins σ H s):BZ<s.heap.objs.size:=by
 have h:ya<s.heap.objs.size:=(I.mod.glob.keeps I.bk).lt;exact CT (by decide) h
theorem aHv{Q:Value->ν->Prop}(hu:A.units+1<Cs)(I:Inv X pins σ H s)(g:bY H a y (some v))(ry:RelV y u)(h:∀w' s',Inv X pins σ H s'->RelV v w'->Q w' s'):
  xy (yl X.prog X.w) A (getItem (.ref a) u) Q E s:=by
 rcases g with⟨kvs,k,e,ey,l⟩|⟨kvs,k,b,e,ey,eb,l⟩
 ·subst ey;obtain⟨z,hd,vs,rel,dd⟩:=tM I.hok e;obtain⟨w',hw,rw'⟩:=aI.some_of (v:=v) (o:=valueAt vs k) (by rw[l];exact rel.val k);exact wpAny_getItem_of (sQ ry) dd.mapOf hw (h w' _ (I.tok _) rw')
 ·subst ey;cases (show u=yk b from ry);obtain⟨z,hd,xs,rel,dd⟩:=wA I.hok e;obtain⟨w',hw,rw'⟩:=aI.some_of (v:=v) (o:=(atKey xs k).map (·.2)) (by rw[l];exact rel.val k);obtain⟨p,hp,hp2⟩:=Option.map_eq_some_iff.mp hw;refine wpAny_getItem_heap (Du hu) (tO I.hok eb) dd hp ?_;rw[hp2];exact h w' _ (I.tok _) rw'
theorem d_in{Q:Value->ν->Prop}(hu:A.units+1<Cs)(I:Inv X pins σ H s)(g:bY H a y o)(ry:RelV y u)(h:∀s',Inv X pins σ H s'->Q (.bool o.isSome) s'):
  xy (yl X.prog X.w) A (Ah .In u (.ref a)) Q E s:=by
 rcases g with⟨kvs,k,e,ey,l⟩|⟨kvs,k,b,e,ey,eb,l⟩
 ·subst ey;obtain⟨z,hd,vs,rel,dd⟩:=tM I.hok e;refine wpAny_in_of (sQ ry) hd dd.mapOf ?_;rw[←(rel.val k).isSome_eq,←l];exact h _ (I.tok _)
 ·subst ey;cases (show u=yk b from ry);obtain⟨z,hd,xs,rel,dd⟩:=wA I.hok e;refine wpAny_in_heap (Du hu) (tO I.hok eb) hd dd ?_;have q:=(rel.val k).isSome_eq;rw[Option.isSome_map]at q;rw[←q,←l];exact h _ (I.tok _)
theorem aNo{Q:Value->ν->Prop}(hu:A.units+1<Cs)(I:Inv X pins σ H s)(g:bY H a y o)(ry:RelV y u)(h:∀s',Inv X pins σ H s'->Q (.bool (!o.isSome)) s'):
  xy (yl X.prog X.w) A (Ah .NotIn u (.ref a)) Q E s:=by
 rcases g with⟨kvs,k,e,ey,l⟩|⟨kvs,k,b,e,ey,eb,l⟩
 ·subst ey;obtain⟨z,hd,vs,rel,dd⟩:=tM I.hok e;refine wpAny_notIn_of (sQ ry) hd dd.mapOf ?_;rw[←(rel.val k).isSome_eq,←l];exact h _ (I.tok _)
 ·subst ey;cases (show u=yk b from ry);obtain⟨z,hd,xs,rel,dd⟩:=wA I.hok e;refine wpAny_notIn_heap (Du hu) (tO I.hok eb) hd dd ?_;have q:=(rel.val k).isSome_eq;rw[Option.isSome_map]at q;rw[←q,←l];exact h _ (I.tok _)
theorem aPb{t':Nat}(I:Inv X pins σ H s)(mu:Mut (H a))(hs:AH a s.heap h')(he:∃q,h'.get? a=some q)(new:vI X.prog X.w (upd H a ob) h' a ob):
  Inv X pins σ (upd H a ob) { s with heap:=h',toks:=t' } :=
 I.write (x:=a) (e:=a) mu (.inl rfl) (fun b q hb z=>(hs.2 b hb).trans z) he new
theorem aEz{h':Ag}{kvs:List (Key×V)}(z:kvs.length<=ψ)(hd:(a == BZ)=false)(rel:KV kvs vs)(dd:h'.DictOf (qT P w) a vs):
  vI P w H' h' a (.dK kvs):=⟨z,hd,vs,rel,dd⟩
end
def NoSl (i:Expr):Prop:=∀ov iv,subscripted i false ov iv=operate [ov,iv] (getItem ov iv)
theorem aOq{prog:Ao}{w:AD}{A:Ak}{E:Value->ν->Prop}{s:ν}{env:Env}{value slice:Expr}{pos:Pos}{T id:String}{Q:Value->ν->Prop}
  (hl:CI (.type T) "__getitem__" = pure (some (.builtin id)))(hs:NoSl slice)
  (h:xy (yl prog w) A (eval value env) (fun o s₁=>xy (yl prog w) A (eval slice env) (fun i s₂=>s₂.TypeIs o T/\xy (yl prog w) A (getItem o i) Q E s₂) E s₁) E s):
  xy (yl prog w) A (eval (.Subscript value slice pos) env) Q E s:=by
 refine Subscript_ (Ad h (fun o s₁ h₁=>Ad h₁ (fun i s₂ h₂=>?_) fun _ _ x=>x) fun _ _ x=>x);obtain⟨hT,h₂⟩:=h₂;unfold subscriptTail;refine ζ ?_;rw[getitemInPython_of_ne hT.not_modules];refine ζ (wpAny_specialOf hT hl ?_);have fin:xy (yl prog w) A (subscripted slice false o i) (fun r s₃=>xy (yl prog w) A (letTemporaryGo value o r >>= fun _=>pure r) Q E s₃) E s₂:=by
  rw[hs o i];exact wpAny_operating (Ad h₂ (fun r s₃ h₃=>ζ (wpAny_letTemporaryGo (Θ h₃))) fun _ _ x=>x)
 first
  |exact Θ (ζ fin)
  |exact ζ (Θ (ζ fin))
  |exact ζ fin
theorem aBx(I:Inv X pins σ H s)(g:bY H a y o):s.TypeIs (.ref a) "dict":=by
 rcases g with⟨kvs,k,e,_,_⟩|⟨kvs,k,b,e,_,_,_⟩
 ·obtain⟨_,_,vs,_,dd⟩:=tM I.hok e;exact dd.typeIs
 ·obtain⟨_,_,xs,_,dd⟩:=wA I.hok e;exact dd.typeIs
def tDGet (td ty:TE):TE:=fun σ H Q=>td σ H fun x H1=>ty σ H1 fun y H2=>∃a v,x=.ref a/\bY H2 a y (some v)/\Q v H2
def tDIn (ty td:TE):TE:=fun σ H Q=>ty σ H fun y H1=>td σ H1 fun x H2=>∃a o,x=.ref a/\bY H2 a y o/\Q (.bl o.isSome) H2
def aOe (ty td:TE):TE:=fun σ H Q=>ty σ H fun y H1=>td σ H1 fun x H2=>∃a o,x=.ref a/\bY H2 a y o/\Q (.bl (!o.isSome)) H2
section
variable {X:Cx}{o i e value:Expr}{pos pos' tpos:Pos}{td ty tv:TE}
theorem fX(hu:X.A.units+1<Cs)(ho:PE X o td)(hi:PE X i ty)(hs:NoSl i):PE X (.Subscript o i pos) (tDGet td ty):=by
 intro pins s σ H Q I h;refine aOq PySem.F.slot_dict_getitem.lookup hs (thn (ho pins s σ H _ I h) fun u s1 ⟨x,H1,I1,rx,q1⟩=>thn (hi pins s1 σ H1 _ I1 q1) fun iv s2 zq=>?_);obtain⟨y,H2,I2,ry,a,v,ex,g,q2⟩:=zq;subst ex;obtain rfl:u=yk a:=rx;exact⟨aBx I2 g,aHv hu I2 g ry fun w' s3 I3 rw'=>⟨v,H2,I3,rw',q2⟩⟩
theorem aEc(hu:X.A.units+1<Cs)(hi:PE X i ty)(ho:PE X o td):PC X .In i o (tDIn ty td):=by
 intro pins s σ H Q I h;refine thn (hi pins s σ H _ I h) fun iv s1 ⟨y,H1,I1,ry,q1⟩=>thn (ho pins s1 σ H1 _ I1 q1) fun u s2 zq=>?_;obtain⟨x,H2,I2,rx,a,ov,ex,g,q2⟩:=zq;subst ex;obtain rfl:u=yk a:=rx;exact d_in hu I2 g ry fun s3 I3=>⟨.bl ov.isSome,H2,I3,rfl,q2⟩
theorem aIk(hu:X.A.units+1<Cs)(hi:PE X i ty)(ho:PE X o td):PC X .NotIn i o (aOe ty td):=by
 intro pins s σ H Q I h;refine thn (hi pins s σ H _ I h) fun iv s1 ⟨y,H1,I1,ry,q1⟩=>thn (ho pins s1 σ H1 _ I1 q1) fun u s2 zq=>?_;obtain⟨x,H2,I2,rx,a,ov,ex,g,q2⟩:=zq;subst ex;obtain rfl:u=yk a:=rx;exact aNo hu I2 g ry fun s3 I3=>⟨.bl (!ov.isSome),H2,I3,rfl,q2⟩
end
theorem aJk(h:Ag)(hb:BZ<h.objs.size):vI P w H (h.push { cls:=.type "dict",data:=.dict #[] }) h.objs.size (.dK []) :=
 ⟨yq _,beq_eq_false_iff_ne.mpr (Aj (yg hb)),[],.nil,Ag.DictOf.new h⟩
def bC (kvs more:List (Key×V)):List (Key×V):=more.foldl (fun acc kv=>putK acc kv.1 kv.2) kvs
theorem gY:∀(more kvs:List (Key×V)),(bC kvs more).length<=kvs.length+more.length
 |[],kvs=>by show kvs.length<=kvs.length+0;omega
 |p::r,kvs=>by
  have h1:=gY r (putK kvs p.1 p.2);have h2:=oH kvs p.1 p.2;show(bC (putK kvs p.1 p.2) r).length<=_;rw[Δ];omega
structure M2 (X:Cx) (o:Expr) (m:Str) (apos:Pos) (e f:Expr) (cpos:Pos):Prop where
 base:Cb o m X.env (eval o X.env)=eval o X.env
 few:((BH cpos (yi [e,f] X.env)).all (fun x=>!x.1)&&(backToKw cpos (CH [] X.env)).all (fun x=>x.1.isSome)
  && decide (([e,f]:List Expr).length+([]:List Keyword).length+(if ([]:List Keyword).isEmpty then 0 else 1)<30))=true
 line:(apos.endLine == cpos.line)=true
 trees:BH cpos (yi [e,f] X.env)=[(false,eval e X.env),(false,eval f X.env)]
def IsD (H:Hp) (a:Addr):Prop:=(∃kvs,Rd H a (.dK kvs))\/∃kvs,Rd H a (.dT kvs)
theorem aSx(I:Inv X pins σ H s)(d:IsD H a):
  s.TypeIs (.ref a) "dict"/\(∀b,yk a=.ref b->∃ob,s.heap.get? b=some ob/\ob.dict=none)/\(a == BZ)=false:=by
 rcases d with⟨kvs,e⟩|⟨kvs,e⟩
 ·obtain⟨_,hd,vs,_,dd⟩:=tM I.hok e;refine⟨dd.typeIs,fun b q=>?_,hd⟩;cases q;obtain⟨ob,_,_,h1,h2,_⟩:=dd;exact⟨ob,h1,h2.2.1⟩
 ·obtain⟨_,hd,xs,_,dd⟩:=wA I.hok e;refine⟨dd.typeIs,fun b q=>?_,hd⟩;cases q;obtain⟨ob,_,_,h1,h2,_⟩:=dd;exact⟨ob,h1,h2.2.1⟩
section
variable {X:Cx}{pins:List (Addr×Obj)}{σ:St}{H:Hp}{s:ν}{a:Addr}{y d:V}{u r:Value}{o:Option V}{A:Ak}{E:Value->ν->Prop}
theorem aTi{Q:Value->ν->Prop}(hu:A.units+1<Cs)(I:Inv X pins σ H s)(g:bY H a y o)(ry:RelV y u)(rd:RelV d r)(h:∀w' s',Inv X pins σ H s'->RelV (o.getD d) w'->Q w' s'):
  xy (yl X.prog X.w) A (call (.builtin "dict.get") [.ref a,u,r]) Q E s:=by
 rcases g with⟨kvs,k,e,ey,l⟩|⟨kvs,k,b,e,ey,eb,l⟩
 ·subst ey;obtain⟨z,hd,vs,rel,dd⟩:=tM I.hok e;refine call_meetsIn DN dd.typeIs PySem.F.entry_dict_get (PySem.F.args_dict_get_3 _ _ _) (meets_dict_get_default (qT X.prog X.w) a (sQ ry) hd r) ⟨_,dd.mapOf,h _ _ (I.tok _) ?_⟩;rw[l];exact(rel.val k).getD rd
 ·subst ey;cases (show u=yk b from ry);obtain⟨z,hd,xs,rel,dd⟩:=wA I.hok e;refine call_meetsIn DN dd.typeIs PySem.F.entry_dict_get (PySem.F.args_dict_get_3 _ _ _) (meetsH_dict_get_default (tupleKind (qT X.prog X.w)) a b hd r) ⟨Du hu,k,xs,tO I.hok eb,dd,h _ _ (I.tok _) ?_⟩;rw[l];exact(rel.val k).getD rd
end
def aSu (td ty tx:TE):TE:=fun σ H Q=>td σ H fun x H1=>∃a,x=.ref a/\IsD H1 a/\ty σ H1 fun y H2=>tx σ H2 fun z H3=>∃o,bY H3 a y o/\Q (o.getD z) H3
section
variable {X:Cx}{o e f:Expr}{apos cpos:Pos}{td ty tx:TE}
theorem aMg(hu:X.A.units+1<Cs)(ho:PE X o td)(he:PE X e ty)(hf:PE X f tx)(m:M2 X o "get" apos e f cpos):PE X (.Call (.Attribute o "get" apos) [e,f] [] cpos) (aSu td ty tx):=by
 intro pins s σ H Q I h;refine wpAny_Call_method m.base m.few m.line PySem.F.plainAttrs_dict DN PySem.F.type_dict_get (thn (ho pins s σ H _ I h) fun u s1 zq=>?_);obtain⟨x,H1,I1,rx,a,ex,d,q1⟩:=zq;subst ex;obtain rfl:u=yk a:=rx;obtain⟨t1,t2,_⟩:=aSx I1 d;refine⟨t1,t2,?_⟩;rw[m.trees];refine Calls.callWith_builtin rfl (Calls.evalArgs_plain (Dt (thn (he pins s1 σ H1 _ I1 q1) fun iv s2 ⟨y,H2,I2,ry,q2⟩ =>
  Dt (thn (hf pins s2 σ H2 _ I2 q2) fun fv s3 ⟨z,H3,I3,rz,ov,g,q3⟩=>Calls.spliced_nil ?_))))
 exact aTi hu I3 g ry rz fun w' s4 I4 rw'=>⟨_,H3,I4,rw',q3⟩
end
section
variable {X:Cx}
theorem uI:xD X (.builtin "isinstance") (fun xs H Q=>∃p T kvs,xs=[.ref p,.ty T]/\T∈wF/\H p=some (.dK kvs)/\Q (.bl (isa "dict" T)) H):=by
 intro pins s σ H xs us Q I r h;obtain⟨p,T,kvs,rfl,hT,ht,q⟩:=h;obtain⟨u,w',rfl,rx,rT⟩:=vals2 r;cases rT;cases rx;have hT':T = "int" ∨ T = "bool" ∨ T = "str" ∨ T = "list" ∨ T = "tuple" ∨ T = "dict":=by simpa [wF] using hT
 have fin:∀{k:Bool}{s':ν},isa "dict" T=k->Inv X pins σ H s'->EP X pins σ Q (.bool k) s':=fun {k s'} e I'=>by subst e;exact⟨.bl _,H,I',rfl,q⟩
 obtain⟨_,_,vs,_,o,es,ep,e,hx,_⟩:=I.hok p _ ht;have hc:o.cls=.type "dict":=hx.1;rcases hT' with rfl|rfl|rfl|rfl|rfl|rfl
 ·exact IsiPair.dict_int e hc (fin (by decide) (I.tok _))
 ·exact IsiPair.dict_bool e hc (fin (by decide) (I.tok _))
 ·exact IsiPair.dict_str e hc (fin (by decide) (I.tok _))
 ·exact IsiPair.dict_list e hc (fin (by decide) (I.tok _))
 ·exact IsiPair.dict_tuple e hc (fin (by decide) (I.tok _))
 ·exact IsiPair.dict_dict e hc (fin (by decide) I)
def Itx (x:Str):It:=⟨fun i _=>i<x.cps.size,fun i H v H'=>H'=H/\∃c,x.cps[i]?=some c/\v=.str ⟨#[c]⟩,fun i _=>x.cps.size<=i⟩
theorem aMu{K:ω}(it:Addr)(x:Str)(t:Tok)(ty:String)
  (hty : ["enumerate","zip","dict_itemiterator","dict_reverseitemiterator","odict_iterator","itertools.zip_longest","itertools.pairwise"].contains ty=false)
  (W:∀A:Ak,A.handled=none->Walks P w A it [it] [it] x.cps.size (SignAt x) (fun i h=>h.IsStrIter it ty x t i))
  (hself:∀(A:Ak) (i:Nat) (s:ν) (Q:Value->ν->Prop) (E:Value->ν->Prop),s.heap.IsStrIter it ty x t i->Q (.ref it) s->xy (yl P w) A (pyIter (.ref it)) Q E s):Turn P w K tg (Itx x) [it] it (fun i h=>h.IsStrIter it ty x t i/\i<=x.cps.size) where
 mem:=by simp
 obj:=fun i h st b hb=>by
  have e:b=it:=by simpa using hb
  subst e;obtain⟨⟨o,e,c,d⟩,_⟩:=st;exact⟨o,e,fun v z=>by rw[d]at z;cases z⟩
 keep:=fun i h h' st k=>⟨let ⟨o,ho,r⟩:=st.1; ⟨o,k it (by simp) o ho,r⟩,st.2⟩
 item:=by
  intro X hP hw hK hc i pins s σ H E I hf st hg;subst hP hw hK;obtain⟨f0,f1,f2,f3,f4,f5⟩:=hf it (by simp);refine(W X.A (I.ok.hd hc)).item i s _ _ hg st.1 fun v h' tk hv st' kk=>?_;obtain⟨c,u,hcc,rfl⟩:=hv;have I1:Inv X pins σ H { s with heap:=h',toks:=tk }:=I.turned (fun b o hb e=>kk b o (by simpa using hb) e) f0 f1 f3 f4 f5;obtain⟨o,e,cc,d⟩:=id st';exact⟨_,rfl,aGz (s:={ s with heap:=h',toks:=tk }) e cc d hty ⟨.str ⟨#[c]⟩,H,I1,⟨u,rfl⟩,⟨rfl,c,hcc,rfl⟩,⟨st',hg⟩,fun b hb=>(hf b hb).1⟩⟩
 done:=by
  intro X hP hw hK hc i pins s σ H E I hf st hg;subst hP hw hK;obtain⟨f0,f1,f2,f3,f4,f5⟩:=hf it (by simp);have hi:i=x.cps.size:=Nat.le_antisymm st.2 hg;subst hi;exact(W X.A (I.ok.hd hc)).done s _ _ st.1 fun h' tk eb=>⟨rfl,I.turned (fun b o hb e=>eb b o (by simpa using hb) e) f0 f1 f3 f4 f5⟩
 self:=fun A i s Q E st h=>hself A i s Q E st.1 h
def iStr (tl:TE):TI:=fun σ H R=>tl σ H fun v H1=>∃x,v=.str x/\R (Itx x) H1
theorem aMc(hl:PE X l tl):PI X tg l (iStr tl):=by
 intro pins s σ H R I h;refine thn (hl pins s σ H _ I h) fun v s1 zq=>?_;obtain⟨y,H1,I1,r1,q1⟩:=zq;obtain⟨x,e,q⟩:=q1;subst e;obtain⟨t,rfl⟩:=r1;have fin:∀(ty:String) (o:Obj),["enumerate","zip","dict_itemiterator","dict_reverseitemiterator","odict_iterator","itertools.zip_longest","itertools.pairwise"].contains ty=false →
   (∀A:Ak,A.handled=none->Walks X.prog X.w A s1.heap.objs.size [s1.heap.objs.size] [s1.heap.objs.size] x.cps.size (SignAt x) (fun i h=>h.IsStrIter s1.heap.objs.size ty x t i)) →
   (∀(A:Ak) (i:Nat) (s:ν) (Q:Value->ν->Prop) (E:Value->ν->Prop),s.heap.IsStrIter s1.heap.objs.size ty x t i->Q (.ref s1.heap.objs.size) s->xy (yl X.prog X.w) A (pyIter (.ref s1.heap.objs.size)) Q E s) →
   (s1.heap.push o).IsStrIter s1.heap.objs.size ty x t 0->PIE X pins σ tg R (.ref s1.heap.objs.size) { s1 with heap:=s1.heap.push o }:=fun ty o hty W hs st=>by
  refine⟨s1.heap.objs.size,[s1.heap.objs.size],_,_,H1,rfl,I1.kept (t':=s1.toks) fun b o e=>ρ _ e,aMu _ x t ty hty W hs,⟨st,yq _⟩,fun b hb=>?_,q⟩;have e:b=s1.heap.objs.size:=by simpa using hb
  subst e;exact I1.fpOk (μ _) (I1.hok.fresh (μ _))
 cases ha:x.cps.all (·<128)
 ·exact wpAny_pyIter_wide ha (fin "str_iterator" _ (by decide) (fun A hA=>Walks.strWide hA _ x t) (fun A i s Q E st h=>wpAny_pyIter_striter_wide st h) ⟨_,yf _ rfl,rfl,rfl⟩)
 ·exact wpAny_pyIter_ascii ha (fin "str_ascii_iterator" _ (by decide) (fun A hA=>Walks.strAscii hA _ x t) (fun A i s Q E st h=>wpAny_pyIter_striter_ascii st h) ⟨_,yf _ rfl,rfl,rfl⟩)
theorem aCs{x:Str}{k:Nat}{tc:TT}{te:TE}{Q:VK}(P:Nat->List V->Hp->Prop)(h0:P 0 [] H1)(hl:∀i ys H,i<=x.length->P i ys H->ys.length<=i)(hz:x.length<ψ)
  (hs:∀i c ys H,x.cps.toList[i]?=some c->P i ys H->tc (some (.str ⟨#[c]⟩)::xE js σ) H fun b H2=>if b=true then te (some (.str ⟨#[c]⟩)::xE js σ) H2 fun v H3=>aW P i js σ (some (.str ⟨#[c]⟩)::xE js σ) (ys++[v]) H3 else aW P i js σ (some (.str ⟨#[c]⟩)::xE js σ) ys H2)
  (hd:∀ys H,P x.length ys H->∀p,H p=none->Q (.ref p) (upd H p (.lst ys)))(hk:k=1:=by rfl):
  mH (Itx x) k js (cW 0) tc te σ Q H1:=by
 subst hk;refine⟨fun i m σ' ys H=>m=x.cps.size-i/\i<=x.cps.size/\P i ys H/\∃o,σ'=o::xE js σ,⟨x.cps.size,by simp,yq _,h0,none,rfl⟩,?_⟩;rintro i m σ' ys H ⟨rfl,hi,p,o,rfl⟩;have hy:=hl i ys H hi p;have hz':x.cps.size<ψ:=hz
 by_cases hlt:i<x.cps.size
 ·refine .inr ⟨hlt,by omega,aW P i js σ,fun σ3 zs H3 z=>⟨x.cps.size-(i+1),by omega,rfl,hlt,z.1,z.2⟩,fun v H' y=>?_⟩;obtain⟨e,c,hc,y⟩:=y;subst e;subst y;exact hs i c ys _ (by simpa using hc) p
 ·have e:i=x.cps.size:=by omega
  subst e;exact .inl ⟨μ _,hd ys H p⟩
theorem aKy(x:Str)(c:Nat):(!(AK x ⟨#[c]⟩ 0 x.length 1).isEmpty)=decide (c∈x.cps.toList):=by
 rw[PyProof.Rows.empty_one,Bool.not_not]
theorem aFd{ys:List Str}: ∀{us:List Value},kQ (ys.map V.str) us->StrsAre us ys:=by
 induction ys with
 |nil=>intro us r;cases r;exact .nil
 |cons y ys ih =>
  intro us r;cases r with
  |cons a b=>obtain⟨t,rfl⟩:=a;exact .cons _ _ (ih b)
theorem uP:∀(tk:Nat) (ps:List Str),kQ (ps.map V.str) (strsFrom tk ps)
 |_,[]=>.nil
 |tk,p::ps=>.cons ⟨_,rfl⟩ (uP (tk+1) ps)
theorem yS:xD X (.type "int") (fun xs H Q=>∃(x:Str) (n:Int),xs=[.str x]/\PySem.intText? x=some n/\x.length<=640/\Q (.int n) H):=by
 intro pins s σ H xs us Q I r h;obtain⟨x,n,rfl,h1,h2,q⟩:=h;obtain⟨u,rfl,t,rfl⟩:=vals1 r;exact PySem.W.KIN.call_text h1 h2 ⟨.int n,H,I.tok _,⟨_,rfl⟩,q⟩
end
end L2
namespace L2
open PySem
theorem qX{c k p}{es:List Expr}: yi (.Constant c k p::es) env=(false,eval (.Constant c k p) env)::yi es env:=rfl
theorem aOh{xs p}{es:List Expr}: yi (.List xs p::es) env=(false,eval (.List xs p) env)::yi es env:=rfl
end L2
namespace L2
open PySem PySem.Spec PyProof.Rows
structure PEx (X:Cx) (e:Expr) (t:TE):Prop where
 h:PE X e t
structure PAx (X:Cx) (es:List Expr) (t:TA):Prop where
 h:PA X es t
structure aIw (X:Cx) (st:Stmt) (t:TS):Prop where
 h:PS X st t
structure PSx (X:Cx) (sts:List Stmt) (t:TS):Prop where
 h:PSs X sts t
section
variable {X:Cx}{e:Expr}{es:List Expr}{te:TE}{t:TA}{st:Stmt}{rest:List Stmt}{ts us:TS}
theorem aOs:PAx X [] aEf:=⟨jB⟩
theorem yH(ha:PEx X e te)(hr:PAx X es t)(hs:yi (e::es) X.env=(false,eval e X.env)::yi es X.env):PAx X (e::es) (aFw te t):=⟨jA ha.h hr.h hs⟩
theorem aA(h:PE X e te):PEx X e te:=⟨h⟩
theorem bL(h:PS X st ts):aIw X st ts:=⟨h⟩
theorem yE(h1:aIw X st ts)(h2:PSx X rest us):PSx X (st::rest) (vS ts us):=⟨jC h1.h h2.h⟩
theorem aAf(h1:aIw X st ts):PSx X [st] ts:=⟨jD h1.h⟩
end
section
variable {X:Cx}
inductive aGi (K:ω) (x:V) (y:V) (H:Hp) (Q:VK):Prop|mk:∀l b xs zs,x=.ref l->y=.ref b->SqL K H l xs->SqL K H b zs->xs.length+zs.length<=ψ->(∀p,H p=none->Q (.ref p) (upd H p (.lst (xs++zs))))->aGi K x y H Q
def aHp (K:ω):R2:=fun x y H Q=>aGi K x y H Q
theorem aAe(l:Addr)(items:Array Value)(n:Nat)(b:Addr)(items2:Array Value)(n2:Nat)(sl sl2:Array (Option Value))(hc0:items.size+items2.size<=ψ):
  Meets (BA.«list.__add__» ⟨[.ref l,.ref b],[]⟩) (fun _ R s=>s.heap.get? l=some { cls:=.type "list",dict:=none,data:=.seq items n,slots:=sl }/\s.heap.get? b=some { cls:=.type "list",dict:=none,data:=.seq items2 n2,slots:=sl2 }/\R (.ok (.ret (yk s.heap.objs.size))) { s with heap:=s.heap.push { cls:=Value.type "list",data:=Data.seq (items++items2) },toks:=s.toks }) :=
 .of_wp fun prog w A R s h=>by obtain⟨hp,g,d,tk,os⟩:=s;obtain⟨hl,hb,h⟩:=h;have f1:=AutoSeq1.idx_int;have f2:=AutoSeq1.sub_tuple_tuple;have f3:=AutoSeq1.sub_list_list;have f4:=AutoSeq1.sub_tuple_list;have f5:=AutoSeq1.sub_list_tuple;wp_walk using AutoSeq1.wpAny_loadPart' hl,AutoSeq1.wpAny_loadPart' hb;exact⟨_,rfl,h⟩
theorem qD:OpR X (BX .Add) (aHp X.K):=by
 intro pins s σ H x y v u Q I rx ry h;obtain⟨l,b,xs,zs,rfl,rfl,hH,hB,hz,q⟩:=h;cases rx;cases ry;obtain⟨its,r,⟨o,n,e,hc,hdn,hd⟩,_⟩:=I.list hH;obtain⟨its2,r2,⟨o2,n2,e2,hc2,hdn2,hd2⟩,_⟩:=I.list hB;obtain⟨c,d,dt,sl⟩:=o;obtain⟨c2,d2,dt2,sl2⟩:=o2;cases hc;cases hdn;cases hd;cases hc2;cases hdn2;cases hd2;have l1:=r.length;have l2:=r2.length;refine concat_meets ⟨_,e,rfl⟩ ⟨_,e2,rfl⟩ PySem.noFill_list_add PySem.seq_list_add F.slot_list_add F.entry_list_add (F.args_list_add_2 _ _) (aAe l its.toArray n b its2.toArray n2 sl sl2 (by rw[υ,υ];omega)) ⟨e,e2,?_⟩;have ea:its.toArray++its2.toArray=(its++its2).toArray:=by simp
 rw[ea];exact⟨.ref _,_,I.lnew (t':=s.toks) (r.append r2) (by rw[ι];omega),rfl,q _ I.fresh⟩
mutual
inductive Dat (K:ω) (H:Hp):V->Da->Prop
 |non:Dat K H .non .none
 |bl (b:Bool):Dat K H (.bl b) (.bool b)
 |int (i:Int):Dat K H (.int i) (.int i)
 |str (x:Str):Dat K H (.str x) (.str x)
 |lst {a:Addr}{xs:List V}{ds:List Da} : SqL K H a xs->DatAll K H xs ds->Dat K H (.ref a) (.list ds)
 |tup {a:Addr}{xs:List V}{ds:List Da} : SqT K H a xs->DatAll K H xs ds->Dat K H (.ref a) (.tuple ds)
inductive DatAll (K:ω) (H:Hp):List V->List Da->Prop
 |nil:DatAll K H [] []
 |cons {x:V}{xs:List V}{d:Da}{ds:List Da} : Dat K H x d->DatAll K H xs ds->DatAll K H (x::xs) (d::ds)
end
mutual
theorem Inv.reads(I:Inv X pins σ H s):∀{x:V}{d:Da}{u:Value},Dat X.K H x d->RelV x u->∃as,Reads s.heap u d as
 |_,_,_,.non,r=>by cases r;exact⟨_,.none⟩
 |_,_,_,.bl b,r=>by cases r;exact⟨_,.bool b⟩
 |_,_,_,.int i,r=>by obtain⟨t,rfl⟩:=r;exact⟨_,.int i t⟩
 |_,_,_,.str x,r=>by obtain⟨t,rfl⟩:=r;exact⟨_,.str x t⟩
 |_,_,_,.lst h ds,r=>by
  cases r;obtain⟨its,rv,⟨o,n,e,hc,_,hd⟩,_⟩:=I.list h;obtain⟨as,ra⟩:=Inv.readsAll I ds rv;exact⟨_,.list e hc hd ra⟩
 |_,_,_,.tup h ds,r=>by
  cases r;obtain⟨its,rv,⟨o,e,hc,n,hd⟩,_⟩:=I.tuple h;obtain⟨as,ra⟩:=Inv.readsAll I ds rv;exact⟨_,.tuple e hc hd ra⟩
theorem Inv.readsAll(I:Inv X pins σ H s):∀{xs:List V}{ds:List Da}{us:List Value},DatAll X.K H xs ds->kQ xs us->∃as,ReadsAll s.heap us ds as
 |_,_,_,.nil,r=>by cases r;exact⟨_,.nil⟩
 |_,_,_,.cons h t,r=>by
  cases r with
  |cons r1 r2 =>
   obtain⟨a1,e1⟩:=Inv.reads I h r1;obtain⟨a2,e2⟩:=Inv.readsAll I t r2;exact⟨_,.cons e1 e2⟩
end
end
mutual
theorem Dat.same{K:ω}(g:jF H H'):∀{x:V}{d:Da},Dat K H x d->Dat K H' x d
 |_,_,.non=>.non
 |_,_,.bl b=>.bl b
 |_,_,.int i=>.int i
 |_,_,.str x=>.str x
 |_,_,.lst h t=>.lst (g.seq h) (DatAll.same g t)
 |_,_,.tup h t=>.tup (by
   rcases h with (h|⟨o,h⟩)|h
   ·exact .inl (.inl (g _ _ h))
   ·exact .inl (.inr ⟨o,g _ _ h⟩)
   ·exact .inr h) (DatAll.same g t)
theorem DatAll.same{K:ω}(g:jF H H'):∀{xs:List V}{ds:List Da},DatAll K H xs ds->DatAll K H' xs ds
 |_,_,.nil=>.nil
 |_,_,.cons h t=>.cons (Dat.same g h) (DatAll.same g t)
end
section
variable {X:Cx}
theorem sS(hc:X.calm=true):xD X (.builtin "sum") (fun xs H Q=>∃(a:Addr) (ns:List Int),xs=[.ref a]/\SqL X.K H a (ns.map V.int)/\Q (.int ns.sum) H):=by
 intro pins s σ H xs us Q I r h;obtain⟨a,ns,rfl,ha,q⟩:=h;obtain⟨u,rfl,rx⟩:=vals1 r;cases rx;obtain⟨its,rv,pl,_⟩:=I.list ha;have hi:=intsAre_of rv;obtain⟨ys,hy⟩:=hi.allInts.items;refine sum_intListG (I.ok.hd hc) (hy ▸ pl.isList) fun h' tk t' hk=>?_;have e1:ns=ys.toList.map (·.1):=by
  rw[←nums_intItems,←hy];exact(show numsOf its.toArray.toList=ns from hi.numsOf).symm
 rw[preSum_eq,Cm (by simp),←e1];exact⟨.int ns.sum,H,I.kept hk,⟨_,rfl⟩,q⟩
end
section
variable {X:Cx}{elt tg iter:Expr}{ifs:List Expr}{scope:Scope}{cl:List (Str×Addr)}{ts ys:List Str}{js:List Nat}{pos:Pos}{wi:TI}{g:TG}{tc:TT}{te:TE}
theorem aDj(ts ys:List Str)(js:List Nat)(hc:X.calm=true)(hi:PI X tg iter wi)(hclos:closureFor scope X.env=pure cl)(hsub:fF X.env cl)(hcap:oY X scope cl ys js)
  (hg:∀s H fp C,PG (X.comp scope cl (ts++ys) s H fp C) tg g)(ht:∀s H fp C,PIf (X.comp scope cl (ts++ys) s H fp C) ifs tc)(he:∀s H fp C,PE (X.comp scope cl (ts++ys) s H fp C) elt te)
  (hkind:scope.kind=.function)(hcell:(scope.names.all fun y=>y.2 != .cell)=true)
  (hnames:(scope.names.all fun y=>y.2 != .local||scope.names.lookup y.1 == some .local)=true)
  (hhas:((relabel scope X.env).names.all fun p=>(p.2 != .cell&&p.2 != .free)||(cl.lookup p.1).isSome)=true)
  (hs:∀x,CB iter X.env x=pure x){s:ν}{H:Hp}{Q:VK}(I:Inv X pins σ H s)(h:aKn wi ts.length js g tc te σ H Q)
  (hfin:∀{H2 H3:Hp}{s2 s4:ν}{fp:List Addr}{C:Addr}{pins':List (Addr×Obj)}{σ':St}{its:List Value}{xs:List V}{n:Nat},Inv X pins σ H2 s2->(∀b∈fp,dY X pins H2 b)->Inv (X.comp scope cl (ts++ys) s2 H2 fp C) pins' σ' H3 s4->s2.heap.objs.size<=C->s2.heap.objs.size≠C->kQ xs its->xs.length<=ψ →
   s4.heap.get? s2.heap.objs.size=some { cls:=.type "list",data:=.seq its.toArray n }->H3 s2.heap.objs.size=none->(∀p,H3 p=none->Q (.ref p) (upd H3 p (.lst xs)))->compPost (yl X.prog X.w) X.A X.xe use QV (.ref s2.heap.objs.size) C (.ok .next) s4):
  xy (yl X.prog X.w) X.A (comprehension (.ListComp elt [⟨tg,iter,ifs,0⟩] scope pos) scope X.env p0 (newList []) false (eval iter X.env) use) QV X.xe s:=by
 have hcell':∀y∈scope.names,y.2≠.cell:=fun y hy z=>by
  have:=ze.mp hcell y hy;rw[z]at this;exact absurd this (by decide)
 have hnames':∀y∈scope.names,y.2=.local->scope.names.lookup y.1=some .local:=fun y hy z=>by
  have:=ze.mp hnames y hy;rw[z]at this;simpa using this
 have hhas':∀x,((relabel scope X.env).names.lookup x=some .cell\/(relabel scope X.env).names.lookup x=some .free)->∃c,cl.lookup x=some c:=fun x hx=>by
  rcases hx with hx|hx
  ·have:=ze.mp hhas _ (Au hx);exact Bo.mp (by simpa using this)
  ·have:=ze.mp hhas _ (Au hx);exact Bo.mp (by simpa using this)
 refine wpAny_comprehension_free (use:=use) rfl hs hclos hkind hnames' (thn (hi pins s σ H _ I h) fun v s1 h1=>thn h1 fun itv s2 h2=>?_);obtain⟨it,fp,tn,J,H2,e,I2,T,st2,f2,W,⟨m0,w0⟩,turn⟩:=h2;subst e;have fl:∀b∈fp,b<s2.heap.objs.size:=fun b hb=>by
  obtain⟨o,e,_⟩:=T.obj _ _ st2 b hb;exact Ξ e
 refine CF (wpAny_newFunctionEnv hcell' (by intro y hy;simp at hy) (fun h₁ hns₁ hsb₁=>?_) hkind);dsimp only at hns₁ hsb₁ ⊢;generalize hHH:s2.heap.push { cls:=.type "list",dict:=none,data:=.seq ([]:List Value).toArray }=HH at hns₁ hsb₁ ⊢;have hC:HH.objs.size=s2.heap.objs.size+1:=by rw[←hHH,AT]
 have hDC:s2.heap.objs.size≠HH.objs.size:=by rw[hC];exact yg (CQ _)
 have hCle:s2.heap.objs.size<=HH.objs.size:=by rw[hC];exact BE _
 have old:∀b o,s2.heap.get? b=some o->h₁.get? b=some o:=fun b o e =>
  hsb₁.extBut b o (yg (χ (Ξ e) hCle)) (ρ _ (hHH ▸ ρ _ e))
 have hacc:h₁.get? s2.heap.objs.size=some { cls:=.type "list",data:=.seq ([]:List Value).toArray }:=hsb₁.extBut _ _ hDC (ρ _ (hHH ▸ yf _ rfl));have nofs:∀b,s2.heap.objs.size<=b->b∉frs X.stack:=fun b hb z=>by
  rcases ς.mp (I2.stkSub b z) with e|e
  ·exact absurd (χ I2.lt (e ▸ hb)) (AG _)
  ·exact I2.nofs hb e
 have nocell:∀b,s2.heap.objs.size<=b->∀x c,cl.lookup x=some c->c≠b:=fun b hb x c e z=>by
  obtain⟨v,q⟩:=I2.cell x c (hsub.at e);exact absurd (χ q.lt (z ▸ hb)) (AG _)
 have I':Inv (X.comp scope cl (ts++ys) s2 H2 fp HH.objs.size) [] (lY ts.length js σ) H2 { s2 with heap:=h₁,toks:=s2.toks+([]:List (Str×Value)).length } :=
  aBv I2 hsub hcap hkind hhas' f2 fl hCle hns₁ old
 have addPin:∀{σ':St}{H':Hp}{s':ν}{o:Obj},Inv (X.comp scope cl (ts++ys) s2 H2 fp HH.objs.size) [] σ' H' s'->s'.heap.get? s2.heap.objs.size=some o->H' s2.heap.objs.size=none->(∀v,o.data≠.cell v) →
   Inv (X.comp scope cl (ts++ys) s2 H2 fp HH.objs.size) [(s2.heap.objs.size,o)] σ' H' s':=fun {σ' H' s' o} J e n d=>J.pins_of fun p hp=>by
  have e':p=(s2.heap.objs.size,o):=by simpa using hp
  subst e';exact⟨e,n,hDC,nofs _ (μ _),d⟩
 have stat:∀{pins':List (Addr×Obj)}{H':Hp},(∀p∈pins',p.1=s2.heap.objs.size)->(∀b∈fp,H' b=none)->∀b∈fp,dY (X.comp scope cl (ts++ys) s2 H2 fp HH.objs.size) pins' H' b:=fun {pins' H'} hp hn b hb =>
  ⟨hn b hb,yg (χ (fl b hb) hCle),I'.ok.exfs b hb,.inl hb,(I'.ok.exf b hb).2,fun p hq z=>by
   have hq':p∈pins':=by simpa using hq
   exact absurd (fl b hb) (by rw[←z,hp p hq'];exact AG _)⟩
 have tn1:tn 0 h₁:=T.keep _ _ _ st2 fun b _ o e=>old b o e;have loop:∀s₃ : ν,s₃ = { s2 with heap:=h₁,toks:=s2.toks+([]:List (Str×Value)).length } →
   Dr (yl X.prog X.w) X.A (.compLoop (.ListComp elt [⟨tg,iter,ifs,0⟩] scope pos) 0 (.ref it) (.ref s2.heap.objs.size) (compEnvC scope cl HH.objs.size X.env))
    (compPost (yl X.prog X.w) X.A X.xe use QV (.ref s2.heap.objs.size) HH.objs.size) s₃:=by
  rintro s₃ rfl;refine wU (fun n s'=>∃i σ' xs H' its nn,Inv (X.comp scope cl (ts++ys) s2 H2 fp HH.objs.size) [] σ' H' s'/\kQ xs its/\xs.length<=ψ/\s'.heap.get? s2.heap.objs.size=some { cls:=.type "list",data:=.seq its.toArray nn }/\H' s2.heap.objs.size=none ∧
   tn i s'.heap/\(∀b∈fp,H' b=none)/\W i n σ' xs H') ?_ m0 ⟨0,_,[],H2,[],0,I',.nil,yq _,hacc,I2.hok.fresh (μ _),tn1,fun b hb=>(f2 b hb).1,w0⟩
  rintro n s3 ⟨i,σ3,xs,H3,its,nn,I3,rv,hz3,ac3,nD3,st3,fr3,w3⟩;have nd:∀v,({ cls:=.type "list",data:=.seq its.toArray nn } : Obj).data≠.cell v:=fun v z=>by
   have z':Data.seq its.toArray nn=Data.cell v:=z;cases z'
  have I3p:=addPin I3 ac3 nD3 nd;have pinD:∀p∈[(s2.heap.objs.size,({ cls:=.type "list",data:=.seq its.toArray nn } : Obj))],p.1=s2.heap.objs.size:=fun p hp=>by
   rw[τ]at hp;rw[hp]
  rcases turn i n σ3 xs H3 w3 with⟨stop,qn⟩|⟨go,hz,N,hN,step⟩
  ·refine thn (T.done (X.comp scope cl (ts++ys) s2 H2 fp HH.objs.size) rfl rfl rfl hc i _ s3 σ3 H3 (fun _ _=>False) I3p (stat pinD fr3) st3 stop) fun r s4 zq=>?_;obtain⟨hr,I4⟩:=zq;subst hr;have ac4:=(I4.pin _ (yu _ (τ.mpr rfl))).1;exact hfin I2 f2 I4 hCle hDC rv hz3 ac4 nD3 qn
  ·refine thn (T.item (X.comp scope cl (ts++ys) s2 H2 fp HH.objs.size) rfl rfl rfl hc i _ s3 σ3 H3 (fun _ _=>False) I3p (stat pinD fr3) st3 go) fun r s4 zq=>?_;obtain⟨u,hr,h4⟩:=zq;subst hr;refine thn h4 fun _ s5 zq=>?_;obtain⟨x,H5,I5,r5,y5,st5,fr5⟩:=zq;have I5':=I5.pinned (stat pinD fr5) (T.obj _ _ st5);refine thn (hg _ _ _ _ _ s5 σ3 H5 x u _ I5' r5 (step x H5 y5)) fun _ s6 zq=>?_;obtain⟨σ6,H6,I6,q6⟩:=zq;refine thn (ht _ _ _ _ _ s6 σ6 H6 _ I6 q6) fun b s7 zq=>?_;obtain⟨H7,I7,q7⟩:=zq;have facts:∀{σ':St}{H':Hp}{s':ν},Inv (X.comp scope cl (ts++ys) s2 H2 fp HH.objs.size) ([(s2.heap.objs.size,({ cls:=.type "list",data:=.seq its.toArray nn } : Obj))]++eC fp s5.heap) σ' H' s' →
     s'.heap.get? s2.heap.objs.size=some { cls:=.type "list",data:=.seq its.toArray nn }/\H' s2.heap.objs.size=none/\tn (i+1) s'.heap/\(∀b∈fp,H' b=none):=fun {σ' H' s'} J=>by
    have p1:=J.pin (s2.heap.objs.size,({ cls:=.type "list",data:=.seq its.toArray nn } : Obj)) (by simp);refine⟨p1.1,p1.2.1,T.keep _ _ _ st5 fun b hb o e=>(J.pin (b,o) (yu _ (yu _ (yY hb e)))).1,fun b hb=>?_⟩;obtain⟨o,e,d⟩:=T.obj _ _ st5 b hb;exact(J.pin (b,o) (yu _ (yu _ (yY hb e)))).2.1
   have bare:∀{σ':St}{H':Hp}{s':ν},Inv (X.comp scope cl (ts++ys) s2 H2 fp HH.objs.size) ([(s2.heap.objs.size,({ cls:=.type "list",data:=.seq its.toArray nn } : Obj))]++eC fp s5.heap) σ' H' s' →
     Inv (X.comp scope cl (ts++ys) s2 H2 fp HH.objs.size) [] σ' H' s':=fun J=>J.pins_of fun p hp=>absurd hp (by simp)
   cases b with
   |false =>
    have q7':N σ6 xs H7:=by simpa using q7
    obtain⟨m',hm,w7⟩:=hN _ _ _ q7';obtain⟨a1,a2,a3,a4⟩:=facts I7;show ∃m,m<n/\_;exact⟨m',hm,i+1,σ6,xs,H7,its,nn,bare I7,rv,hz3,a1,a2,a3,a4,w7⟩
   |true =>
    have q7':te σ6 H7 fun v H5=>N σ6 (xs++[v]) H5:=by
     rw[if_pos rfl]at q7;exact q7
    show xy _ _ (eval elt _) _ _ s7;refine thn (he _ _ _ _ _ s7 σ6 H7 _ I7 q7') fun xv s8 zq=>?_;obtain⟨v,H8,I8,r8,n8⟩:=zq;obtain⟨m',hm,w8⟩:=hN _ _ _ n8;obtain⟨a1,a2,a3,a4⟩:=facts I8;have hl:=rv.length;refine CJ F.slot_list_append ⟨_,a1,rfl⟩ F.entry_list_append (F.args_list_append_2 _ _) (PySem.list_append s2.heap.objs.size its.toArray nn xv (by rw[υ];omega)) ⟨a1,?_⟩;obtain⟨n9,q9⟩ : ∃n9,(s8.heap.update s2.heap.objs.size (Obj.mapSeq fun a=>a.push xv)).get? s2.heap.objs.size=some { cls:=.type "list",data:=.seq (its++[xv]).toArray n9 } :=
     ⟨_,by rw[show(its++[xv]).toArray=its.toArray.push xv by simp];exact PySem.IsL.update a1 (fun a=>a.push xv)⟩
    have I9:Inv (X.comp scope cl (ts++ys) s2 H2 fp HH.objs.size) [] σ6 H8 { s8 with heap:=s8.heap.update s2.heap.objs.size (Obj.mapSeq fun a=>a.push xv),toks:=s8.toks } :=
     (bare I8).turned (it:=s2.heap.objs.size) (fun b o hb e=>(Am s8.heap _ (Aj hb)).trans e) a2 hDC (.inr (μ _)) (nocell _ (μ _)) fun p hp=>absurd (show p∈([]:List (Addr×Obj)) from hp) (by simp)
    refine⟨m',hm,i+1,σ6,xs++[v],H8,its++[xv],n9,I9,rv.append (.cons r8 .nil),?_,q9,a2,?_,a4,w8⟩
    ·rw[ι,zk];omega
    ·exact T.keep _ _ _ a3 fun b hb o e=>(Am s8.heap _ (Aj (yg (fl b hb)))).trans e
 exact codeAny_compStart_list (loop _ rfl) (T.self _ 0 _ _ _ tn1 (loop _ rfl))
theorem qF(ts ys:List Str)(js:List Nat)(hc:X.calm=true)(hi:PI X tg iter wi)(hclos:closureFor scope X.env=pure cl)(hsub:fF X.env cl)(hcap:oY X scope cl ys js)
    (hg:∀s H fp C,PG (X.comp scope cl (ts++ys) s H fp C) tg g)(ht:∀s H fp C,PIf (X.comp scope cl (ts++ys) s H fp C) ifs tc)(he:∀s H fp C,PE (X.comp scope cl (ts++ys) s H fp C) elt te)
    (hkind:scope.kind=.function:=by rfl)(hcell:(scope.names.all fun y=>y.2 != .cell)=true:=by rfl)
    (hnames:(scope.names.all fun y=>y.2 != .local||scope.names.lookup y.1 == some .local)=true:=by rfl)
    (hhas:((relabel scope X.env).names.all fun p=>(p.2 != .cell&&p.2 != .free)||(cl.lookup p.1).isSome)=true:=by rfl)
    (hs:∀x,CB iter X.env x=pure x:=by intro _;rfl):PE X (.ListComp elt [⟨tg,iter,ifs,0⟩] scope pos) (aKn wi ts.length js g tc te):=by
  intro pins s σ H Q I h;rw[eval_ListComp];refine aDj (use:=none) (QV:=EP X pins σ Q) ts ys js hc hi hclos hsub hcap hg ht he hkind hcell hnames hhas hs I h ?_;intro H2 H3 s2 s4 fp C pins' σ' its xs n I2 f2 I4 hC hDC rv hz e4 nD q;obtain⟨m,hm,_⟩:=I4.loc;exact⟨m,hm,fun h' hs'=>⟨.ref _,_,aDl I2 f2 I4 hC (μ _) hDC hs' rv hz e4 nD,rfl,q _ nD⟩⟩
theorem gK{i:Nat}{spos:Pos}(ts ys:List Str)(js:List Nat)(hN:X.N.Nodup)(hiN:X.N[i]?=some y)(hy:X.env.scope.names.lookup y=some .local)(hc:X.calm=true)(hi:PI X tg iter wi)(hclos:closureFor scope X.env=pure cl)(hsub:fF X.env cl)(hcap:oY X scope cl ys js)
  (hg:∀s H fp C,PG (X.comp scope cl (ts++ys) s H fp C) tg g)(ht:∀s H fp C,PIf (X.comp scope cl (ts++ys) s H fp C) ifs tc)(he:∀s H fp C,PE (X.comp scope cl (ts++ys) s H fp C) elt te)
  (hkind:scope.kind=.function:=by rfl)(hcell:(scope.names.all fun y=>y.2 != .cell)=true:=by rfl)
  (hnames:(scope.names.all fun y=>y.2 != .local||scope.names.lookup y.1 == some .local)=true:=by rfl)
  (hhas:((relabel scope X.env).names.all fun p=>(p.2 != .cell&&p.2 != .free)||(cl.lookup p.1).isSome)=true:=by rfl)
  (hs:∀x,CB iter X.env x=pure x:=by intro _;rfl)
  (hsw:swapsWith (.ListComp elt [⟨tg,iter,ifs,0⟩] scope pos) (some (.Name y py)) spos.line X.env=pure true:=by rfl):
  PS X (.Assign [.Name y py] (.ListComp elt [⟨tg,iter,ifs,0⟩] scope pos) spos) (tAsg (aKn wi ts.length js g tc te) (cW i)):=by
 intro pins s σ H D I h;rw[exec_Assign_Name_used _ _ _ _ hsw];refine ζ (Ca (ζ ?_));show xy _ _ (do let _ ←comprehension (.ListComp elt [⟨tg,iter,ifs,0⟩] scope pos) scope X.env _ (newList []) false (eval iter X.env) (some (assign (.Name y py) X.env))) _ _ s;refine ζ (Ad (aDj (QV:=fun _ s'=>SP X pins D .next s') ts ys js hc hi hclos hsub hcap hg ht he hkind hcell hnames hhas hs I h ?_) (fun _ s' q=>Θ (Θ q)) fun _ _ z=>z);intro H2 H3 s2 s4 fp C pins' σ' its xs n I2 f2 I4 hC hDC rv hz e4 nD q;have J:Inv X pins σ (upd H3 s2.heap.objs.size (.lst xs)) { s4 with heap:=s4.heap }:=aDl I2 f2 I4 hC (μ _) hDC (AH.refl _ _) rv hz e4 nD;obtain⟨m,hm,_⟩:=I4.loc;have hm':s4.heap.Ns C m:=hm;have hL:C≠X.env.locals:=fun z=>absurd (χ I2.lt (z ▸ hC)) (AG _);have hn:upd H3 s2.heap.objs.size (.lst xs) C=none:=by
  rw[jY (Aj hDC)];exact I4.free
 have hcl:∀x c,X.env.cells.lookup x=some c->c≠C:=fun x c e z=>by
  obtain⟨v,q⟩:=I2.cell x c e;exact absurd (χ q.lt (z ▸ hC)) (AG _)
 have hpin:∀p∈X.pn++pins,p.1≠C:=fun p hp z=>absurd (χ (Ξ (I2.pin p hp).1) (z ▸ hC)) (AG _);show xy _ _ (assign (.Name y py) X.env _) _ _ _;refine wpAny_assign_Name (gN J hN hiN (.inl hy) (v:=.ref s2.heap.objs.size) rfl (fun s5 J5 zq=>?_) (.inr hy));obtain⟨a,sb,ha⟩:=zq;have hCa:C≠a:=by
  rcases ha with z|z
  ·rw[z];exact hL
  ·exact Aj (hcl _ _ z)
 refine⟨m,hm'.sameBut sb hCa,fun h' hs'=>?_⟩;exact⟨_,_,J5.turned (h':=h') (t':=s5.toks) (fun b o hb e=>hs'.extBut b o hb e) hn hL (.inr (yo I2.sz hC)) hcl hpin,q _ nD⟩
end
section
variable {X:Cx}
theorem yX{K:ω}{n:Nat}(hK:X.K=K)(hc:X.calm=true)(h:PGs X es t)
  (hn:(Ds es X.env).length=n:=by rfl)(hst:(Ds es X.env).findIdx? (·.1)=none:=by rfl):PG X (.Tuple es k pos) (gTup K n t):=hK ▸ xZ hc h hn hst
end
def lB (P:Nat->List V->Hp->Prop) (i k:Nat) (js:List Nat) (σ:St):St->List V->Hp->Prop:=fun σ' ys H=>P (i+1) ys H/\∃os:St,os.length=k/\σ'=os++xE js σ
theorem yI{K:ω}{xs:List V}{k:Nat}{g:TG}{tc:TT}{te:TE}{Q:VK}(P:Nat->List V->Hp->Prop)(h0:P 0 [] H1)(hl:∀i ys H,i<=xs.length->P i ys H->SqL K H a xs/\ys.length<=i)(hz:xs.length<ψ)
  (hs:∀i x ys H (os:St),os.length=k->xs[i]?=some x->P i ys H->g x (os++xE js σ) H fun σ3 H3=>tc σ3 H3 fun b H2=>if b=true then te σ3 H2 fun v H3=>lB P i k js σ σ3 (ys++[v]) H3 else lB P i k js σ σ3 ys H2)
  (hd:∀ys H,P xs.length ys H->∀p,H p=none->Q (.ref p) (upd H p (.lst ys))):
  mH (Itl K a) k js g tc te σ Q H1:=by
 refine⟨fun i m σ' ys H=>m=xs.length-i/\i<=xs.length/\P i ys H/\∃os:St,os.length=k/\σ'=os++xE js σ,⟨xs.length,by simp,yq _,h0,Ac k none,Bg,rfl⟩,?_⟩;rintro i m σ' ys H ⟨rfl,hi,p,os,ho,rfl⟩;obtain⟨q,hy⟩:=hl i ys H hi p
 by_cases hlt:i<xs.length
 ·refine .inr ⟨⟨xs,xs[i],q,by simp[hlt]⟩,by omega,lB P i k js σ,fun σ3 zs H3 z=>⟨xs.length-(i+1),by omega,rfl,hlt,z.1,z.2⟩,fun x H' y=>?_⟩;obtain⟨e,y⟩:=y;subst e;exact hs i x ys _ os ho (y xs q) p
 ·have e:i=xs.length:=by omega
  subst e;exact .inl ⟨⟨xs,q,μ _⟩,hd ys H p⟩
def But (l:Addr) (H H':Hp):Prop:=∀b o,b≠l->H b=some o->H' b=some o
theorem But.trans(a:But l H H1)(b:But l H1 H2):But l H H2:=fun x o n q=>b x o n (a x o n q)
theorem But.refl : But l H H:=fun _ _ _ q=>q
theorem But.of(g:jF H H'):But l H H':=fun x o _ q=>g x o q
theorem But.same{H:Hp}(a:But l H H')(h:H l=none):jF H H':=fun x o q=>a x o (jL q h) q
theorem But.upd : But l H (upd H l o):=fun x u n q=>by rw[jY n];exact q
theorem But.tup{K:ω}{l:Addr}{H H':Hp}{zs:List V}(e:But l H H')(hl:H l=some (.lst zs)){a:Addr}{xs:List V}(h:SqT K H a xs):SqT K H' a xs:=by
 rcases h with (h|⟨o,h⟩)|h
 ·exact .inl (.inl (e _ _ (oE h hl (by intro z;cases z)) h))
 ·exact .inl (.inr ⟨o,e _ _ (oE h hl (by intro z;cases z)) h⟩)
 ·exact .inr h
end L2
namespace L2
open PySem
def Xc (h:Ag) (e C:Addr) (dx:Option Addr) (T:Addr) (fl:Option Value):Prop :=
 ∃oe vs,h.get? e=some oe/\oe.cls=.ref C/\oe.dict=dx/\oe.data=.fields vs/\1<vs.size ∧
  ((fl=none/\T=e/\vs[1]?=some .none)\/∃oT ts v,fl=some v/\T≠e/\vs[1]?=some (.ref T)/\h.get? T=some oT/\oT.data=.fields ts/\ts[3]?=some v)
def Mv (S:List Addr) (e T:Addr) (h h':Ag):Prop :=
 ∀b o,h.get? b=some o->b≠e->b≠T->(b∉S->h'.get? b=some o)/\∃sl,h'.get? b=some { o with slots:=sl }
theorem Mv.refl(S:List Addr)(e T:Addr)(h:Ag):Mv S e T h h:=fun b o q _ _=>⟨fun _=>q,o.slots,q⟩
theorem Mv.ff(m:Mv S e T h h')(ff:h.FunFrames base l)(he:∀o,h.get? e=some o->∃vs,o.data=.fields vs)(hT:∀o,h.get? T=some o->∃vs,o.data=.fields vs):h'.FunFrames base l :=
 ff.of_keeps fun b o q nf=>by
  obtain⟨_,sl,q'⟩:=m b o q (fun z=>by subst z;obtain⟨vs,z⟩:=he o q;exact nf vs z) (fun z=>by subst z;obtain⟨vs,z⟩:=hT o q;exact nf vs z);exact⟨_,q',rfl⟩
theorem Xc.fe(x:Xc h e C dx T fl):∀o,h.get? e=some o->∃vs,o.data=.fields vs:=fun o q=>by
 obtain⟨oe,vs,he,_,_,hd,_⟩:=x;rw[he]at q;cases q;exact⟨vs,hd⟩
theorem Xc.fT(x:Xc h e C dx T fl):∀o,h.get? T=some o->∃vs,o.data=.fields vs:=fun o q=>by
 have fe:=x.fe;obtain⟨oe,vs,he,_,_,hd,_,⟨_,rfl,_⟩|⟨oT,ts,v,_,_,_,hT,hd',_⟩⟩:=x
 ·exact fe o q
 ·rw[hT]at q;cases q;exact⟨ts,hd'⟩
theorem rW(o:Obj)(f:Array Value->Array Value):(o.mapFields f).dict=o.dict:=by
 obtain⟨c,d,dt,sl⟩:=o;cases dt <;> rfl
section
variable {M:Model}{A:Ak}{E:Value->ν->Prop}{s:ν}{base:Ag}{env:Env}{outer:List Env}{L e C:Addr}{dx:Option Addr}{T:Addr}{fl:Option Value}{Q:Unit->ν->Prop}
theorem aDb{s1:ν}{head:Value}{had:Bool}(hA:A.frames=some (env::outer))(hL:env.frame=some L)(ff:s1.heap.FunFrames base (env::outer))
  (he:s1.heap.get? e=some oe)(hc:oe.cls=.ref C)(hx:oe.dict=dx)(hd:oe.data=.fields vs)(h1 : 1<vs.size)
  (hQ:∀h' T',s1.heap.get? T'=none->s1.heap.objs.size<=T'->Xc h' e C dx T' (some (Bt L))->Mv ((env::outer).filterMap (·.frame)) e e s1.heap h'->Q () { s1 with heap:=h' }):
  xy M A (do let a ←frameOf env;let pl ←entryPlaceOf L had;let b ←EntryCells.newEntry head a .none (Bt L) .none pl;setField (.ref e) 1 b) Q E s1:=by
 have nfr:e∉(env::outer).filterMap (·.frame):=fun z=>by
  obtain⟨_,o,q,nf⟩:=ff.mem z;rw[he]at q;cases q;exact nf vs hd
 refine ζ (wpAny_frameOf_fun hA ff hL fun g so=>ζ (wpAny_entryPlaceOf fun pl isp=>?_));unfold EntryCells.newEntry newFields;refine ζ (CF ?_ (isp.sizeOk5 _ _ _ _ _));have e1:g.get? e=some oe:=(so.2.1 e nfr).trans he;generalize hob:({ cls:=.type "traceback",dict:=none,data:=.fields ([head,.ref L,.none,Bt L,.none]++(if pl.isEmpty then Ac 6 Az else pl)).toArray } : Obj)=ob;have e2:=ρ ob e1;refine CM e2 hd h1 ?_;have nT:g.objs.size≠e:=As (Ξ e1);have d3:=Co hd (·.setIfInBounds 1 (yk g.objs.size));have e3:=Bh (Bq (·.setIfInBounds 1 (yk g.objs.size))) e2 (DO d3);have t3:((g.push ob).update e (Bq (·.setIfInBounds 1 (yk g.objs.size)))).get? g.objs.size=some ob :=
  (Am _ _ (Aj nT)).trans (yf g (by rw[←hob];rfl))
 refine hQ _ g.objs.size (BW (by rw[so.1];exact μ _)) (by rw[so.1];exact μ _) ⟨_,_,e3,(Obj.cls_mapFields _ _).trans hc,(rW _ _).trans hx,d3,by simpa using h1,.inr ⟨ob,_,Bt L,rfl,nT,by simp[h1],t3,by rw[←hob],?_⟩⟩ fun b o q ne _=>?_
 ·first
   | (simp;done)
   | (rcases isp with rfl|⟨_,_,_,_,_,_,_,rfl⟩ <;> simp)
 ·have keep:∀u,g.get? b=some u->((g.push ob).update e (Bq (·.setIfInBounds 1 (yk g.objs.size)))).get? b=some u:=fun u z=>by
   rw[Am _ _ (Aj ne)];exact ρ _ z
  exact⟨fun nb=>keep _ ((so.2.1 b nb).trans q),let ⟨sl,z⟩:=so.2.2 b o q; ⟨sl,keep _ z⟩⟩
theorem aGu(hA:A.frames=some (env::outer))(hL:env.frame=some L)(ff:s.heap.FunFrames base (env::outer))(x:Xc s.heap e C dx T fl)(hf:fl=none\/fl=some .none\/fl=some (Bt L))
  (hQ:∀h' T',(T'=T\/s.heap.objs.size<=T')->Xc h' e C dx T' (some (Bt L))->Mv ((env::outer).filterMap (·.frame)) e T s.heap h'->Q () { s with heap:=h' }):
  xy M A (noteFrame (.ref e) env) Q E s:=by
 have x0:=x;obtain⟨oe,vs,he,hc,hx,hd,h1,ht⟩:=x;unfold noteFrame;simp only[hL];rcases ht with⟨rfl,rfl,hv⟩|⟨oT,ts,v,rfl,nT,hv,hT,hdT,h3⟩
 ·refine ζ (Af he hd hv ?_);rw[if_neg (by decide)];exact aDb hA hL ff he hc hx hd h1 fun h' T' _ q2 q3 q4=>hQ h' T' (.inr q2) q3 q4
 ·refine ζ (Af he hd hv ?_);rw[if_pos (show(yk T != Az)=true from by simp)];refine ζ (Af hT hdT h3 ?_)
  by_cases hvL:v=Bt L
  ·subst hvL;rw[if_pos (show(Bt L == Bt L)=true from by simp)];exact Θ (hQ s.heap T (.inl rfl) x0 (Mv.refl _ _ _ _))
  ·have hv0:v=.none:=by
    rcases hf with z|z|z
    ·cases z
    ·exact zc z
    ·exact absurd (zc z) hvL
   subst hv0;rw[if_neg (show ¬ ((Az == Bt L)=true) from by simp[Bt])];refine ζ (CM hT hdT (Array.getElem?_eq_some_iff.mp h3).1 ?_);have oth:∀b,b≠T->(s.heap.update T (Bq (·.setIfInBounds 3 Az))).get? b=s.heap.get? b:=fun b hb=>Am _ _ (Aj hb);have mv:Mv ((env::outer).filterMap (·.frame)) e T s.heap (s.heap.update T (Bq (·.setIfInBounds 3 Az))):=fun b o q _ nb=>⟨fun _=>(oth b nb).trans q,o.slots,(oth b nb).trans q⟩;refine aDb (s1:={ s with heap:=s.heap.update T (Bq (·.setIfInBounds 3 Az)) }) hA hL (mv.ff ff x0.fe x0.fT) ((oth e (Aj nT)).trans he) hc hx hd h1 fun h' T' q1 q2 q3 q4=>hQ h' T' (.inr ?_) q3 fun b o q ne nb=>?_
   ·have:(s.heap.update T (Bq (·.setIfInBounds 3 Az))).objs.size=s.heap.objs.size:=Ag.size_after_update ..;rw[←this];exact q2
   ·exact q4 b o ((oth b nb).trans q) ne ne
theorem mP{v:Value}{fr:Option Addr}(x:Xc s.heap e C dx T (some v))
  (hQ:∀h',Xc h' e C dx T (some (fr.elim .none fun f=>Bt f))->Mv [] e T s.heap h'->Q () { s with heap:=h' }):xy M A (setFlight (.ref e) fr) Q E s:=by
 obtain⟨oe,vs,he,hc,hx,hd,h1,⟨z,_⟩|⟨oT,ts,v',_,nT,hv,hT,hdT,h3⟩⟩:=x
 ·cases z
 have hsz:=(Array.getElem?_eq_some_iff.mp h3).1;unfold setFlight;refine ζ (Af he hd hv ?_);rw[if_pos (show(yk T != Az)=true from by simp)];refine CM hT hdT hsz (hQ _ ?_ fun b o q _ nb=>?_)
 ·exact⟨oe,vs,(Am _ _ nT).trans he,hc,hx,hd,h1,.inr ⟨_,_,_,rfl,nT,hv,Bh _ hT (DO (Co hdT _)),Co hdT _,by simp[hsz]⟩⟩
 ·have:=(Am s.heap (Bq (·.setIfInBounds 3 (fr.elim Az fun f=>Bt f))) (Aj nb)).trans q;exact⟨fun _=>this,o.slots,this⟩
theorem Mv.trans(a:Mv S e T h h1)(b:Mv S' e T' h1 h2)(hT:T'=T\/h.get? T'=none)(hS:∀x∈S',x∈S):Mv S e T h h2:=fun c o q ne nT=>by
 obtain⟨k1,sl,k2⟩:=a c o q ne nT;have nT':c≠T':=fun z=>by
  rcases hT with y|y
  ·exact nT (z.trans y)
  ·rw[←z,q]at y;cases y
 refine⟨fun nS=>(b c o (k1 nS) ne nT').1 fun z=>nS (hS c z),?_⟩;obtain⟨_,sl',k3⟩:=b c _ k2 ne nT';exact⟨sl',k3⟩
theorem aLb(hA:A.frames=some (env::outer))(hL:env.frame=some L)(ff:s.heap.FunFrames base (env::outer))(x:Xc s.heap e C dx T fl)(hf:fl=none\/fl=some .none\/fl=some (Bt L))
  (hQ:∀h' T',(T'=T\/s.heap.objs.size<=T')->Xc h' e C dx T' (some .none)->Mv ((env::outer).filterMap (·.frame)) e T s.heap h'->Q () { s with heap:=h' }):
  xy M A (leaving env (.ref e)) Q E s:=by
 unfold leaving;refine ζ (aGu hA hL ff x hf fun h1 T1 q1 x1 m1=>mP x1 fun h2 x2 m2=>hQ h2 T1 q1 x2 (m1.trans m2 ?_ (by simp)));exact q1.imp id fun z=>BW z
end
structure zO (bm:List Value):Prop where
 v:bm.contains (.type "ValueError")=true
 b:bm.contains (.type "BaseException")=true
 a:bm.contains (.type "AttributeError")=false
 n:bm.contains (.type "NameError")=false
section
variable {prog:Ao}{w:AD}{M:Model}{A:Ak}{E:Value->ν->Prop}{h:Ag}{g:Array GenState}{d:Drawn}{t:Nat}{os:OsState}
 {nm qn:Str}{C N:Addr}{bs bm:List Value}{hdct:Bool}{sn:List Str}{sub:List Value}{ab:Bool}{col:Option Bool}{dd:Option Addr}{k0 k1 k2 k3 k5:Option Value}
abbrev mF (nm qn:Str) (C N:Addr) (bs bm:List Value) (hdct:Bool) (sn:List Str) (sub:List Value) (ab:Bool) (col:Option Bool) (dd:Option Addr) (k0 k1 k2 k3 k5:Option Value):Obj :=
 excClassObj nm qn C N bs bm hdct sn sub ab col dd k0 k1 k2 k3 k5 "ValueError.__new__"
theorem zO.cv(x:zO bm):(yk C::bm).contains (.type "ValueError")=true:=by rw[Cp,x.v,Bool.or_true]
theorem zO.cb(x:zO bm):(yk C::bm).contains (.type "BaseException")=true:=by rw[Cp,x.b,Bool.or_true]
theorem zO.ca(x:zO bm):(yk C::bm).contains (.type "AttributeError")=false:=by rw[Cp,x.a];rfl
theorem zO.cn(x:zO bm):(yk C::bm).contains (.type "NameError")=false:=by rw[Cp,x.n];rfl
theorem aEl(x:zO bm){rest:List Value}{Q:Unit->ν->Prop}(hC:h.get? C=some (mF nm qn C N bs bm hdct sn sub ab col dd k0 k1 k2 k3 k5))(hq:Q () ⟨h,g,d,t,os⟩):
  xy M A (DV "ValueError.__new__" ⟨.ref C::rest,[]⟩) Q E ⟨h,g,d,t,os⟩:=by
 have c1:=x.cv (C:=C);have B:=Bc;have c2:=B.noStar;simp only[DV,B.newSplit,B.newKind,B.newRow]
 repeat (first
  |refine Aw hC ?_
  | (refine Bf hC ?_;rw[c1])
  |refine wpAny_madeBy_exc hC ?_
  |refine wpAny_staticBase_exc hC ?_
  |simp only[bne_self_eq_false,if_false,Cq]
  |wp_step)
 exact hq
theorem aKo(x:zO bm){rest:List Value}{R:Result->ν->Prop}(hC:h.get? C=some (mF nm qn C N bs bm hdct sn sub ab col dd k0 k1 k2 k3 k5))(hz:rest.length<=ψ)
  (hq:R (.ok (.ret (.ref (h.objs.size+1)))) ⟨(h.push { cls:=.type "tuple",data:=.seq rest.toArray }).push { cls:=.ref C,data:=.fields #[.ref h.objs.size,.none,.none,.none,.bool false,.none] },g,d,t,os⟩):
  Dr (yl prog w) A (.builtin "ValueError.__new__" ⟨.ref C::rest,[]⟩) R ⟨h,g,d,t,os⟩:=by
 have B:=Bc;have c0:=B.ends;have c1:=x.cv (C:=C);have c2:=x.ca (C:=C);have c3:=x.cn (C:=C);refine codeAny_builtinAt B.entry ?_;unfold BA.«BaseException.__new__»;refine wpAt_bind ?_;show wpAt _ _ _ (stack >>= _) _ _ _;refine wpAt_bind (wpAt_stack fun p below=>wpAt_of_wpAny ?_)
 wp_walk
 refine wpAt_of_wpAny ?_;rw[B.owner]
 repeat (first
  |with_reducible refine Aw hC ?_
  |with_reducible refine wpAny_madeHere_exc B.canon hC ?_
  | (with_reducible refine Bf hC ?_;first|rw[c1]|rw[c2]|rw[c3])
  |wp_step)
 show R _ _;rw[AT];exact hq
theorem aEj(x:zO bm){mN:Str->Option Value}{rest:List Value}{Q:Fin->ν->Prop}(hC:h.get? C=some (mF nm qn C N bs bm hdct sn sub ab col dd k0 k1 k2 k3 k5))
  (hn:h.Ns N mN)(hi:mN "__init__" = some (.ref fI))(hf:h.get? fI=some oI)(hfc:oI.cls=.type "function")(hz:rest.length<=ψ)
  (hq:∀h' e,Ag.MadeExcOf h h' e (.ref C) rest->h.objs.size<=e->xy (yl prog w) A (call (.ref fI) (.ref e::rest)) (fun r s'=>r=.none/\Q (.done (.ret (.ref e))) s') E ⟨h',g,d,t,os⟩):
  xy (yl prog w) A (BA.«type.__call__» ⟨.ref C::rest,[]⟩) Q E ⟨h,g,d,t,os⟩:=by
 repeat (first
  |with_reducible refine wpAny_madeBy_exc hC ?_
  |with_reducible refine Aw hC ?_
  |wp_step)
 have B:=Bc;refine codeAny_call_builtin_code (Code.quiet_builtin _ B.quiet) (aEl x hC (aKo x hC hz ?_));show xy _ _ _ _ _ _;generalize htu:({ cls:=.type "tuple",data:=.seq rest.toArray } : Obj)=otu;generalize hex:({ cls:=.ref C,data:=.fields #[.ref h.objs.size,.none,.none,.none,.bool false,.none] } : Obj)=oex;have kp:∀b o,h.get? b=some o->((h.push otu).push oex).get? b=some o:=fun b o z=>ρ _ (ρ _ z);have ge:((h.push otu).push oex).get? (h.objs.size+1)=some oex:=by
  have:=yf (h.push otu) (o:=oex) (by rw[←hex];rfl)
  rwa [AT]at this
 have gt:((h.push otu).push oex).get? h.objs.size=some otu:=ρ _ (yf h (by rw[←htu];rfl));have oc:oex.cls=.ref C:=by rw[←hex]
 have hC1:=kp _ _ hC;have hn1:((h.push otu).push oex).Ns N mN:=let ⟨o,es,ep,z,r⟩:=hn; ⟨o,es,ep,kp _ _ z,r⟩;have c0:(yk C::bm).contains (.ref C)=true:=by simp
 unfold isInstance
 repeat (first
  | (with_reducible refine Aw ge ?_;rw[oc])
  | (with_reducible refine Bf hC1 ?_;rw[c0])
  |wp_step)
 show xy _ _ (CI (.ref C) _) _ _ _;rw[typeLookup_eq];refine ζ (wpAny_mroOf_exc hC1 ?_);rw[lookupAlong_cons];refine ζ (wpAny_classOwn_exc hC1 hn1 ?_);rw[hi];refine Θ (AM (ζ ?_));unfold bindSpecial;refine ζ (wpAny_typeOf (T:="function") ⟨_,kp _ _ hf,hfc⟩ ?_);rw[if_pos (by decide)];refine Θ (ζ (Ad (hq _ (h.objs.size+1) ⟨kp,BW (BE _),h.objs.size,by rw[ge,←hex],BW (μ _),by rw[gt,←htu]⟩ (BE _)) (fun r s' z=>?_) fun _ _ y=>y));obtain⟨rfl,z⟩:=z
 wp_walk
 exact z
theorem xmake(x:zO bm){mN:Str->Option Value}{rest:List Value}{Q:Value->ν->Prop}(hC:h.get? C=some (mF nm qn C N bs bm hdct sn sub ab col dd k0 k1 k2 k3 k5))
  (hn:h.Ns N mN)(hi:mN "__init__" = some (.ref fI))(hf:h.get? fI=some oI)(hfc:oI.cls=.type "function")(hz:rest.length<=ψ)
  (hq:∀h' e,Ag.MadeExcOf h h' e (.ref C) rest->h.objs.size<=e->xy (yl prog w) (A.under (.builtin "type.__call__" ⟨.ref C::rest,[]⟩)) (call (.ref fI) (.ref e::rest)) (fun r s'=>r=.none/\Q (.ref e) s') E ⟨h',g,d,t,os⟩):
  xy (yl prog w) A (call (.ref C) rest) Q E ⟨h,g,d,t,os⟩:=by
 have b1:=tc_lookup;have b2:=tc_bind (.ref C);have b3:(⟨h,g,d,t,os⟩ : ν).TypeIs (.ref C) "type":=⟨_,hC,rfl⟩;refine wpAny_call (codeAny_of_tree ?_);show xy _ _ (callAny (.ref C) _) _ _ _
 repeat (any_goals (first|assumption|with_reducible refine Aw hC ?_|wp_step))
 refine⟨rfl,codeAny_call_builtin_at (Code.quiet_builtin _ (by ac_rfl)) entry_typeCall (wpAny_check_type_call_sub hC (aEj x hC hn hi hf hfc hz hq))⟩
theorem aTg(hh:A.handled=none)
  (hx:xy M A x (fun v s1=>∃(e C N:Addr) (nm qn:Str) (bs bm:List Value) (hdct:Bool) (sn:List Str) (sub:List Value) (ab:Bool) (col:Option Bool) (dd:Option Addr) (k0 k1 k2 k3 k5:Option Value) (dx:Option Addr) (vs:Array Value) (sl:Array (Option Value)),
   v=.ref e/\zO bm/\s1.heap.get? C=some (mF nm qn C N bs bm hdct sn sub ab col dd k0 k1 k2 k3 k5)/\s1.heap.get? e=some ⟨.ref C,dx,.fields vs,sl⟩/\vs[1]?=some .none/\E (.ref e) s1) E s):
  xy M A (raiseStmt env (some x) none) Q E s:=by
 unfold raiseStmt;refine ζ (Ad hx (fun v s1 z=>?_) fun _ _ y=>y);obtain⟨e,C,N,nm,qn,bs,bm,hdct,sn,sub,ab,col,dd,k0,k1,k2,k3,k5,dx,vs,sl,rfl,xt,hC,he,hv,hE⟩:=z;have c1:=xt.cb (C:=C);obtain⟨hp,g,d,tk,os⟩:=s1
 repeat (first
  |with_reducible refine Aw he ?_
  |with_reducible refine Aw hC ?_
  |with_reducible refine Af he rfl hv ?_
  | (with_reducible refine Bf hC ?_;rw[c1])
  |wp_step)
 exact wpAny_raiseNew_none hh hE
theorem aSp(hh:A.handled=none)
  (hx:xy M A (eval x env) (fun v s1=>∃(e C N:Addr) (nm qn:Str) (bs bm:List Value) (hdct:Bool) (sn:List Str) (sub:List Value) (ab:Bool) (col:Option Bool) (dd:Option Addr) (k0 k1 k2 k3 k5:Option Value) (dx:Option Addr) (vs:Array Value) (sl:Array (Option Value)),
   v=.ref e/\zO bm/\s1.heap.get? C=some (mF nm qn C N bs bm hdct sn sub ab col dd k0 k1 k2 k3 k5)/\s1.heap.get? e=some ⟨.ref C,dx,.fields vs,sl⟩/\vs[1]?=some .none/\E (.ref e) s1) E s):
  xy M A (exec (.Raise (some x) none pos) env) Q E s:=by
 rw[arm_exec_Raise];have key:=aTg (Q:=Q) (env:=env) (x:=do let v ←eval x env;standAt pos;pure v) hh (ζ (Ad hx (fun v s1 z=>ζ (Ca (Θ z))) fun _ _ y=>y))
 first
  |exact ζ (Ca key)
  | (simp only[evalOpt,Option.map];exact ζ (Ca key))
theorem aCh(x:zO bm){e:Addr}{rest:List Value}{Q:Unit->ν->Prop}(hC:h.get? C=some (mF nm qn C N bs bm hdct sn sub ab col dd k0 k1 k2 k3 k5))(he:h.get? e=some oe)(oc:oe.cls=.ref C)
  (hq:Q () ⟨h,g,d,t,os⟩):xy M A (DV "ValueError.__init__" ⟨.ref e::rest,[]⟩) Q E ⟨h,g,d,t,os⟩:=by
 have c1:=x.cv (C:=C);have B:=Bc;have c2:=B.noStar;simp only[DV,B.initSplit,B.initKind,B.initRow]
 repeat (first
  |with_reducible refine Aw hC ?_
  | (with_reducible refine Aw he ?_;rw[oc])
  | (with_reducible refine Bf hC ?_;rw[c1])
  |wp_step)
 refine Di ?_;rw[show ∀(a b:String) (n:Nat),Bind.check ⟨.positional,"*","ValueError",.self,[⟨"args",.varPos,false⟩]⟩ a b n (List.map (fun y=>y.fst) ({ pos:=yk e::rest } : Args).kw)=pure () from fun a b n=>check_star_args _ _ _ _ _ _];exact Θ hq
theorem xinit(x:zO bm){e:Addr}{v:Value}{Q:Value->ν->Prop}(hC:h.get? C=some (mF nm qn C N bs bm hdct sn sub ab col dd k0 k1 k2 k3 k5))(he:h.get? e=some oe)(oc:oe.cls=.ref C)
  (hd:oe.data=.fields vs)(h1 : 1<vs.size)
  (hq:∀h' oe' vs',(∀b o,b≠e->h.get? b=some o->h'.get? b=some o)->h'.get? e=some oe'->oe'.cls=oe.cls->oe'.dict=oe.dict->oe'.data=.fields vs'->vs'.size=vs.size->vs'[1]?=vs[1]?->Q .none ⟨h',g,d,t,os⟩):
  xy (yl prog w) A (call (.builtin "ValueError.__init__") [.ref e,v]) Q E ⟨h,g,d,t,os⟩:=by
 have B:=Bc;refine wpAny_call (Ee B.init.plain B.initEntry (aCh x hC he oc ?_));obtain⟨c,dx,dt,sl⟩:=oe;cases hd
 wp_walk
 have h0:vs[0]?=some vs[0]:=by simp
 rw[h0];refine Θ (ζ (CM (ρ _ he) rfl (by omega) ?_));have e2:=ρ { cls:=Value.type "tuple",data:=Data.seq #[v] } he;have fin:=hq _ _ _ (fun b o nb z=>(Am (h.push { cls:=Value.type "tuple",data:=Data.seq #[v] }) (Bq (·.setIfInBounds 0 (yk h.objs.size))) (Aj nb)).trans (ρ _ z))
  (Bh (Bq (·.setIfInBounds 0 (yk h.objs.size))) e2 rfl) rfl rfl rfl (by simp) (by simp)
 generalize vs[0]=a0;cases a0 <;> first
  |exact Θ (Θ fin)
  |exact wpAny_letGo (Θ fin)
theorem aSn{e Cn:Addr}{b:Bool}{Q:Bool->ν->Prop}(hC:h.get? C=some (excClassObj nm1 q1 C N1 bs1 bm1 hd1 sn1 sub1 ab1 co1 dd1 j0 j1 j2 j3 j5 ni1))(hD:h.get? Cn=some (excClassObj nm2 q2 Cn N2 bs2 bm2 hd2 sn2 sub2 ab2 co2 dd2 l0 l1 l2 l3 l5 ni2))
  (hb:bm2.contains (.type "BaseException")=true)(he:h.get? e=some oe)(oc:oe.cls=.ref C)(hs:(yk C::bm1).contains (.ref Cn)=b)(hq:Q b ⟨h,g,d,t,os⟩):xy M A (excMatches (.ref e) (.ref Cn)) Q E ⟨h,g,d,t,os⟩:=by
 have c1:(yk Cn::bm2).contains (.type "BaseException")=true:=by rw[Cp,hb,Bool.or_true]
 have c2:=tc_notTuple;unfold excMatches
 repeat (first
  |with_reducible refine Aw hD ?_
  | (with_reducible refine Aw he ?_;rw[oc])
  | (with_reducible refine Bf hD ?_;rw[c1])
  | (with_reducible refine Bf hC ?_;rw[hs])
  |wp_step)
 cases b <;> (wp_walk;exact hq)
end
end L2
namespace L2
open PySem PyProof.Rows
abbrev VB:List Value:=[.type "ValueError",.type "Exception",.type "BaseException",.type "object"]
structure gP (K:ω) (C R fI:Addr):Prop where
 obj:∃(nm qn:Str) (N:Addr) (bs:List Value) (sn:List Str) (sub:List Value) (ab:Bool) (col:Option Bool) (dd:Option Addr) (k0 k1 k2 k3 k5:Option Value),
  K.lookup C=some (mF nm qn C N bs (.ref R::VB) true sn sub ab col dd k0 k1 k2 k3 k5)/\PySem.W.nsOkIn K N=true/\Br K N "__init__" = some (some (.ref fI))
 fn:isFn K (.ref fI)=true
 kp:keepIn K (.ref C)=true
 sa:Ap K (.ref C) "__setattr__" = some (some (.builtin "object.__setattr__"))
 ga:Ap K (.ref C) "__getattribute__" = some (some (.builtin "BaseException.__getattribute__"))
 gh:Ap K (.ref C) "__getattr__" = some none
theorem aNc(R:Addr):zO (.ref R::VB):=⟨rfl,rfl,rfl,rfl⟩
theorem aFe{K:ω}{m:Str->Option Value}(X:K.In h)(G:h.Ns N m)(e:Br K N n=some (some v)):m n=some v:=by
 obtain⟨o,es,ep,ho,hd,_,hf⟩:=G;unfold Br at e;cases q:K.lookup N with
 |none=>rw[q]at e;cases e
 |some o' =>
  have z:=X _ _ q;rw[ho]at z;cases z;rw[q]at e;obtain⟨c,d,dt,sl⟩:=o;cases hd;rw[←hf];unfold nsFind findBy;rw[←Array.find?_toList];dsimp only at e;cases q2:es.toList.find? (fun x=>x.key.isStr n) with
  |some y =>
   rw[q2]at e;exact congrArg (fun z:Option (Option Value)=>z.getD none) e
  |none =>
   rw[q2]at e;dsimp only at e
   split at e <;> cases e
theorem gP.cls{K:ω}(c:gP K C R fI)(X:K.In h):
  ∃(nm qn:Str) (N:Addr) (bs:List Value) (sn:List Str) (sub:List Value) (ab:Bool) (col:Option Bool) (dd:Option Addr) (k0 k1 k2 k3 k5:Option Value) (mN:Str->Option Value) (oI:Obj),
   h.get? C=some (mF nm qn C N bs (.ref R::VB) true sn sub ab col dd k0 k1 k2 k3 k5)/\h.Ns N mN/\mN "__init__" = some (.ref fI)/\h.get? fI=some oI/\oI.cls=.type "function":=by
 obtain⟨nm,qn,N,bs,sn,sub,ab,col,dd,k0,k1,k2,k3,k5,lk,nsok,nsi⟩:=c.obj;have hN:=Ag.Ns.of_isNs (PySem.W.isNs_of_in X nsok);have hf:=c.fn;unfold isFn PySem.W.typeIn at hf;have hf':=beq_iff_eq.mp hf;obtain⟨oI,q,r⟩:=Option.map_eq_some_iff.mp hf';exact⟨nm,qn,N,bs,sn,sub,ab,col,dd,k0,k1,k2,k3,k5,_,oI,X _ _ lk,hN,aFe X hN nsi,X _ _ q,r⟩
section
variable {prog:Ao}{w:AD}{A:Ak}{E:Value->ν->Prop}{s:ν}{K:ω}{e C R fI:Addr}{oe:Obj}{vs:Array Value}{name:Str}{v:Value}
theorem aBg{od:Option Obj}(he:s.heap.get? e=some oe)(oc:oe.cls=.ref C)(hd:oe.data=.fields vs)(hx:match oe.dict,od with|some dx,some o=>s.heap.get? dx=some o|none,none=>True|_,_=>False):PySem.W.InstAt s.heap e oe C od :=
 ⟨he,oc,by unfold PySem.W.notCls;rw[hd],hx⟩
theorem gP.clsIn(c:gP K C R fI):∃cd,PySem.W.clsIn K C=some cd/\cd.mro=.ref C :: .ref R::VB/\cd.hasDict=true:=by
 obtain⟨nm,qn,N,bs,sn,sub,ab,col,dd,k0,k1,k2,k3,k5,lk,_⟩:=c.obj;exact⟨_,by unfold PySem.W.clsIn;rw[lk],rfl,rfl⟩
theorem uV{Q:Unit->ν->Prop}(X:K.In s.heap)(c:gP K C R fI)(I:PySem.W.InstAt s.heap e oe C od)(hf:Ap K (.ref C) name=some none)
  (h:xy (yl prog w) A.in1 (BQ (.ref e) (.ref C) (.str name s.toks) name v false)
   (fun fin s'=>match fin with | .done (.ret _)=>Q () s'|_=>False) (fun _ _=>False) { s with toks:=s.toks+1 }):
  xy (yl prog w) A (setAttr (.ref e) name v) Q E s:=by
 have SF:=PySem.F.store_ValueError;obtain⟨cd,hcd,hm,hh⟩:=c.clsIn;refine PySem.W.set_plain X I c.sa ?_;have mro:PySem.W.Looks (yl prog w) s.heap (mroOf (.ref C)) (.ref C :: .ref R::VB):=hm ▸ (CZ X hcd).andThen .now;have isO:PySem.W.Looks (yl prog w) s.heap (isInstance (.ref e) (.type "object")) true:=I.type.andThen (PySem.W.looks_mroIn X (by
  unfold BD;rw[hcd,Option.bind_some,hm,if_neg (by intro z;cases z)];rfl))
 refine Ee SF.slot.plain SF.entry (@PySem.W.check_slot (yl prog w) _ _ { s with toks:=s.toks+1 } "object.__setattr__" "object" "__setattr__" (.ref e) [.str name s.toks,v] [] _ SF.kind SF.split isO (SF.args (.ref e) (.str name s.toks) v) ?_);rw[PySem.W.osa_eq,refuse_eq];refine ζ (ζ (Bk (s:={ s with toks:=s.toks+1 }) I.type (ζ (Bk (s:={ s with toks:=s.toks+1 }) mro ?_))));rw[refuseLoop_ref,refuseLoop_ref,SF.passes];refine Θ (ζ (Bk (s:={ s with toks:=s.toks+1 }) I.type (ζ (Bk (s:={ s with toks:=s.toks+1 }) (CG X hf) (ζ (Θ ?_))))));refine Ad h (fun fin s' z=>?_) fun _ _ z=>z.elim;rcases fin with (_|_|_|_)|_ <;> first|exact z|exact z.elim
theorem aFg{Q:Unit->ν->Prop}(X:K.In s.heap)(c:gP K C R fI)(he:s.heap.get? e=some oe)(oc:oe.cls=.ref C)(hd:oe.data=.fields vs)(hx:oe.dict=none)(hf:Ap K (.ref C) name=some none)
  (h:∀h' dx tk,s.heap.objs.size<=dx->dx≠e->h'.get? e=some { oe with dict:=some dx }->h'.Ns1 dx (fun y=>if y=name then some v else none)->(∀b o,b≠e->s.heap.get? b=some o->h'.get? b=some o)->Q () { s with heap:=h',toks:=tk }):
  xy (yl prog w) A (setAttr (.ref e) name v) Q E s:=by
 obtain⟨cd,hcd,hm,hh⟩:=c.clsIn;refine uV X c (aBg (od:=none) he oc hd (by rw[hx];trivial)) hf ?_;obtain⟨cc,dd,dt,sl⟩:=oe;cases oc;cases hd;cases hx;have ne:s.heap.objs.size≠e:=As (Ξ he);unfold BQ Dj instanceDict;refine ζ (Θ ?_);refine ζ (ζ (wpAny_loadPart he (ζ (Bk (s:={ s with toks:=s.toks+1 }) (CZ X hcd) ?_))));rw[hh];refine ζ (wpAny_alloc ?_);have he1:=ρ ({ cls:=.type "dict",data:=.dict #[] } : Obj) he;refine ζ (wpAny_update he1 ?_);refine Θ (a:=some s.heap.objs.size) ?_;have hg:((s.heap.push ({ cls:=.type "dict",data:=.dict #[] } : Obj)).update e fun o=>{ o with dict:=some s.heap.objs.size }).get? s.heap.objs.size=some ({ cls:=.type "dict",data:=.dict #[] } : Obj):=(Ag.get?_update_ne _ _ _ _ ne).trans (Ag.get?_push_at rfl rfl);have hE:((s.heap.push ({ cls:=.type "dict",data:=.dict #[] } : Obj)).update e fun o=>{ o with dict:=some s.heap.objs.size }).Ns s.heap.objs.size (fun _=>none):=⟨_,#[],_,hg,rfl,fun y hy=>absurd hy (by simp),fun _=>rfl⟩;refine ζ (Θ (ζ (wpAny_nsSet1 (Ag.Ns1.of_empty hE) fun h' hn hs=>?_)));obtain⟨oD,esD,epD,hoD,hdD,hcD⟩:=hn.count (Bm.cons name v Bm.nil);refine ζ (wpAny_lookBehind hoD (by rw[hdD];exact pastItsLine_dict (yo hcD (by rw[Δ,Cv];omega))) ?_);refine Θ (h h' s.heap.objs.size _ (μ _) ne ((hs.2 _ (Aj ne)).trans (Bh _ he1 rfl)) hn fun b o hb q=>?_);exact(hs.2 b (yg (Ξ q))).trans ((Ag.get?_update_ne _ _ _ _ hb).trans (ρ _ q))
theorem aIc{mA:Str->Option Value}{Q:Unit->ν->Prop}(X:K.In s.heap)(c:gP K C R fI)(he:s.heap.get? e=some oe)(oc:oe.cls=.ref C)(hd:oe.data=.fields vs)(hx:oe.dict=some dx)(hN:s.heap.Ns1 dx mA)(hw:Bm mA ns)(hz:ns.length<=ψ)(hf:Ap K (.ref C) name=some none)
  (h:∀h',h'.Ns1 dx (fun y=>if y=name then some v else mA y)->AH dx s.heap h'->Q () { s with heap:=h',toks:=s.toks+2 }):
  xy (yl prog w) A (setAttr (.ref e) name v) Q E s:=by
 obtain⟨cd,hcd,hm,hh⟩:=c.clsIn;obtain⟨o1,es1,ep1,ho1,_⟩:=id hN;refine uV X c (aBg (od:=some o1) he oc hd (by rw[hx];exact ho1)) hf ?_;obtain⟨cc,dd,dt,sl⟩:=oe;cases oc;cases hd;cases hx;unfold BQ Dj instanceDict;refine ζ (Θ ?_);refine ζ (ζ (wpAny_loadPart he (ζ (Bk (s:={ s with toks:=s.toks+1 }) (CZ X hcd) ?_))));rw[hh];refine Θ (a:=some dx) (ζ (Θ (ζ (wpAny_nsSet1 (s:={ s with toks:=s.toks+1 }) hN fun h' hn hs=>?_))));obtain⟨oD,esD,epD,hoD,hdD,hcD⟩:=hn.count (Bm.cons name v hw);refine ζ (wpAny_lookBehind hoD (by rw[hdD];exact pastItsLine_dict (yo hcD (by rw[Δ];omega))) ?_);exact Θ (h _ hn hs)
end
section
variable {prog:Ao}{w:AD}{A:Ak}{E:Value->ν->Prop}{s:ν}{K:ω}{e C R fI:Addr}{oe:Obj}{vs:Array Value}{name:Str}{v:Value}
theorem xget{Q:Value->ν->Prop}(X:K.In s.heap)(c:gP K C R fI)(I:PySem.W.InstAt s.heap e oe C od)(hf:PySem.W.findObj K C od name=some (.value v))(hh:PySem.W.handedIn v=true)(h:Q v { s with toks:=s.toks+1 }):
  xy (yl prog w) A (getAttr (.ref e) name expr) Q E s:=by
 obtain⟨cd,hcd,hm,_⟩:=c.clsIn;have isB:PySem.W.Looks (yl prog w) s.heap (isInstance (.ref e) (.type "BaseException")) true:=I.type.andThen (PySem.W.looks_mroIn X (by
  unfold BD;rw[hcd,Option.bind_some,hm,if_neg (by intro z;cases z)];rfl))
 have L0:=I.type (M:=yl prog w);have L1:=CG (M:=yl prog w) X c.ga;have L2:=CG (M:=yl prog w) X c.gh;have L3:=PySem.W.looks_find (M:=yl prog w) X I hf;have hx0:(expr&&onTheHeap (Value.builtin "BaseException.__getattribute__"))=false:=by cases expr <;> rfl
 obtain⟨hp,g,d,t,os⟩:=s;unfold getAttr getAttrBy;refine ζ (wpAny_mkText (AM (ζ (L0.at (ζ (L1.at ?_))))));show xy _ _ (getAttrByItsOwn _ _ _ _ _ _) _ _ _;unfold getAttrByItsOwn;refine ζ (show xy _ _ (CI (.ref C) "__getattr__") _ _ _ from L2.at ?_);have FB:=PySem.F.attr_ValueError.ga;have hk:builtinKind "BaseException.__getattribute__" = some .slot:=by ac_rfl
 have hs:splitId "BaseException.__getattribute__" = some ("BaseException","__getattribute__"):=by ac_rfl
 refine ζ (Ec (AM ?_));unfold callGetattribute;rw[hx0,if_neg π];unfold boundAndCalled;rw[FB.bind];refine ζ (Θ (wpAny_call ?_));show Dr _ _ (.call (.builtin "BaseException.__getattribute__") ⟨[.ref e,.str name t],[]⟩) _ _;refine Ee FB.plain PySem.F.entry_bexc_ga ?_;refine @PySem.W.check_slot (yl prog w) _ _ _ "BaseException.__getattribute__" "BaseException" "__getattribute__" (.ref e) [.str name t] [] _ hk hs isB (PySem.F.args_bexc_ga _ _) ?_;unfold BA.«object.__getattribute__» slotArgs;refine ζ (Θ ?_);refine ζ (Θ ?_);refine ζ (L0.at ?_);refine ζ (L3.at ?_);refine Θ ?_;show xy _ _ (handedOut v) _ _ _;rw[PySem.W.handedOut_of hh];exact Θ h
end
end L2
namespace L2
open PySem PySem.Spec PyProof.Rows
def Ex0 (e C:Addr) (dx:Option Addr):HO:=.ext fun h=>∃oe vs,h.get? e=some oe/\oe.cls=.ref C/\oe.dict=dx/\oe.data=.fields vs/\1<vs.size/\vs[1]?=some .none
def ExF (e C:Addr) (dx:Option Addr):HO:=.ext fun h=>∃oe vs,h.get? e=some oe/\oe.cls=.ref C/\oe.dict=dx/\oe.data=.fields vs
theorem Ex0.ok{h:Ag}{e:Addr}{dx:Option Addr}(he:h.get? e=some oe)(hc:oe.cls=.ref C)(hx:oe.dict=dx)(hd:oe.data=.fields vs)(h1 : 1<vs.size)(hv:vs[1]?=some .none):vI P w H h e (Ex0 e C dx) :=
 ⟨⟨oe,vs,he,hc,hx,hd,h1,hv⟩,⟨oe,he⟩,fun _ _ ⟨oe,vs,a,b⟩ k=>⟨oe,vs,k _ a,b⟩⟩
theorem ExF.ok{h:Ag}{e:Addr}{dx:Option Addr}(he:h.get? e=some oe)(hc:oe.cls=.ref C)(hx:oe.dict=dx)(hd:oe.data=.fields vs):vI P w H h e (ExF e C dx) :=
 ⟨⟨oe,vs,he,hc,hx,hd⟩,⟨oe,he⟩,fun _ _ ⟨oe,vs,a,b⟩ k=>⟨oe,vs,k _ a,b⟩⟩
theorem Xc.ok(x:Xc h e C dx T fl):vI P w H h e (ExF e C dx):=by
 obtain⟨oe,vs,he,hc,hx,hd,_⟩:=x;exact ExF.ok he hc hx hd
structure Fly (X:Cx) (pins:List (Addr×Obj)) (σ:St) (H:Hp) (s:ν) (e C:Addr) (dx:Option Addr) (T:Addr) (fl:Option Value):Prop where
 inv:Inv X pins σ H s
 at_:H e=some (ExF e C dx)
 xc:Xc s.heap e C dx T fl
 ye:X.s₀.heap.objs.size<=e
 fp:T=e\/dY X pins H T
section
variable {X:Cx}{pins:List (Addr×Obj)}{σ:St}{H H':Hp}{s s':ν}{e C:Addr}{dx:Option Addr}{T:Addr}{fl:Option Value}
theorem Fly.moved(f:Fly X pins σ H s e C dx T fl){T':Addr}(m:Mv (frs X.stack) e T s.heap h')(hT:T'=T\/s.heap.objs.size<=T')(x':Xc h' e C dx T' fl'):
  Fly X pins σ H { s with heap:=h' } e C dx T' fl':=by
 have I:=f.inv;have nT:∀b u,H b=some u->b≠e->b≠T:=fun b u q ne z=>by
  rcases f.fp with y|y
  ·exact ne (z.trans y)
  ·rw[z,y.1]at q;cases q
 have hok:HOk X.prog X.w H h':=fun b u q=>by
  by_cases hb:b=e
  ·subst hb;rw[f.at_]at q;cases q;exact x'.ok
  ·refine(I.hok b u q).stay (fun c v hc z=>?_) (fun _ z=>z) fun _ _ z=>z;have hc':∃u',H c=some u'/\c≠e:=by
    rcases hc with rfl|hc
    ·exact⟨u,q,hb⟩
    ·exact⟨_,hc,fun y=>by rw[y,f.at_]at hc;cases hc⟩
   obtain⟨u',qc,nc⟩:=hc';exact(m c v z nc (nT c u' qc nc)).1 fun y=>by rw[I.stkFree c y]at qc;cases qc
 obtain⟨oe,vs,he,_⟩:=id x';have un:Un (frs X.stack) [T] H H s.heap h':=by
  have nn:∀b,H b=none->b≠e:=fun b n z=>by rw[z,f.at_]at n;cases n
  refine⟨fun b o q n hb hx=>(m b o q (nn b n) (fun z=>hx (by simp[z]))).1 hb,fun b o q n _ hx=>(m b o q (nn b n) (fun z=>hx (by simp[z]))).2,fun _ _ _ n _=>n,fun b o q hx=>?_,fun _ _ q=>q,fun _ _ _ q=>q,fun _ ps q=>⟨#[],by rw[q];simp⟩⟩
  by_cases hb:b=e
  ·exact⟨oe,hb ▸ he⟩
  ·obtain⟨_,sl,z⟩:=m b o q hb (fun z=>hx (by simp[z]));exact⟨_,z⟩
 have hch:∀b∈[T],(b∈X.ex\/X.s₀.heap.objs.size<=b)/\b≠X.env.locals/\(∀x c,X.env.cells.lookup x=some c->c≠b)/\∀p∈X.pn++pins,p.1≠b:=fun b hb=>by
  obtain rfl:b=T:=by simpa using hb
  rcases f.fp with y|y
  ·subst y;refine⟨.inr f.ye,fun z=>?_,fun x c q z=>?_,fun p hp z=>?_⟩
   ·have:=I.free;rw[←z,f.at_]at this;cases this
   ·have:=I.freeC x c q;rw[z,f.at_]at this;cases this
   ·have:=(I.pin p hp).2.1;rw[z,f.at_]at this;cases this
  ·exact⟨y.2.2.2.1,y.2.1,y.2.2.2.2.1,y.2.2.2.2.2⟩
 refine⟨I.call (g':=s.gens) (t':=s.toks) (d':=s.drawn) un hok I.bare hch,f.at_,x',f.ye,?_⟩;rcases hT with z|z
 ·rw[z];exact f.fp
 ·exact .inr (I.fpOk z (I.hok.fresh z))
theorem Xc.neT(x:Xc h e C dx T (some v)):T≠e:=by
 obtain⟨oe,vs,_,_,_,_,_,⟨z,_⟩|⟨_,_,_,_,n,_⟩⟩:=x
 ·cases z
 ·exact n
def CXE (P:Ao) (w:AD):CXT:=fun outer H s E ev s'=>∃(e C:Addr) (dx:Option Addr) (T:Addr) (H':Hp),ev=.ref e/\s'.os=s.os/\AllBare s'.gens/\Un (frs outer) [] H H' s.heap s'.heap/\HOk P w H' s'.heap ∧
 H' e=some (ExF e C dx)/\Xc s'.heap e C dx T (some .none)/\s.heap.objs.size<=e/\s.heap.objs.size<=T/\H' T=none/\E ev none H'
theorem Fly.of_call{E:XK}(I:Inv X pins σ H s)(h:CXE X.prog X.w X.stack H s E ev s'):∃e C dx T H',ev=.ref e/\Fly X pins σ H' s' e C dx T (some .none)/\E ev none H':=by
 obtain⟨e,C,dx,T,H',rfl,os,ba,un,hok,at_,xc,ye,yT,hT,hE⟩:=h;have I':=I.call' (ch:=[]) os un hok ba (fun b hb=>absurd hb (by simp));exact⟨e,C,dx,T,H',rfl,⟨I',at_,xc,yo I.sz ye,.inr (I.fpOk yT hT)⟩,hE⟩
end
section
variable {P:Ao}{w:AD}{K:ω}{mg:Str->Option Value}{base:Ag}{N:List Str}{qual:Str}{scope:Scope}{f:Addr}{cd:Value}{A:Ak}{outer:List Env}{s₀ : ν}{H₀ : Hp}{E E':XK}
theorem aDe(y:Fly (lW (CXE P w) P w K mg base N qual scope f cd A outer s₀ H₀ E) pins σ H s e C dx T fl)
  (hf:fl=none\/fl=some .none\/fl=some (Bt s₀.heap.objs.size))(hE:E (.ref e) none H):(lW (CXE P w) P w K mg base N qual scope f cd A outer s₀ H₀ E).xe (.ref e) s:=by
 have I:=y.inv;refine aLb (base:=base) (env:=envOfC qual scope s₀.heap.objs.size f cd) (outer:=outer) I.ok.frames rfl I.stack y.xc hf fun h' T' hT x' m=>?_;have y':=y.moved m hT x';have I':=y'.inv;rcases y'.fp with z|z
 ·exact absurd z x'.neT
 refine⟨e,C,dx,T',H,rfl,I'.os,I'.bare,I'.base,I'.hok,y.at_,x',y.ye,?_,z.1,hE⟩;rcases z.2.2.2.1 with q|q
 ·exact absurd (show T'∈([]:List Addr) from q) (by simp)
 ·exact q
theorem aGn(hE:∀v d H',E' v d H'->E v d H'):zZ (CXE P w) (lW (CXE P w) P w K mg base N qual scope f cd A outer s₀ H₀ E) E':=by
 intro pins σ H s ev s' I h;obtain⟨e,C,dx,T,H',rfl,y,q⟩:=Fly.of_call (X:=lW (CXE P w) P w K mg base N qual scope f cd A outer s₀ H₀ E) I h;exact aDe y (.inr (.inl rfl)) (hE _ _ _ q)
theorem passX : zZ (CXE P w) X E0:=fun _ _ _ _ _ _ _ h=>by
 obtain⟨_,_,_,_,_,_,_,_,_,_,_,_,_,_,_,q⟩:=h;exact q.elim
def aMb (X:Cx) (S:St->Prop) (E:XK):Prop:=∀(pins:List (Addr×Obj)) (σ:St) (H:Hp) (s:ν) (e C:Addr) (dx:Option Addr),S σ->Inv X pins σ H s->H e=some (Ex0 e C dx)->X.s₀.heap.objs.size<=e->E (.ref e) none (upd H e (ExF e C dx))->X.xe (.ref e) s
theorem Fly.start{H:Hp}(I:Inv X pins σ H s)(he:H e=some (Ex0 e C dx))(ye:X.s₀.heap.objs.size<=e):
  Fly X pins σ (upd H e (ExF e C dx)) s e C dx e none:=by
 obtain⟨⟨oe,vs,q,hc,hx,hd,h1,hv⟩,_⟩:=I.hok e _ he;have I':Inv X pins σ (upd H e (ExF e C dx)) s:=by
  have:=I.write (x:=e) (e:=e) (o:=ExF e C dx) (t':=s.toks) (h':=s.heap) (by rw[he];exact Ae) (.inl rfl) (fun _ _ _ z=>z) ⟨_,q⟩ (ExF.ok q hc hx hd);exact this
 exact⟨I',jO,⟨oe,vs,q,hc,hx,hd,h1,.inl ⟨rfl,rfl,hv⟩⟩,ye,.inl rfl⟩
theorem aG:aMb (lW (CXE P w) P w K mg base N qual scope f cd A outer s₀ H₀ E) (fun _=>True) E:=fun pins σ H s e C dx _ I he ye hE=>aDe (Fly.start I he ye) (.inl rfl) hE
theorem ownE:PassesOwn (yl P w) (A.deeper (envOfC qual scope s₀.heap.objs.size f cd)) (envOfC qual scope s₀.heap.objs.size f cd) (lW (CXE P w) P w K mg base N qual scope f cd A outer s₀ H₀ E).xe:=PassesOwn.leaving
end
theorem Fun.okE{P:Ao}{w:AD}{K:ω}{mg:Str->Option Value}{base:Ag}{x qual:Str}{st:Stmt}{f:Addr}{fd:zb}{N ps:List Str}{k:Nat}{sp:Sp}(F:Fun K x qual st f fd)(S:jN N ps (jG st))(len:∀vs H Q E,sp vs H Q E->vs.length=ps.length)
  (hbody:∀(cdv:Value) (A:Ak) (outer:List Env) (s:ν) (H:Hp) (vs:List V) (Q:VK) (E:XK),xF k (A.deeper (envOfC qual (jG st) s.heap.objs.size f cdv))->sp vs H Q E →
   ∃t,PSs (lW (CXE P w) P w K mg base N qual (jG st) f cdv A outer s H E) (aJ st) t/\t { nx:=fun _ H'=>Q .non H',rt:=Q } (start N vs) H):jI P w K mg base (CXE P w) (k+1) f fd ps sp:=by
 obtain⟨oc,od,kV,doc,pm,an,cdv,ct,osl,rfl,lk,hcd⟩:=F.ex;exact aPt lk hcd S len fun A outer s H vs Q E hr hsp=>hbody cdv A outer s H vs Q E hr hsp
theorem Cx.Ok.re{X:Cx}(ok:X.Ok)(pn:List (Addr×Obj))(E:Value->ν->Prop):Cx.Ok { X with pn:=pn,xe:=E } :=
 ⟨ok.mod,ok.kind,ok.glob,ok.blt,ok.above,ok.inj,ok.has,ok.cab,ok.hd,ok.frames,ok.stk,ok.exf,ok.bs,ok.bsz,ok.noex,ok.exfs,ok.funs,ok.frf⟩
theorem Cx.Ok.back{X:Cx}{pn:List (Addr×Obj)}{E:Value->ν->Prop}(ok:Cx.Ok { X with pn:=pn,xe:=E }):X.Ok :=
 ⟨ok.mod,ok.kind,ok.glob,ok.blt,ok.above,ok.inj,ok.has,ok.cab,ok.hd,ok.frames,ok.stk,ok.exf,ok.bs,ok.bsz,ok.noex,ok.exfs,ok.funs,ok.frf⟩
section
variable {X:Cx}{pins:List (Addr×Obj)}{σ:St}{H:Hp}{s:ν}
theorem Inv.re(I:Inv X pins σ H s)(pn pins':List (Addr×Obj))(E:Value->ν->Prop)(h:∀p∈pn++pins',p∈X.pn++pins):Inv { X with pn:=pn,xe:=E } pins' σ H s :=
 ⟨I.ok.re pn E,I.os,I.bare,I.base,I.loc,I.cell,I.free,I.freeC,fun p hp=>I.pin p (h p hp),I.hok,I.len⟩
theorem Inv.back{pn:List (Addr×Obj)}{E:Value->ν->Prop}(I:Inv { X with pn:=pn,xe:=E } pins' σ H s)(h:∀p∈X.pn++pins,p∈pn++pins'):Inv X pins σ H s :=
 ⟨I.ok.back,I.os,I.bare,I.base,I.loc,I.cell,I.free,I.freeC,fun p hp=>I.pin p (h p hp),I.hok,I.len⟩
def XT (X:Cx) (pn:List (Addr×Obj)) (S:St->Prop) (W:XK):Value->ν->Prop:=fun ev s=>∃(e C:Addr) (dx:Option Addr) (T:Addr) (fl:Option Value) (σ:St) (H:Hp),
 ev=.ref e/\Fly { X with pn:=pn,xe:=fun _ _=>False } [] σ H s e C dx T fl/\(fl=none\/fl=some .none)/\S σ/\W ev none H
abbrev XB (X:Cx) (pn:List (Addr×Obj)) (S:St->Prop) (W:XK):Cx:={ X with pn:=pn,xe:=XT X pn S W }
theorem Fly.re{pn:List (Addr×Obj)}{E E':Value->ν->Prop}(f:Fly { X with pn:=pn,xe:=E } pins σ H s e C dx T fl):Fly { X with pn:=pn,xe:=E' } [] σ H s e C dx T fl:=by
 refine⟨?_,f.at_,f.xc,f.ye,?_⟩
 ·exact Inv.re (X:={ X with pn:=pn,xe:=E }) f.inv pn [] E' (fun p hp=>by
   rw[zh]at hp;exact AL _ hp)
 ·rcases f.fp with z|⟨a1,a2,a3,a4,a5,a6⟩
  ·exact .inl z
  ·exact .inr ⟨a1,a2,a3,a4,a5,fun p hp=>a6 p (by
    have hp':p∈pn++[]:=hp;rw[zh]at hp';exact AL _ hp')⟩
def aAq (CX:CXT) (X:Cx) (S:St->Prop) (E:XK):Prop:=∀(pins:List (Addr×Obj)) (σ:St) (H:Hp) (s:ν) (e:Value) (s':ν),S σ->Inv X pins σ H s->CX X.stack H s E e s'->X.xe e s'
theorem passT : aAq (CXE X.prog X.w) (XB X pn S W) S W:=by
 intro pins σ H s ev s' hS I h;obtain⟨e,C,dx,T,H',rfl,y,q⟩:=Fly.of_call (X:=XB X pn S W) I h;exact⟨e,C,dx,T,_,σ,H',rfl,y.re,.inr rfl,hS,q⟩
end
section
variable {X:Cx}{CX:CXT}{k:Nat}{f C:Addr}{fd:zb}{ps:List Str}{sp:Sp}{dvs:List V}{ds:List Value}{E:XK}{S:St->Prop}{x m:Str}{p pos apos:Pos}{e o:Expr}{es:List Expr}{ta:TE}{t:TA}
theorem aNl{Q:VK}(F:jI X.prog X.w X.K X.mg X.base CX k f fd ps sp)(hr:xF k X.A)(hb:Binds X.K fd ps ds)(hd:kQ dvs ds)(hx:aAq CX X S E)(hS:S σ)
  (I:Inv X pins σ H s)(r:kQ vs us)(h:sp (vs++dvs) H Q E):xy (yl X.prog X.w) X.A (call (.ref f) us) (EP X pins σ Q) X.xe s:=by
 have r2:kQ (vs++dvs) (us++ds):=r.append hd;have hl:(us++ds).length=ps.length:=by rw[←r2.length];exact F.len _ _ _ _ h
 refine wpAny_call (Dz (F.run X.A X.stack s H ⟨us,[]⟩ (us++ds) (vs++dvs) Q E hr I.env0 (hb s us I.kIn hl) r2 h) fun r s' hq=>?_);cases r with
 |error e=>exact hx pins σ H s e s' hS I hq
 |ok fl =>
  cases fl with
  |ret u=>exact I.after hq
  |next=>exact zi hq
  |brk=>exact zi hq
  |cont=>exact zi hq
def aSc (S:St->Prop) (sp:Sp) (dvs:List V) (E:XK) (t:TA):TE:=fun σ H Q=>t σ H fun vs H1=>S σ/\sp (vs++dvs) H1 Q E
theorem aLk(F:jI X.prog X.w X.K X.mg X.base CX k f fd ps sp)(hr:xF k X.A)(hg:Gl X x)(hm:X.mg x=some (.ref f))(hk:keepIn X.K (.ref f)=true)(hb:Binds X.K fd ps ds)(hd:kQ dvs ds)(hx:aAq CX X S E)
  (ha:PA X (e::es) t)(hdb:(x == ("__debug__" : Str))=false:=by decide)(he:yi (e::es) X.env=(false,eval e X.env)::yi es X.env:=by rfl)(hpl:(BH pos (yi es X.env)).any (·.1)=false:=by rfl):
  PE X (.Call (.Name x p) (e::es) [] pos) (aSc S sp dvs E t):=by
 intro pins s σ H Q I h;refine AW (gL I hg hm ?_ hdb);refine BJ (h₀:=X.base) I.ok.mod.kin hk (thn (ha pos pins s σ H _ I h) fun us s1 ⟨vs,H1,I1,r,hS,q⟩=>⟨I1.kIn,?_⟩) he hpl;exact aNl F hr hb hd hx hS I1 r q
end
structure XCls (K:ω) (C:Addr) (bm:List Value):Prop where
 obj:∃(nm q:Str) (N:Addr) (bs:List Value) (hd:Bool) (sn:List Str) (sub:List Value) (ab:Bool) (col:Option Bool) (dd:Option Addr) (k0 k1 k2 k3 k5:Option Value) (ni:String),K.lookup C=some (excClassObj nm q C N bs bm hd sn sub ab col dd k0 k1 k2 k3 k5 ni)
 b:bm.contains (.type "BaseException")=true
abbrev XH (X:Cx) (e:Addr):Cx:={ X with A:=X.A.mark (some (.ref e)),calm:=false,xe:=fun _ _=>False }
section
variable {X:Cx}{pins:List (Addr×Obj)}{σ:St}{H:Hp}{s:ν}
theorem Inv.toH(I:Inv X pins σ H s)(e:Addr):Inv (XH X e) pins σ H s :=
 ⟨⟨I.ok.mod,I.ok.kind,I.ok.glob,I.ok.blt,I.ok.above,I.ok.inj,I.ok.has,I.ok.cab,(fun z=>by cases z),I.ok.frames,I.ok.stk,I.ok.exf,I.ok.bs,I.ok.bsz,I.ok.noex,I.ok.exfs,I.ok.funs,I.ok.frf⟩,I.os,I.bare,I.base,I.loc,I.cell,I.free,I.freeC,I.pin,I.hok,I.len⟩
theorem Inv.ofH(hd:X.calm=true->X.A.handled=none)(I:Inv (XH X e) pins σ H s):Inv X pins σ H s :=
 ⟨⟨I.ok.mod,I.ok.kind,I.ok.glob,I.ok.blt,I.ok.above,I.ok.inj,I.ok.has,I.ok.cab,hd,I.ok.frames,I.ok.stk,I.ok.exf,I.ok.bs,I.ok.bsz,I.ok.noex,I.ok.exfs,I.ok.funs,I.ok.frf⟩,I.os,I.bare,I.base,I.loc,I.cell,I.free,I.freeC,I.pin,I.hok,I.len⟩
theorem Inv.unbound{h':Ag}{m:Str->Option Value}{u:Option Value}{i:Nat}{n:Str}(I:Inv X pins σ H s)(hN:X.N.Nodup)(hi:X.N[i]?=some n)(hn:s.heap.Ns X.env.locals m)
  (hm:∀(j:Nat) (x:Str) (v:V),X.N[j]?=some x->σ[j]?=some (some v)->Vis X.env.scope x->∃u,RelV v u/\Look X.env s.heap m x u)
  (hn':h'.Ns X.env.locals (fun x=>if x=n then u else m x))(sb:AH X.env.locals s.heap h'):Inv X pins (σ.set i none) H { s with heap:=h' }:=by
 have kp:∀b o,b≠X.env.locals->s.heap.get? b=some o->h'.get? b=some o:=fun b o nb q=>(sb.2 b nb).trans q;have neL:∀b o,X.s₀.heap.get? b=some o->b≠X.env.locals:=fun b o e=>yg (χ (Ξ e) I.ok.above);have B:=I.base;refine⟨I.ok,I.os,I.bare,⟨fun b o q n1 hb hx=>kp b o (neL b o q) (B.keep b o q n1 hb hx),fun b o q n1 hb hx=>?_,B.free,fun b o q hx=>?_,B.tups,B.frzs,B.tbls⟩,⟨_,hn',fun j x v e1 e2 e3=>?_⟩,fun x c e=>?_,I.free,I.freeC,fun p hp=>?_,?_,?_⟩
 ·obtain⟨sl,z⟩:=B.slot b o q n1 hb hx;exact⟨sl,kp b _ (neL b o q) z⟩
 ·obtain⟨o',z⟩:=B.there b o q hx;exact⟨o',kp b _ (neL b o q) z⟩
 ·have hj:j≠i:=fun z=>by
   subst z;rw[List.getElem?_set_self' ]at e2;cases hz : σ[j]? with
   |none=>rw[hz]at e2;cases e2
   |some _=>rw[hz]at e2;cases e2
  rw[Ed (Aj hj)]at e2;obtain⟨u',ru,l⟩:=hm j x v e1 e2 e3;have xn:x≠n:=fun z=>hj (sO hN e1 (z ▸ hi));refine⟨u',ru,?_⟩;rcases l with⟨k1,k2⟩|⟨k1,c,k2,o,ho,hd⟩
  ·exact .inl ⟨k1,by show(if x=n then u else m x)=some u';rw[if_neg xn];exact k2⟩
  ·exact .inr ⟨k1,c,k2,o,kp c o (I.cne x c k2) ho,hd⟩
 ·obtain⟨v,o,ho,hd⟩:=I.cell x c e;exact⟨v,o,kp c o (I.cne x c e) ho,hd⟩
 ·obtain⟨a1,a2,a3,a4,a5⟩:=I.pin p hp;exact⟨kp _ _ a3 a1,a2,a3,a4,a5⟩
 ·intro b o q;refine(I.hok b o q).stay (fun c v hc z=>kp c v ?_ z) (fun _ z=>z) fun _ _ z=>z;rintro rfl;rcases hc with z|z
  ·rw[←z,I.free]at q;cases q
  ·rw[I.free]at z;cases z
 ·rw[List.length_set];exact I.len
def tTry (tb:(St->Prop)->XK->TS) (K:ω) (Cn:Addr) (i:Nat) (ts:TS):TS:=fun D σ H=>∃(S:St->Prop) (W:XK),tb S W D σ H ∧
 ∀(σ':St) (e:Addr) (H':Hp),S σ'->W (.ref e) none H'->∃C dx bm,H' e=some (ExF e C dx)/\XCls K C bm/\(yk C::bm).contains (.ref Cn)=true ∧
  ts { nx:=fun σ2 H2=>D.nx (σ2.set i none) H2,rt:=D.rt,bk:=fun σ2 H2=>D.bk (σ2.set i none) H2,ct:=fun σ2 H2=>D.ct (σ2.set i none) H2 } (σ'.set i (some (.ref e))) H'
theorem aSi{b0:Stmt}{suite:List Stmt}{rest:List ExceptHandler}{i:Nat}{tb:(St->Prop)->XK->TS}(hcalm:X.calm=true)(hst:X.stack=X.env::X.outer)(hfr:X.env.frame=some X.env.locals)
  (hg:Gl X cn)(hm:X.mg cn=some (.ref Cn))(hcl:XCls X.K Cn bmn)
  (hN:X.N.Nodup)(hi:X.N[i]?=some n)(hn:X.env.scope.names.lookup n=some .local)
  (hb:∀pn S W,PSs (XB X pn S W) body (tb S W))(hs:∀e,PSs (XH X e) (b0::suite) ts)(hdb:(cn == ("__debug__" : Str))=false:=by decide):
  PS X (.Try body (.ExceptHandler (some (.Name cn p)) (some n) (b0::suite) hp::rest) [] [] pos) (tTry tb X.K Cn i ts):=by
 intro pins s σ H D I h;obtain⟨S,W,hbody,hh⟩:=h;refine wpAny_Try_except (Ad (hb (X.pn++pins) S W [] s σ H D (I.re (X.pn++pins) [] _ (fun q hq=>by rwa [zh]at hq)) hbody) (fun f s1 hf=>?_) fun ev s1 hx=>?_)
 ·have bk:∀{σ':St}{H':Hp},Inv (XB X (X.pn++pins) S W) [] σ' H' s1->Inv X pins σ' H' s1:=fun {σ' H'} J=>J.back (fun q hq=>by rw[zh];exact hq);cases f with
  |next =>
   obtain⟨σ',H',J,q⟩:=hf;exact Dp ⟨σ',H',bk J,q⟩
  |brk=>obtain⟨σ',H',J,q⟩:=hf;exact⟨σ',H',bk J,q⟩
  |cont=>obtain⟨σ',H',J,q⟩:=hf;exact⟨σ',H',bk J,q⟩
  |ret u=>obtain⟨v,σ',H',J,r,q⟩:=hf;exact⟨v,σ',H',bk J,r,q⟩
 ·obtain⟨e,C,dx,T,fl,σ',H',rfl,y,hfl,hS,hW⟩:=hx;have hA:X.A.frames=some (X.env::X.outer):=hst ▸ I.ok.frames;have ff:s1.heap.FunFrames X.base (X.env::X.outer):=hst ▸ y.inv.stack;refine aGu hA hfr ff y.xc (hfl.imp id .inl) fun h1 T1 q1 x1 m1=>?_;have y1:=y.moved (by show Mv (frs X.stack) _ _ _ _;rw[hst];exact m1) q1 x1;refine mP x1 fun h2 x2 m2=>?_;have y2:=y1.moved (h':=h2) (fun b o q ne nT=>⟨fun _=>(m2 b o q ne nT).1 (by simp),(m2 b o q ne nT).2⟩) (.inl rfl) x2;obtain⟨C',dx',bm,hat,hxc,hmro,hsu⟩:=hh σ' e H' hS hW;have eqs:C'=C/\dx'=dx:=by
   have z:=y.at_.symm.trans hat;obtain⟨⟨oe,vs,a1,a2,a3,_⟩,_⟩:=y.inv.hok e _ y.at_;obtain⟨⟨oe',vs',b1,b2,b3,_⟩,_⟩:=y.inv.hok e _ hat;rw[a1]at b1;cases b1;exact⟨by rw[a2]at b2;exact(yk.inj b2).symm,b3.symm.trans a3⟩
  obtain⟨rfl,rfl⟩:=eqs;have I2:Inv X pins σ' H' { s1 with heap:=h2 }:=y2.inv.back (fun q hq=>by rw[zh];exact hq);refine wpAny_handleBy_cons (codeAny_handlers_test ?_) (by intro z;cases z);refine gL (X:=XH X e) (I2.toH e) hg hm ?_ hdb;obtain⟨oe,vs,he,oc,_⟩:=id x2;have match_:∀{Q:Bool->ν->Prop}{E:Value->ν->Prop},Q true { s1 with heap:=h2 }->xy (yl X.prog X.w) (X.A.mark (some (.ref e))) (excMatches (.ref e) (.ref Cn)) Q E { s1 with heap:=h2 }:=fun {Q E} q=>by
   obtain⟨nm1,q1,N1,bs1,hd1,sn1,su1,ab1,co1,dd1,j0,j1,j2,j3,j5,ni1,lk1⟩:=hxc.obj;obtain⟨nm2,q2,N2,bs2,hd2,sn2,su2,ab2,co2,dd2,l0,l1,l2,l3,l5,ni2,lk2⟩:=hcl.obj;exact aSn (I2.kIn _ _ lk1) (I2.kIn _ _ lk2) hcl.b he oc hmro q
  refine match_ ?_;refine codeAny_handlers_suite_as ?_;refine mP x2 fun h3 x3 m3=>?_;have y3:=y2.moved (h':=h3) (fun b o q ne nT=>⟨fun _=>(m3 b o q ne nT).1 (by simp),(m3 b o q ne nT).2⟩) (.inl rfl) x3;have I3:Inv X pins σ' H' { s1 with heap:=h3 }:=y3.inv.back (fun q hq=>by rw[zh];exact hq);refine gN (X:=XH X e) (I3.toH e) hN hi (.inl hn) (v:=.ref e) rfl (fun s4 I4 _=>?_) (.inr hn);refine Ad (hs e pins s4 _ H' _ I4 hsu) (fun fl5 s5 hf=>?_) fun _ _ z=>z.elim;have fin:∀{σ5:St}{H5:Hp}{P5:ν->Prop},Inv (XH X e) pins σ5 H5 s5->(∀s6,Inv X pins (σ5.set i none) H5 s6->P5 s6) →
    xy (yl X.prog X.w) X.A (do bindName X.env n .none;unbindBehindTheSuite X.env n hp) (fun _ s6=>P5 s6) X.xe s5:=fun {σ5 H5 P5} J q=>by
   have J':Inv X pins σ5 H5 s5:=J.ofH I.ok.hd;refine ζ (wpAny_bindName (gN (X:=X) J' hN hi (.inl hn) (v:=.non) rfl (fun s6 J6 _=>?_) (.inr hn)));obtain⟨m,hm6,hl6⟩:=id J6.loc;have hv:∃v,m n=some v:=by
    have hiσ:i<σ5.length:=by rw[J'.len];exact(θ.mp hi).1
    obtain⟨u,_,l⟩:=hl6 i n .non hi (by rw[Ck hiσ]) (.inl hn);rcases l with⟨_,z⟩|⟨z,_⟩
    ·exact⟨u,z⟩
    ·have hn':X.env.kindOf n=some .local:=hn;rcases z with z|z <;> (rw[hn']at z;cases z)
   obtain⟨v,hv⟩:=hv;unfold unbindBehindTheSuite;refine Di (wpAny_unbindName_local hn hm6 hv (by rw[J'.ok.kind];rfl) fun h7 u7 hn7 sb7=>?_);have:=J6.unbound hN hi hm6 hl6 hn7 sb7;rw[List.set_set]at this;exact q _ this
  cases fl5 with
  |next=>obtain⟨σ5,H5,J,q⟩:=hf;exact fin J fun s6 J6=>⟨_,H5,J6,q⟩
  |brk=>obtain⟨σ5,H5,J,q⟩:=hf;exact fin J fun s6 J6=>⟨_,H5,J6,q⟩
  |cont=>obtain⟨σ5,H5,J,q⟩:=hf;exact fin J fun s6 J6=>⟨_,H5,J6,q⟩
  |ret u=>obtain⟨v,σ5,H5,J,r,q⟩:=hf;exact fin J fun s6 J6=>⟨v,_,H5,J6,r,q⟩
end
def XD (dx:Addr) (fs:List (Str×V)):HO:=.ext fun h=>∃mA,h.Ns1 dx mA/\(∀f,aI (fs.lookup f) (mA f))/\Bm mA (fs.map (·.1))
theorem XD.ok{h:Ag}{fs:List (Str×V)}(a:∃mA,h.Ns1 dx mA/\(∀f,aI (fs.lookup f) (mA f))/\Bm mA (fs.map (·.1))):vI P w H h dx (XD dx fs):=by
 obtain⟨mA,⟨o,es,ep,ho,z⟩,r⟩:=id a;exact⟨a,⟨o,ho⟩,fun h1 h2 ⟨mA,⟨o,es,ep,ho,z⟩,r⟩ k=>⟨mA,⟨o,es,ep,k _ ho,z⟩,r⟩⟩
theorem aSd{H:Hp}(e:H a=some o):upd H a o=H:=by
 funext b
 unfold upd
 split
 ·rename_i q;rw[q,e]
 ·rfl
section
variable {X:Cx}{pins:List (Addr×Obj)}{σ:St}{H:Hp}{s:ν}{e C R fI dx:Addr}
theorem Inv.xfirst{h':Ag}{t':Nat}{fs:List (Str×V)}(I:Inv X pins σ H s)(he:H e=some (Ex0 e C none))(hx:s.heap.objs.size<=dx)(ne:dx≠e)(g:h'.get? e=some oe)(oc:oe.cls=.ref C)(od:oe.dict=some dx)(hd:oe.data=.fields vs)(h1 : 1<vs.size)(hv:vs[1]?=some .none)
  (hn:∃mA,h'.Ns1 dx mA/\(∀f,aI (fs.lookup f) (mA f))/\Bm mA (fs.map (·.1)))(k:∀b o,b≠e->s.heap.get? b=some o->h'.get? b=some o):
  Inv X pins σ (upd (upd H dx (XD dx fs)) e (Ex0 e C (some dx))) { s with heap:=h',toks:=t' }:=by
 have nx:H dx=none:=I.hok.fresh hx;have eqs:∀b u,H b=some u->b≠e->upd (upd H dx (XD dx fs)) e (Ex0 e C (some dx)) b=some u:=fun b u q nb=>by
  rw[jY nb,jY (jL q nx)];exact q
 refine I.un ⟨fun b o q n _ _=>k b o (jL he n).symm q,fun b o q n _ _=>⟨o.slots,k b o (jL he n).symm q⟩,fun b o q n _=>?_,fun b o q _=>?_,fun b xs q=>?_,fun b o u q=>?_,fun b ps q=>⟨#[],?_⟩⟩ fun b u q=>?_
 ·rw[jY (jL he n).symm,jY (yg (χ (Ξ q) hx))];exact n
 ·by_cases hb:b=e
  ·exact⟨oe,hb ▸ g⟩
  ·exact⟨o,k b o hb q⟩
 ·exact eqs b _ q fun z=>by rw[z,he]at q;cases q
 ·exact eqs b _ q fun z=>by rw[z,he]at q;cases q
 ·rw[eqs b _ q fun z=>by rw[z,he]at q;cases q];simp
 ·by_cases hb:b=e
  ·subst hb;rw[jO]at q;cases q;exact Ex0.ok g oc od hd h1 hv
  ·rw[jY hb]at q
   by_cases hb2:b=dx
   ·subst hb2;rw[jO]at q;cases q;exact XD.ok hn
   ·rw[jY hb2]at q;refine(I.hok b u q).stay (fun c v hc z=>k c v ?_ z) (fun c z=>eqs c _ z fun y=>by rw[y,he]at z;cases z) fun c xs z=>eqs c _ z fun y=>by rw[y,he]at z;cases z
    rcases hc with y|y
    ·rw[y];exact hb
    ·intro z;rw[z,he]at y;cases y
def sXfld (K:ω) (ta tv:TE) (f:Str):TS:=fun D σ H=>tv σ H fun y H1=>ta σ H1 fun x H2=>∃e C R fI,x=.ref e/\gP K C R fI/\Ap K (.ref C) f=some none ∧
 ((H2 e=some (Ex0 e C none)/\∀dx,H2 dx=none->D.nx σ (upd (upd H2 dx (XD dx [(f,y)])) e (Ex0 e C (some dx)))) ∨
   ∃dx fs,H2 e=some (Ex0 e C (some dx))/\H2 dx=some (XD dx fs)/\fs.length<1000/\D.nx σ (upd H2 dx (XD dx (aN f y fs))))
theorem aSq{Q:Unit->ν->Prop}(I:Inv X pins σ H s)(c:gP X.K C R fI)(hf:Ap X.K (.ref C) f=some none)(ry:RelV y u){N:Hp->Prop}
  (h:(H e=some (Ex0 e C none)/\∀dx,H dx=none->N (upd (upd H dx (XD dx [(f,y)])) e (Ex0 e C (some dx))))\/∃dx fs,H e=some (Ex0 e C (some dx))/\H dx=some (XD dx fs)/\fs.length<1000/\N (upd H dx (XD dx (aN f y fs))))
  (q:∀s' H',Inv X pins σ H' s'->N H'->Q () s'):xy (yl X.prog X.w) A (setAttr (.ref e) f u) Q E s:=by
 rcases h with⟨he,hN⟩|⟨dx,fs,he,hd,hl,hN⟩
 ·obtain⟨⟨oe,vs,g,oc,ox,od,h1,hv⟩,_⟩:=I.hok e _ he;refine aFg I.kIn c g oc od ox hf fun h' dx tk hx ne g' hn k=>?_;refine q _ _ (I.xfirst he hx ne g' oc rfl od h1 hv ⟨_,hn,fun z=>?_,fun z hz=>?_⟩ k) (hN dx (I.hok.fresh hx))
  ·show aI (BY z [(f,y)]) (if z=f then some u else none)
   by_cases hz:z=f
   ·rw[if_pos hz,hz];simp only[BY,beq_self_eq_true];exact ry
   ·have hb:(z == f)=false:=beq_eq_false_iff_ne.mpr hz;rw[if_neg hz];simp only[BY,hb];exact Ae
  ·by_cases hz':z=f
   ·rw[hz'];exact τ.mpr rfl
   ·exact absurd (if_neg hz') hz
 ·obtain⟨⟨oe,vs,g,oc,ox,od,h1,hv⟩,_⟩:=I.hok e _ he;obtain⟨⟨mA,hn,r,wi⟩,_⟩:=I.hok dx _ hd;refine aIc I.kIn c g oc od ox hn wi (by rw[δ,ym];omega) hf fun h' hn' sb=>?_;have ho:∃o,h'.get? dx=some o:=let ⟨o,_,_,e',_⟩:=hn'; ⟨o,e'⟩;refine q _ _ (I.write (x:=dx) (e:=dx) (o:=XD dx (aN f y fs)) (by rw[hd];exact Ae) (.inl rfl) (fun b o hb z=>(sb.2 b hb).trans z) ho (XD.ok ⟨_,hn',fun z=>?_,fun z hz=>?_⟩)) hN
  ·show aI ((aN f y fs).lookup z) (if z=f then some u else mA z);rw[fQ]
   by_cases q:z=f
   ·rw[if_pos q,if_pos q];exact ry
   ·rw[if_neg q,if_neg q];exact r z
  ·by_cases q:z=f
   ·rw[q];exact(cR f y fs).1
   ·refine(cR f y fs).2 z (wi z fun y'=>hz ?_);show(if z=f then some u else mA z)=none;rw[if_neg q];exact y'
theorem aGb{pos:Pos}(ha:PE X o ta)(hv:PE X value tv)(hs:swapsWith value (some (.Attribute o f pos')) pos.line X.env=pure false:=by rfl):PS X (.Assign [.Attribute o f pos'] value pos) (sXfld X.K ta tv f):=by
 intro pins s σ H D I h;refine plainObj_wpAny_Assign_Attribute (thn (hv pins s σ H _ I h) fun u s1 ⟨y,H1,I1,ry,h1⟩=>thn (ha pins s1 σ H1 _ I1 h1) fun ov s2 zq=>?_) hs;obtain⟨x,H2,I2,rx,e,C,R,fI,ex,c,hf,h2⟩:=zq;subst ex;obtain rfl:ov=yk e:=rx;exact aSq I2 c hf ry h2 fun s' H' I' q=>⟨σ,H',I',q⟩
def aQd (K:ω) (ta:TE) (f:Str):TE:=fun σ H Q=>ta σ H fun x H1=>∃e C R fI dx fs v,x=.ref e/\(H1 e=some (ExF e C (some dx))\/H1 e=some (Ex0 e C (some dx)))/\H1 dx=some (XD dx fs)/\gP K C R fI/\Ap K (.ref C) f=some none/\fs.lookup f=some v/\Q v H1
theorem aPe(he:PE X o ta)(hb:Cb o f X.env (eval o X.env)=eval o X.env):PE X (.Attribute o f pos) (aQd X.K ta f):=by
 intro pins s σ H Q I h;refine aHr hb (thn (he pins s σ H _ I h) fun u s1 zq=>?_);obtain⟨x,H1,I1,rx,e,C,R,fI,dx,fs,v,ex,ea,ed,c,hf,l,q⟩:=zq;subst ex;obtain rfl:u=yk e:=rx;obtain⟨⟨mA,hn,r,wi⟩,_⟩:=I1.hok dx _ ed;obtain⟨u',hu,ru⟩:=aI.some_of (v:=v) (o:=mA f) (by rw[←l];exact r f);obtain⟨oe,vs,g,oc,ox,od⟩ : ∃oe vs,s1.heap.get? e=some oe/\oe.cls=.ref C/\oe.dict=some dx/\oe.data=.fields vs:=by
  rcases ea with ea|ea
  ·obtain⟨⟨oe,vs,g,oc,ox,od⟩,_⟩:=I1.hok e _ ea;exact⟨oe,vs,g,oc,ox,od⟩
  ·obtain⟨⟨oe,vs,g,oc,ox,od,_⟩,_⟩:=I1.hok e _ ea;exact⟨oe,vs,g,oc,ox,od⟩
 obtain⟨o1,ho,hl⟩:=uY hn;obtain⟨cd,hcd,hm,hh⟩:=c.clsIn;have hh':CC X.K C=true:=by unfold CC;rw[hcd];exact hh
 exact xget I1.kIn c (aBg (od:=some o1) g oc od (by rw[ox];exact ho)) (PySem.W.findObj_own hh' hf rfl (by rw[hl,hu])) (uR ru) ⟨v,H1,I1.tok _,ru,q⟩
end
structure aQf (K:ω) (B f:Addr):Prop where
 r:PySem.W.readsIn K B (.type "type")=true
 fd:PySem.W.findCls K (.ref B) (.type "type") "__init__" = some (.val (.ref f))
 g:CD K (.ref B) "__getattribute__" = some (some (.builtin "type.__getattribute__"))
 k:keepIn K (.ref f)=true
structure aLi (K:ω):Prop where
 ga:Ap K (.type "type") "__getattribute__" = some (some (.builtin "type.__getattribute__"))
 sub:PySem.W.subIn K (.type "type") (.type "type")=some true
 f:PySem.W.findCls K (.type "ValueError") (.type "type") "__init__" = some (.val (.builtin "ValueError.__init__"))
theorem aKf:typeOf (.type "ValueError")=pure (.type "type"):=by kernel_rfl
theorem aRr:opaqueClassAbove (.type "ValueError")=pure none:=by kernel_rfl
theorem aLm:hookBefore (.type "type")=pure none:=by kernel_rfl
theorem aMs:CI (.type "type") "__getattribute__" = pure (some (.builtin "type.__getattribute__")):=by rw[typeLookup_type,DP];kernel_rfl
theorem aQx:specialOf (.type "ValueError") "__getattribute__" = pure (some (.builtin "type.__getattribute__")):=by
 unfold specialOf;rw[aKf];show CI (.type "type") "__getattribute__" = _;exact aMs
section
variable {X:Cx}{CX:CXT}{k:Nat}{f B C R:Addr}{fd:zb}{ps:List Str}{sp:Sp}{dvs:List V}{ds:List Value}{E:XK}{x:Str}{p pos apos:Pos}{e o:Expr}{es:List Expr}{t:TA}
theorem aKl(c:aQf X.K B f)(ho:PE X o (tC (.ref B)))(F:jI X.prog X.w X.K X.mg X.base CX k f fd ps sp)(hr:xF k X.A)(hb:Binds X.K fd ps ds)(hd:kQ dvs ds)(hx:zZ CX X E)(ha:PA X (e::es) t)
  (hst:yi (e::es) X.env=(false,eval e X.env)::yi es X.env:=by rfl)(hpl:(BH pos (yi es X.env)).any (·.1)=false:=by rfl)
  (ht:eval (.Call (.Attribute o "__init__" apos) (e::es) [] pos) X.env=(do
   let ov ←eval o X.env
   standAt apos.atName
   let (f,first) ←holding [ov] (Dv ov "__init__" pl)
   callWith pos f first (BH pos (yi (e::es) X.env)) (backToKw pos (CH [] X.env))):=by rfl):
  PE X (.Call (.Attribute o "__init__" apos) (e::es) [] pos) (aLu sp dvs E t):=by
 intro pins s σ H Q I h;refine BM (pl:=pl) (thn (ho pins s σ H (fun v H1=>v=.ref B/\aLu sp dvs E t σ H1 Q) I ⟨rfl,h⟩) fun u s1 zq=>?_) ht;obtain⟨x,H1,I1,rx,ex,q⟩:=zq;subst ex;obtain rfl:u=yk B:=rx;refine PySem.W.method_cls I1.kIn c.g (PySem.W.cls_value I1.kIn c.r c.fd rfl ?_);refine BJ (first:=[]) (h₀:=X.base) I.ok.mod.kin c.k (thn (ha pos pins _ σ H1 _ (I1.tok _) q) fun us s2 ⟨vs,H2,I2,r,q2⟩=>⟨I2.kIn,?_⟩) hst hpl;exact rB F hr hb hd hx I2 r q2
def aJy (K:ω) (t:TA):TE:=fun σ H Q=>t σ H fun vs H1=>∃e v C R fI dx,vs=[.ref e,v]/\H1 e=some (Ex0 e C dx)/\gP K C R fI/\Q .non H1
theorem aJo(c:aLi X.K)(ho:PE X o (tC (.ty "ValueError")))(ha:PA X (e::es) t)
  (hst:yi (e::es) X.env=(false,eval e X.env)::yi es X.env:=by rfl)(hpl:(BH pos (yi es X.env)).any (·.1)=false:=by rfl)
  (ht:eval (.Call (.Attribute o "__init__" apos) (e::es) [] pos) X.env=(do
   let ov ←eval o X.env
   standAt apos.atName
   let (f,first) ←holding [ov] (Dv ov "__init__" pl)
   callWith pos f first (BH pos (yi (e::es) X.env)) (backToKw pos (CH [] X.env))):=by rfl):
  PE X (.Call (.Attribute o "__init__" apos) (e::es) [] pos) (aJy X.K t):=by
 intro pins s σ H Q I h;refine BM (pl:=pl) (thn (ho pins s σ H (fun v H1=>v=.ty "ValueError"/\aJy X.K t σ H1 Q) I ⟨rfl,h⟩) fun u s1 zq=>?_) ht;obtain⟨x,H1,I1,rx,ex,q⟩:=zq;subst ex;obtain rfl:u=Value.type "ValueError":=rx;have key:∀{Q':Value×List Value->ν->Prop},Q' (.builtin "ValueError.__init__",[]) { s1 with toks:=s1.toks+1 }->xy (yl X.prog X.w) X.A (Dv (.type "ValueError") "__init__" pl) Q' X.xe s1:=fun {Q'} q'=>by
  unfold Dv;refine ζ ((Cz aQx).here ?_);dsimp only;rw[if_pos PySem.W.canon_tga];refine ζ (PySem.W.cls_open (hook:=none) I1.kIn (Cz aRr) (Cz aKf) c.ga (Cz aLm) c.sub c.f (Θ ?_));show xy _ _ (handedOut (.builtin "ValueError.__init__")) _ _ _;rw[PySem.W.handedOut_of (v:=.builtin "ValueError.__init__") rfl];exact Θ (Θ q')
 refine key ?_;refine DS (thn (ha pos pins _ σ H1 _ (I1.tok _) q) fun us s2 zq=>?_) hst hpl;obtain⟨vs,H2,I2,r,e',v,C,R,fI,dx,ev,he,cx,q2⟩:=zq;subst ev;cases r with
 |cons r1 r2 =>
  cases r2 with
  |cons r3 r4 =>
   cases r4;cases r1;obtain⟨⟨oe,vs,g,oc,ox,od,h1,hv⟩,_⟩:=I2.hok e' _ he;obtain⟨nm,qn,N,bs,sn,sub,ab,col,dd,k0,k1,k2,k3,k5,mN,oI,hC,_⟩:=cx.cls I2.kIn;obtain⟨hh,gg,d,tk,os⟩:=s2;refine xinit (aNc R) hC g oc od h1 fun h' oe' vs' kp g' oc' ox' od' sz hv'=>?_;have I3:=I2.write (x:=e') (e:=e') (o:=Ex0 e' C dx) (t':=tk) (h':=h') (by rw[he];exact Ae) (.inl rfl) (fun b o nb z=>kp b o nb z) ⟨_,g'⟩ (Ex0.ok g' (oc'.trans oc) (ox'.trans ox) od' (by rw[sz];exact h1) (hv'.trans hv));rw[aSd he]at I3;exact⟨.non,H2,I3,rfl,q2⟩
theorem aIj{H:Hp}{Q:VK}(c:gP X.K C R f)(F:jI X.prog X.w X.K X.mg X.base CX k f fd ps sp)(hr:xF (k+1) X.A)(hb:Binds X.K fd ps ds)(hd:kQ dvs ds)
  (hx:zZ CX X E)(I:Inv X pins σ H s)(r:kQ vs us)(hz:vs.length<=ψ)(h:∀e,H e=none->sp (.ref e::(vs++dvs)) (upd H e (Ex0 e C none)) (fun v H2=>v=.non/\Q (.ref e) H2) E):
  xy (yl X.prog X.w) X.A (call (.ref C) us) (fun u s'=>∃e H',u=.ref e/\X.s₀.heap.objs.size<=e/\Inv X pins σ H' s'/\Q (.ref e) H') X.xe s:=by
 obtain⟨nm,qn,N,bs,sn,sub,ab,col,dd,k0,k1,k2,k3,k5,mN,oI,hC,hN,hi,hf,hfc⟩:=c.cls I.kIn;obtain⟨hh,g,d,t,os⟩:=s;refine xmake (aNc R) hC hN hi hf hfc (by rw[←r.length];exact hz) fun h' e mk ye=>?_;obtain⟨kp,en,t0,e1,tn,e2⟩:=mk;have hE:H e=none:=I.hok.fresh ye;have I2:Inv X pins σ (upd H e (Ex0 e C none)) ⟨h',g,d,t,os⟩:=I.laid (a:=e) (o:=Ex0 e C none) (t':=t) kp ye (Ex0.ok e1 rfl rfl rfl (by show 1<6;decide) rfl);have hq:=h e hE;have r2:kQ (V.ref e::(vs++dvs)) (yk e::(us++ds)):=.cons rfl (r.append hd);have hl:(yk e::us++ds).length=ps.length:=by
  have e':=r2.length;rw[F.len _ _ _ _ hq]at e';exact e'.symm
 refine wpAny_call (Dz (F.run _ X.stack _ _ ⟨yk e::us,[]⟩ (yk e::(us++ds)) _ _ E (hr.make C us []) (I2.env0.make C us []) (hb _ (yk e::us) I2.kIn hl) r2 hq) fun rr s' hq'=>?_);cases rr with
 |error ev=>exact hx pins σ _ _ ev s' I2 hq'
 |ok fl =>
  cases fl with
  |ret u =>
   obtain⟨v,H',I3,rv,ev,q3⟩:=I2.after hq';subst ev;exact⟨rv,e,H',rfl,yo I.sz ye,I3,q3⟩
  |next=>exact zi hq'
  |brk=>exact zi hq'
  |cont=>exact zi hq'
inductive aDd (S:St->Prop) (C:Addr) (sp:Sp) (dvs:List V) (E:XK) (t:TA) (σ:St) (H:Hp):Prop|mk:S σ->(t σ H fun vs H1=>vs.length<=1000/\∀e,H1 e=none->sp (.ref e::(vs++dvs)) (upd H1 e (Ex0 e C none)) (fun v H2=>v=.non/\∃e' dx,V.ref e=.ref e'/\H2 e'=some (Ex0 e' C dx)/\E (.ref e') none (upd H2 e' (ExF e' C dx))) E0)->aDd S C sp dvs E t σ H
def aRt (S:St->Prop) (C:Addr) (sp:Sp) (dvs:List V) (E:XK) (t:TA):TS:=fun _ σ H=>aDd S C sp dvs E t σ H
theorem yO(c:gP X.K C R f)(F:jI X.prog X.w X.K X.mg X.base (CXE X.prog X.w) k f fd ps sp)(hr:xF (k+1) X.A)(hg:Gl X x)(hm:X.mg x=some (.ref C))(hb:Binds X.K fd ps ds)(hd:kQ dvs ds)(hra:aMb X S E)(ha:PA X (e::es) t)
  (hdb:(x == ("__debug__" : Str))=false:=by decide)(he:yi (e::es) X.env=(false,eval e X.env)::yi es X.env:=by rfl)(hpl:(BH pos (yi es X.env)).any (·.1)=false:=by rfl):
  PS X (.Raise (some (.Call (.Name x p) (e::es) [] pos)) none rpos) (aRt S C sp dvs E t):=by
 intro pins s σ H D I h;obtain⟨hS,h⟩:=h;refine aSp hr.hd ?_;refine AW (gL I hg hm ?_ hdb);refine BJ (h₀:=X.base) I.ok.mod.kin c.kp (thn (ha pos pins s σ H _ I h) fun us s1 ⟨vs,H1,I1,r,hz,q⟩=>⟨I1.kIn,?_⟩) he hpl;refine thn (aIj (E:=E0) (Q:=fun v H2=>∃e' dx,v=.ref e'/\H2 e'=some (Ex0 e' C dx)/\E (.ref e') none (upd H2 e' (ExF e' C dx))) c F hr hb hd passX I1 r (by rw[ym];omega) q) fun u s2 zq=>?_;obtain⟨e',H2,eu,ye,I2,e'',dx,e3,h2,hE⟩:=zq
 ·cases e3;obtain⟨⟨oe,vs',g,oc,ox,od,h1,hv⟩,_⟩:=I2.hok e' _ h2;obtain⟨nm,qn,N,bs,sn,sub,ab,col,dd,k0,k1,k2,k3,k5,mN,oI,hC,_⟩:=c.cls I2.kIn;obtain⟨c1,d1,dt1,sl1⟩:=oe;cases oc;cases ox;cases od;exact⟨e',C,N,nm,qn,bs,_,true,sn,sub,ab,col,dd,k0,k1,k2,k3,k5,_,vs',sl1,eu,aNc R,hC,g,hv,hra pins σ H2 s2 e' C _ hS I2 h2 ye hE⟩
end
theorem aEs{v i p}{es:List Expr}: yi (.Subscript v i p::es) env=(false,eval (.Subscript v i p) env)::yi es env:=rfl
theorem eH{l o r p}{es:List Expr}: yi (.BinOp l o r p::es) env=(false,eval (.BinOp l o r p) env)::yi es env:=rfl
section
variable {X:Cx}
theorem aHb(hc:PT X c tc)(ha:PSx X a t)(hb:PSs X b u):aIw X (.If c a b pos) (tIfS tc t u):=⟨kM hc ha.h hb⟩
end
section
variable {X:Cx}
def tyM (K:ω) (x:V) (H:Hp) (t:String):Prop:=tyN K x H t\/(t = "dict"/\∃p kvs,x=.ref p/\H p=some (.dK kvs))
theorem aIu:xD X (.builtin "isinstance") (fun xs H Q=>∃x T t,xs=[x,.ty T]/\T∈wF/\tyM X.K x H t/\Q (.bl (isa t T)) H):=by
 intro pins s σ H xs us Q I r h;obtain⟨x,T,t,rfl,hT,ht|⟨rfl,p,kvs,rfl,hp⟩,q⟩:=h
 ·exact mI pins s σ H _ us Q I r ⟨x,T,t,rfl,hT,ht,q⟩
 ·exact uI pins s σ H _ us Q I r ⟨p,T,kvs,rfl,hT,hp,q⟩
end
def aQo (v:V):Prop:=fB v=true\/∃r,v=.ref r
theorem aLw:∀{v:V},fB v=true->eqV v v=true
 |.non,_=>rfl
 |.bl b,_=>by cases b <;> rfl
 |.int i,_=>by simp[eqV]
 |.str x,_=>by simp[eqV]
theorem aIt(h:aQo v)(r:RelV v u)(r':RelV v u'):Ab A s u u' true:=by
 rcases h with h|⟨a,rfl⟩
 ·have:=aNe (A:=A) (s:=s) r r' h h;rw[aLw h]at this;exact this
 ·cases r;cases r';exact Ab.same _
section
variable {X:Cx}{pins:List (Addr×Obj)}{σ:St}{H:Hp}{s:ν}{h':Ag}
theorem Inv.turned2{t':Nat}{e it p:Addr}(I:Inv X pins σ H s)(k:∀b u,b≠e->b≠it->s.heap.get? b=some u->h'.get? b=some u)(fe:dY X pins H e)(fi:dY X pins H it)
  (hp:s.heap.objs.size<=p)(new:vI X.prog X.w (upd H p o) h' p o):Inv X pins σ (upd H p o) { s with heap:=h',toks:=t' }:=by
 have hn:=I.hok.fresh hp;have ne:∀b u,H b=some u->b≠e:=fun b u q=>jL q fe.1;have ni:∀b u,H b=some u->b≠it:=fun b u q=>jL q fi.1;have nx:∀b,b∉[e,it]->b≠e/\b≠it:=fun b hb=>⟨fun z=>hb (by simp[z]),fun z=>hb (by simp[z])⟩;have np:∀b u,s.heap.get? b=some u->b≠p:=fun b u q=>yg (χ (Ξ q) hp);have u:Un (frs X.stack) [e,it] H (upd H p o) s.heap h':=by
  refine⟨fun b u q _ _ hx=>k b u (nx b hx).1 (nx b hx).2 q,fun b u q _ _ hx=>⟨u.slots,k b u (nx b hx).1 (nx b hx).2 q⟩,fun b u q n _=>?_,fun b u q hx=>⟨u,k b u (nx b hx).1 (nx b hx).2 q⟩,fun b xs q=>?_,fun b o' u q=>?_,fun b ps q=>⟨#[],?_⟩⟩
  ·rw[jY (np b u q)];exact n
  ·rw[jY (jL q hn)];exact q
  ·rw[jY (jL q hn)];exact q
  ·rw[jY (jL q hn),q];simp
 have hok:HOk X.prog X.w (upd H p o) h':=fun b v eb=>by
  by_cases hb:b=p
  ·subst hb;rw[jO]at eb;cases eb;exact new
  ·rw[jY hb]at eb;refine(I.hok b v eb).stay (fun c w hc q=>k c w ?_ ?_ q) (fun c q=>by rw[jY (jL q hn)];exact q) fun c xs q=>by rw[jY (jL q hn)];exact q
   ·rcases hc with z|z
    ·rw[z];exact ne b v eb
    ·exact ne c _ z
   ·rcases hc with z|z
    ·rw[z];exact ni b v eb
    ·exact ni c _ z
 refine I.call (g':=s.gens) (d':=s.drawn) (t':=t') (ch:=[e,it]) u hok I.bare fun b hb=>?_;have:b=e\/b=it:=by simpa using hb
 rcases this with rfl|rfl
 ·exact⟨fe.2.2.2.1,fe.2.1,fe.2.2.2.2.1,fe.2.2.2.2.2⟩
 ·exact⟨fi.2.2.2.1,fi.2.1,fi.2.2.2.2.1,fi.2.2.2.2.2⟩
end
def Ite (K:ω) (a:Addr):It :=
 ⟨fun i H=>∃xs x,SqL K H a xs/\xs[i]?=some x,fun i H x H'=>∃y p,x=.ref p/\H p=none/\H'=upd H p (.tup [.int (i:Int),y])/\∀xs,SqL K H a xs->xs[i]?=some y,fun i H=>∃xs,SqL K H a xs/\xs.length<=i⟩
theorem aJb{K:ω}(a e it:Addr)(hne:e≠it):Turn P w K (.Tuple elts x1 pos) (Ite K a) [e,it] e (fun i h=>(∃old,IsEnum h e it (i:Int) old)/\h.IsListIter it a i) where
 mem:=by simp
 obj:=fun i h st b hb=>by
  have:b=e\/b=it:=by simpa using hb
  obtain⟨⟨old,he⟩,o,ho,hc,hd⟩:=st;rcases this with rfl|rfl
  ·exact⟨_,he,fun v z=>by cases z⟩
  ·exact⟨o,ho,fun v z=>by rw[hd]at z;cases z⟩
 keep:=fun i h h' st k=>by
  obtain⟨⟨old,he⟩,o,ho,r⟩:=st;exact⟨⟨old,k e (by simp) _ he⟩,o,k it (by simp) _ ho,r⟩
 item:=by
  intro X hP hw hK hc i pins s σ H E I hf st hg;subst hP hw hK;obtain⟨xs,x,hq,hx⟩:=hg;obtain⟨its,rv,p,hz⟩:=I.list hq;obtain⟨u,hu,ru⟩:=rv.get hx;have fe:=hf e (by simp);have fi:=hf it (by simp);obtain⟨⟨old,he⟩,hit⟩:=st;refine wpAny_pyNext_enum_item he hit p.isList (x:=u) (by simpa using hu) hne fun h1 heo hit1 ht1 hz1 hk1=>⟨_,rfl,?_⟩;refine wpAny_letOwnedTupleGo_enum heo fun h2 he2 hs2=>?_;replace hs2:AH e h1 h2:=hs2;have ne:s.heap.objs.size≠e:=As (Ξ he);have ht2:h2.get? s.heap.objs.size=some { cls:=.type "tuple",data:=.seq #[.int i s.toks,u] }:=(hs2.2 _ ne).trans ht1;have k2:∀b v,b≠e->b≠it->s.heap.get? b=some v->h2.get? b=some v:=fun b v n1 n2 q=>(hs2.2 b n1).trans (hk1 b v n1 n2 q);refine⟨.ref s.heap.objs.size,upd H s.heap.objs.size (.tup [.int (i:Int),x]),I.turned2 (t':=s.toks+1) k2 fe fi (μ _) ⟨(by show 2<=ψ;decide),[.int i s.toks,u],.cons ⟨_,rfl⟩ (.cons ru .nil),_,ht2,rfl,_,rfl⟩,rfl,⟨x,_,rfl,I.hok.fresh (μ _),rfl,fun ys hy=>by rw[I.list_inj hy hq];exact hx⟩,⟨⟨_,he2⟩,?_⟩,fun b hb=>?_⟩
  ·obtain⟨o,ho,r⟩:=hit1;exact⟨o,(hs2.2 it (Aj hne)).trans ho,r⟩
  ·have:b=e\/b=it:=by simpa using hb
   obtain⟨oi,hoi,_⟩:=hit;rcases this with rfl|rfl
   ·rw[jY (Aj ne)];exact fe.1
   ·rw[jY (yg (Ξ hoi))];exact fi.1
 done:=by
  intro X hP hw hK hc i pins s σ H E I hf st hg;subst hP hw hK;obtain⟨xs,hq,hl⟩:=hg;obtain⟨its,rv,p,hz⟩:=I.list hq;have hlen:=rv.length;obtain⟨f0,f1,f2,f3,f4,f5⟩:=hf it (by simp);obtain⟨⟨old,he⟩,hit⟩:=st;exact wpAny_pyNext_enum_end (I.ok.hd hc) he hit p.isList (by simp;omega) fun h' eb=>⟨rfl,I.turned (t':=s.toks) (fun b o hb e=>eb b o hb e) f0 f1 f3 f4 f5⟩
 self:=fun _ _ _ _ _ st h=>by
  obtain⟨⟨old,he⟩,_⟩:=st;exact wpAny_pyIter_enum he h
def iEnum (K:ω) (ta:TA):TI:=fun σ H R=>ta σ H fun vs H1=>∃a xs,vs=[.ref a]/\SqL K H1 a xs/\R (Ite K a) H1
theorem aAx{a:Expr}(hg:Gl X "enumerate")(hm:X.mg "enumerate" = none)(ha:PA X [a] ta)(hs:yi [a] X.env=[(false,eval a X.env)]:=by rfl):PI X (.Tuple elts x1 tpos) (.Call (.Name "enumerate" p) [a] [] pos) (iEnum X.K ta):=by
 intro pins s σ H R I h;refine Call_ (eN I hg hm boot_enumerate (AJ (thn (ha pos pins s σ H _ I h) fun us s1 zq=>?_) hs rfl));obtain⟨vs,H1,I1,r1,q1⟩:=zq;obtain⟨l,xs,e,hl,q⟩:=q1;subst e;obtain⟨u,rfl,rx⟩:=vals1 r1;cases rx;obtain⟨its,rv,pl,hz⟩:=I1.list hl;refine call_enumerate_list pl.isList fun h' he hit hsz hk=>wpAny_pyIter_enum he ?_;refine⟨s1.heap.objs.size+1,[s1.heap.objs.size+1,s1.heap.objs.size],_,_,H1,rfl,I1.kept (t':=s1.toks) hk,aJb l _ _ (Nat.succ_ne_self _),⟨⟨_,he⟩,hit⟩,fun b hb=>?_,q⟩;have:b=s1.heap.objs.size+1\/b=s1.heap.objs.size:=by simpa using hb
 rcases this with rfl|rfl
 ·exact I1.fpOk (BE _) (I1.hok.fresh (BE _))
 ·exact I1.fpOk (μ _) (I1.hok.fresh (μ _))
theorem tI{K:ω}{xs:List V}{g:TG}{tb:TS}{D:Ends}{σ:St}{H:Hp}(Pv:Nat->St->Hp->Prop)(h0:Pv 0 σ H)(hl:∀i σ H,i<=xs.length->Pv i σ H->SqL K H a xs)
  (hs:∀i x σ H p,xs[i]?=some x->Pv i σ H->H p=none->g (.ref p) σ (upd H p (.tup [.int (i:Int),x])) fun σ2 H2=>tb { D with nx:=Pv (i+1),ct:=Pv (i+1),bk:=D.nx } σ2 H2)(hd:∀σ H,Pv xs.length σ H->D.nx σ H):
  ∃W:Nat->Nat->St->Hp->Prop,(∃m,W 0 m σ H)/\∀i m σ H,W i m σ H →
   ((Ite K a).stop i H/\D.nx σ H)\/((Ite K a).go i H/\∃N:St->Hp->Prop,(∀σ' H',N σ' H'->∃m',m'<m/\W (i+1) m' σ' H')/\∀x H',(Ite K a).yld i H x H'->g x σ H' fun σ2 H2=>tb { D with nx:=N,ct:=N,bk:=D.nx } σ2 H2):=by
 refine⟨fun i m σ H=>m=xs.length-i/\i<=xs.length/\Pv i σ H,⟨xs.length,by simp,yq _,h0⟩,?_⟩;rintro i m σ H ⟨rfl,hi,p⟩;have q:=hl i σ H hi p
 by_cases hlt:i<xs.length
 ·refine .inr ⟨⟨xs,xs[i],q,by simp[hlt]⟩,Pv (i+1),fun σ' H' p'=>⟨xs.length-(i+1),by omega,rfl,hlt,p'⟩,fun x H' y=>?_⟩;obtain⟨y',pa,rfl,hn,rfl,hy⟩:=y;exact hs i y' σ H pa (hy xs q) p hn
 ·have e:i=xs.length:=by omega
  subst e;exact .inl ⟨⟨xs,q,μ _⟩,hd σ H p⟩
section
variable {X:Cx}
def unlike (ns:List Int):Nat:=(firstMet (fun i=>ns.getD i 0) ns.length).length
end
end L2
namespace L2
open PySem
theorem xF.units1(r:xF k A):A.units+1<Cs:=by
 have:=r.units;omega
end L2
namespace L2
open PySem PySem.Spec PyProof.Rows
theorem aIy{X:Cx}{K:ω}(h:X.K=K):xD X (.builtin "len") (fun xs H Q=>∃p ys,xs=[.ref p]/\(SqL K H p ys\/SqT K H p ys)/\Q (.int ys.length) H):=h ▸ kG
def Sq2 (K:ω):Bool->Hp->Addr->List V->Prop
 |false,H,a,xs=>SqL K H a xs
 |true,H,a,xs=>SqT K H a xs
def yV:Bool->Ag->Addr->Addr->Nat->Prop
 |false,h,j,a,i=>h.IsListIter j a i
 |true,h,j,a,i=>h.IsTupleIter j a i
def vW:Bool->Ag->Addr->Array Value->Prop
 |false,h,a,xs=>h.IsList a xs
 |true,h,a,xs=>h.IsTuple a xs
theorem yV.keep{g:Ag}(x:yV b h j a i)(k:∀o,h.get? j=some o->g.get? j=some o):yV b g j a i:=by
 cases b <;> (obtain⟨o,e,r⟩:=x;exact⟨o,k o e,r⟩)
theorem vW.keep{g:Ag}(x:vW b h a xs)(k:∀o,h.get? a=some o->g.get? a=some o):vW b g a xs:=by
 cases b <;> (obtain⟨o,e,r⟩:=x;exact⟨o,k o e,r⟩)
theorem yV.obj(x:yV b h j a i):∃o,h.get? j=some o/\∀v,o.data≠.cell v:=by
 cases b <;> (obtain⟨o,e,c,d⟩:=x;exact⟨o,e,fun v z=>by rw[d]at z;cases z⟩)
theorem vW.lt(x:vW b h a xs):a<h.objs.size:=by
 cases b <;> (obtain⟨o,e,_⟩:=x;exact Ξ e)
section
variable {P:Ao}{w:AD}{A:Ak}{E:Value->ν->Prop}{s:ν}
theorem aNv{Q:Value->ν->Prop}(hj:s.heap.IsTupleIter j a n)(ha:s.heap.IsTuple a vs)(hv:vs[n]?=some v)
  (q:∀g,g.IsTupleIter j a (n+1)->AH j s.heap g->Q v { s with heap:=g }):xy (yl P w) A (zd (.ref j)) Q E s:=by
 obtain⟨oj,ej,cj,dj⟩:=id hj;obtain⟨oa,ea,ca,na,da⟩:=ha;unfold zd;refine ζ (wpAny_callSpecial?_slot (name:=ε "__next__") hj.typeIs BK (Cf BK hj.typeIs F.entry_tuple_iterator_next ?_ (F.args_tuple_iterator_next_1 _)));show xy _ _ (field (.ref j) 0 >>= _) _ _ s;refine ζ (Af ej dj (x:=.ref a) rfl ?_);show xy _ _ (if (yk a == Az)=true then _ else _) _ _ s;rw[if_neg (show ¬ ((yk a == Az)=true) from π)];show xy _ _ (field (.ref j) 1 >>= _) _ _ s;refine ζ (Af ej dj (x:=.int n 0) rfl ?_);show xy _ _ (seqItems? (.ref a) >>= _) _ _ s;refine ζ (AU ea da ?_);simp only[Int.toNat_natCast,hv];refine ζ (CM ej dj (by simp) (Θ ⟨v,rfl,Θ (q _ ?_ (AH.update ..))⟩));exact⟨_,Bh _ ej (DO (Co dj _)),(Obj.cls_mapFields ..).trans cj,by rw[Co dj];simp[Bt]⟩
theorem aRc(hh:A.handled=none)(hj:s.heap.IsTupleIter j a n)(ha:s.heap.IsTuple a vs)(hv:vs[n]?=none)
  (hE:∀g x,Ag.ExtBut j s.heap g->(∃o,g.get? x=some o/\o.cls=.type "StopIteration")->E (.ref x) { s with heap:=g }):xy (yl P w) A (zd (.ref j)) Q E s:=by
 obtain⟨oj,ej,cj,dj⟩:=id hj;obtain⟨oa,ea,ca,na,da⟩:=ha;unfold zd;refine ζ (wpAny_callSpecial?_slot (name:=ε "__next__") hj.typeIs BK (Cf BK hj.typeIs F.entry_tuple_iterator_next ?_ (F.args_tuple_iterator_next_1 _)));show xy _ _ (field (.ref j) 0 >>= _) _ _ s;refine ζ (Af ej dj (x:=.ref a) rfl ?_);show xy _ _ (if (yk a == Az)=true then _ else _) _ _ s;rw[if_neg (show ¬ ((yk a == Az)=true) from π)];show xy _ _ (field (.ref j) 1 >>= _) _ _ s;refine ζ (Af ej dj (x:=.int n 0) rfl ?_);show xy _ _ (seqItems? (.ref a) >>= _) _ _ s;refine ζ (AU ea da ?_);simp only[Int.toNat_natCast,hv];refine ζ (wpAny_rule (ζ (CM ej dj (by simp) ?_)));show xy _ _ (newExc (.type "StopIteration") [] >>= fun x=>raiseNew x) _ _ _;refine ζ ?_;simp only[newExc,newTuple];refine ζ (CF ?_ (by size_fits));refine ζ (m:=firstArgMember _ _) (wpAny_of_eq (a:=Az) (by first|rfl|(simp only[firstArgMember];rfl)) ?_);refine CF ?_ (by size_fits);simp only[raiseNew];refine ζ (wpAny_handled ?_)
 first|rw[show A.in1.handled=none from hh]|rw[hh]
 exact ζ (Θ (wpAny_throw (hE _ _ (((AH.update ..).extBut.push _).push _) ⟨_,yf _ rfl,rfl⟩)))
theorem rF{Q:Value->ν->Prop}(hj:yV b s.heap j a n)(ha:vW b s.heap a vs)(hv:vs[n]?=some v)
  (q:∀g,yV b g j a (n+1)->AH j s.heap g->Q v { s with heap:=g }):xy (yl P w) A (zd (.ref j)) Q E s:=by
 cases b
 ·exact wpAny_nextOf_list_item hj ha hv q
 ·exact aNv hj ha hv q
theorem aLo(hh:A.handled=none)(hj:yV b s.heap j a n)(ha:vW b s.heap a vs)(hv:vs[n]?=none)
  (hE:∀g x,Ag.ExtBut j s.heap g->(∃o,g.get? x=some o/\o.cls=.type "StopIteration")->E (.ref x) { s with heap:=g }):xy (yl P w) A (zd (.ref j)) Q E s:=by
 cases b
 ·exact wpAny_nextOf_list_end hh hj ha hv hE
 ·exact aRc hh hj ha hv hE
end
abbrev itN (b:Bool):String:=if b then "tuple_iterator" else "list_iterator"
abbrev zp1 (b:Bool) (h:Ag) (a:Addr):Ag:=h.push { cls:=.type (itN b),data:=.fields #[.ref a,.int 0 0] }
section
variable {X:Cx}{pins:List (Addr×Obj)}{σ:St}{H:Hp}{s:ν}{h':Ag}
theorem Inv.turnedL{t':Nat}{ch:List Addr}{p:Addr}(I:Inv X pins σ H s)(k:∀b u,b∉ch->s.heap.get? b=some u->h'.get? b=some u)(f:∀b∈ch,dY X pins H b)
  (hp:s.heap.objs.size<=p)(new:vI X.prog X.w (upd H p o) h' p o):Inv X pins σ (upd H p o) { s with heap:=h',toks:=t' }:=by
 have hn:=I.hok.fresh hp;have nx:∀b u,H b=some u->b∉ch:=fun b u q z=>jL q (f b z).1 rfl;have np:∀b u,s.heap.get? b=some u->b≠p:=fun b u q=>yg (χ (Ξ q) hp);have u:Un (frs X.stack) ch H (upd H p o) s.heap h':=by
  refine⟨fun b u q _ _ hx=>k b u hx q,fun b u q _ _ hx=>⟨u.slots,k b u hx q⟩,fun b u q n _=>?_,fun b u q hx=>⟨u,k b u hx q⟩,fun b xs q=>?_,fun b o' u q=>?_,fun b ps q=>⟨#[],?_⟩⟩
  ·rw[jY (np b u q)];exact n
  ·rw[jY (jL q hn)];exact q
  ·rw[jY (jL q hn)];exact q
  ·rw[jY (jL q hn),q];simp
 have hok:HOk X.prog X.w (upd H p o) h':=fun b v eb=>by
  by_cases hb:b=p
  ·subst hb;rw[jO]at eb;cases eb;exact new
  ·rw[jY hb]at eb;refine(I.hok b v eb).stay (fun c w hc q=>k c w ?_ q) (fun c q=>by rw[jY (jL q hn)];exact q) fun c xs q=>by rw[jY (jL q hn)];exact q
   rcases hc with z|z
   ·rw[z];exact nx b v eb
   ·exact nx c _ z
 exact I.call (g':=s.gens) (d':=s.drawn) (t':=t') (ch:=ch) u hok I.bare fun b hb=>⟨(f b hb).2.2.2.1,(f b hb).2.1,(f b hb).2.2.2.2.1,(f b hb).2.2.2.2.2⟩
theorem Inv.turnedL0{t':Nat}{ch:List Addr}(I:Inv X pins σ H s)(k:∀b u,b∉ch->s.heap.get? b=some u->h'.get? b=some u)(f:∀b∈ch,dY X pins H b):Inv X pins σ H { s with heap:=h',toks:=t' }:=by
 have nx:∀b u,H b=some u->b∉ch:=fun b u q z=>jL q (f b z).1 rfl;have u:Un (frs X.stack) ch H H s.heap h':=by
  refine⟨fun b u q _ _ hx=>k b u hx q,fun b u q _ _ hx=>⟨u.slots,k b u hx q⟩,fun b u q n _=>n,fun b u q hx=>⟨u,k b u hx q⟩,fun b xs q=>q,fun b o' u q=>q,fun b ps q=>⟨#[],?_⟩⟩;rw[q];simp
 have hok:HOk X.prog X.w H h':=fun b v eb=>by
  refine(I.hok b v eb).stay (fun c w hc q=>k c w ?_ q) (fun c q=>q) fun c xs q=>q;rcases hc with z|z
  ·rw[z];exact nx b v eb
  ·exact nx c _ z
 exact I.call (g':=s.gens) (d':=s.drawn) (t':=t') (ch:=ch) u hok I.bare fun b hb=>⟨(f b hb).2.2.2.1,(f b hb).2.1,(f b hb).2.2.2.2.1,(f b hb).2.2.2.2.2⟩
theorem Inv.seq2(I:Inv X pins σ H s)(h:Sq2 X.K b H a xs):∃its:List Value,kQ xs its/\vW b s.heap a its.toArray:=by
 cases b
 ·obtain⟨its,r,p,_⟩:=I.list h;exact⟨its,r,p.isList⟩
 ·obtain⟨its,r,p,_⟩:=I.tuple h;exact⟨its,r,p⟩
theorem Inv.seq2_inj(I:Inv X pins σ H s)(h:Sq2 X.K b H a xs)(h':Sq2 X.K b H a ys):xs=ys:=by
 cases b
 ·exact I.list_inj h h'
 ·exact I.tuple_inj h h'
end
section
variable {X:Cx}
theorem aDu:xD X (.type "int") (fun xs H Q=>∃b:Bool,xs=[.bl b]/\Q (.int (if b then 1 else 0)) H):=by
 intro pins s σ H xs us Q I r h;obtain⟨b,rfl,q⟩:=h;obtain⟨u,rfl,r1⟩:=vals1 r;cases r1;exact call_int_bool ⟨.int _,H,I.tok _,⟨_,rfl⟩,q⟩
end
def aFl (K:ω) (H:Hp) (x:V) (d:Da):Prop:=Dat K H x d\/(∃a kvs,x=.ref a/\H a=some (.dK kvs))/\d=.dict []
def tyD:Da->String
 |.none=>"NoneType"
 |.bool _=>"bool"
 |.int _=>"int"
 |.str _=>"str"
 |.list _=>"list"
 |.tuple _=>"tuple"
 |.dict _=>"dict"
theorem Dat.ty{K:ω}(h:Dat K H x d):tyN K x H (tyD d):=by
 cases h with
 |lst h _=>exact .inl ⟨rfl,_,h⟩
 |tup h _=>exact .inr ⟨rfl,_,h⟩
 |_=>rfl
theorem aFl.ty{K:ω}(h:aFl K H x d):tyM K x H (tyD d):=by
 rcases h with h|⟨⟨a,kvs,rfl,h⟩,rfl⟩
 ·exact .inl h.ty
 ·exact .inr ⟨rfl,a,kvs,rfl,h⟩
theorem aFl.same{K:ω}(h:aFl K H x d)(g:jF H H'):aFl K H' x d:=by
 rcases h with h|⟨⟨a,kvs,rfl,h⟩,rfl⟩
 ·exact .inl (h.same g)
 ·exact .inr ⟨⟨a,kvs,rfl,g _ _ h⟩,rfl⟩
theorem DatAll.length{K:ω}: ∀{xs:List V}{ds:List Da},DatAll K H xs ds->xs.length=ds.length
 |_,_,.nil=>rfl
 |_,_,.cons _ t=>congrArg (·+1) (DatAll.length t)
theorem DatAll.get{K:ω}: ∀{xs:List V}{ds:List Da}{i:Nat}{x:V},DatAll K H xs ds->xs[i]?=some x->∃d,ds[i]?=some d/\Dat K H x d
 |_,_,_,_,.nil,e=>by simp at e
 |_,_,0,_,.cons h _,e=>by simp at e;subst e;exact⟨_,rfl,h⟩
 |_,_,i+1,x,.cons _ t,e=>by
  obtain⟨d,h1,h2⟩:=DatAll.get (i:=i) (x:=x) t (by simpa using e);exact⟨d,by simpa using h1,h2⟩
theorem DatAll.app{K:ω}: ∀{xs ys:List V}{ds es:List Da},DatAll K H xs ds->DatAll K H ys es->DatAll K H (xs++ys) (ds++es)
 |_,_,_,_,.nil,s=>s
 |_,_,_,_,.cons h t,s=>.cons h (DatAll.app t s)
theorem DatAll.take{K:ω}: ∀{xs:List V}{ds:List Da}(n:Nat),DatAll K H xs ds->DatAll K H (xs.take n) (ds.take n)
 |_,_,0,_=>.nil
 |_,_,_+1,.nil=>.nil
 |_,_,n+1,.cons h t=>.cons h (DatAll.take n t)
theorem DatAll.drop{K:ω}: ∀{xs:List V}{ds:List Da}(n:Nat),DatAll K H xs ds->DatAll K H (xs.drop n) (ds.drop n)
 |_,_,0,h=>h
 |_,_,_+1,.nil=>.nil
 |_,_,n+1,.cons _ t=>DatAll.drop n t
end L2
namespace L2
open PySem
theorem qN{H H1:Hp}(e:upd H p o=H1)(hp:H p=none):jF H H1/\H1 p=some o:=by
 subst e;exact⟨fun b u q=>by rw[jY (jL q hp)];exact q,jO⟩
theorem zA{H1:Hp}(e:upd H p o=H1):But p H H1/\H1 p=some o:=by
 subst e;exact⟨But.upd,jO⟩
theorem jF.at{H H1:Hp}(g:jF H H1)(h:H a=some o):H1 a=some o:=g _ _ h
theorem jF.tp{K:ω}(e:jF H H')(h:SqT K H a xs):SqT K H' a xs:=by
 rcases h with (h|⟨o,h⟩)|h
 ·exact .inl (.inl (e _ _ h))
 ·exact .inl (.inr ⟨o,e _ _ h⟩)
 ·exact .inr h
theorem jF.dt{K:ω}(g:jF H H')(h:Dat K H x d):Dat K H' x d:=h.same g
theorem jF.dts{K:ω}(g:jF H H')(h:DatAll K H xs ds):DatAll K H' xs ds:=h.same g
theorem jF.dtt{K:ω}(g:jF H H')(h:aFl K H x d):aFl K H' x d:=h.same g
theorem join{R:VK}(hk:R v H')(h:∀Q:VK,Q v H'->tIf t ta tb σ H Q):tIf t ta tb σ H R:=h R hk
theorem wB(P:St->Hp->Prop){D:Ends}{rest:TS}(hk:∀σ' H',P σ' H'->rest D σ' H')(h:∀nx:St->Hp->Prop,(∀σ' H',P σ' H'->nx σ' H')->tIfS c t u { D with nx:=nx } σ H):vS (tIfS c t u) rest D σ H:=h (rest D) hk
end L2
local macro_rules | `(tactic| walk_at"hp") => `(tactic| first
 |assumption
 |exact L2.jO
 |exact L2.jF.refl _
 | (refine' L2.jF.at ?k1 ?_; (case k1=>assumption);walk_at"hp";done)
 | (refine L2.SqL.of ?_;walk_at"hp";done)
 | (refine L2.SqT.of ?_;walk_at"hp";done)
 | (refine' L2.jF.seq ?k1 ?_; (case k1=>assumption);walk_at"hp";done)
 | (refine' L2.jF.tp ?k1 ?_; (case k1=>assumption);walk_at"hp";done)
 | (refine' L2.jF.dt ?k1 ?_; (case k1=>assumption);walk_at"hp";done)
 | (refine' L2.jF.dts ?k1 ?_; (case k1=>assumption);walk_at"hp";done)
 | (refine' L2.jF.dtt ?k1 ?_; (case k1=>assumption);walk_at"hp";done)
 | (refine' L2.jF.trans ?_ ?k1; (case k1=>assumption);walk_at"hp";done))
local macro_rules | `(tactic| walk_at"al") => `(tactic| (intro pX hX;generalize eX : L2.upd _ pX _ = HX;obtain ⟨gX,kX⟩ := L2.qN eX hX;clear eX))
local macro_rules | `(tactic| o_unpack $r:ident) => `(tactic| (intro $r:ident hX;generalize eX : L2.upd _ $r:ident _ = HX;obtain ⟨gX,kX⟩ := L2.qN eX hX;clear eX))
local macro_rules | `(tactic| walk_at"ch") => `(tactic| (generalize eX : L2.upd _ _ _ = HX;obtain ⟨gX,kX⟩ := L2.zA eX;clear eX))
local macro_rules | `(tactic| walk_at"rd") => `(tactic| repeat first
 | (refine⟨_,rfl,?_⟩)
 | (refine⟨_,_,rfl,rfl,?_⟩)
 | (refine⟨_,_,rfl,rfl,⟨by decide,by decide⟩,?_⟩)
 | (refine' ⟨_,_,rfl,.inl ?k1,?_⟩; (case k1=>walk_at"hp"))
 | (refine' ⟨_,_,_,_,rfl,rfl,?k1,?k2,?_⟩; (case k1=>walk_at"hp"); (case k2=>rfl)))
namespace L2
open PySem PySem.Spec PyProof.Rows
section
variable {X:Cx}
theorem mG(hu:X.A.units+64<Cs):OpR X (Ah .NotEq) (fun x y H Q=>∃(a b:Addr) (xs:List V),x=.ref a/\y=.ref b/\SqL X.K H a xs/\SqL X.K H b []/\Q (.bl (!xs.isEmpty)) H):=by
 intro pins s σ H x y v u Q I rx ry h;obtain⟨a,b,xs,rfl,rfl,ha,hb,q⟩:=h;cases rx;cases ry;obtain⟨i1,r1,p1,_⟩:=I.list ha;obtain⟨i2,r2,p2,_⟩:=I.list hb;cases r2;show xy _ _ (richCompare .NotEq (.ref a) (.ref b)) _ _ _;cases xs with
 |nil =>
  cases r1;refine SeqAt.RcNeAt.lists (e:=fun _=>true) p1.isList p2.isList rfl (by omega) (fun j h1 _=>absurd h1 (Ar _)) _ _ _ _ ?_;exact⟨.bl false,H,I,rfl,q⟩
 |cons z zs =>
  cases r1 with
  |cons rz rt =>
   refine BL p1.isList p2.isList (by simp) (by omega) _ _ _ _ ?_;exact⟨.bl true,H,I,rfl,q⟩
end
inductive EqS (K:ω) (H:Hp):Nat->V->V->Prop
 |same {n:Nat}{v:V} : aQo v->EqS K H n v v
 |lst {n:Nat}{a b:Addr}{xs ys:List V} : SqL K H a xs->SqL K H b ys->xs.length=ys.length->(∀(i:Nat) x y,xs[i]?=some x->ys[i]?=some y->EqS K H n x y)->EqS K H (n+1) (.ref a) (.ref b)
 |tup {n:Nat}{a b:Addr}{xs ys:List V} : SqT K H a xs->SqT K H b ys->xs.length=ys.length->(∀(i:Nat) x y,xs[i]?=some x->ys[i]?=some y->EqS K H n x y)->EqS K H (n+1) (.ref a) (.ref b)
section
variable {X:Cx}
theorem lM : ((zw n).all fun _=>true)=true:=by simp
theorem bM{us:List Value}{j:Nat}(h:us[j]?=some u)(hj:j<us.toArray.size):us.toArray[j]=u:=by
 have:=(θ.mp h).2;simpa using this
theorem Inv.eqs(I:Inv X pins σ H s):∀{n:Nat}{x y:V},EqS X.K H n x y->∀{A:Ak}{u v:Value},RelV x u->RelV y v->A.units+n<Cs->Ab A s u v true:=by
 intro n x y h
 induction h with
 |same hs=>intro A u v ru rv _;exact aIt hs ru rv
 | @lst n a b xs ys ha hb hl _ ih =>
  intro A u v ru rv hu;cases ru;cases rv
  by_cases hab:a=b
  ·subst hab;exact Ab.same _
  obtain⟨i1,r1,p1,_⟩:=I.list ha;obtain⟨i2,r2,p2,_⟩:=I.list hb;have l1:=r1.length;have l2:=r2.length;refine Ab.of_refs hab ?_;have:=SeqAt.RcAt.lists (A:=A) (e:=fun _=>true) p1.isList p2.isList (by rw[υ,υ];omega) (by omega) (fun j h1 h2=>by
   have hj:j<xs.length:=by rw[υ]at h1;omega
   have hj2:j<ys.length:=by omega
   obtain⟨u1,e1,q1⟩:=r1.get (η hj);obtain⟨u2,e2,q2⟩:=r2.get (η hj2);rw[bM e1,bM e2];exact ih j _ _ (η hj) (η hj2) q1 q2 (by show A.units+1+n<Cs;omega))
  rw[lM]at this;exact this
 | @tup n a b xs ys ha hb hl _ ih =>
  intro A u v ru rv hu;cases ru;cases rv
  by_cases hab:a=b
  ·subst hab;exact Ab.same _
  obtain⟨i1,r1,p1,_⟩:=I.tuple ha;obtain⟨i2,r2,p2,_⟩:=I.tuple hb;have l1:=r1.length;have l2:=r2.length;refine Ab.of_refs hab ?_;have:=SeqAt.RcAt.tuples (A:=A) (e:=fun _=>true) (show s.heap.IsTuple a i1.toArray from p1) (show s.heap.IsTuple b i2.toArray from p2) (by omega) (fun j h1 h2=>by
   have hj:j<xs.length:=by rw[υ]at h1;omega
   have hj2:j<ys.length:=by omega
   obtain⟨u1,e1,q1⟩:=r1.get (η hj);obtain⟨u2,e2,q2⟩:=r2.get (η hj2);rw[bM e1,bM e2];exact ih j _ _ (η hj) (η hj2) q1 q2 (by show A.units+1+n<Cs;omega))
  rw[lM,show(i1.toArray.size == i2.toArray.size)=true by rw[υ,υ,show i1.length=i2.length by omega];simp]at this;exact this
theorem aSa(hu:X.A.units+64<Cs):OpR X (Ah .Eq) (fun x y H Q=>∃(a b:Addr) (xs ys:List V),x=.ref a/\y=.ref b/\SqL X.K H a xs/\SqL X.K H b ys/\xs.length=ys.length/\(∀(i:Nat) x y,xs[i]?=some x->ys[i]?=some y->EqS X.K H 8 x y)/\Q (.bl true) H):=by
 intro pins s σ H x y v u Q I rx ry h;obtain⟨a,b,xs,ys,rfl,rfl,ha,hb,hl,he,q⟩:=h;cases rx;cases ry;obtain⟨i1,r1,p1,_⟩:=I.list ha;obtain⟨i2,r2,p2,_⟩:=I.list hb;have l1:=r1.length;have l2:=r2.length;refine SeqAt.eq_listAt (e:=fun _=>true) p1.isList p2.isList (by rw[υ,υ];omega) (by omega) (fun j h1 h2=>?_) ?_
 ·have hj:j<xs.length:=by rw[υ]at h1;omega
  have hj2:j<ys.length:=by omega
  obtain⟨u1,e1,q1⟩:=r1.get (η hj);obtain⟨u2,e2,q2⟩:=r2.get (η hj2);rw[bM e1,bM e2];exact I.eqs (he j _ _ (η hj) (η hj2)) q1 q2 (by show X.A.units+1+8<Cs;omega)
 ·rw[lM];exact⟨.bl true,H,I,rfl,q⟩
end
end L2
namespace L2
open PySem
theorem zE{n:Nat}(h:n<2 ^ 100):n.log2<100:=by
 by_cases h0:n=0
 ·subst h0;decide
 ·exact(Nat.log2_lt h0).mpr h
end L2
namespace L2
open PySem PySem.Spec PyProof.Rows
theorem qZ{x p}{es:List Expr}: yi (.Name x p::es) env=(false,eval (.Name x p) env)::yi es env:=rfl
section
variable {X:Cx}{e:Expr}{es:List Expr}{te:TE}{t:TA}
theorem aNw(h:PAx X es t):PEx X (.List es pos) (tLst t):=⟨kK h.h⟩
theorem aCt(h:PEx X e te):aIw X (.Return (some e) pos) (tRet te):=⟨jJ h.h⟩
end
structure dS (k:Nat) (A:Ak):Prop where
 dp:A.depth+3*k+5<recursionLimit
 un:A.units+16*k+200<Cs
 gd:A.guards=some []
theorem dS.mono{j:Nat}(r:dS k A)(h:j<=k):dS j A:=⟨by have:=r.dp;omega,by have:=r.un;omega,r.gd⟩
theorem dS.deeper{k:Nat}(r:dS (k+1) A)(env:Env):dS k (A.deeper env) :=
 ⟨by have:=r.dp;show A.depth+1+3*k+5<_;omega,by have:=r.un;show A.units+3+16*k+200<_;omega,r.gd⟩
theorem dS.depth(r:dS k A):A.depth<recursionLimit:=by have:=r.dp;omega
theorem dS.units(r:dS k A):A.units+64<Cs:=by have:=r.un;omega
theorem xF.toH(r:xF k A):dS k A:=⟨r.dp,r.un,r.gd⟩
theorem xF.mark(r:xF k A)(v:Option Value):dS k (A.mark v):=⟨r.dp,r.un,r.gd⟩
structure zB (P:Ao) (w:AD) (K:ω) (mg:Str->Option Value) (base:Ag) (CX:CXT) (k:Nat) (m:Str) (C:Addr) (sp:Sp):Prop where
 cl:Cls K C
 ex:∃f fd ps,Meth K C m f/\jI P w K mg base CX k f fd ps sp/\Binds K fd ps []
section
variable {X:Cx}{CX:CXT}{k:Nat}{E:XK}{m:Str}{pos apos:Pos}{e o:Expr}{es:List Expr}{ta:TE}{t:TA}{T:Addr->Sp->Prop}
def aMd (T:Addr->Sp->Prop) (m:Str) (E:XK) (ta:TE) (t:TA):TE:=fun σ H Q=>ta σ H fun x H1=>∃a C dx fs sp,x=.ref a/\H1 a=some (.ins C dx fs)/\fs.lookup m=none/\T C sp/\t σ H1 fun vs H2=>sp (x::vs) H2 Q E
theorem lA(he:PE X o ta)(hT:∀C sp,T C sp->zB X.prog X.w X.K X.mg X.base CX k m C sp)(hr:xF k X.A)(hx:zZ CX X E)(ha:PA X (e::es) t)
  (hst:yi (e::es) X.env=(false,eval e X.env)::yi es X.env:=by rfl)(hpl:(BH pos (yi es X.env)).any (·.1)=false:=by rfl)
  (ht:eval (.Call (.Attribute o m apos) (e::es) [] pos) X.env=(do
   let ov ←eval o X.env
   standAt apos.atName
   let (f,first) ←holding [ov] (Dv ov m pl)
   callWith pos f first (BH pos (yi (e::es) X.env)) (backToKw pos (CH [] X.env))):=by rfl):
  PE X (.Call (.Attribute o m apos) (e::es) [] pos) (aMd T m E ta t):=by
 intro pins s σ H Q I h;refine BM (pl:=pl) (thn (he pins s σ H _ I h) fun u s1 zq=>?_) ht;obtain⟨x,H1,I1,rx,a,C,dx,fs,sp,ex,ea,l,hC,q⟩:=zq;subst ex;obtain rfl:u=yk a:=rx;obtain⟨c,f,fd,ps,hm,F,hb⟩:=hT C sp hC;refine iQ I1 ea c hm l ?_;refine BJ (first:=[.ref a]) (h₀:=X.base) I.ok.mod.kin hm.kp (thn (ha pos pins s1 σ H1 _ I1 q) fun us s2 ⟨vs,H2,I2,r,q2⟩=>⟨I2.kIn,?_⟩) hst hpl;exact rB (us:=.ref a::us) (vs:=.ref a::vs) (dvs:=[]) F hr hb .nil hx I2 (.cons rfl r) (by rw[zh];exact q2)
theorem aK(he:PE X o ta)(hT:∀C sp,T C sp->zB X.prog X.w X.K X.mg X.base CX k m C sp)(hr:xF k X.A)(hx:zZ CX X E)
  (ht:eval (.Call (.Attribute o m apos) [] [] pos) X.env=(do
   let ov ←eval o X.env
   standAt apos.atName
   let (f,first) ←holding [ov] (Dv ov m pl)
   callWith pos f first (BH pos (yi [] X.env)) (backToKw pos (CH [] X.env))):=by rfl):
  PE X (.Call (.Attribute o m apos) [] [] pos) (aMd T m E ta aEf):=by
 intro pins s σ H Q I h;refine BM (pl:=pl) (thn (he pins s σ H _ I h) fun u s1 zq=>?_) ht;obtain⟨x,H1,I1,rx,a,C,dx,fs,sp,ex,ea,l,hC,q⟩:=zq;subst ex;obtain rfl:u=yk a:=rx;obtain⟨c,f,fd,ps,hm,F,hb⟩:=hT C sp hC;refine iQ I1 ea c hm l ?_;exact PySem.W.callWith_K0 (first:=[.ref a]) I1.kIn hm.kp (rB (us:=[.ref a]) (vs:=[.ref a]) (dvs:=[]) F hr hb .nil hx I1 (.cons rfl .nil) q)
end
def aEg:V->Option Str
 |.str x=>some x
 |.int i=>if i.natAbs<2 ^ 100 then some (toString i) else none
 |_=>none
def TJ:=St->Hp->Str->(Str->Hp->Prop)->Prop
def PJ (X:Cx) (es:List Expr) (t:TJ):Prop:=∀(pins:List (Addr×Obj)) (s:ν) (σ:St) (H:Hp) (acc:Str) (Q:Str->Hp->Prop),Inv X pins σ H s->t σ H acc Q →
 xy (yl X.prog X.w) X.A (joinParts acc (evalEach es X.env)) (EP X pins σ fun v H'=>∃z,v=.str z/\Q z H') X.xe s
section
variable {X:Cx}{e e1 e2:Expr}{es:List Expr}{te:TE}{t:TJ}{pos p:Pos}{x:Str}
def jNil:TJ:=fun _ H acc Q=>acc.length<=ψ/\Q acc H
theorem aQy:PJ X [] jNil:=fun _ s _ H acc Q I h=>joinParts_nil ⟨.str acc,H,I.tok _,⟨_,rfl⟩,acc,rfl,h.2⟩ h.1
def jStr (x:Str) (t:TJ):TJ:=fun σ H acc Q=>(acc++x).length<=ψ/\t σ H (acc++x) Q
theorem aRj{j}(ht:PJ X es t):PJ X (.Constant (.str x) j p::es) (jStr x t):=by
 intro pins s σ H acc Q I h;refine joinParts_cons (Calls.Constant_str ⟨h.1,ht pins _ σ H _ Q (I.tok _) h.2⟩)
theorem aJl{s:ν}{R:Value->ν->Prop}(I:Inv X pins σ H s)(r:RelV v u)(hy:aEg v=some y)(hl:y.length<=ψ)
  (h:∀t' tk,Inv X pins σ H { s with toks:=tk }->R (.str y t') { s with toks:=tk }):xy (yl X.prog X.w) X.A (formatField u Str.empty) R E s:=by
 cases v with
 |str x =>
  obtain⟨t,rfl⟩:=r;cases hy;exact formatField_str (fun t' tk=>h t' tk (I.kept fun _ _ q=>q)) hl
 |int i =>
  obtain⟨t,rfl⟩:=r;have hy':(if i.natAbs<2 ^ 100 then some (ε (toString i)) else none)=some y:=hy
  by_cases hi:i.natAbs<2 ^ 100
  ·rw[if_pos hi]at hy';cases hy';refine formatField_int_small ?_ (h _ _ (I.kept fun _ _ q=>q));have:=zE hi;omega
  ·rw[if_neg hi]at hy';cases hy'
 |_=>cases hy
def jVal (te:TE) (t:TJ):TJ:=fun σ H acc Q=>te σ H fun v H1=>∃y,aEg v=some y/\y.length<=ψ/\(acc++y).length<=ψ/\t σ H1 (acc++y) Q
theorem aJv(he:PE X e te)(ht:PJ X es t):PJ X (.FormattedValue e (-1) none p::es) (jVal te t):=by
 intro pins s σ H acc Q I h;refine joinParts_cons (FormattedValue_plain (thn (he pins s σ H _ I h) fun u s1 zq=>?_));obtain⟨v,H1,I1,r,y,hy,hl,ha,q⟩:=zq;exact aJl I1 r hy hl fun t' tk I2=>⟨ha,ht pins _ σ H1 _ Q I2 q⟩
def tJoin (t:TJ):TE:=fun σ H Q=>t σ H Str.empty fun z H1=>Q (.str z) H1
theorem aNu(h:PJ X (e1::e2::es) t):PE X (.JoinedStr (e1::e2::es) pos) (tJoin t):=by
 intro pins s σ H Q I hq;exact JoinedStr_many (thn (h pins s σ H Str.empty _ I hq) fun u s1 ⟨v,H1,I1,r,z,ez,q⟩=>⟨v,H1,I1,r,by rw[ez];exact q⟩)
def aTc (te:TE):TE:=fun σ H Q=>te σ H fun v H1=>∃y,aEg v=some y/\y.length<=ψ/\Q (.str y) H1
theorem aJn(he:PE X e te):PE X (.JoinedStr [.FormattedValue e (-1) none p] pos) (aTc te):=by
 intro pins s σ H Q I h;refine JoinedStr_one (FormattedValue_plain (thn (he pins s σ H _ I h) fun u s1 zq=>?_));obtain⟨v,H1,I1,r,y,hy,hl,q⟩:=zq;exact aJl I1 r hy hl fun t' tk I2=>⟨.str y,H1,I2,⟨_,rfl⟩,q⟩
end
end L2
namespace L2
open PySem
def jn (c:Nat):List (List Nat)->List Nat
 |[]=>[]
 |[p]=>p
 |p::q::r=>p++c::jn c (q::r)
theorem aFx{c:Nat}: ∀{p1 p2 t1 t2:List Nat},c∉p1->c∉p2->p1++c::t1=p2++c::t2->p1=p2/\t1=t2
 |[],[],t1,t2,_,_,h=>⟨rfl,(Dk h).2⟩
 |[],b::p2,t1,t2,_,h2,h=>absurd (ς.mpr (.inl (Dk h).1)) h2
 |a::p1,[],t1,t2,h1,_,h=>absurd (ς.mpr (.inl (Dk h).1.symm)) h1
 |a::p1,b::p2,t1,t2,h1,h2,h=>by
  obtain⟨e1,e2⟩:=Dk h;obtain⟨e3,e4⟩:=aFx (fun z=>h1 (yc _ z)) (fun z=>h2 (yc _ z)) e2;exact⟨by rw[e1,e3],e4⟩
theorem aKd{c:Nat}: ∀{ps qs:List (List Nat)},ps≠[]->qs≠[]->(∀p∈ps,c∉p)->(∀q∈qs,c∉q)->jn c ps=jn c qs->ps=qs
 |[],_,h,_,_,_,_=>absurd rfl h
 |_,[],_,h,_,_,_=>absurd rfl h
 |[p],[q],_,_,_,_,h=>by rw[show p=q from h]
 |[p],q::q2::qs,_,_,hp,_,h=>by
  have e:p=q++c::jn c (q2::qs):=h;exact absurd (by rw[e];simp) (hp p (Ψ ..))
 |p::p2::ps,[q],_,_,_,hq,h=>by
  have e:p++c::jn c (p2::ps)=q:=h;exact absurd (by rw[←e];simp) (hq q (Ψ ..))
 |p::p2::ps,q::q2::qs,_,_,hp,hq,h=>by
  obtain⟨e1,e2⟩:=aFx (hp p (Ψ ..)) (hq q (Ψ ..)) h;have ih:=aKd (by simp) (by simp) (fun z hz=>hp z (yc _ hz)) (fun z hz=>hq z (yc _ hz)) e2;rw[e1,ih]
theorem pO(c:Nat):∀ys:List Str,(yd ⟨#[c]⟩ ys).cps.toList=jn c (ys.map fun y=>y.cps.toList)
 |[]=>rfl
 |[y]=>rfl
 |y::z::ys=>by
  show(y++⟨#[c]⟩++yd ⟨#[c]⟩ (z::ys)).cps.toList=_;rw[Bd,Bd,AQ,AQ,pO c (z::ys),zx];rfl
theorem aKg(x y:Str):zv x y≠[]:=fun h=>by
 unfold zv at h
 split at h
 ·cases h
 ·split at h
  ·cases h
  ·rw[StrLaws.partsBetween_eq]at h;obtain⟨p,r,e⟩:=StrLaws.partsFrom_ne x y.length 0 (AK x y 0 x.length (x.length+1));rw[e]at h;cases h
theorem yZ{c:Nat}{ys:List Str}(hne:ys≠[])(hf:∀y∈ys,c∉y.cps.toList):zv (yd ⟨#[c]⟩ ys) ⟨#[c]⟩=ys:=by
 have h1:=StrLaws.join_split (yd ⟨#[c]⟩ ys) ⟨#[c]⟩;have h2:=congrArg (fun z:Str=>z.cps.toList) h1;simp only[pO]at h2;have h3:=aKd (by simpa using aKg _ _) (by simpa using hne) (fun p hp=>by
  obtain⟨y,hy,rfl⟩:=yj.mp hp;exact StrLaws.split_free _ c y hy) (fun p hp=>by
  obtain⟨y,hy,rfl⟩:=yj.mp hp;exact hf y hy) h2
 have hi:∀{as bs:List Str},(as.map fun y=>y.cps.toList)=(bs.map fun y=>y.cps.toList)->as=bs:=by
  intro as
  induction as with
  |nil=>intro bs h;cases bs with
   |nil=>rfl
   |cons b bs=>cases h
  |cons a as ih=>intro bs h;cases bs with
   |nil=>cases h
   |cons b bs =>
    obtain⟨e1,e2⟩:=Dk h;rw[ih e2,Str.ext' (Array.toList_inj.mp e1)]
 exact hi h3
end L2
namespace L2
open PySem PySem.Spec PyProof.Rows
section
variable {X:Cx}
theorem yN:MtR X "str.split" (fun x vs H Q=>∃z y:Str,x=.str z/\vs=[.str y]/\(y.length == 0)=false/\z.length+2<=ψ/\∀p,H p=none->Q (.ref p) (upd H p (.lst ((zv z y).map V.str)))):=by
 intro pins s σ H x vs v us Q I rx rv h;obtain⟨z,y,rfl,rfl,h2,h4,q⟩:=h;have hn:(BA.Str.partsBetween z (AK z y 0 z.length (z.length+1)) y.length).length<=ψ:=by
  have e1:=StrLaws.occ_length_le z y 0 z.length (z.length+1);rw[length_partsBetween];omega
 obtain⟨t,rfl⟩:=rx;obtain⟨u,rfl,ru⟩:=vals1 rv;obtain⟨t',rfl⟩:=ru;have fin:∀(tk:Nat) (ws:List Value),kQ ((zv z y).map V.str) ws->(zv z y).length<=ψ →
   EP X pins σ Q (.ref s.heap.objs.size) { s with toks:=tk,heap:=s.heap.push { cls:=.type "list",data:=.seq ws.toArray } }:=fun tk ws rw' hl=>by
  refine⟨.ref s.heap.objs.size,_,I.laid (o:=.lst ((zv z y).map V.str)) (fun b o e=>ρ _ e) (μ _) ?_,rfl,q _ (I.hok.fresh (μ _))⟩;exact⟨by rw[δ];exact hl,_,0,rw',yf _ rfl⟩
 cases h1:(decide (z.length<y.length)||decide (BA.Str.strKind z<BA.Str.strKind y))
 ·cases hf:(AK z y 0 z.length (z.length+1)).isEmpty
  ·refine CJ F.slot_str_split (typeIs_str _ _ _) F.entry_str_split (F.args_str_split_2 _ _) (meets_str_split_sep z y t t' h1 h2 hf (by omega) hn) ?_;have e:zv z y=BA.Str.partsBetween z (AK z y 0 z.length (z.length+1)) y.length:=(if_neg (ne_true_of_eq_false h1)).trans (if_neg (ne_true_of_eq_false hf));exact fin _ _ (by rw[e];exact uP _ _) (by rw[e];exact hn)
  ·have e:zv z y=[z]:=(if_neg (ne_true_of_eq_false h1)).trans (if_pos hf);exact CJ F.slot_str_split (typeIs_str _ _ _) F.entry_str_split (F.args_str_split_2 _ _) (meets_str_split_not_found z y t t' h1 h2 hf) (fin s.toks [.str z t] (by rw[e];exact .cons ⟨_,rfl⟩ .nil) (by rw[e];show 1<=ψ;decide))
 ·have e:zv z y=[z]:=if_pos h1;exact CJ F.slot_str_split (typeIs_str _ _ _) F.entry_str_split (F.args_str_split_2 _ _) (meets_str_split_cannot_occur z y t t' h1) (fin s.toks [.str z t] (by rw[e];exact .cons ⟨_,rfl⟩ .nil) (by rw[e];show 1<=ψ;decide))
theorem eZ:MtR X "str.join" (fun x vs H Q=>∃(sep:Str) (a:Addr) (ys:List Str),x=.str sep/\vs=[.ref a]/\SqL X.K H a (ys.map V.str)/\(ys.map (·.length)).sum+ys.length*sep.length<=16777216/\Q (.str (yd sep ys)) H):=by
 intro pins s σ H x vs v us Q I rx rv h;obtain⟨sep,a,ys,rfl,rfl,ha,hz,q⟩:=h;obtain⟨t,rfl⟩:=rx;obtain⟨u,rfl,ru⟩:=vals1 rv;cases ru;obtain⟨its,r,pl,_⟩:=I.list ha;refine PyProof.Rows.join_list pl.isList (aFd (by simpa using r)) hz fun t' k=>⟨.str _,H,I.tok _,⟨_,rfl⟩,?_⟩;rw[show Txt.join sep ys=yd sep ys from StrLaws.glued_eq_join sep ys];exact q
end
section
variable {X:Cx}
theorem nU(f:Nat->Int):∀k,argBest (fun i j=>decide (f i > f j)) k<=k/\∀j,j<=k->f j<=f (argBest (fun i j=>decide (f i > f j)) k)
 |0=>⟨μ _,fun j hj=>by rw[show j=0 by omega];exact Int.le_refl _⟩
 |k+1=>by
  obtain⟨h1,h2⟩:=nU f k;unfold argBest
  by_cases h:f (k+1) > f (argBest (fun i j=>decide (f i > f j)) k)
  ·rw[if_pos (decide_eq_true h)];refine⟨μ _,fun j hj=>?_⟩
   by_cases e:j=k+1
   ·rw[e];exact Int.le_refl _
   ·have:=h2 j (by omega);omega
  ·rw[if_neg (by rw[decide_eq_false h];exact π)];refine⟨by omega,fun j hj=>?_⟩
   by_cases e:j=k+1
   ·rw[e];omega
   ·exact h2 j (by omega)
theorem fW(hc:X.calm=true):xD X (.builtin "max") (fun xs H Q=>∃(a:Addr) (ns:List Int),xs=[.ref a]/\SqL X.K H a (ns.map V.int)/\ns≠[]/\∀m:Int,m∈ns->(∀n∈ns,n<=m)->Q (.int m) H):=by
 intro pins s σ H xs us Q I r h;obtain⟨a,ns,rfl,ha,hne,q⟩:=h;obtain⟨u,rfl,rx⟩:=vals1 r;cases rx;obtain⟨its,rv,pl,_⟩:=I.list ha;have hi:=intsAre_of rv;obtain⟨ys,hy⟩:=hi.allInts.items;have e1:ns=ys.toList.map (·.1):=by
  rw[←nums_intItems,←hy];exact(show numsOf its.toArray.toList=ns from hi.numsOf).symm
 have hsz:ys.size=ns.length:=by rw[e1,δ,Be]
 have hpos : 0<ns.length:=Aq.mpr hne;have hat:∀j,ns[j]?=ys[j]?.map (fun x:Int×Tok=>x.1):=fun j=>by rw[e1,yv,Array.getElem?_toList]
 have hnum:∀j,j<ns.length->ns[j]?=some (numAt ys j):=fun j hj=>by
  have hj2:j<ys.size:=by omega
  rw[hat,Array.getElem?_eq_getElem hj2];unfold numAt;rw[Array.getElem?_eq_getElem hj2];rfl
 refine max_intList (I.ok.hd hc) (hy ▸ pl.isList) (by omega) fun v h' tk hv hk=>?_;obtain⟨t,rfl⟩:=intItems_at hv;obtain⟨b1,b2⟩:=nU (numAt ys) (ys.size-1);refine⟨.int _,H,I.kept hk,⟨_,rfl⟩,q _ (ο (hnum _ (by omega))) fun n hn=>?_⟩;obtain⟨j,hj⟩:=Ai.mp hn;have hjl:j<ns.length:=(θ.mp hj).1;rw[hnum j hjl]at hj;cases hj;exact b2 j (by omega)
theorem aDv(hu:X.A.units+64<Cs):OpR X (Ah .Eq) (fun x y H Q=>∃(a b:Addr) (xs:List V),x=.ref a/\y=.ref b/\SqL X.K H a xs/\SqL X.K H b []/\Q (.bl xs.isEmpty) H):=by
 intro pins s σ H x y v u Q I rx ry h;obtain⟨a,b,xs,rfl,rfl,ha,hb,q⟩:=h;cases rx;cases ry;obtain⟨i1,r1,p1,_⟩:=I.list ha;obtain⟨i2,r2,p2,_⟩:=I.list hb;cases r2;cases xs with
 |nil =>
  cases r1;refine SeqAt.eq_listAt (e:=fun _=>true) p1.isList p2.isList rfl (by omega) (fun j h1 _=>absurd h1 (Ar _)) ?_;exact⟨.bl true,H,I,rfl,q⟩
 |cons z zs =>
  cases r1 with
  |cons rz rt =>
   refine SeqAt.eq_list_lengthsAt p1.isList p2.isList (by simp) (by omega) ?_;exact⟨.bl false,H,I,rfl,q⟩
end
def aLn (J:It) (k:Nat) (js:List Nat) (g:TG) (tc:TT) (tk tv:TE) (σ:St) (Q:VK) (H1:Hp):Prop:=∀D,H1 D=none →
 ∃W:Nat->Nat->St->List (Key×V)->Hp->Prop,(∃m,W 0 m (lY k js σ) [] (upd H1 D (.dK [])))/\∀i m σ' kvs H',W i m σ' kvs H' →
  (J.stop i H'/\Q (.ref D) H') ∨
  (J.go i H'/\∃N:St->List (Key×V)->Hp->Prop,(∀σ' ys H',N σ' ys H'->∃m',m'<m/\W (i+1) m' σ' ys H') ∧
   ∀x H2,J.yld i H' x H2->g x σ' H2 fun σ3 H3=>tc σ3 H3 fun b H4=>if b=true then tk σ3 H4 fun y H5=>tv σ3 H5 fun v H6=>∃key,y=kV key/\H6 D=some (.dK kvs)/\kvs.length<ψ/\N σ3 (putK kvs key v) (upd H6 D (.dK (putK kvs key v))) else N σ3 kvs H4)
def aSt (wi:TI) (k:Nat) (js:List Nat) (g:TG) (tc:TT) (tk tv:TE):TE:=fun σ H Q=>wi σ H fun J H1=>aLn J k js g tc tk tv σ Q H1
section
variable {prog:Ao}{w:AD}{A:Ak}{R:Result->ν->Prop}{s:ν}
theorem tW{iter:Expr}(I:Nat->ν->Prop)
  (turn:∀n s,I n s->xy (yl prog w) A (pyNext it) (fun r s₁=>match r with
   |none=>R (.ok .next) s₁
   |some v=>xy (yl prog w) A (Dq target it v) (fun _ s₀=>xy (yl prog w) A (assign target env v) (fun _ s₂ =>
     xy (yl prog w) A (forIn ifs true fun c r=>if r=true then do let ok ←isTrue c env (eval c env);pure (Ct ok) else pure (Ct r)) (fun ok s₃ =>
      if ok=true then xy (yl prog w) A (eval kx env) (fun kv s₄=>xy (yl prog w) A (eval vx env) (fun vv s₅ =>
       xy (yl prog w) A (dictSet D kv vv) (fun _ s₆=>∃m,m<n/\I m s₆) (fun _ _=>False) s₅) (fun _ _=>False) s₄) (fun _ _=>False) s₃
      else ∃m,m<n/\I m s₃) (fun _ _=>False) s₂) (fun _ _=>False) s₀) (fun _ _=>False) s₁) (fun _ _=>False) s)
  (n:Nat)(h:I n s):Dr (yl prog w) A (.compLoop (.DictComp kx vx [⟨target,iter,ifs,0⟩] scope pos) 0 it (.ref D) env) R s:=by
 refine codeAny_loop rfl I (fun n s hI=>?_) n h;show xy _ A ((compTurn (.DictComp kx vx [⟨target,iter,ifs,0⟩] scope pos) 0 it (.ref D) env).onRaise (fun x=>do noteFrame x env;theTreesLotGoes x)) _ _ s;refine wpAny_noted ?_;rw[compTurn_dict];refine ζ (Ca (ζ (Ad (turn n s hI) (fun r s₁ h₁=>?_) fun _ _ z=>zi z)));cases r with
 |none=>exact Θ h₁
 |some v =>
  refine ζ (Ad h₁ (fun _ s₀ h₀=>?_) fun _ _ z=>zi z);refine ζ (Ad h₀ (fun _ s₂ h₂=>ζ (Ad h₂ (fun ok s₃ h₃=>?_) fun _ _ z=>zi z)) fun _ _ z=>zi z);cases ok with
  |false=>exact Θ ⟨rfl,h₃⟩
  |true =>
   exact ζ (ζ (Ad h₃ (fun kv s₄ h₄=>ζ (AM (Ad h₄ (fun vv s₅ h₅=>ζ (Ca (AM (Ad h₅ (fun _ s₆ h₆=>Θ ⟨rfl,h₆⟩) fun _ _ z=>zi z)))) fun _ _ z=>zi z))) fun _ _ z=>zi z))
end
section
variable {X:Cx}{elt tg iter:Expr}{ifs:List Expr}{scope:Scope}{cl:List (Str×Addr)}{ts ys:List Str}{js:List Nat}{pos:Pos}{wi:TI}{g:TG}{tc:TT}{te:TE}
theorem aIq{s4:ν}{fp:List Addr}(I2:Inv X pins σ H2 s2)(f2:∀b∈fp,dY X pins H2 b)
  (I4:Inv (X.comp scope cl N s2 H2 fp C) pins' σ' H3 s4)(hC:s2.heap.objs.size<=C)(hs':AH C s4.heap h'):Inv X pins σ H3 { s4 with heap:=h' }:=by
 have ext:=hs'.extBut;have neC:∀b o,s2.heap.get? b=some o->b≠C:=fun b o e=>yg (χ (Ξ e) hC);have hok:HOk X.prog X.w H3 h':=HOk.but (C:=C) I4.hok I4.free fun b o hb e=>ext b o hb e;have B:Un (frs X.stack) fp H2 H3 s2.heap s4.heap:=I4.base;have u:Un (frs X.stack) fp H2 H3 s2.heap h':=by
  refine⟨fun b o e q hb hx=>ext b o (neC b o e) (B.keep b o e q hb hx),fun b o e q hb hx=>?_,B.free,fun b o e hx=>?_,B.tups,B.frzs,B.tbls⟩
  ·obtain⟨sl,e1⟩:=B.slot b o e q hb hx;exact⟨sl,ext b _ (neC b o e) e1⟩
  ·obtain⟨o',e1⟩:=B.there b o e hx;exact⟨o',ext b _ (neC b o e) e1⟩
 have os:s4.os=s2.os:=I4.os;have gb:=I4.bare;obtain⟨hh,gg,dd,tt,os'⟩:=s4;obtain rfl:os'=s2.os:=os;have fin:=I2.call (h':=h') (g':=gg) (d':=dd) (t':=tt) (ch:=fp) u hok gb fun b hb=>⟨(f2 b hb).2.2.2.1,(f2 b hb).2.1,(f2 b hb).2.2.2.2.1,(f2 b hb).2.2.2.2.2⟩;exact fin
theorem aLa(ts ys:List Str)(js:List Nat)(hc:X.calm=true)(hi:PI X tg iter wi)(hclos:closureFor scope X.env=pure cl)(hsub:fF X.env cl)(hcap:oY X scope cl ys js)
  (hg:∀s H fp C,PG (X.comp scope cl (ts++ys) s H fp C) tg g)(ht:∀s H fp C,PIf (X.comp scope cl (ts++ys) s H fp C) ifs tc)(hek:∀s H fp C,PE (X.comp scope cl (ts++ys) s H fp C) kx tk)(hev:∀s H fp C,PE (X.comp scope cl (ts++ys) s H fp C) vx tv)
  (hkind:scope.kind=.function:=by rfl)(hcell:(scope.names.all fun y=>y.2 != .cell)=true:=by rfl)
  (hnames:(scope.names.all fun y=>y.2 != .local||scope.names.lookup y.1 == some .local)=true:=by rfl)
  (hhas:((relabel scope X.env).names.all fun p=>(p.2 != .cell&&p.2 != .free)||(cl.lookup p.1).isSome)=true:=by rfl)
  (hs:∀x,CB iter X.env x=pure x:=by intro _;rfl):PE X (.DictComp kx vx [⟨tg,iter,ifs,0⟩] scope pos) (aSt wi ts.length js g tc tk tv):=by
 intro pins s σ H Q I h;have hcell':∀y∈scope.names,y.2≠.cell:=fun y hy z=>by
  have:=ze.mp hcell y hy;rw[z]at this;exact absurd this (by decide)
 have hnames':∀y∈scope.names,y.2=.local->scope.names.lookup y.1=some .local:=fun y hy z=>by
  have:=ze.mp hnames y hy;rw[z]at this;simpa using this
 have hhas':∀x,((relabel scope X.env).names.lookup x=some .cell\/(relabel scope X.env).names.lookup x=some .free)->∃c,cl.lookup x=some c:=fun x hx=>by
  rcases hx with hx|hx
  ·have:=ze.mp hhas _ (Au hx);exact Bo.mp (by simpa using this)
  ·have:=ze.mp hhas _ (Au hx);exact Bo.mp (by simpa using this)
 rw[arm_eval_DictComp];refine wpAny_comprehension_free (use:=none) rfl hs hclos hkind hnames' (thn (hi pins s σ H _ I h) fun v s1 h1=>thn h1 fun itv s2 h2=>?_);obtain⟨it,fp,tn,J,H2,e,I2,T,st2,f2,hD⟩:=h2;subst e;have fl:∀b∈fp,b<s2.heap.objs.size:=fun b hb=>by
  obtain⟨o,e,_⟩:=T.obj _ _ st2 b hb;exact Ξ e
 refine CF (wpAny_newFunctionEnv hcell' (by intro y hy;simp at hy) (fun h₁ hns₁ hsb₁=>?_) hkind);dsimp only at hns₁ hsb₁ ⊢;have hn2:H2 s2.heap.objs.size=none:=I2.hok.fresh (μ _);obtain⟨W,⟨m0,w0⟩,turn⟩:=hD _ hn2;have I2d:Inv X pins σ (upd H2 s2.heap.objs.size (.dK [])) { s2 with heap:=s2.heap.push { cls:=.type "dict",data:=.dict #[] } } :=
  I2.laid (a:=s2.heap.objs.size) (o:=.dK []) (h':=s2.heap.push { cls:=.type "dict",data:=.dict #[] }) (t':=s2.toks) (fun _ _ q=>ρ _ q) (μ _) (aJk s2.heap I2.big)
 generalize hHH:s2.heap.push { cls:=.type "dict",dict:=none,data:=.dict #[] }=HH at hns₁ hsb₁ I2d ⊢;have hC:HH.objs.size=s2.heap.objs.size+1:=by rw[←hHH,AT]
 have hlt:s2.heap.objs.size<HH.objs.size:=by rw[hC];exact CQ _
 have f2d:∀b∈fp,dY X pins (upd H2 s2.heap.objs.size (.dK [])) b:=fun b hb=>⟨by rw[jY (yg (fl b hb))];exact(f2 b hb).1,(f2 b hb).2⟩;have fld:∀b∈fp,b<HH.objs.size:=fun b hb=>CT (fl b hb) hlt;have old:∀b o,HH.get? b=some o->h₁.get? b=some o:=fun b o e=>hsb₁.extBut b o (yg (Ξ e)) (ρ _ e);have I':Inv (X.comp scope cl (ts++ys) { s2 with heap:=HH } (upd H2 s2.heap.objs.size (.dK [])) fp HH.objs.size) [] (lY ts.length js σ) (upd H2 s2.heap.objs.size (.dK [])) { s2 with heap:=h₁,toks:=s2.toks+([]:List (Str×Value)).length } :=
  aBv (s:={ s2 with heap:=HH }) I2d hsub hcap hkind hhas' f2d fld (μ _) hns₁ old
 have stat:∀{H':Hp},(∀b∈fp,H' b=none)->∀b∈fp,dY (X.comp scope cl (ts++ys) { s2 with heap:=HH } (upd H2 s2.heap.objs.size (.dK [])) fp HH.objs.size) [] H' b:=fun {H'} hn b hb =>
  ⟨hn b hb,yg (fld b hb),I'.ok.exfs b hb,.inl hb,(I'.ok.exf b hb).2,fun p hq=>absurd (show p∈([]:List (Addr×Obj)) from by simpa using hq) (by simp)⟩
 have tn1:tn 0 h₁:=T.keep _ _ _ st2 fun b _ o e=>old b o (hHH ▸ ρ _ e);have loop:∀s₃ : ν,s₃ = { s2 with heap:=h₁,toks:=s2.toks+([]:List (Str×Value)).length } →
   Dr (yl X.prog X.w) X.A (.compLoop (.DictComp kx vx [⟨tg,iter,ifs,0⟩] scope pos) 0 (.ref it) (.ref s2.heap.objs.size) (compEnvC scope cl HH.objs.size X.env))
    (compPost (yl X.prog X.w) X.A X.xe none (EP X pins σ Q) (.ref s2.heap.objs.size) HH.objs.size) s₃:=by
  rintro s₃ rfl;refine tW (fun n s'=>∃i σ' kvs H',Inv (X.comp scope cl (ts++ys) { s2 with heap:=HH } (upd H2 s2.heap.objs.size (.dK [])) fp HH.objs.size) [] σ' H' s'/\tn i s'.heap/\(∀b∈fp,H' b=none)/\W i n σ' kvs H') ?_ m0 ⟨0,_,[],_,I',tn1,fun b hb=>(f2d b hb).1,w0⟩;rintro n s3 ⟨i,σ3,kvs,H3,I3,st3,fr3,w3⟩;rcases turn i n σ3 kvs H3 w3 with⟨stop,qn⟩|⟨go,N,hN,step⟩
  ·refine thn (T.done (X.comp scope cl (ts++ys) { s2 with heap:=HH } (upd H2 s2.heap.objs.size (.dK [])) fp HH.objs.size) rfl rfl rfl hc i _ s3 σ3 H3 (fun _ _=>False) I3 (stat fr3) st3 stop) fun r s4 zq=>?_;obtain⟨hr,I4⟩:=zq;subst hr;obtain⟨m,hn,_⟩:=I4.loc;exact⟨m,hn,fun h' hs'=>⟨.ref s2.heap.objs.size,_,aIq (s2:={ s2 with heap:=HH }) I2d f2d I4 (μ _) hs',rfl,qn⟩⟩
  ·refine thn (T.item (X.comp scope cl (ts++ys) { s2 with heap:=HH } (upd H2 s2.heap.objs.size (.dK [])) fp HH.objs.size) rfl rfl rfl hc i _ s3 σ3 H3 (fun _ _=>False) I3 (stat fr3) st3 go) fun r s4 zq=>?_;obtain⟨u,hr,h4⟩:=zq;subst hr;refine thn h4 fun _ s5 zq=>?_;obtain⟨x,H5,I5,r5,y5,st5,fr5⟩:=zq;have I5':=I5.pinned (stat fr5) (T.obj _ _ st5);refine thn (hg _ _ _ _ _ s5 σ3 H5 x u _ I5' r5 (step x H5 y5)) fun _ s6 zq=>?_;obtain⟨σ6,H6,I6,q6⟩:=zq;refine thn (ht _ _ _ _ _ s6 σ6 H6 _ I6 q6) fun b s7 zq=>?_;obtain⟨H7,I7,q7⟩:=zq;have facts:∀{σ':St}{H':Hp}{s':ν},Inv (X.comp scope cl (ts++ys) { s2 with heap:=HH } (upd H2 s2.heap.objs.size (.dK [])) fp HH.objs.size) ([]++eC fp s5.heap) σ' H' s'->tn (i+1) s'.heap/\(∀b∈fp,H' b=none):=fun {σ' H' s'} J=>by
    refine⟨T.keep _ _ _ st5 fun b hb o e=>(J.pin (b,o) (yu _ (yu _ (yY hb e)))).1,fun b hb=>?_⟩;obtain⟨o,e,d⟩:=T.obj _ _ st5 b hb;exact(J.pin (b,o) (yu _ (yu _ (yY hb e)))).2.1
   have bare:∀{σ':St}{H':Hp}{s':ν},Inv (X.comp scope cl (ts++ys) { s2 with heap:=HH } (upd H2 s2.heap.objs.size (.dK [])) fp HH.objs.size) ([]++eC fp s5.heap) σ' H' s'->Inv (X.comp scope cl (ts++ys) { s2 with heap:=HH } (upd H2 s2.heap.objs.size (.dK [])) fp HH.objs.size) [] σ' H' s':=fun J=>J.pins_of fun p hp=>absurd hp (by simp);cases b with
   |false =>
    have q7':N σ6 kvs H7:=by simpa using q7
    obtain⟨m',hm,w7⟩:=hN _ _ _ q7';obtain⟨a3,a4⟩:=facts I7;show ∃m,m<n/\_;exact⟨m',hm,i+1,σ6,kvs,H7,bare I7,a3,a4,w7⟩
   |true =>
    rw[if_pos rfl]at q7;show xy _ _ (eval kx _) _ _ s7;refine thn (hek _ _ _ _ _ s7 σ6 H7 _ I7 q7) fun kv s8 zq=>?_;obtain⟨y,H8,I8,r8,q8⟩:=zq;refine thn (hev _ _ _ _ _ s8 σ6 H8 _ I8 q8) fun vv s9 zq=>?_;obtain⟨v,H9,I9,r9,key,ek,eD,hl,n9⟩:=zq;subst ek;obtain⟨m',hm,w9⟩:=hN _ _ _ n9;obtain⟨a3,a4⟩:=facts I9;have I9':=bare I9;obtain⟨z,hd,vs,rel,dd⟩:=aPv I9'.hok eD;have hz:vs.length<=ψ:=by rw[←rel.length];exact z
    have hlp:(putK kvs key v).length<=ψ:=by have:=oH kvs key v;omega
    refine wpAny_dictSet_pairs (hsz:=hz) (sQ r8) dd fun h' dd' hs=>?_;have he:∃q,h'.get? s2.heap.objs.size=some q:=let ⟨q,_,_,hq,_⟩:=dd'; ⟨q,hq⟩;exact⟨m',hm,i+1,σ6,putK kvs key v,_,aPb I9' (by rw[eD];exact Ae) hs he (aEz hlp hd (rel.put key r9) dd'),T.keep _ _ _ a3 fun b hb o e=>(hs.2 b (yg (fl b hb))).trans e,fun b hb=>by rw[jY (yg (fl b hb))];exact a4 b hb,w9⟩
 exact codeAny_compStart_dict (loop _ rfl) (T.self _ 0 _ _ _ tn1 (loop _ rfl))
end
def aEt (P:Nat->List (Key×V)->Hp->Prop) (i:Nat) (js:List Nat) (σ:St):St->List (Key×V)->Hp->Prop:=fun σ' ys H=>P (i+1) ys H/\∃o,σ'=o::xE js σ
theorem aFh{K:ω}{xs:List V}{k:Nat}{tc:TT}{tk tv:TE}{Q:VK}{H1:Hp}(P:Addr->Nat->List (Key×V)->Hp->Prop)(h0:∀D,H1 D=none->P D 0 [] (upd H1 D (.dK [])))(hl:∀D i ys H,i<=xs.length->P D i ys H->SqL K H a xs)
  (hs:∀D i x ys H,xs[i]?=some x->P D i ys H->tc (some x::xE js σ) H fun b H2=>if b=true then tk (some x::xE js σ) H2 fun y H3=>tv (some x::xE js σ) H3 fun v H4=>∃key,y=kV key/\H4 D=some (.dK ys)/\ys.length<ψ/\aEt (P D) i js σ (some x::xE js σ) (putK ys key v) (upd H4 D (.dK (putK ys key v))) else aEt (P D) i js σ (some x::xE js σ) ys H2)
  (hd:∀D ys H,P D xs.length ys H->Q (.ref D) H)(hk:k=1:=by rfl):
  aLn (Itl K a) k js (cW 0) tc tk tv σ Q H1:=by
 subst hk;intro D hD;refine⟨fun i m σ' ys H=>m=xs.length-i/\i<=xs.length/\P D i ys H/\∃o,σ'=o::xE js σ,⟨xs.length,by simp,yq _,h0 D hD,none,rfl⟩,?_⟩;rintro i m σ' ys H ⟨rfl,hi,p,o,rfl⟩;have q:=hl D i ys H hi p
 by_cases hlt:i<xs.length
 ·refine .inr ⟨⟨xs,xs[i],q,by simp[hlt]⟩,aEt (P D) i js σ,fun σ3 zs H3 z=>⟨xs.length-(i+1),by omega,rfl,hlt,z.1,z.2⟩,fun x H' y=>?_⟩;obtain⟨e,y⟩:=y;subst e;exact hs D i x ys _ (y xs q) p
 ·have e:i=xs.length:=by omega
  subst e;exact .inl ⟨⟨xs,q,μ _⟩,hd D ys H p⟩
section
variable {X:Cx}{tg:Expr}
def iSeq (K:ω) (tl:TE):TI:=fun σ H R=>tl σ H fun x H1=>∃a,x=.ref a/\(((∃xs,SqL K H1 a xs)/\R (Itl K a) H1)\/((∃xs,SqT K H1 a xs)/\R (Itt K a) H1))
theorem aSk(hl:PE X l tl):PI X tg l (iSeq X.K tl):=by
 intro pins s σ H R I h;refine thn (hl pins s σ H _ I h) fun v s1 zq=>?_;obtain⟨x,H1,I1,r1,q1⟩:=zq;obtain⟨a,e,q1⟩:=q1;subst e;cases r1;rcases q1 with⟨⟨xs,hq⟩,q⟩|⟨⟨xs,hq⟩,q⟩
 ·obtain⟨its,rv,p,hz⟩:=I1.list hq;refine Bu p.isList ?_;refine⟨s1.heap.objs.size,[s1.heap.objs.size],_,_,H1,rfl,I1.kept (t':=s1.toks) fun b o e=>ρ _ e,uW a _,⟨_,yf _ rfl,rfl,rfl⟩,fun b hb=>?_,q⟩;have e:b=s1.heap.objs.size:=by simpa using hb
  subst e;exact I1.fpOk (μ _) (I1.hok.fresh (μ _))
 ·obtain⟨its,rv,p,hz⟩:=I1.tuple hq;refine BI (show s1.heap.IsTuple a its.toArray from p) ?_;refine⟨s1.heap.objs.size,[s1.heap.objs.size],_,_,H1,rfl,I1.kept (t':=s1.toks) fun b o e=>ρ _ e,pZ a _,⟨_,yf _ rfl,rfl,rfl⟩,fun b hb=>?_,q⟩;have e:b=s1.heap.objs.size:=by simpa using hb
  subst e;exact I1.fpOk (μ _) (I1.hok.fresh (μ _))
theorem aBf{K:ω}(hK:X.K=K)(he:PE X e ta)(hb:Cb e f X.env (eval e X.env)=eval e X.env):PE X (.Attribute e f pos) (tFld K ta f):=hK ▸ kW he hb
theorem aKz:OpR X (BX .Add) (fun x y H Q=>∃a b xs ys,x=.ref a/\y=.ref b/\SqT X.K H a xs/\SqT X.K H b ys/\ys≠[]/\xs.length+ys.length<=ψ ∧
  (xs=[]->Q (.ref b) H)/\(xs≠[]->∀p,H p=none->Q (.ref p) (upd H p (.tup (xs++ys))))):=by
 intro pins s σ H x y v u Q I rx ry h;obtain⟨a,b,xs,ys,rfl,rfl,ha,hb,hx,hz,q1,q2⟩:=h
 by_cases hxs:xs=[]
 ·cases rx;cases ry;obtain⟨its,r1,p1,_⟩:=I.tuple ha;obtain⟨its2,r2,p2,_⟩:=I.tuple hb;have e1:its=[]:=r1.nil_iff.mpr hxs;subst e1;obtain⟨⟨cls,dd,data,sl⟩,ho,hc,n,hd⟩:=id p1;obtain⟨⟨cls2,dd2,data2,sl2⟩,ho2,hc2,n2,hd2⟩:=id p2;simp only at hc hd hc2 hd2;subst hc hd hc2 hd2;exact concat_meets ⟨_,ho,rfl⟩ ⟨_,ho2,rfl⟩ noFill_tuple_add seq_tuple_add DA Dw (Dh _ _)
   (tuple_addW0 a b _ _ n n2 dd dd2 sl sl2 rfl) ⟨ho,ho2,.ref b,H,I,rfl,q1 hxs⟩
 ·exact aOr pins s σ H _ _ v u Q I rx ry ⟨a,b,xs,ys,rfl,rfl,ha,hb,hxs,hz,fun z=>absurd z hx,fun _=>q2 hxs⟩
end
theorem aJh{X:Cx}{i:Nat}(hN:X.N.Nodup)(hi:X.N[i]?=some x)(hx:Loc X.env.scope x)(he:PEx X (.List es p1) te)(hf:X.fn x=true:=by rfl):
  aIw X (.Assign [.Name x pos'] (.List es p1) pos) (tAsg te (cW i)):=⟨jU hN hi hx he.h rfl (.inl hf)⟩
theorem aJq : OpR X (BX .Add) (fun x y H Q=>∃a b xs ys,x=.ref a/\y=.ref b/\SqT X.K H a xs/\SqT X.K H b ys/\ys≠[]/\xs.length+ys.length<=ψ/\∀p H',jF H H'->SqT X.K H' p (xs++ys)->Q (.ref p) H'):=by
 intro pins s σ H x y v u Q I rx ry h;obtain⟨a,b,xs,ys,rfl,rfl,ha,hb,hx,hz,q⟩:=h;refine aKz pins s σ H _ _ v u Q I rx ry ⟨a,b,xs,ys,rfl,rfl,ha,hb,hx,hz,fun e=>?_,fun _ p hp=>?_⟩
 ·subst e;exact q b H (fun _ _ z=>z) hb
 ·exact q p _ (fun b o z=>by rw[jY (jL z hp)];exact z) (SqT.of jO)
theorem fZ{K:ω}{xs:List V}{k:Nat}{g:TG}{tc:TT}{te:TE}{Q:VK}(P:Nat->List V->Hp->Prop)(h0:P 0 [] H1)(hl:∀i ys H,i<=xs.length->P i ys H->SqT K H a xs/\ys.length<=i)(hz:xs.length<ψ)
  (hs:∀i x ys H (os:St),os.length=k->xs[i]?=some x->P i ys H->g x (os++xE js σ) H fun σ3 H3=>tc σ3 H3 fun b H2=>if b=true then te σ3 H2 fun v H3=>lB P i k js σ σ3 (ys++[v]) H3 else lB P i k js σ σ3 ys H2)
  (hd:∀ys H,P xs.length ys H->∀p,H p=none->Q (.ref p) (upd H p (.lst ys))):
  mH (Itt K a) k js g tc te σ Q H1:=by
 refine⟨fun i m σ' ys H=>m=xs.length-i/\i<=xs.length/\P i ys H/\∃os:St,os.length=k/\σ'=os++xE js σ,⟨xs.length,by simp,yq _,h0,Ac k none,Bg,rfl⟩,?_⟩;rintro i m σ' ys H ⟨rfl,hi,p,os,ho,rfl⟩;obtain⟨q,hy⟩:=hl i ys H hi p
 by_cases hlt:i<xs.length
 ·refine .inr ⟨⟨xs,xs[i],q,by simp[hlt]⟩,by omega,lB P i k js σ,fun σ3 zs H3 z=>⟨xs.length-(i+1),by omega,rfl,hlt,z.1,z.2⟩,fun x H' y=>?_⟩;obtain⟨e,y⟩:=y;subst e;exact hs i x ys _ os ho (y xs q) p
 ·have e:i=xs.length:=by omega
  subst e;exact .inl ⟨⟨xs,q,μ _⟩,hd ys H p⟩
end L2
namespace L2
open PySem
inductive Kd where
 |num (w:Nat)
 |nest (i:Nat)
 |many (n:Nat) (k:Kd)
 |pick (is:List Nat)
abbrev Shp:=Str×List (Str×Kd)
abbrev Un3:=Str×Nat×Str
def yG:List Nat->Nat
 |[]=>0
 |x::xs=>max x (yG xs)
theorem pL{n:Nat}: ∀{xs:List Nat},n∈xs->n<=yG xs
 |x::xs,h=>by
  rcases ς.mp h with rfl|h
  ·exact Nat.le_max_left _ _
  ·exact yo (pL h) (Nat.le_max_right _ _)
theorem rM:∀{xs:List Nat},xs≠[]->yG xs∈xs
 |[],h=>absurd rfl h
 |[x],_=>by show max x 0∈[x];rw[Nat.max_zero];exact τ.mpr rfl
 |x::y::xs,_=>by
  have ih:=rM (xs:=y::xs) (by simp);show max x (yG (y::xs))∈_
  by_cases h:x<=yG (y::xs)
  ·rw[Nat.max_eq_right h];exact yc _ ih
  ·rw[Nat.max_eq_left (by omega)];exact Ψ ..
theorem aOt{m:Nat}{xs:List Nat}(h1:m∈xs)(h2:∀n∈xs,n<=m):m=yG xs :=
 Nat.le_antisymm (pL h1) (h2 _ (rM fun z=>by rw[z]at h1;cases h1))
def Kd.size (sz:List Nat):Kd->Nat
 |.num w=>w
 |.nest i=>sz.getD i 0
 |.many n k=>n*k.size sz
 |.pick is=>1+yG (is.map fun i=>sz.getD i 0)
def Kd.depth (dp:List Nat):Kd->Nat
 |.num _=>0
 |.nest i=>dp.getD i 0
 |.many _ k=>k.depth dp
 |.pick is=>yG (is.map fun i=>dp.getD i 0)
def pj (p x:Str):Str:=if p.length=0 then x else p++ε "." ++ x
def Kd.units (sz:List Nat) (ut:List (Str->List Un3)):Kd->Str->List Un3
 |.num w,p=>[(p,w,ε "num")]
 |.nest i,p=>(ut.getD i fun _=>[]) p
 |.many n k,p=>(zw n).flatMap fun j=>k.units sz ut (pj p (ε (toString j)))
 |.pick is,p=>[(pj p (ε "tag"),1,ε "tag"),(p,yG (is.map fun i=>sz.getD i 0),ε "pick")]
structure Tab where
 sz:List Nat
 dp:List Nat
 ut:List (Str->List Un3)
def Tab.more (t:Tab) (s:Shp):Tab:=⟨t.sz++[(s.2.map fun f=>f.2.size t.sz).sum],t.dp++[1+yG (s.2.map fun f=>f.2.depth t.dp)],t.ut++[fun p=>s.2.flatMap fun f=>f.2.units t.sz t.ut (pj p f.1)]⟩
def tabs (S:List Shp):Tab:=S.foldl Tab.more ⟨[],[],[]⟩
theorem aIl(S:List Shp)(s:Shp):tabs (S++[s])=(tabs S).more s:=by unfold tabs;rw[List.foldl_append];rfl
def Tab.Ok (t:Tab):Prop:=t.ut.length=t.sz.length/\∀i p,(((t.ut.getD i fun _=>[]) p).map (·.2.1)).sum=t.sz.getD i 0
theorem aDx(f:Nat->List Un3)(m:Nat)(h:∀j,((f j).map (·.2.1)).sum=m):∀n,((((zw n).flatMap f)).map (·.2.1)).sum=n*m
 |0=>by simp
 |n+1=>by
  rw[BU,By,ξ,List.sum_append,aDx f m h n,BB,h n,DC]
theorem Kd.units_sum{t:Tab}(h:t.Ok):∀(k:Kd) (p:Str),((k.units t.sz t.ut p).map (·.2.1)).sum=k.size t.sz
 |.num w,p=>by simp[Kd.units,Kd.size]
 |.nest i,p=>h.2 i p
 |.many n k,p=>aDx _ _ (fun j=>Kd.units_sum h k _) n
 |.pick is,p=>by simp[Kd.units,Kd.size]
theorem pU{t:Tab}(h:t.Ok)(p:Str):∀fs:List (Str×Kd),((fs.flatMap fun f=>f.2.units t.sz t.ut (pj p f.1)).map (·.2.1)).sum=(fs.map fun f=>f.2.size t.sz).sum
 |[]=>rfl
 |f::fs=>by
  rw[DE,ξ,List.sum_append,Kd.units_sum h,pU h p fs,zm,Ba]
theorem Tab.Ok.more{t:Tab}(h:t.Ok)(s:Shp):(t.more s).Ok:=by
 refine⟨by show(t.ut++[_]).length=(t.sz++[_]).length;rw[ι,ι,h.1];rfl,fun i p=>?_⟩;show((((t.ut++[_]).getD i fun _=>[]) p).map (fun u:Un3=>u.2.1)).sum=(t.sz++[_]).getD i 0;rw[Φ,Φ]
 by_cases hi:i<t.ut.length
 ·rw[yr hi,yr (by rw[←h.1];exact hi)];have:=h.2 i p;rw[Φ,Φ]at this;exact this
 ·rw[yb (by omega),yb (by rw[←h.1];omega),←h.1]
  by_cases e:i-t.ut.length=0
  ·rw[e];exact pU h p s.2
  ·obtain⟨n,hn⟩ : ∃n,i-t.ut.length=n+1:=⟨i-t.ut.length-1,by omega⟩;rw[hn];rfl
def Kd.Below (n:Nat):Kd->Prop
 |.num _=>True
 |.nest i=>i<n
 |.many _ k=>k.Below n
 |.pick is=>∀i∈is,i<n
theorem bB{α : Type}{xs ys:List α}{d : α}{i:Nat}(h:i<xs.length):(xs++ys).getD i d=xs.getD i d:=by
 rw[Φ,Φ,yr h]
theorem Kd.Below.mono{n m:Nat}(h:n<=m):∀{k:Kd},k.Below n->k.Below m
 |.num _,_=>Ae
 |.nest i,q=>χ (show i<n from q) h
 |.many _ k,q=>Kd.Below.mono (k:=k) h q
 |.pick is,q=>fun i hi=>χ (q i hi) h
theorem wG{xs ys is:List Nat}(h:∀i∈is,i<xs.length):(is.map fun i=>(xs++ys).getD i 0)=is.map fun i=>xs.getD i 0 :=
 Dc fun i hi=>bB (h i hi)
theorem Kd.size_app{sz more:List Nat}: ∀{k:Kd},k.Below sz.length->k.size (sz++more)=k.size sz
 |.num _,_=>rfl
 |.nest i,q=>bB q
 |.many n k,q=>by show n*_=n*_;rw[Kd.size_app (k:=k) q]
 |.pick is,q=>by show 1+yG _=1+yG _;rw[wG q]
theorem Kd.depth_app{dp more:List Nat}: ∀{k:Kd},k.Below dp.length->k.depth (dp++more)=k.depth dp
 |.num _,_=>rfl
 |.nest i,q=>bB q
 |.many n k,q=>Kd.depth_app (k:=k) q
 |.pick is,q=>by show yG _=yG _;rw[wG q]
theorem Kd.units_app{sz more:List Nat}{ut um:List (Str->List Un3)}(e:ut.length=sz.length):∀{k:Kd},k.Below sz.length->∀p,k.units (sz++more) (ut++um) p=k.units sz ut p
 |.num _,_,_=>rfl
 |.nest i,q,p=>by show((ut++um).getD i _) p=(ut.getD i _) p;rw[bB (by rw[e];exact q)]
 |.many n k,q,p=>by
  show(zw n).flatMap _=(zw n).flatMap _
  congr 1
  funext j
  exact Kd.units_app e (k:=k) q _
 |.pick is,q,p=>by
  show[_,(p,yG _,_)]=[_,(p,yG _,_)];rw[wG q]
theorem fC:∀S:List Shp,(tabs S).sz.length=S.length/\(tabs S).dp.length=S.length/\(tabs S).ut.length=S.length:=fun S=>by
 have:∀(S:List Shp) (t:Tab) (n:Nat),(t.sz.length=n/\t.dp.length=n/\t.ut.length=n)->((S.foldl Tab.more t).sz.length=n+S.length/\(S.foldl Tab.more t).dp.length=n+S.length/\(S.foldl Tab.more t).ut.length=n+S.length):=by
  intro S
  induction S with
  |nil=>intro t n h;exact h
  |cons s S ih =>
   intro t n h;have:=ih (t.more s) (n+1) ⟨by show(t.sz++[_]).length=_;rw[ι,h.1];rfl,by show(t.dp++[_]).length=_;rw[ι,h.2.1];rfl,by show(t.ut++[_]).length=_;rw[ι,h.2.2];rfl⟩;rw[Δ,show n+(S.length+1)=n+1+S.length by omega];exact this
 have h:=this S ⟨[],[],[]⟩ 0 ⟨rfl,rfl,rfl⟩;rw[DG]at h;exact h
theorem aCo(S:List Shp):∀R:List Shp,∃a b c,(tabs (S++R)).sz=(tabs S).sz++a/\(tabs (S++R)).dp=(tabs S).dp++b/\(tabs (S++R)).ut=(tabs S).ut++c:=fun R=>by
 have:∀(R:List Shp) (t:Tab),∃a b c,(R.foldl Tab.more t).sz=t.sz++a/\(R.foldl Tab.more t).dp=t.dp++b/\(R.foldl Tab.more t).ut=t.ut++c:=by
  intro R
  induction R with
  |nil=>intro t;exact⟨[],[],[],by simp,by simp,by simp⟩
  |cons s R ih =>
   intro t;obtain⟨a,b,c,h1,h2,h3⟩:=ih (t.more s);exact⟨[_]++a,[_]++b,[_]++c,h1.trans (zx _ _ _),h2.trans (zx _ _ _),h3.trans (zx _ _ _)⟩
 unfold tabs;rw[List.foldl_append];exact this R _
structure Cl5 where
 num:Addr
 nest:Addr
 many:Addr
 pick:Addr
 shape:Addr
inductive KO (c:Cl5) (K:ω) (H:Hp) (sa:List Addr):Addr->Kd->Prop
 |num {a dx:Addr}{w:Nat} : H a=some (.ins c.num dx [("width",.int w)])->KO c K H sa a (.num w)
 |nest {a dx s:Addr}{i:Nat} : sa[i]?=some s->H a=some (.ins c.nest dx [("shape",.ref s)])->KO c K H sa a (.nest i)
 |many {a dx b:Addr}{n:Nat}{k:Kd} : H a=some (.ins c.many dx [("count",.int n),("kind",.ref b)])->KO c K H sa b k->KO c K H sa a (.many n k)
 |pick {a dx t:Addr}{is:List Nat}{ss:List Addr} : H a=some (.ins c.pick dx [("shapes",.ref t)])->SqT K H t (ss.map V.ref)->ss.length=is.length->(∀(j i:Nat) (s:Addr),is[j]?=some i->ss[j]?=some s->sa[i]?=some s)->KO c K H sa a (.pick is)
theorem KO.same{K:ω}(h:KO c K H sa a k)(g:jF H H'):KO c K H' sa a k:=by
 induction h with
 |num h=>exact .num (g _ _ h)
 |nest e h=>exact .nest e (g _ _ h)
 |many h _ ih=>exact .many (g _ _ h) ih
 |pick h t l e=>exact .pick (g _ _ h) (g.tp t) l e
theorem wL{sa more:List Addr}{i:Nat}(h:sa[i]?=some s):(sa++more)[i]?=some s:=by
 rw[yr (θ.mp h).1];exact h
theorem KO.more{K:ω}(h:KO c K H sa a k)(more:List Addr):KO c K H (sa++more) a k:=by
 induction h with
 |num h=>exact .num h
 |nest e h=>exact .nest (wL e) h
 |many h _ ih=>exact .many h ih
 |pick h t l e=>exact .pick h t l fun j i s h1 h2=>wL (e j i s h1 h2)
theorem KO.ahead{K:ω}(h:KO c K H sa a k):k.Below sa.length:=by
 induction h with
 |num h=>exact Ae
 |nest e h=>exact(θ.mp e).1
 |many h _ ih=>exact ih
 | @pick a dx t is ss h t' l e =>
  intro i hi;obtain⟨j,hj⟩:=Ai.mp hi;have hj1:j<is.length:=(θ.mp hj).1;exact(θ.mp (e j i _ hj (η (by omega)))).1
inductive FO (c:Cl5) (K:ω) (H:Hp) (sa:List Addr):List Addr->List (Str×Kd)->Prop
 |nil:FO c K H sa [] []
 |cons {p k:Addr}{ps:List Addr}{nm:Str}{kd:Kd}{fs:List (Str×Kd)} : SqT K H p [.str nm,.ref k]->KO c K H sa k kd->FO c K H sa ps fs->FO c K H sa (p::ps) ((nm,kd)::fs)
theorem FO.same{K:ω}(h:FO c K H sa ps fs)(g:jF H H'):FO c K H' sa ps fs:=by
 induction h with
 |nil=>exact .nil
 |cons t k _ ih=>exact .cons (g.tp t) (k.same g) ih
theorem FO.len{K:ω}(h:FO c K H sa ps fs):ps.length=fs.length:=by
 induction h with
 |nil=>rfl
 |cons _ _ _ ih=>rw[Δ,Δ,ih]
theorem FO.snoc{K:ω}(h:FO c K H sa ps fs)(t:SqT K H p [.str nm,.ref k])(hk:KO c K H sa k kd):FO c K H sa (ps++[p]) (fs++[(nm,kd)]):=by
 induction h with
 |nil=>exact .cons t hk .nil
 |cons t' k' _ ih=>exact .cons t' k' ih
theorem FO.get{K:ω}(h:FO c K H sa ps fs):∀{i:Nat}{p:Addr},ps[i]?=some p->∃nm kd k,fs[i]?=some (nm,kd)/\SqT K H p [.str nm,.ref k]/\KO c K H sa k kd:=by
 induction h with
 |nil=>intro i p e;simp at e
 |cons t k _ ih =>
  intro i p e;cases i with
  |zero=>cases e;exact⟨_,_,_,rfl,t,k⟩
  |succ i=>exact ih e
def SO (c:Cl5) (K:ω) (H:Hp) (sa:List Addr) (a:Addr) (s:Shp):Prop:=∃dx t ps,H a=some (.ins c.shape dx [("name",.str s.1),("fields",.ref t)])/\SqT K H t (ps.map V.ref)/\FO c K H sa ps s.2
theorem SO.same{K:ω}(h:SO c K H sa a s)(g:jF H H'):SO c K H' sa a s:=by
 obtain⟨dx,t,ps,h1,h2,h3⟩:=h;exact⟨dx,t,ps,g _ _ h1,g.tp h2,h3.same g⟩
def SW (c:Cl5) (K:ω) (H:Hp) (sa:List Addr) (S:List Shp):Prop:=sa.length=S.length/\∀(i:Nat) (a:Addr) (s:Shp),sa[i]?=some a->S[i]?=some s->SO c K H (sa.take i) a s
theorem SW.same{K:ω}(h:SW c K H sa S)(g:jF H H'):SW c K H' sa S:=⟨h.1,fun i a s h1 h2=>(h.2 i a s h1 h2).same g⟩
theorem SW.nil{K:ω}: SW c K H [] []:=⟨rfl,fun i a s h _=>by simp at h⟩
theorem SW.snoc{K:ω}(h:SW c K H sa S)(x:SO c K H sa a s):SW c K H (sa++[a]) (S++[s]):=by
 have hl:sa.length=S.length:=h.1;refine⟨by rw[ι,ι,h.1];rfl,fun i b u h1 h2=>?_⟩
 by_cases hi:i<sa.length
 ·rw[yr hi]at h1;rw[yr (by rw[←h.1];exact hi)]at h2;rw[List.take_append_of_le_length (by omega)];exact h.2 i b u h1 h2
 ·have hi2:i<(sa++[a]).length:=(θ.mp h1).1;have e:i=sa.length:=by rw[ι,zk]at hi2;omega
  subst e;rw[yb (μ _),AA]at h1;rw[yb (by omega),show sa.length-S.length=0 by omega]at h2;cases h1;cases h2;rw[List.take_left' rfl];exact x
inductive LK (K:ω) (H:Hp):Addr->Kd->Prop
 |num {a:Addr}{w:Nat} : SqT K H a [.str (ε "num"),.int w]->LK K H a (.num w)
 |nest {a:Addr}{i:Nat} : SqT K H a [.str (ε "shape"),.int i]->LK K H a (.nest i)
 |many {a b:Addr}{n:Nat}{k:Kd} : SqT K H a [.str (ε "row"),.int n,.ref b]->LK K H b k->LK K H a (.many n k)
 |pick {a l:Addr}{is:List Nat} : SqT K H a [.str (ε "pick"),.ref l]->SqL K H l (is.map fun (i:Nat)=>V.int i)->LK K H a (.pick is)
theorem LK.same{K:ω}(h:LK K H a k)(g:jF H H'):LK K H' a k:=by
 induction h with
 |num h=>exact .num (g.tp h)
 |nest h=>exact .nest (g.tp h)
 |many h _ ih=>exact .many (g.tp h) ih
 |pick h l=>exact .pick (g.tp h) (g.seq l)
inductive LF (K:ω) (H:Hp):List Addr->List (Str×Kd)->Prop
 |nil:LF K H [] []
 |cons {p k:Addr}{ps:List Addr}{nm:Str}{kd:Kd}{fs:List (Str×Kd)} : SqT K H p [.str nm,.ref k]->LK K H k kd->LF K H ps fs->LF K H (p::ps) ((nm,kd)::fs)
theorem LF.same{K:ω}(h:LF K H ps fs)(g:jF H H'):LF K H' ps fs:=by
 induction h with
 |nil=>exact .nil
 |cons t k _ ih=>exact .cons (g.tp t) (k.same g) ih
theorem LF.len{K:ω}(h:LF K H ps fs):ps.length=fs.length:=by
 induction h with
 |nil=>rfl
 |cons _ _ _ ih=>rw[Δ,Δ,ih]
theorem LF.snoc{K:ω}(h:LF K H ps fs)(t:SqT K H p [.str nm,.ref k])(hk:LK K H k kd):LF K H (ps++[p]) (fs++[(nm,kd)]):=by
 induction h with
 |nil=>exact .cons t hk .nil
 |cons t' k' _ ih=>exact .cons t' k' ih
theorem LF.get{K:ω}(h:LF K H ps fs):∀{i:Nat}{p:Addr},ps[i]?=some p->∃nm kd k,fs[i]?=some (nm,kd)/\SqT K H p [.str nm,.ref k]/\LK K H k kd:=by
 induction h with
 |nil=>intro i p e;simp at e
 |cons t k _ ih =>
  intro i p e;cases i with
  |zero=>cases e;exact⟨_,_,_,rfl,t,k⟩
  |succ i=>exact ih e
def LS (K:ω) (H:Hp) (a:Addr) (s:Shp):Prop:=∃l ps,SqT K H a [.str s.1,.ref l]/\SqL K H l (ps.map V.ref)/\LF K H ps s.2
theorem LS.same{K:ω}(h:LS K H a s)(g:jF H H'):LS K H' a s:=by
 obtain⟨l,ps,h1,h2,h3⟩:=h;exact⟨l,ps,g.tp h1,g.seq h2,h3.same g⟩
inductive LW (K:ω) (H:Hp):List Addr->List Shp->Prop
 |nil:LW K H [] []
 |cons {a:Addr}{as:List Addr}{s:Shp}{S:List Shp} : LS K H a s->LW K H as S->LW K H (a::as) (s::S)
theorem LW.same{K:ω}(h:LW K H as S)(g:jF H H'):LW K H' as S:=by
 induction h with
 |nil=>exact .nil
 |cons t _ ih=>exact .cons (t.same g) ih
theorem LW.len{K:ω}(h:LW K H as S):as.length=S.length:=by
 induction h with
 |nil=>rfl
 |cons _ _ ih=>rw[Δ,Δ,ih]
theorem LW.snoc{K:ω}(h:LW K H as S)(x:LS K H a s):LW K H (as++[a]) (S++[s]):=by
 induction h with
 |nil=>exact .cons x .nil
 |cons t _ ih=>exact .cons t ih
theorem LW.get{K:ω}(h:LW K H as S):∀{i:Nat}{a:Addr},as[i]?=some a->∃s,S[i]?=some s/\LS K H a s:=by
 induction h with
 |nil=>intro i a e;simp at e
 |cons t _ ih =>
  intro i a e;cases i with
  |zero=>cases e;exact⟨_,rfl,t⟩
  |succ i=>exact ih e
abbrev spS:Str:=⟨#[32]⟩
abbrev nlS:Str:=⟨#[10]⟩
def Kd.words (nm:Nat->Str):Kd->List Str
 |.num w=>[ε "num",ε (toString (w:Int))]
 |.nest i=>[nm i]
 |.many n k=>ε "row" :: ε (toString (n:Int))::k.words nm
 |.pick is=>ε "pick" :: is.map nm
theorem Kd.words_ne(nm:Nat->Str):∀k:Kd,k.words nm≠[]
 |.num _=>by simp[Kd.words]
 |.nest _=>by simp[Kd.words]
 |.many _ _=>by simp[Kd.words]
 |.pick _=>by simp[Kd.words]
def kO (S:List Shp) (i:Nat):Str:=(S.getD i (Str.empty,[])).1
def aGx (nm:Nat->Str) (s:Shp):List (List Str):=[ε "shape",s.1]::s.2.map fun f=>f.1::f.2.words nm
def pQ (S:List Shp):List (List Str):=S.flatMap (aGx (kO S))
def Pln (w:Str):Prop:=32∉w.cps.toList/\10∉w.cps.toList
theorem aHd{c d:Nat}(ne:d≠c):∀{ps:List (List Nat)},(∀p∈ps,d∉p)->d∉jn c ps
 |[],_=>by simp[jn]
 |[p],h=>h p (τ.mpr rfl)
 |p::q::r,h=>by
  have ih:=aHd ne (ps:=q::r) fun x hx=>h x (yc _ hx);have hp:=h p (Ψ ..);show d∉p++c::jn c (q::r);simp only[za,ς,not_or];exact⟨hp,ne,ih⟩
theorem aFk{ws:List Str}(hne:ws≠[])(h:∀w∈ws,Pln w):zv (yd spS ws) spS=ws:=yZ hne fun w hw=>(h w hw).1
theorem aCa{ls:List (List Str)}(hne:ls≠[])(h:∀l∈ls,∀w∈l,Pln w):zv (yd nlS (ls.map (yd spS))) nlS=ls.map (yd spS):=by
 refine yZ (by simpa using hne) fun y hy=>?_;obtain⟨l,hl,rfl⟩:=yj.mp hy;rw[pO];refine aHd (by decide) fun p hp=>?_;obtain⟨w,hw,rfl⟩:=yj.mp hp;exact(h l hl w hw).2
theorem aL{y:Str}{ys:List Str}(h:ys≠[]):yd sep (y::ys)=y++sep++yd sep ys:=by
 cases ys with
 |nil=>exact absurd rfl h
 |cons z zs=>rfl
theorem aGa{n:Nat}(h:n<=9):Pln (ε (toString (n:Int))):=by
 have:∀m:Fin 10,Pln (ε (toString ((m.val:Nat):Int))):=by
  intro m;unfold Pln;revert m;ac_rfl
 exact this ⟨n,by omega⟩
def Kd.Fit (n:Nat):Kd->Prop
 |.num w=>1<=w/\w<=4
 |.nest i=>i<n
 |.many m k=>1<=m/\m<=6/\((∃w,k=.num w/\1<=w/\w<=4)\/∃i,k=.nest i/\i<n)
 |.pick is=>2<=is.length/\is.length<=4/\is.Nodup/\∀i∈is,i<n
theorem Kd.Fit.below : ∀{k:Kd},k.Fit n->k.Below n
 |.num _,_=>Ae
 |.nest _,h=>h
 |.many _ k,h=>by
  rcases h.2.2 with⟨w,rfl,_⟩|⟨i,rfl,hi⟩
  ·exact Ae
  ·exact hi
 |.pick _,h=>h.2.2.2
theorem Kd.Fit.plain{n:Nat}{nm:Nat->Str}(hnm:∀i,i<n->Pln (nm i)):∀{k:Kd},k.Fit n->∀w∈k.words nm,Pln w:=by
 have hnum:∀w:Nat,1<=w/\w<=4->∀x∈(Kd.num w).words nm,Pln x:=fun w hw x hx=>by
  simp only[Kd.words,ς,Ω,or_false]at hx;rcases hx with rfl|rfl
  ·unfold Pln;ac_rfl
  ·exact aGa (by omega)
 intro k h;cases k with
 |num w=>exact hnum w h
 |nest i =>
  intro x hx;rw[τ.mp (show x∈[nm i] from hx)];exact hnm i h
 |many m k =>
  intro x hx;simp only[Kd.words,ς]at hx;rcases hx with rfl|rfl|hx
  ·unfold Pln;ac_rfl
  ·exact aGa (by have:=h.2.1;omega)
  ·rcases h.2.2 with⟨w,rfl,hw⟩|⟨i,rfl,hi⟩
   ·exact hnum w hw x hx
   ·rw[τ.mp (show x∈[nm i] from hx)];exact hnm i hi
 |pick is =>
  intro x hx;simp only[Kd.words,ς,yj]at hx;rcases hx with rfl|⟨i,hi,rfl⟩
  ·unfold Pln;ac_rfl
  ·exact hnm i (h.2.2.2 i hi)
def Kd.Rk (r:Nat):Kd->Prop
 |.num _=>True
 |.nest i=>2*i+2<=r
 |.many _ k=>(∃w,k=.num w/\1<=r)\/∃i,k=.nest i/\2*i+3<=r
 |.pick is=>∀i∈is,2*i+3<=r
theorem Kd.Fit.rk : ∀{k:Kd},k.Fit n->k.Rk (2*n+1)
 |.num _,_=>Ae
 |.nest i,h=>by have:i<n:=h;show 2*i+2<=2*n+1;omega
 |.many m k,h=>by
  rcases h.2.2 with⟨w,e,_⟩|⟨i,e,hi⟩
  ·exact .inl ⟨w,e,by omega⟩
  ·exact .inr ⟨i,e,by omega⟩
 |.pick is,h=>fun i hi=>by have:=h.2.2.2 i hi;omega
theorem Kd.Rk.mono{r q:Nat}(h:r<=q):∀{k:Kd},k.Rk r->k.Rk q
 |.num _,_=>Ae
 |.nest i,g=>yo (show 2*i+2<=r from g) h
 |.many m k,g=>by
  rcases g with⟨w,e,hw⟩|⟨i,e,hi⟩
  ·exact .inl ⟨w,e,by omega⟩
  ·exact .inr ⟨i,e,by omega⟩
 |.pick is,g=>fun i hi=>yo (g i hi) h
theorem Kd.Fit.mono{n m:Nat}(h:n<=m):∀{k:Kd},k.Fit n->k.Fit m
 |.num _,g=>g
 |.nest i,g=>χ (show i<n from g) h
 |.many _ k,g=>⟨g.1,g.2.1,by
  rcases g.2.2 with g|⟨i,e,hi⟩
  ·exact .inl g
  ·exact .inr ⟨i,e,by omega⟩⟩
 |.pick is,g=>⟨g.1,g.2.1,g.2.2.1,fun i hi=>χ (g.2.2.2 i hi) h⟩
structure Good (S:List Shp):Prop where
 ne:∀(i:Nat) (s:Shp),S[i]?=some s->s.2≠[]
 few:∀(i:Nat) (s:Shp),S[i]?=some s->s.2.length<=6
 fit:∀(i:Nat) (s:Shp),S[i]?=some s->∀f∈s.2,f.2.Fit i/\1<=f.1.length/\f.1.length<=6
 sz:∀i:Nat,(tabs S).sz.getD i 0<=1000
theorem aCq{α : Type}{S:List α}{i:Nat}{s : α}(h:S[i]?=some s):S=S.take i++s::S.drop (i+1)/\(S.take i).length=i:=by
 obtain⟨hi,e⟩:=θ.mp h;refine⟨?_,by rw[yh];omega⟩
 conv=>lhs;rw[←BN i S]
 rw[CV hi,e]
theorem sA{α : Type}{xs zs:List α}{y d : α}: (xs++y::zs).getD xs.length d=y:=by
 rw[Φ,yb (μ _),AA];rfl
theorem bR{S R:List Shp}{i:Nat}(h:i<S.length):(tabs (S++R)).sz.getD i 0=(tabs S).sz.getD i 0/\(tabs (S++R)).dp.getD i 0=(tabs S).dp.getD i 0/\((tabs (S++R)).ut.getD i fun _=>[])=(tabs S).ut.getD i fun _=>[]:=by
 obtain⟨a,b,c,e1,e2,e3⟩:=aCo S R;obtain⟨l1,l2,l3⟩:=fC S;rw[e1,e2,e3];exact⟨bB (by omega),bB (by omega),bB (by omega)⟩
theorem bN(S:List Shp)(s:Shp)(R:List Shp):(tabs (S++s::R)).sz.getD S.length 0=(s.2.map fun f=>f.2.size (tabs S).sz).sum/\(tabs (S++s::R)).dp.getD S.length 0=1+yG (s.2.map fun f=>f.2.depth (tabs S).dp)/\∀p,((tabs (S++s::R)).ut.getD S.length fun _=>[]) p=s.2.flatMap fun f=>f.2.units (tabs S).sz (tabs S).ut (pj p f.1):=by
 have e:S++s::R=(S++[s])++R:=by rw[zx];rfl
 obtain⟨h1,h2,h3⟩:=bR (S:=S++[s]) (R:=R) (i:=S.length) (by rw[ι];exact CQ _);obtain⟨l1,l2,l3⟩:=fC S;rw[e,h1,h2,h3,aIl];refine⟨?_,?_,fun p=>?_⟩
 ·show((tabs S).sz++[_]).getD _ _=_;rw[←l1,sA]
 ·show((tabs S).dp++[_]).getD _ _=_;rw[←l2,sA]
 ·show((tabs S).ut++[_]).getD _ _ p=_;rw[←l3,sA]
theorem Kd.tab_lo{S R:List Shp}{k:Kd}(h:k.Below S.length):k.size (tabs (S++R)).sz=k.size (tabs S).sz/\k.depth (tabs (S++R)).dp=k.depth (tabs S).dp/\∀p,k.units (tabs (S++R)).sz (tabs (S++R)).ut p=k.units (tabs S).sz (tabs S).ut p:=by
 obtain⟨a,b,c,e1,e2,e3⟩:=aCo S R;obtain⟨l1,l2,l3⟩:=fC S;rw[e1,e2,e3];exact⟨Kd.size_app (by rw[l1];exact h),Kd.depth_app (by rw[l2];exact h),fun p=>Kd.units_app (by omega) (by rw[l1];exact h) p⟩
theorem aDs{α β : Type}{f g : α->List β}: ∀{xs:List α},(∀x∈xs,f x=g x)->xs.flatMap f=xs.flatMap g
 |[],_=>rfl
 |x::xs,h=>by rw[DE,DE,h x (Ψ ..),aDs fun y hy=>h y (yc _ hy)]
theorem sG{S:List Shp}{i:Nat}(h:S[i]?=some s)(hF:∀f∈s.2,f.2.Below i):(tabs S).sz.getD i 0=(s.2.map fun f=>f.2.size (tabs S).sz).sum/\(tabs S).dp.getD i 0=1+yG (s.2.map fun f=>f.2.depth (tabs S).dp)/\∀p,((tabs S).ut.getD i fun _=>[]) p=s.2.flatMap fun f=>f.2.units (tabs S).sz (tabs S).ut (pj p f.1):=by
 obtain⟨e,hl⟩:=aCq h;generalize S.take i=A at e hl;generalize S.drop (i+1)=B at e;subst e;subst hl;obtain⟨h1,h2,h3⟩:=bN A s B;have q:=fun f hf=>Kd.tab_lo (R:=s::B) (hF f hf);refine⟨?_,?_,fun p=>?_⟩
 ·rw[h1,Dc fun f hf=>(q f hf).1]
 ·rw[h2,Dc fun f hf=>(q f hf).2.1]
 ·rw[h3 p,aDs fun f hf=>(q f hf).2.2 _]
theorem Kd.units_len{sz:List Nat}{ut:List (Str->List Un3)}{n:Nat}(h:∀i,i<n->1<=sz.getD i 0/\∀p,((ut.getD i fun _=>[]) p).length<=sz.getD i 0):∀{k:Kd},k.Fit n->1<=k.size sz/\∀p,(k.units sz ut p).length<=k.size sz:=by
 have hn:∀w,1<=w->1<=(Kd.num w).size sz/\∀p,((Kd.num w).units sz ut p).length<=(Kd.num w).size sz:=fun w hw=>⟨hw,fun p=>hw⟩;intro k hk;cases k with
 |num w=>exact hn w hk.1
 |nest i=>exact h i hk
 |many m k =>
  have hs : 1<=k.size sz/\∀p,(k.units sz ut p).length<=k.size sz:=by
   rcases hk.2.2 with⟨w,rfl,hw,_⟩|⟨i,rfl,hi⟩
   ·exact hn w hw
   ·exact h i hi
  refine⟨Nat.mul_pos hk.1 hs.1,fun p=>?_⟩;show((zw m).flatMap _).length<=m*_;have:∀m,((zw m).flatMap fun j=>k.units sz ut (pj p (ε (toString j)))).length<=m*k.size sz:=by
   intro m
   induction m with
   |zero=>exact yq _
   |succ m ih =>
    rw[BU,By,ι,BB,DC];exact Nat.add_le_add ih (hs.2 _)
  exact this m
 |pick is =>
  refine⟨by show 1<=1+_;omega,fun p=>?_⟩;show 2<=1+yG _;cases is with
  |nil=>exact absurd hk.1 (by decide)
  |cons i r =>
   have:=(h i (hk.2.2.2 i (Ψ ..))).1;have g:=pL (n:=sz.getD i 0) (xs:=(i::r).map fun i=>sz.getD i 0) (Ψ ..);omega
theorem iN(p:Str):∀{fs:List (Str×Kd)},(∀f∈fs,1<=f.2.size sz/\∀p,(f.2.units sz ut p).length<=f.2.size sz)->(fs.flatMap fun f=>f.2.units sz ut (pj p f.1)).length<=(fs.map fun f=>f.2.size sz).sum/\fs.length<=(fs.map fun f=>f.2.size sz).sum
 |[],_=>⟨μ _,μ _⟩
 |f::fs,h=>by
  have ih:=iN p (fs:=fs) fun g hg=>h g (yc _ hg);have h0:=h f (Ψ ..);rw[DE,ι,zm,Ba,Δ];exact⟨Nat.add_le_add (h0.2 _) ih.1,by omega⟩
theorem Good.len(h:Good S):∀n i,i<n->i<S.length->1<=(tabs S).sz.getD i 0/\∀p,(((tabs S).ut.getD i fun _=>[]) p).length<=(tabs S).sz.getD i 0
 |0,i,hi,_=>absurd hi (Ar _)
 |n+1,i,hi,hl=>by
  have hs:S[i]?=some S[i]:=η hl;have hF:=h.fit i _ hs;obtain⟨e1,e2,e3⟩:=sG hs fun f hf=>(hF f hf).1.below;have q:∀f∈S[i].2,1<=f.2.size (tabs S).sz/\∀p,(f.2.units (tabs S).sz (tabs S).ut p).length<=f.2.size (tabs S).sz:=fun f hf =>
   Kd.units_len (fun j hj=>Good.len h n j (by omega) (by omega)) (hF f hf).1
  have hne:=h.ne i _ hs;have : 1<=S[i].2.length:=by
   cases e:S[i].2 with
   |nil=>exact absurd e hne
   |cons _ _=>exact CU (yq _)
  refine⟨?_,fun p=>?_⟩
  ·rw[e1];exact yo this (iN Str.empty q).2
  ·rw[e1,e3 p];exact(iN p q).1
theorem Good.kd(h:Good S){k:Kd}(hk:k.Fit S.length): 1<=k.size (tabs S).sz/\∀p,(k.units (tabs S).sz (tabs S).ut p).length<=k.size (tabs S).sz:=Kd.units_len (fun j hj=>h.len S.length j hj hj) hk
theorem lP{m:Nat}: ∀{xs:List Nat},(∀x∈xs,x<=m)->yG xs<=m
 |[],_=>yq _
 |x::xs,h=>Nat.max_le.mpr ⟨h x (Ψ ..),lP fun y hy=>h y (yc _ hy)⟩
theorem Kd.size_bd{sz:List Nat}{m:Nat}(h:∀i,sz.getD i 0<=m)(hm : 4<=m):∀{k:Kd},k.Fit n->k.size sz<=6*m
 |.num w,hk=>by have:=hk.2;show w<=_;omega
 |.nest i,_=>by have:=h i;show sz.getD i 0<=_;omega
 |.many c k,hk=>by
  have:k.size sz<=m:=by
   rcases hk.2.2 with⟨w,rfl,_,hw⟩|⟨i,rfl,hi⟩
   ·show w<=m;omega
   ·exact h i
  exact Nat.mul_le_mul hk.2.1 this
 |.pick is,_=>by
  have:yG (is.map fun i=>sz.getD i 0)<=m:=lP fun x hx=>by obtain⟨i,_,rfl⟩:=yj.mp hx;exact h i
  show 1+_<=_;omega
def Kd.parts (S:List Shp):Kd->List (Str×Kd)
 |.nest i=>(S.getD i (Str.empty,[])).2
 |.many n k=>(zw n).map fun j=>(ε (toString j),k)
 |_=>[]
theorem Kd.parts_units(h:Good S){k:Kd}(hk:k.Fit S.length)(hs:(∃i,k=.nest i)\/∃n q,k=.many n q)(p:Str):k.units (tabs S).sz (tabs S).ut p=(k.parts S).flatMap fun f=>f.2.units (tabs S).sz (tabs S).ut (pj p f.1):=by
 rcases hs with⟨i,rfl⟩|⟨n,q,rfl⟩
 ·have hi:i<S.length:=hk;have hs:S[i]?=some S[i]:=η hi;have e:(Kd.nest i).parts S=S[i].2:=by show(S.getD i _).2=_;rw[Φ,hs];rfl
  rw[e];exact(sG hs fun f hf=>((h.fit i _ hs) f hf).1.below).2.2 p
 ·show(zw n).flatMap _=((zw n).map _).flatMap _;rw[List.flatMap_map]
def Kd.isNum:Kd->Bool
 |.num _=>true
 |_=>false
def Kd.isNest:Kd->Bool
 |.nest _=>true
 |_=>false
def Kd.isMany:Kd->Bool
 |.many _ _=>true
 |_=>false
def Kd.isPick:Kd->Bool
 |.pick _=>true
 |_=>false
def aIb (m:Str):Prop:=∀v w:V,[(("width" : Str),v)].lookup m=none/\[(("shape" : Str),v)].lookup m=none/\[(("count" : Str),v),(("kind" : Str),w)].lookup m=none/\[(("shapes" : Str),v)].lookup m=none
def spV (c:Cl5) (K:ω) (r:Nat) (F:Kd->Bool) (val:Kd->Tab->Nat):Sp:=fun vs H Q _=>∃(a:Addr) (kd:Kd) (sa:List Addr) (S:List Shp),vs=[.ref a]/\F kd=true/\kd.Rk r/\kd.Fit S.length/\KO c K H sa a kd/\SW c K H sa S/\Good S/\∀H',jF H H'->Q (.int (val kd (tabs S))) H'
def TV (c:Cl5) (K:ω) (r:Nat) (val:Kd->Tab->Nat):Addr->Sp->Prop:=fun C sp=>(C=c.num/\sp=spV c K r Kd.isNum val)\/(C=c.nest/\sp=spV c K r Kd.isNest val)\/(C=c.many/\sp=spV c K r Kd.isMany val)\/(C=c.pick/\sp=spV c K r Kd.isPick val)
theorem aHm{K:ω}{val:Kd->Tab->Nat}{H:Hp}{kd:Kd}{S:List Shp}{Q:VK}{E:XK}(hm:aIb m)(hr:kd.Rk r)(hf:kd.Fit S.length)(ho:KO c K H sa a kd)(hw:SW c K H sa S)(hg:Good S)
  (q:∀H',jF H H'->Q (.int (val kd (tabs S))) H'):∃a' C dx fs sp,V.ref a=.ref a'/\H a'=some (.ins C dx fs)/\fs.lookup m=none/\TV c K r val C sp/\sp [.ref a] H Q E:=by
 cases id ho with
 |num h=>exact⟨_,_,_,_,_,rfl,h,(hm _ .non).1,.inl ⟨rfl,rfl⟩,a,_,sa,S,rfl,rfl,hr,hf,ho,hw,hg,q⟩
 |nest e h=>exact⟨_,_,_,_,_,rfl,h,(hm _ .non).2.1,.inr (.inl ⟨rfl,rfl⟩),a,_,sa,S,rfl,rfl,hr,hf,ho,hw,hg,q⟩
 |many h _=>exact⟨_,_,_,_,_,rfl,h,(hm _ _).2.2.1,.inr (.inr (.inl ⟨rfl,rfl⟩)),a,_,sa,S,rfl,rfl,hr,hf,ho,hw,hg,q⟩
 |pick h _ _ _=>exact⟨_,_,_,_,_,rfl,h,(hm _ .non).2.2.2,.inr (.inr (.inr ⟨rfl,rfl⟩)),a,_,sa,S,rfl,rfl,hr,hf,ho,hw,hg,q⟩
inductive aGv (c:Cl5) (K:ω) (r:Nat) (val:Nat->Tab->Nat) (vs:List V) (H:Hp) (Q:VK):Prop|mk:∀(a:Addr) (i:Nat) (sa:List Addr) (S:List Shp),vs=[.ref a]->sa[i]?=some a->2*i+1<=r->SW c K H sa S->Good S->(∀H',jF H H'->Q (.int (val i (tabs S))) H')->aGv c K r val vs H Q
def nW (c:Cl5) (K:ω) (r:Nat) (val:Nat->Tab->Nat):Sp:=fun vs H Q _=>aGv c K r val vs H Q
inductive UR (K:ω) (H:Hp):List Addr->List Un3->Prop
 |nil:UR K H [] []
 |cons {t:Addr}{ts:List Addr}{u:Un3}{us:List Un3} : SqT K H t [.str u.1,.int u.2.1,.str u.2.2]->UR K H ts us->UR K H (t::ts) (u::us)
theorem UR.same{K:ω}(h:UR K H ts us)(g:jF H H'):UR K H' ts us:=by
 induction h with
 |nil=>exact .nil
 |cons t _ ih=>exact .cons (g.tp t) ih
theorem UR.len{K:ω}(h:UR K H ts us):ts.length=us.length:=by
 induction h with
 |nil=>rfl
 |cons _ _ ih=>rw[Δ,Δ,ih]
theorem UR.app{K:ω}(h:UR K H ts us)(h':UR K H ts' us'):UR K H (ts++ts') (us++us'):=by
 induction h with
 |nil=>exact h'
 |cons t _ ih=>exact .cons t ih
theorem UR.get{K:ω}(h:UR K H ts us):∀{i:Nat}{t:Addr},ts[i]?=some t->∃u,us[i]?=some u/\SqT K H t [.str u.1,.int u.2.1,.str u.2.2]:=by
 induction h with
 |nil=>intro i t e;simp at e
 |cons t _ ih =>
  intro i a e;cases i with
  |zero=>cases e;exact⟨_,rfl,t⟩
  |succ i=>exact ih e
theorem UR.but{K:ω}{H:Hp}(h:UR K H ts us)(g:But l H H')(hl:H l=some (.lst zs)):UR K H' ts us:=by
 induction h with
 |nil=>exact .nil
 |cons t _ ih=>exact .cons (g.tup hl t) ih
def UL (K:ω) (H:Hp) (l:Addr) (us:List Un3):Prop:=∃ts:List Addr,H l=some (.lst (ts.map V.ref))/\UR K H ts us
abbrev un (kd:Kd) (S:List Shp) (p:Str):List Un3:=kd.units (tabs S).sz (tabs S).ut p
theorem Kd.parts_un(h:Good S){k:Kd}(hk:k.Fit S.length)(hs:(∃i,k=.nest i)\/∃n q,k=.many n q){p:Str}: un k S p=(k.parts S).flatMap fun f=>un f.2 S (pj p f.1):=Kd.parts_units h hk hs p
def spU (c:Cl5) (K:ω) (r:Nat) (F:Kd->Bool):Sp:=fun vs H Q _=>∃(a:Addr) (p:Str) (kd:Kd) (sa:List Addr) (S:List Shp),vs=[.ref a,.str p]/\p.length+8*r<=200/\F kd=true/\kd.Rk r/\kd.Fit S.length/\KO c K H sa a kd/\SW c K H sa S/\Good S ∧
 ∀l H',jF H H'->H l=none->UL K H' l (un kd S p)->Q (.ref l) H'
def TU (c:Cl5) (K:ω) (r:Nat):Addr->Sp->Prop:=fun C sp=>(C=c.num/\sp=spU c K r Kd.isNum)\/(C=c.nest/\sp=spU c K r Kd.isNest)\/(C=c.many/\sp=spU c K r Kd.isMany)\/(C=c.pick/\sp=spU c K r Kd.isPick)
theorem kdU{K:ω}{H:Hp}{kd:Kd}{S:List Shp}(hm:aIb m)(hr:kd.Rk r)(hf:kd.Fit S.length)(ho:KO c K H sa a kd)(hw:SW c K H sa S)(hg:Good S):
  ∃C dx fs sp,H a=some (.ins C dx fs)/\fs.lookup m=none/\TU c K r C sp/\∀(p:Str) (Q:VK) (E:XK),p.length+8*r<=200->(∀l H',jF H H'->H l=none->UL K H' l (un kd S p)->Q (.ref l) H')->sp [.ref a,.str p] H Q E:=by
 cases id ho with
 |num h=>exact⟨_,_,_,_,h,(hm _ .non).1,.inl ⟨rfl,rfl⟩,fun p Q E hp q=>⟨a,p,_,sa,S,rfl,hp,rfl,hr,hf,ho,hw,hg,q⟩⟩
 |nest e h=>exact⟨_,_,_,_,h,(hm _ .non).2.1,.inr (.inl ⟨rfl,rfl⟩),fun p Q E hp q=>⟨a,p,_,sa,S,rfl,hp,rfl,hr,hf,ho,hw,hg,q⟩⟩
 |many h _=>exact⟨_,_,_,_,h,(hm _ _).2.2.1,.inr (.inr (.inl ⟨rfl,rfl⟩)),fun p Q E hp q=>⟨a,p,_,sa,S,rfl,hp,rfl,hr,hf,ho,hw,hg,q⟩⟩
 |pick h _ _ _=>exact⟨_,_,_,_,h,(hm _ .non).2.2.2,.inr (.inr (.inr ⟨rfl,rfl⟩)),fun p Q E hp q=>⟨a,p,_,sa,S,rfl,hp,rfl,hr,hf,ho,hw,hg,q⟩⟩
inductive PR (c:Cl5) (K:ω) (H:Hp) (sa:List Addr):List Addr->List (Str×Kd)->Prop
 |nil:PR c K H sa [] []
 |cons {t k:Addr}{x:V}{y:Str}{kd:Kd}{ts:List Addr}{ps:List (Str×Kd)} : SqT K H t [x,.ref k]->aEg x=some y->KO c K H sa k kd->PR c K H sa ts ps->PR c K H sa (t::ts) ((y,kd)::ps)
theorem PR.same{K:ω}(h:PR c K H sa ts ps)(g:jF H H'):PR c K H' sa ts ps:=by
 induction h with
 |nil=>exact .nil
 |cons t x k _ ih=>exact .cons (g.tp t) x (k.same g) ih
theorem PR.len{K:ω}(h:PR c K H sa ts ps):ts.length=ps.length:=by
 induction h with
 |nil=>rfl
 |cons _ _ _ _ ih=>rw[Δ,Δ,ih]
theorem PR.snoc{K:ω}{x:V}(h:PR c K H sa ts ps)(t1:SqT K H t [x,.ref k])(h2:aEg x=some y)(h3:KO c K H sa k kd):PR c K H sa (ts++[t]) (ps++[(y,kd)]):=by
 induction h with
 |nil=>exact .cons t1 h2 h3 .nil
 |cons t x k _ ih=>exact .cons t x k ih
theorem PR.get{K:ω}(h:PR c K H sa ts ps):∀{i:Nat}{t:Addr},ts[i]?=some t->∃x y kd k,ps[i]?=some (y,kd)/\SqT K H t [x,.ref k]/\aEg x=some y/\KO c K H sa k kd:=by
 induction h with
 |nil=>intro i t e;simp at e
 |cons t x k _ ih =>
  intro i a e;cases i with
  |zero=>cases e;exact⟨_,_,_,_,rfl,t,x,k⟩
  |succ i=>exact ih e
theorem FO.parts{K:ω}(h:FO c K H sa ps fs)(more:List Addr):PR c K H (sa++more) ps fs:=by
 induction h with
 |nil=>exact .nil
 |cons t k _ ih=>exact .cons t rfl (k.more more) ih
def PL (c:Cl5) (K:ω) (H:Hp) (sa:List Addr) (l:Addr) (ps:List (Str×Kd)):Prop:=∃ts:List Addr,H l=some (.lst (ts.map V.ref))/\PR c K H sa ts ps
def spP (c:Cl5) (K:ω) (F:Kd->Bool):Sp:=fun vs H Q _=>∃(a:Addr) (kd:Kd) (sa:List Addr) (S:List Shp),vs=[.ref a]/\F kd=true/\kd.Fit S.length/\KO c K H sa a kd/\SW c K H sa S/\Good S/\∀l H',jF H H'->H l=none->PL c K H' sa l (kd.parts S)->Q (.ref l) H'
def TPt (c:Cl5) (K:ω):Addr->Sp->Prop:=fun C sp=>(C=c.nest/\sp=spP c K Kd.isNest)\/(C=c.many/\sp=spP c K Kd.isMany)
theorem callP{K:ω}{H:Hp}{kd:Kd}{S:List Shp}{Q:VK}{E:XK}(hm:aIb m)(hs:(∃i,kd=.nest i)\/∃n q,kd=.many n q)(hf:kd.Fit S.length)(ho:KO c K H sa a kd)(hw:SW c K H sa S)(hg:Good S)
  (q:∀l H',jF H H'->H l=none->PL c K H' sa l (kd.parts S)->Q (.ref l) H'):∃a' C dx fs sp,V.ref a=.ref a'/\H a'=some (.ins C dx fs)/\fs.lookup m=none/\TPt c K C sp/\sp [.ref a] H Q E:=by
 cases id ho with
 |num h=>rcases hs with⟨_,z⟩|⟨_,_,z⟩ <;> cases z
 |nest e h=>exact⟨_,_,_,_,_,rfl,h,(hm _ .non).2.1,.inl ⟨rfl,rfl⟩,a,_,sa,S,rfl,rfl,hf,ho,hw,hg,q⟩
 |many h _=>exact⟨_,_,_,_,_,rfl,h,(hm _ _).2.2.1,.inr ⟨rfl,rfl⟩,a,_,sa,S,rfl,rfl,hf,ho,hw,hg,q⟩
 |pick h _ _ _=>rcases hs with⟨_,z⟩|⟨_,_,z⟩ <;> cases z
theorem SW.at{K:ω}(h:SW c K H sa S){i:Nat}(e:sa[i]?=some a):∃s,S[i]?=some s/\SO c K H (sa.take i) a s:=by
 have hi:i<S.length:=by rw[←h.1];exact(θ.mp e).1
 exact⟨S[i],η hi,h.2 i a _ e (η hi)⟩
theorem SO.fields{K:ω}{H:Hp}{sa:List Addr}(h:SO c K H (sa.take i) a s):∃dx t ps,H a=some (.ins c.shape dx [("name",.str s.1),("fields",.ref t)])/\SqT K H t (ps.map V.ref)/\PR c K H sa ps s.2:=by
 obtain⟨dx,t,ps,h1,h2,h3⟩:=h;refine⟨dx,t,ps,h1,h2,?_⟩;have:=h3.parts (sa.drop i);rw[BN]at this;exact this
theorem aHy:∀j:Nat,j<6->(ε (toString j)).length=1:=by ac_rfl
theorem Kd.parts_ok(h:Good S){k:Kd}{r:Nat}(hk:k.Fit S.length)(hr:k.Rk (r+1)){f:Str×Kd}(hf:f∈k.parts S):f.2.Rk r/\f.2.Fit S.length/\1<=f.1.length/\f.1.length<=6:=by
 cases k with
 |num w=>cases hf
 |nest i =>
  have hi:i<S.length:=hk;have hs:S[i]?=some S[i]:=η hi;have e:(Kd.nest i).parts S=S[i].2:=by show(S.getD i _).2=_;rw[Φ,hs];rfl
  rw[e]at hf;obtain⟨g1,g2,g3⟩:=h.fit i _ hs f hf;exact⟨g1.rk.mono (by have : 2*i+2<=r+1:=hr;omega),g1.mono (by omega),g2,g3⟩
 |many n q =>
  obtain⟨j,hj,rfl⟩:=yj.mp hf;have hj':j<6:=χ (Bs.mp hj) hk.2.1;have:=aHy j hj';refine⟨?_,?_,by show 1<=(ε (toString j)).length;omega,by show(ε (toString j)).length<=6;omega⟩
  ·rcases hr with⟨w,rfl,_⟩|⟨i,rfl,hi⟩
   ·exact Ae
   ·show 2*i+2<=r;omega
  ·rcases hk.2.2 with⟨w,rfl,hw⟩|⟨i,rfl,hi⟩
   ·exact hw
   ·exact hi
 |pick is=>cases hf
def Kd.lv:Kd->Nat
 |.many _ _=>1
 |_=>0
theorem Kd.lv_le:∀k:Kd,k.lv<=1
 |.num _=>yq _
 |.nest _=>yq _
 |.many _ _=>μ _
 |.pick _=>yq _
def LX (K:ω) (H:Hp) (sl:Addr) (S:List Shp):Prop:=∃as:List Addr,SqL K H sl (as.map V.ref)/\LW K H as S
theorem LX.same{K:ω}(h:LX K H sl S)(g:jF H H'):LX K H' sl S:=by
 obtain⟨as,h1,h2⟩:=h;exact⟨as,g.seq h1,h2.same g⟩
def vSz (kd:Kd) (t:Tab):Nat:=kd.size t.sz
def vDp (kd:Kd) (t:Tab):Nat:=kd.depth t.dp
def sSz (i:Nat) (t:Tab):Nat:=t.sz.getD i 0
def sDp (i:Nat) (t:Tab):Nat:=t.dp.getD i 0
theorem KO.but{K:ω}{H:Hp}(g:But l H H')(hl:H l=some (.lst zs))(h:KO c K H sa a k):KO c K H' sa a k:=by
 have n:∀{a C dx fs},H a=some (.ins C dx fs)->H' a=some (.ins C dx fs):=fun h=>g _ _ (oE h hl (by intro z;cases z)) h
 induction h with
 |num h=>exact .num (n h)
 |nest e h=>exact .nest e (n h)
 |many h _ ih=>exact .many (n h) ih
 |pick h t l e=>exact .pick (n h) (g.tup hl t) l e
theorem FO.but{K:ω}{H:Hp}(g:But l H H')(hl:H l=some (.lst zs))(h:FO c K H sa ps fs):FO c K H' sa ps fs:=by
 induction h with
 |nil=>exact .nil
 |cons t k _ ih=>exact .cons (g.tup hl t) (k.but g hl) ih
theorem SO.but{K:ω}{H:Hp}(g:But l H H')(hl:H l=some (.lst zs))(h:SO c K H sa a s):SO c K H' sa a s:=by
 obtain⟨dx,t,ps,h1,h2,h3⟩:=h;exact⟨dx,t,ps,g _ _ (oE h1 hl (by intro z;cases z)) h1,g.tup hl h2,h3.but g hl⟩
theorem SW.but{K:ω}{H:Hp}(g:But l H H')(hl:H l=some (.lst zs))(h:SW c K H sa S):SW c K H' sa S:=⟨h.1,fun i a s h1 h2=>(h.2 i a s h1 h2).but g hl⟩
theorem But.from{H:Hp}(g:jF H H1)(hl:H l=none)(b:But l H1 H2):jF H H2:=fun x o q=>b x o (jL q hl) (g x o q)
theorem cV{H:Hp}(hx:H x=none)(hd:H dx=none):jF H (upd (upd H dx o) x u):=fun b v q=>by
 rw[jY (jL q hx),jY (jL q hd)];exact q
theorem jF.putn{H:Hp}(g:jF H H1)(h:H a=none):jF H (upd H1 a o):=fun b v q=>by
 rw[jY (jL q h)];exact g _ _ q
theorem qH{ss:List Addr}{i:Nat}(h:(ss.map V.ref)[i]?=some x):∃s,ss[i]?=some s/\x=.ref s:=by
 rw[yv]at h;cases e:ss[i]? with
 |none=>rw[e]at h;cases h
 |some c=>rw[e]at h;cases h;exact⟨c,rfl,rfl⟩
theorem vM{α β : Type}{f : α->β}{l:List α}{i:Nat}{a : α}(h:l[i]?=some a):(l.take (i+1)).map f=(l.take i).map f++[f a]:=by
 rw[zu,h,ξ];rfl
theorem aFy{α β : Type}{f : α->List β}{l:List α}{i:Nat}{a : α}(h:l[i]?=some a):(l.take (i+1)).flatMap f=(l.take i).flatMap f++f a:=by
 rw[zu,h,By];show _++[a].flatMap f=_;rw[BB]
theorem vC{α : Type}{l:List α}: l.take l.length=l:=An
theorem maxI{ns:List Nat}{m:Int}(h1:m∈ns.map fun n:Nat=>(n:Int))(h2:∀n∈ns.map fun n:Nat=>(n:Int),n<=m):m=((yG ns:Nat):Int):=by
 obtain⟨n,hn,rfl⟩:=yj.mp h1;rw[←aOt hn fun k hk=>by have:=h2 (k:Int) (List.mem_map_of_mem hk);omega]
theorem sumI:∀ns:List Nat,(ns.map fun n:Nat=>(n:Int)).sum=((ns.sum:Nat):Int)
 |[]=>rfl
 |n::ns=>by rw[zm,Ba,Ba,sumI ns];omega
theorem Kd.Rk.zero : ∀{k:Kd},k.Rk 0->k.Fit n->k.isNum=true
 |.num _,_,_=>rfl
 |.nest i,h,_=>by have : 2*i+2<=0:=h;omega
 |.many _ _,h,_=>by
  rcases h with⟨_,_,h⟩|⟨i,_,h⟩ <;> omega
 |.pick is,h,q=>by
  cases is with
  |nil=>exact absurd q.1 (by decide)
  |cons i _=>have:=h i (Ψ ..);omega
theorem Kd.Rk.sub{r:Nat}(h:(Kd.many n k).Rk (r+1)):k.Rk r:=by
 rcases h with⟨w,rfl,_⟩|⟨i,rfl,hi⟩
 ·exact Ae
 ·show 2*i+2<=r;omega
theorem Kd.Fit.sub(h:(Kd.many n k).Fit m):k.Fit m:=by
 rcases h.2.2 with⟨w,rfl,hw⟩|⟨i,rfl,hi⟩
 ·exact hw
 ·exact hi
theorem oV{os:St}(h:os.length=2):∃a b,os=[a,b]:=by
 match os,h with
 |[a,b],_=>exact⟨a,b,rfl⟩
theorem aFr{m:Str}(h:m = "size" ∨ m = "depth" ∨ m = "units_at" ∨ m = "parted"):aIb m:=by
 rcases h with rfl|rfl|rfl|rfl <;> exact fun _ _=>⟨rfl,rfl,rfl,rfl⟩
theorem zB.mono{K:ω}{k:Nat}(h:zB P w K mg base CX j m C sp)(hk:j<=k):zB P w K mg base CX k m C sp:=by
 obtain⟨c,f,fd,ps,h1,h2,h3⟩:=h;exact⟨c,f,fd,ps,h1,h2.mono hk,h3⟩
theorem noFn{K:ω}{sp:Sp}(h:∀vs H Q E,sp vs H Q E->False):jI P w K mg base CX k f fd ps sp:=⟨fun vs H Q E q=>(h vs H Q E q).elim,fun _ _ _ H _ _ vs Q E _ _ _ _ q=>(h vs H Q E q).elim⟩
theorem noV{K:ω}{F:Kd->Bool}(hF:∀k,F k=true->k.isNum=true->False):∀vs H Q E,spV c K 0 F val vs H Q E->False:=fun vs H Q E h=>by obtain⟨a,kd,sa,S,_,h1,h2,h3,_⟩:=h;exact hF kd h1 (h2.zero h3)
theorem noU{K:ω}{F:Kd->Bool}(hF:∀k,F k=true->k.isNum=true->False):∀vs H Q E,spU c K 0 F vs H Q E->False:=fun vs H Q E h=>by obtain⟨a,p,kd,sa,S,_,_,h1,h2,h3,_⟩:=h;exact hF kd h1 (h2.zero h3)
theorem nn1:∀k:Kd,k.isNest=true->k.isNum=true->False:=fun k h g=>by cases k <;> first|exact π h|exact π g
theorem nn2:∀k:Kd,k.isMany=true->k.isNum=true->False:=fun k h g=>by cases k <;> first|exact π h|exact π g
theorem nn3:∀k:Kd,k.isPick=true->k.isNum=true->False:=fun k h g=>by cases k <;> first|exact π h|exact π g
theorem ff1:∀k:Kd,k.isNest=true->(∃i,k=.nest i)\/∃n q,k=.many n q:=fun k h=>by
 cases k <;> first|exact .inl ⟨_,rfl⟩|cases h
theorem ff2:∀k:Kd,k.isMany=true->(∃i,k=.nest i)\/∃n q,k=.many n q:=fun k h=>by
 cases k <;> first|exact .inr ⟨_,_,rfl⟩|cases h
inductive Itm where
 |sh (n:Str)
 |fd (n:Str) (k:Kd)
def gQ (s:Shp):List Itm:=.sh s.1::s.2.map fun f=>.fd f.1 f.2
def vR (S:List Shp):List Itm:=S.flatMap gQ
def Itm.line (nm:Nat->Str):Itm->List Str
 |.sh n=>[ε "shape",n]
 |.fd n k=>n::k.words nm
theorem dF(S:List Shp):pQ S=(vR S).map (Itm.line (kO S)):=by
 unfold pQ vR;rw[List.map_flatMap]
 congr 1
 funext s
 unfold aGx gQ;rw[zm,zf];rfl
theorem aS(A B:List Shp):vR (A++B)=vR A++vR B:=By
def oS (S:List Shp) (j:Nat) (T:List Shp):Prop:=(∃S2,S=T++S2/\j=(vR T).length)\/∃S1 s S2 f1 f2,S=S1++s::S2/\s.2=f1++f2/\T=S1++[(s.1,f1)]/\j=(vR S1).length+1+f1.length
theorem oS.start(S:List Shp):oS S 0 []:=.inl ⟨S,rfl,rfl⟩
theorem oS.next(h:oS S j T)(hj:j<(vR S).length):∃S1 s S2,S=S1++s::S2 ∧
  (((vR S)[j]?=some (.sh s.1)/\T=S1/\oS S (j+1) (S1++[(s.1,[])]))\/∃f1 n k f2,s.2=f1++(n,k)::f2/\(vR S)[j]?=some (.fd n k)/\T=S1++[(s.1,f1)]/\oS S (j+1) (S1++[(s.1,f1++[(n,k)])])):=by
 have one:∀{T:List Shp}{S2:List Shp},S=T++S2->j=(vR T).length->∃S1 s S2,S=S1++s::S2 ∧
  (((vR S)[j]?=some (.sh s.1)/\T=S1/\oS S (j+1) (S1++[(s.1,[])]))\/∃f1 n k f2,s.2=f1++(n,k)::f2/\(vR S)[j]?=some (.fd n k)/\T=S1++[(s.1,f1)]/\oS S (j+1) (S1++[(s.1,f1++[(n,k)])])):=by
  intro T S2 e ej;cases S2 with
  |nil=>rw[e,zh,←ej]at hj;exact absurd hj (AG _)
  |cons s S2 =>
   refine⟨T,s,S2,e,.inl ⟨?_,rfl,.inr ⟨T,s,S2,[],s.2,e,rfl,rfl,by rw[ej];rfl⟩⟩⟩;rw[e,aS,yb (by omega),ej,AA];rfl
 rcases h with⟨S2,e,ej⟩|⟨S1,s,S2,f1,f2,e,ef,eT,ej⟩
 ·exact one e ej
 ·cases f2 with
  |nil =>
   rw[zh]at ef;have e2:T=S1++[s]:=by rw[eT,←ef]
   refine one (S2:=S2) (by rw[e,e2,zx];rfl) ?_;rw[e2,aS,ι,ej];show _=_+([s].flatMap gQ).length;rw[BB];unfold gQ;rw[Δ,δ,ef];omega
  |cons f f2 =>
   refine⟨S1,s,S2,e,.inr ⟨f1,f.1,f.2,f2,ef,?_,eT,.inr ⟨S1,s,S2,f1++[(f.1,f.2)],f2,e,by rw[ef,zx];rfl,rfl,by rw[ej,ι];rfl⟩⟩⟩;rw[e,aS,yb (by omega),show j-(vR S1).length=f1.length+1 by omega];show((gQ s)++vR S2)[f1.length+1]?=_;unfold gQ;rw[DW,List.getElem?_cons_succ,yr (by rw[δ,ef,ι,Δ];omega),yv,ef,yb (μ _),AA];rfl
theorem aAj{A:List Shp}(h:A≠[]): 0<(vR A).length:=by
 cases A with
 |nil=>exact absurd rfl h
 |cons a A=>exact Nat.succ_pos _
theorem oS.done(h:oS S (vR S).length T):T=S:=by
 rcases h with⟨S2,e,ej⟩|⟨S1,s,S2,f1,f2,e,ef,eT,ej⟩
 ·cases S2 with
  |nil=>rw[e,zh]
  |cons s S2 =>
   rw[e,aS,ι]at ej;have:=aAj (A:=s::S2) (by simp);omega
 ·rw[e,aS,ι,show vR (s::S2)=gQ s++vR S2 from rfl,ι]at ej;unfold gQ at ej;rw[Δ,δ,ef,ι]at ej;have h2:f2=[]:=AX.mp (by omega);have h3:S2=[]:=by
   cases S2 with
   |nil=>rfl
   |cons a A=>have:=aAj (A:=a::A) (by simp);omega
  rw[eT,e,h3];subst h2;rw[zh]at ef;rw[←ef]
theorem aM(sa:List Addr)(z:Addr):atI ((sa++[z]).map V.ref) (-1)=some (.ref z):=by
 have l:((sa++[z]).map V.ref).length=sa.length+1:=by rw[δ,ι];rfl
 have e:ixN (sa.length+1) (-1)=some sa.length:=by
  unfold ixN;rw[if_neg (by omega),if_pos (by omega)]
  congr 1
  omega
 unfold atI;rw[l,e];show((sa++[z]).map V.ref)[sa.length]?=_;rw[ξ,yb (by rw[δ];exact μ _),δ,AA];rfl
theorem aKr(sa:List Addr)(z:Addr):ixN ((sa++[z]).map V.ref).length (-1)=some sa.length:=by
 rw[δ,ι,zk];unfold ixN;rw[if_neg (by omega),if_pos (by omega)]
 congr 1
 omega
theorem aKb(sa:List Addr)(z y:Addr):((sa++[z]).map V.ref).set sa.length (.ref y)=(sa++[y]).map V.ref:=by
 rw[ξ,ξ,List.set_append_right _ _ (by rw[δ];exact μ _),δ,AA];rfl
theorem cutA(xs:List V)(k:Nat):zW xs (some (k:Int)) none=xs.drop k:=by
 unfold zW;rw[HT.sIx_none,HT.sIx_nat];have e:xs.drop (min k xs.length)=xs.drop k:=by
  by_cases h:k<=xs.length
  ·rw[Nat.min_eq_left h]
  ·rw[Nat.min_eq_right (by omega),List.drop_length,List.drop_eq_nil_of_le (by omega)]
 rw[e,Cm];rw[DT];omega
theorem aDf(x:V)(xs:List V):zW (x::xs) (some 1) none=xs:=cutA (x::xs) 1
theorem aQh(x y:V)(xs:List V):zW (x::y::xs) (some 2) none=xs:=cutA (x::y::xs) 2
theorem at0{x:V}{xs:List V}: atI (x::xs) 0=some x:=zI (j:=0) rfl
theorem at1{x y:V}{xs:List V}: atI (x::y::xs) 1=some y:=zI (j:=1) rfl
theorem cutB(xs:List V)(k:Nat):zW xs none (some (k:Int))=xs.take k:=by
 unfold zW;rw[HT.sIx_none,HT.sIx_nat,List.drop_zero,Nat.sub_zero]
 by_cases h:k<=xs.length
 ·rw[Nat.min_eq_left h]
 ·rw[Nat.min_eq_right (by omega),An,Cm (by omega)]
theorem cutC(sa:List Addr)(z:Addr):zW ((sa++[z]).map V.ref) none (some (-1))=sa.map V.ref:=by
 unfold zW;rw[HT.sIx_none,List.drop_zero,Nat.sub_zero];have l:((sa++[z]).map V.ref).length=sa.length+1:=by rw[δ,ι];rfl
 have e:HT.sIx ((sa++[z]).map V.ref).length ((sa++[z]).map V.ref).length (some (-1))=(sa.map V.ref).length:=by
  rw[l,δ];show(if (-1:Int)<0 then ((-1:Int)+((sa.length+1:Nat):Int)).toNat else min (-1:Int).toNat (sa.length+1))=_;rw[if_pos (by decide)];omega
 rw[e,ξ,List.take_left' rfl]
def dk (T:List Shp) (sa:List Addr):List (Key×V):=zt (fun (s:Shp) (a:Addr)=>((.inr s.1:Key),V.ref a)) T sa
theorem aKa{T:List Shp}{sa:List Addr}(hn:(T.map (·.1)).Nodup):∀{i:Nat}{s:Shp}{a:Addr},T[i]?=some s->sa[i]?=some a->zT (dk T sa) (.inr s.1)=some (.ref a):=by
 induction T generalizing sa with
 |nil=>intro i s a h;simp at h
 |cons t T ih =>
  intro i s a h1 h2;cases sa with
  |nil=>simp at h2
  |cons b sa =>
   cases i with
   |zero =>
    cases h1;cases h2;unfold dk zT;rw[BC,List.find?_cons_of_pos (by simp)];rfl
   |succ i =>
    have hn':=BS.mp (show(t.1::T.map (·.1)).Nodup from hn);have:=ih hn'.2 (sa:=sa) h1 h2;unfold dk zT at this ⊢;rw[BC,List.find?_cons_of_neg]
    ·exact this
    ·intro z;have z2:t.1=s.1:=AO.inj (show(AO t.1:Key)=.inr s.1 from of_decide_eq_true z);have h1':T[i]?=some s:=h1;exact hn'.1 (by rw[z2];exact List.mem_map_of_mem (ο h1'))
theorem aJe{kvs:List (Key×V)}{k:Key}(h:∀x∈kvs,x.1≠k):putK kvs k v=kvs++[(k,v)]:=by
 unfold putK
 first
 |rw[if_neg (by simp only[DX,not_exists];rintro x ⟨hx,z⟩;exact h x hx (of_decide_eq_true z))]
 | (split
    · rename_i z
      simp only[DX]at z;obtain⟨x,hx,z⟩:=z;exact absurd (by simpa using z) (h x hx)
    · rfl)
theorem eW{α β γ : Type}(f : α->β->γ):∀{xs:List α}{ys:List β}{x : α}{y : β},xs.length=ys.length->zt f (xs++[x]) (ys++[y])=zt f xs ys++[f x y]
 |[],[],_,_,_=>rfl
 |a::xs,b::ys,x,y,h=>by
  rw[DW,DW,BC,BC,eW f (Nat.succ.inj h)];rfl
theorem aPh{T:List Shp}{sa:List Addr}{j:Nat}(h1:T[j]?=some s)(h2:sa[j]?=some a):dk (T.take (j+1)) (sa.take (j+1))=dk (T.take j) (sa.take j)++[(.inr s.1,.ref a)]:=by
 unfold dk;rw[zu,zu,h1,h2];refine eW _ ?_;rw[yh,yh];have:=(θ.mp h1).1;have:=(θ.mp h2).1;omega
theorem aOv{T:List Shp}{sa:List Addr}: ∀x∈dk T sa,∃s∈T,x.1=.inr s.1:=by
 induction T generalizing sa with
 |nil=>intro x hx;cases sa <;> simp[dk]at hx
 |cons t T ih =>
  intro x hx;cases sa with
  |nil=>simp[dk]at hx
  |cons a sa =>
   unfold dk at hx;rw[BC]at hx;rcases ς.mp hx with rfl|hx
   ·exact⟨t,Ψ ..,rfl⟩
   ·obtain⟨s,hs,e⟩:=ih x hx;exact⟨s,yc _ hs,e⟩
theorem SW.init{K:ω}{sa:List Addr}{z:Addr}{T:List Shp}{s:Shp}(h:SW c K H (sa++[z]) (T++[s])):SW c K H sa T/\SO c K H sa z s:=by
 have hl:sa.length=T.length:=by have:=h.1;rw[ι,ι]at this;exact Nat.succ.inj this
 refine⟨⟨hl,fun i a u h1 h2=>?_⟩,?_⟩
 ·have hi:i<sa.length:=(θ.mp h1).1;have:=h.2 i a u (wL h1) (by rw[yr (by omega)];exact h2);rw[List.take_append_of_le_length (by omega)]at this;exact this
 ·have:=h.2 sa.length z s (by rw[yb (μ _),AA];rfl) (by rw[hl,yb (μ _),AA];rfl);rw[List.take_left' rfl]at this;exact this
theorem aMl(c:Nat):∀ps:List (List Nat),(jn c ps).length<=(ps.map (·.length)).sum+ps.length
 |[]=>μ _
 |[p]=>by show p.length<=(p.length+0)+1;omega
 |p::q::r=>by
  have ih:=aMl c (q::r);show(p++c::jn c (q::r)).length<=_;rw[ι,Δ,zm,Ba,Δ];omega
theorem cD{α : Type}{f : α->Nat}{m:Nat}: ∀{l:List α},(∀x∈l,f x<=m)->(l.map f).sum<=l.length*m
 |[],_=>yq _
 |x::l,h=>by
  have h1:=h x (Ψ ..);have h2:=cD (f:=f) (l:=l) fun y hy=>h y (yc _ hy);rw[zm,Ba,Δ,DC];omega
theorem cL{c:Nat}{ws:List Str}{m:Nat}(h:∀w∈ws,w.length<=m):(yd ⟨#[c]⟩ ws).length<=ws.length*(m+1):=by
 have e:(yd ⟨#[c]⟩ ws).length=(jn c (ws.map fun w=>w.cps.toList)).length:=by
  rw[←pO];exact(Be).symm
 rw[e];refine yo (aMl _ _) ?_;rw[zf,δ,Nat.mul_add,Nat.mul_one];exact Nat.add_le_add_right (cD fun w hw=>by show w.cps.toList.length<=m;rw[Be];exact h w hw) _
theorem eB{ns:List Nat}{i:Nat}(h:(ns.map fun n:Nat=>V.int n)[i]?=some x):∃c:Nat,ns[i]?=some c/\x=.int c:=by
 rw[yv]at h;cases e:ns[i]? with
 |none=>rw[e]at h;cases h
 |some c=>rw[e]at h;cases h;exact⟨c,rfl,rfl⟩
theorem dO{ss:List Addr}{i:Nat}(h:ss[i]?=some s):atI (ss.map V.ref) (i:Int)=some (.ref s):=zI (by rw[yv,h];rfl)
theorem hV{ss:List Str}{i:Nat}(h:ss[i]?=some s):atI (ss.map V.str) (i:Int)=some (.str s):=zI (by rw[yv,h];rfl)
theorem LX.at{K:ω}(h:LX K H sl S){i:Nat}(hi:i<S.length):∃(as:List Addr) (s l:Addr) (ps:List Addr),SqL K H sl (as.map V.ref)/\as[i]?=some s/\SqT K H s [.str (S[i]).1,.ref l]/\SqL K H l (ps.map V.ref)/\LF K H ps (S[i]).2:=by
 obtain⟨as,h1,h2⟩:=h;have hl:=h2.len;have ha:as[i]?=some (as[i]'(by omega)):=η _;obtain⟨s,hs,l,ps,q1,q2,q3⟩:=h2.get ha;rw[η hi]at hs;cases hs;exact⟨as,_,l,ps,h1,ha,q1,q2,q3⟩
def offs (xs:List Addr) (H:Hp):Hp:=fun b=>if b∈xs then none else H b
theorem qS{xs:List Addr}{a:Addr}{H:Hp}(n:a∉xs)(h:H a=some o):offs xs H a=some o:=by unfold offs;rw[if_neg n];exact h
theorem jV : jF (offs xs H) H:=fun b o q=>by
 unfold offs at q
 split at q
 ·cases q
 ·exact q
theorem cT{xs:List Addr}{H H':Hp}(h:∀b o,b∉xs->H b=some o->H' b=some o):jF (offs xs H) (offs xs H'):=fun b o q=>by
 unfold offs at q ⊢
 split at q
 ·cases q
 ·rename_i n;rw[if_neg n];exact h b o n q
theorem kL(g:jF H H'):jF (offs xs H) (offs xs H'):=cT fun b o _ q=>g b o q
theorem aDq{xs ys:List Addr}(h:∀b,b∈xs->b∈ys):jF (offs ys H) (offs xs H):=fun b o q=>by
 unfold offs at q ⊢
 split at q
 ·cases q
 ·rename_i n;rw[if_neg fun z=>n (h b z)];exact q
def Al (xs:List Addr) (H:Hp):Prop:=∀b∈xs,∃o,H b=some o
theorem Al.same(h:Al xs H)(g:jF H H'):Al xs H':=fun b hb=>by
 obtain⟨o,ho⟩:=h b hb;exact⟨o,g _ _ ho⟩
theorem Al.new{H:Hp}(h:Al xs H)(ht:H t=none):t∉xs:=fun z=>by
 obtain⟨o,ho⟩:=h t z;rw[ht]at ho;cases ho
abbrev Hold:=Str×Nat
abbrev wJ:=Str×Nat×Nat×List Hold
def lj (p x:Str):Str:=if p.length=0 then x else if x.length=0 then p else p++ε "." ++ x
def ahd (st:Str) (m:Int) (x:wJ):wJ:=(lj st x.1,x.2.1,((x.2.2.1:Int)+m).toNat,x.2.2.2.map fun h=>(lj st h.1,h.2))
def ahead (st:Str) (rows:List wJ) (m:Int):List wJ:=rows.map (ahd st m)
def insF (S:List Shp) (f:Kd->List wJ):Nat->List (Str×Kd)->List wJ
 |_,[]=>[]
 |o,x::xs=>ahead x.1 (f x.2) o++insF S f (o+x.2.size (tabs S).sz) xs
def pickR (n:Nat) (x:wJ):wJ:=(x.1,x.2.1,x.2.2.1,(Str.empty,n)::x.2.2.2)
def ins (S:List Shp):Nat->Kd->List wJ
 |0,.num w=>[(Str.empty,w,0,[])]
 |0,_=>[]
 |r+1,.num w=>[(Str.empty,w,0,[])]
 |r+1,.nest i=>insF S (ins S r) 0 ((Kd.nest i).parts S)
 |r+1,.many n k=>insF S (ins S r) 0 ((Kd.many n k).parts S)
 |r+1,.pick is=>(ε "tag",1,0,[])::(zw is.length).flatMap fun n=>(ahead (kO S (is.getD n 0)) (ins S r (.nest (is.getD n 0))) 1).map (pickR n)
end L2
namespace L2
open PySem PySem.Spec PyProof.Rows
theorem aKw(h:(qT P w).is k u=true):RelV (kV k) u:=by
 rcases vP (show rZ k u=true from h) with⟨i,t,rfl,rfl⟩|⟨x,t,rfl,rfl⟩
 ·exact⟨t,rfl⟩
 ·exact⟨t,rfl⟩
def epOf (o:Obj):Nat:=match o.data with | .dict _ ep=>ep|_=>0
theorem Inv.frozen{H:Hp}(I:Inv X pins σ H s)(e:H a=some (.dK kvs)):∃o,s.heap.get? a=some o/\Inv X pins σ (upd H a (.frz o (.dK kvs))) s:=by
 obtain⟨z,hd,vs,rel,dd⟩:=aPv I.hok e;obtain⟨o,es,ep,ho,r⟩:=id dd;exact⟨o,ho,I.write (x:=a) (e:=a) (h':=s.heap) (t':=s.toks) (by rw[e];exact Ae) (.inl rfl) (fun _ _ _ q=>q) ⟨o,ho⟩ ⟨ho,aEz z hd rel dd⟩⟩
theorem aEa{H:Hp}(ok:HOk P w H h)(e:H a=some (.frz o (.dK kvs))):(a == BZ)=false/\∃vs,KV kvs vs/\h.DictAt (qT P w) a vs (epOf o):=by
 obtain⟨h1,z,hd,vs,rel,q,es,ep,hq,h2,h3,r⟩:=(show vI P w H h a (.frz o (.dK kvs)) from ok a _ e);rw[h1]at hq;cases hq;refine⟨hd,vs,rel,o,es,h1,h2,?_,r⟩;rw[h3];unfold epOf;rw[h3]
theorem KV.get:∀{kvs:List (Key×V)}{vs:List (Key×Value)},KV kvs vs->∀{i:Nat}{kv:Key×V},kvs[i]?=some kv->∃u,vs[i]?=some (kv.1,u)
 |_,_,.nil,_,_,e=>by simp at e
 |_,_,.cons (a:=p) (b:=q) r _,0,kv,e=>by
  simp at e;subst e;exact⟨q.2,by simp[r.1]⟩
 |_,_,.cons _ t,i+1,kv,e=>by
  obtain⟨u,h⟩:=KV.get t (i:=i) (kv:=kv) (by simpa using e);exact⟨u,by simpa using h⟩
def Itd (a:Addr) (o:Obj) (kvs:List (Key×V)):It :=
 ⟨fun i H=>H a=some (.frz o (.dK kvs))/\i<kvs.length,fun i H x H'=>H'=H/\∃kv,kvs[i]?=some kv/\x=kV kv.1,fun i H=>H a=some (.frz o (.dK kvs))/\kvs.length<=i⟩
theorem aIz{K:ω}(a it:Addr)(o:Obj)(kvs:List (Key×V)):Turn P w K tg (Itd a o kvs) [it] it (fun i h=>h.IsKeyIter it a i kvs.length (epOf o)) where
 mem:=by simp
 obj:=fun i h st b hb=>by
  have e:b=it:=by simpa using hb
  subst e;obtain⟨o,e,c,d⟩:=st;exact⟨o,e,fun v z=>by rw[d]at z;cases z⟩
 keep:=fun i h h' st k=>st.at fun o e=>k it (by simp) o e
 item:=by
  intro X hP hw hK hc i pins s σ H E I hf st hg;subst hP hw hK;obtain⟨hq,hi⟩:=hg;obtain⟨_,vs,rel,dd⟩:=aEa I.hok hq;obtain⟨u,hu⟩:=KV.get rel (i:=i) (kv:=kvs[i]) (by simp[hi]);obtain⟨f0,f1,f2,f3,f4,f5⟩:=hf it (by simp);have hl:kvs.length=vs.length:=Dg rel;rw[hl]at st;refine wpAny_pyNext_dict_item st dd hu fun key h' hk st' sb=>?_;have I1:Inv X pins σ H { s with heap:=h' }:=I.turned (t':=s.toks) (fun b o hb e=>(sb.2 b hb).trans e) f0 f1 f3 f4 f5;exact⟨key,rfl,letGo_keyiter st' ⟨kV kvs[i].1,H,I1,aKw hk,⟨rfl,kvs[i],by simp[hi],rfl⟩,by rw[hl];exact st',fun b hb=>(hf b hb).1⟩⟩
 done:=by
  intro X hP hw hK hc i pins s σ H E I hf st hg;subst hP hw hK;obtain⟨hq,hi⟩:=hg;obtain⟨_,vs,rel,dd⟩:=aEa I.hok hq;obtain⟨f0,f1,f2,f3,f4,f5⟩:=hf it (by simp);have hl:kvs.length=vs.length:=Dg rel;rw[hl]at st hi;exact wpAny_pyNext_dict_end (I.ok.hd hc) st dd (by simp;omega) fun h' eb=>⟨rfl,I.turned (t':=s.toks) (fun b o hb e=>eb b o hb e) f0 f1 f3 f4 f5⟩
 self:=fun _ _ _ _ _ st h=>wpAny_pyIter_keyiter st h
def iDict (tl:TE):TI:=fun σ H R=>tl σ H fun x H1=>∃a kvs,x=.ref a/\H1 a=some (.dK kvs)/\∀o,R (Itd a o kvs) (upd H1 a (.frz o (.dK kvs)))
theorem aPm(hl:PE X l tl):PI X tg l (iDict tl):=by
 intro pins s σ H R I h;refine thn (hl pins s σ H _ I h) fun v s1 zq=>?_;obtain⟨x,H1,I1,r1,q1⟩:=zq;obtain⟨a,kvs,e,hq,q⟩:=q1;subst e;cases r1;obtain⟨o,ho,I2⟩:=I1.frozen hq;obtain⟨hd,vs,rel,dd⟩:=aEa I2.hok (jO);have hl:kvs.length=vs.length:=Dg rel;refine wpAny_pyIter_dict hd dd ?_;refine⟨s1.heap.objs.size,[s1.heap.objs.size],_,_,_,rfl,I2.kept (t':=s1.toks) fun b o e=>ρ _ e,aIz a _ o kvs,⟨_,yf _ rfl,rfl,?_⟩,fun b hb=>?_,q o⟩
 ·rw[hl];rfl
 have e:b=s1.heap.objs.size:=by simpa using hb
 subst e;exact I2.fpOk (μ _) (I2.hok.fresh (μ _))
end L2
namespace L2.TX
open PySem PySem.Spec PyProof.Rows
def firstMet (val:Nat->Str) (i:Nat):List Str:=((zw i).map val).foldl step_dedup []
section
variable {prog:Ao}{w:AD}{A:Ak}{R:Result->ν->Prop}{I:Addr}{fp wr:List Addr}{G:Array GenState->Array GenState->Prop}{n:Nat}{P:Nat->Value->Prop}{St:Nat->ν->Prop}
end
end L2.TX
namespace L2
open PySem PySem.Spec PyProof.Rows
theorem aIi{kvs:List (Key×V)}{k:Nat}{tc:TT}{te:TE}{Q:VK}(P:Nat->List V->Hp->Prop)(h0:P 0 [] H1)(hl:∀i ys H,i<=kvs.length->P i ys H->H a=some (.frz o (.dK kvs))/\ys.length<=i)(hz:kvs.length<ψ)
  (hs:∀i kv ys H,kvs[i]?=some kv->P i ys H->tc (some (kV kv.1)::xE js σ) H fun b H2=>if b=true then te (some (kV kv.1)::xE js σ) H2 fun v H3=>aW P i js σ (some (kV kv.1)::xE js σ) (ys++[v]) H3 else aW P i js σ (some (kV kv.1)::xE js σ) ys H2)
  (hd:∀ys H,P kvs.length ys H->∀p,H p=none->Q (.ref p) (upd H p (.lst ys)))(hk:k=1:=by rfl):
  mH (Itd a o kvs) k js (cW 0) tc te σ Q H1:=by
 subst hk;refine⟨fun i m σ' ys H=>m=kvs.length-i/\i<=kvs.length/\P i ys H/\∃o,σ'=o::xE js σ,⟨kvs.length,by simp,yq _,h0,none,rfl⟩,?_⟩;rintro i m σ' ys H ⟨rfl,hi,p,o,rfl⟩;obtain⟨q,hy⟩:=hl i ys H hi p
 by_cases hlt:i<kvs.length
 ·refine .inr ⟨⟨q,hlt⟩,by omega,aW P i js σ,fun σ3 zs H3 z=>⟨kvs.length-(i+1),by omega,rfl,hlt,z.1,z.2⟩,fun x H' y=>?_⟩;obtain⟨e,kv,y,rfl⟩:=y;subst e;exact hs i kv ys _ y p
 ·have e:i=kvs.length:=by omega
  subst e;exact .inl ⟨⟨q,μ _⟩,hd ys H p⟩
structure aEy (K:ω) (C:Addr):Prop where
 cl:Cls K C
 ha:Ap K (.ref C) "__class__" = some (some (.builtin "object.__class__"))
 hn:CD K (.builtin "object.__class__") "__get__" = some (some (.builtin "getset_descriptor.__get__"))
 htk:PySem.W.takesIn K (.builtin "object.__class__")=some true
 hm:BD K C (.type "object")=some true
theorem aEy.ty{K:ω}(c:aEy K C){H:Hp}(e:H a=some (.ins C dx fs)):gZ K H (.ref a) (.ref C):=.ins e c.cl c.ha c.hn c.htk c.hm
theorem aDm{X:Cx}{K:ω}(hK:X.K=K):xD X (.builtin "isinstance") (fun xs H Q=>∃(x:V) (D:Addr) (t:Value) (b:Bool),xs=[x,.ref D]/\gZ K H x t/\AF K t (.ref D)=some b/\Q (.bl b) H):=by
 intro pins s σ H xs us Q I r h;obtain⟨x,D,t,b,rfl,ht,hk,q⟩:=h;subst hK;obtain⟨u,w',rfl,rx,rD⟩:=vals2 r;cases rD;exact aIr I rx ht hk fun tk=>⟨.bl b,H,I.tok tk,rfl,q⟩
theorem aRg{X:Cx}(hu:X.A.units+64<Cs):OpR X (Ah .Eq) (fun x y H Q=>∃(a b:Addr) (xs ys:List V),x=.ref a/\y=.ref b/\SqT X.K H a xs/\SqT X.K H b ys/\xs.length=ys.length/\(∀(i:Nat) x y,xs[i]?=some x->ys[i]?=some y->EqS X.K H 8 x y)/\Q (.bl true) H):=by
 intro pins s σ H x y v u Q I rx ry h;obtain⟨a,b,xs,ys,rfl,rfl,ha,hb,hl,he,q⟩:=h;cases rx;cases ry;obtain⟨i1,r1,p1,_⟩:=I.tuple ha;obtain⟨i2,r2,p2,_⟩:=I.tuple hb;have l1:=r1.length;have l2:=r2.length;refine SeqAt.eq_tupleAt (e:=fun _=>true) (show s.heap.IsTuple a i1.toArray from p1) (show s.heap.IsTuple b i2.toArray from p2) (by omega) (fun j h1 h2=>?_) ?_
 ·have hj:j<xs.length:=by rw[υ]at h1;omega
  have hj2:j<ys.length:=by omega
  obtain⟨u1,e1,q1⟩:=r1.get (η hj);obtain⟨u2,e2,q2⟩:=r2.get (η hj2);rw[bM e1,bM e2];exact I.eqs (he j _ _ (η hj) (η hj2)) q1 q2 (by show X.A.units+1+8<Cs;omega)
 ·rw[lM,show(i1.toArray.size == i2.toArray.size)=true by rw[υ,υ,show i1.length=i2.length by omega];simp];exact⟨.bl true,H,I,rfl,q⟩
section
variable {P:Ao}{w:AD}{A:Ak}{E:Value->ν->Prop}{s:ν}
structure ZpM (b c2:Bool) (h:Ag) (z ti to j1 j2 a1 a2:Addr) (n:Nat):Prop where
 z:IsZip h z ti to .none
 ti:IsPair h ti (.ref j1) (.ref j2)
 to:∃p q,IsPair h to p q
 i1:yV b h j1 a1 n
 i2:yV c2 h j2 a2 n
theorem aGr{Q:Option Value->ν->Prop}(D:Dl z ti to j1 j2 a1 a2)(hz:ZpM b c2 s.heap z ti to j1 j2 a1 a2 n)
  (g1:vW b s.heap a1 us)(g2:vW c2 s.heap a2 vs)(hu:us[n]?=some u)(hv:vs[n]?=some v)
  (k:∀g,IsZip g z ti to (Bt s.heap.objs.size)->IsPair g to u v->yV b g j1 a1 (n+1)->yV c2 g j2 a2 (n+1)->IsPair g s.heap.objs.size u v →
   (∀c o,c∉[z,to,j1,j2]->s.heap.get? c=some o->g.get? c=some o)->Q (some (.ref s.heap.objs.size)) { s with heap:=g }):xy (yl P w) A (pyNext (.ref z)) Q E s:=by
 obtain⟨hz,hi,⟨p,q,ho⟩,h1,h2⟩:=hz;have ty:s.TypeIs (.ref z) "zip":=⟨_,hz,rfl⟩;unfold pyNext;refine ζ (Ec (wpAny_callSpecial?_slot (name:=ε "__next__") ty Bx (Cf Bx ty DY ?_ (DH _))));show xy _ _ (field (.ref z) 2 >>= fun _=>_) _ _ _;refine ζ (Af hz rfl (x:=.bool false) rfl ?_);show xy _ _ (field (.ref z) 3 >>= fun _=>_) _ _ _;refine ζ (Af hz rfl (x:=.ref ti) rfl ?_);refine ζ (AU hi rfl ?_);show xy _ _ (zo (.ref z) >>= fun _=>_) _ _ _;refine ζ ?_;unfold zo;refine ζ (Af hz rfl (x:=Az) rfl (Θ ?_));simp only[if_true];refine ζ (wpAny_rule ?_);refine ζ (Af hz rfl (x:=.ref to) rfl ?_);refine ζ (Bl hz (by simp) fun e1 z1 s1=>?_);replace z1:IsZip e1 z ti to .ellipsis:=z1;refine ζ ?_;simp only[List.zipIdx_cons,List.zipIdx_nil,List.forIn_cons,List.forIn_nil];have x1:=s1.extBut;refine ζ (ζ (Di ?_));show xy _ _ (zd (.ref j1) >>= fun _=>_) _ _ _;refine ζ (rF (h1.keep fun o e=>x1 _ o D.i1z e) (g1.keep fun o e=>x1 _ o D.l1z e) hu fun e2 m2 s2=>Θ ?_);have x2:=s2.extBut;have o2:IsPair e2 to p q:=x2 _ _ D.TOi1 (x1 _ _ D.TOz ho);refine ζ (AU o2 rfl ?_);refine ζ (Eg o2 fun e3 o3 s3=>?_);replace o3:IsPair e3 to u q:=o3;have x3:=s3.extBut;refine ζ (wpAny_letGo (Θ ?_));refine ζ (ζ (Di ?_));show xy _ _ (zd (.ref j2) >>= fun _=>_) _ _ _;refine ζ (rF (h2.keep fun o e=>x3 _ o D.TOi2.symm (x2 _ o D.i12.symm (x1 _ o D.i2z e))) (g2.keep fun o e=>x3 _ o D.l2TO (x2 _ o D.l2i1 (x1 _ o D.l2z e))) hv fun e4 m4 s4=>Θ ?_);have x4:=s4.extBut;have o4:IsPair e4 to u q:=x4 _ _ D.TOi2 o3;refine ζ (AU o4 rfl ?_);refine ζ (Eg o4 fun e5 o5 s5=>?_);replace o5:IsPair e5 to u v:=o5;have x5:=s5.extBut;refine ζ (wpAny_letGo (Θ (Θ ?_)));refine ζ (AU o5 rfl ?_);refine ζ (wpAny_newTuple ?_);have sz:e5.objs.size=s.heap.objs.size:=by rw[s5.1,s4.1,s3.1,s2.1,s1.1]
 have z5:IsZip e5 z ti to .ellipsis:=x5 _ _ D.TOz.symm (x4 _ _ D.i2z.symm (x3 _ _ D.TOz.symm (x2 _ _ D.i1z.symm z1)));have k5:∀c o,c∉[z,to,j1,j2]->s.heap.get? c=some o->e5.get? c=some o:=fun c o hc e=>by
  simp only[ς,Ω,or_false,not_or]at hc;exact x5 _ _ hc.2.1 (x4 _ _ hc.2.2.2 (x3 _ _ hc.2.1 (x2 _ _ hc.2.2.1 (x1 _ _ hc.1 e))))
 have m25:yV b e5 j1 a1 (n+1):=m2.keep fun o e=>x5 _ o D.TOi1.symm (x4 _ o D.i12 (x3 _ o D.TOi1.symm e));have m45:yV c2 e5 j2 a2 (n+1):=m4.keep fun o e=>x5 _ o D.TOi2.symm e;have lz:z<e5.objs.size:=Ξ z5;show xy _ _ (Dd (.ref z) (.ref e5.objs.size) >>= fun _=>_) _ _ _;refine ζ ?_;unfold Dd;have z6:IsZip (e5.push { cls:=.type "tuple",data:=.seq #[u,v] }) z ti to .ellipsis:=ρ _ z5;refine ζ (Bl z6 (by simp) fun e7 z7 s7=>?_);replace z7:IsZip e7 z ti to (Bt e5.objs.size):=z7;refine Bl z7 (by simp) fun e8 z8 s8=>?_;replace z8:IsZip e8 z ti to (Bt e5.objs.size):=z8;have up:∀c o,c≠z->e5.get? c=some o->e8.get? c=some o:=fun c o c1 e=>s8.extBut _ _ c1 (s7.extBut _ _ c1 (ρ _ e));have t8:IsPair e8 e5.objs.size u v:=s8.extBut _ _ (As lz) (s7.extBut _ _ (As lz) (yf _ rfl));rw[sz]at z8 t8;refine Θ ⟨_,rfl,Θ ?_⟩;rw[sz];exact k e8 z8 (up _ _ D.TOz o5) (m25.keep fun o e=>up _ o D.i1z e) (m45.keep fun o e=>up _ o D.i2z e) t8 fun c o hc e=>up c o (fun x=>hc (by simp[x])) (k5 c o hc e)
theorem aMo{Q:Option Value->ν->Prop}(hh:A.handled=none)(D:Dl z ti to j1 j2 a1 a2)(hz:ZpM b c2 s.heap z ti to j1 j2 a1 a2 n)
  (g1:vW b s.heap a1 us)(g2:vW c2 s.heap a2 vs)(hend:us[n]?=none\/vs[n]?=none)
  (k:∀g,(∀c o,c∉[z,to,j1,j2]->s.heap.get? c=some o->g.get? c=some o)->Q none { s with heap:=g }):xy (yl P w) A (pyNext (.ref z)) Q E s:=by
 obtain⟨hz,hi,⟨p,q,ho⟩,h1,h2⟩:=hz;have ty:s.TypeIs (.ref z) "zip":=⟨_,hz,rfl⟩;have nx:∀c,c∉[z,to,j1,j2]->c≠z/\c≠to/\c≠j1/\c≠j2:=fun c hc=>by simpa only[ς,Ω,or_false,not_or] using hc
 unfold pyNext;refine ζ (Ec (wpAny_callSpecial?_slot (name:=ε "__next__") ty Bx (Cf Bx ty DY ?_ (DH _))));show xy _ _ (field (.ref z) 2 >>= fun _=>_) _ _ _;refine ζ (Af hz rfl (x:=.bool false) rfl ?_);show xy _ _ (field (.ref z) 3 >>= fun _=>_) _ _ _;refine ζ (Af hz rfl (x:=.ref ti) rfl ?_);refine ζ (AU hi rfl ?_);show xy _ _ (zo (.ref z) >>= fun _=>_) _ _ _;refine ζ ?_;unfold zo;refine ζ (Af hz rfl (x:=Az) rfl (Θ ?_));simp only[if_true];refine ζ (wpAny_rule ?_);refine ζ (Af hz rfl (x:=.ref to) rfl ?_);refine ζ (Bl hz (by simp) fun e1 z1 s1=>?_);replace z1:IsZip e1 z ti to .ellipsis:=z1;refine ζ ?_;simp only[List.zipIdx_cons,List.zipIdx_nil,List.forIn_cons,List.forIn_nil];have x1:=s1.extBut;refine ζ (ζ (Di ?_));show xy _ _ (zd (.ref j1) >>= fun _=>_) _ _ _;cases hu:us[n]? with
 |none =>
  refine ζ (aLo hh (h1.keep fun o e=>x1 _ o D.i1z e) (g1.keep fun o e=>x1 _ o D.l1z e) hu fun e2 x s2 hx=>?_);obtain⟨ox,ex,cx⟩:=hx;have z2:IsZip e2 z ti to .ellipsis:=s2 _ _ D.i1z.symm z1;have nz:x≠z:=fun y=>by subst y;rw[z2]at ex;cases ex;simp at cx
  refine Bl z2 (by simp) fun e3 _ s3=>?_;refine ζ (wpAny_isInstance (T:="StopIteration") (b:=true) ⟨ox,s3.extBut _ _ nz ex,cx⟩ isSubtype_stop ?_);refine Θ (k _ fun c o hc e=>?_);exact s3.extBut _ _ (nx c hc).1 (s2 _ _ (nx c hc).2.2.1 (x1 _ _ (nx c hc).1 e))
 |some u =>
  have hv:vs[n]?=none:=by
   rcases hend with y|y
   ·rw[hu]at y;cases y
   ·exact y
  refine ζ (rF (h1.keep fun o e=>x1 _ o D.i1z e) (g1.keep fun o e=>x1 _ o D.l1z e) hu fun e2 m2 s2=>Θ ?_);have x2:=s2.extBut;have o2:IsPair e2 to p q:=x2 _ _ D.TOi1 (x1 _ _ D.TOz ho);refine ζ (AU o2 rfl ?_);refine ζ (Eg o2 fun e3 o3 s3=>?_);have x3:=s3.extBut;refine ζ (wpAny_letGo (Θ ?_));refine ζ (ζ (Di ?_));show xy _ _ (zd (.ref j2) >>= fun _=>_) _ _ _;refine ζ (aLo hh (h2.keep fun o e=>x3 _ o D.TOi2.symm (x2 _ o D.i12.symm (x1 _ o D.i2z e))) (g2.keep fun o e=>x3 _ o D.l2TO (x2 _ o D.l2i1 (x1 _ o D.l2z e))) hv fun e4 x s4 hx=>?_);obtain⟨ox,ex,cx⟩:=hx;have z4:IsZip e4 z ti to .ellipsis:=s4 _ _ D.i2z.symm (x3 _ _ D.TOz.symm (x2 _ _ D.i1z.symm z1));have nz:x≠z:=fun y=>by subst y;rw[z4]at ex;cases ex;simp at cx
  refine Bl z4 (by simp) fun e5 _ s5=>?_;refine ζ (wpAny_isInstance (T:="StopIteration") (b:=true) ⟨ox,s5.extBut _ _ nz ex,cx⟩ isSubtype_stop ?_);refine Θ (k _ fun c o hc e=>?_);exact s5.extBut _ _ (nx c hc).1 (s4 _ _ (nx c hc).2.2.2 (x3 _ _ (nx c hc).2.1 (x2 _ _ (nx c hc).2.2.1 (x1 _ _ (nx c hc).1 e))))
end
abbrev zp3M (b c2:Bool) (h:Ag) (a1 a2:Addr):Ag:=(zp1 c2 (zp1 b h a1) a2).push { cls:=.type "tuple",data:=.seq #[.ref h.objs.size,.ref (zp1 b h a1).objs.size] }
abbrev zp4M (b c2:Bool) (h:Ag) (a1 a2:Addr):Ag:=(zp3M b c2 h a1 a2).push { cls:=.type "tuple",data:=.seq #[.none,.none] }
abbrev aJi (b c2:Bool) (h:Ag) (a1 a2:Addr):Ag:=(zp4M b c2 h a1 a2).push { cls:=.type "zip",data:=.fields #[.none,.bool false,.bool false,.ref (zp1 c2 (zp1 b h a1) a2).objs.size,.ref (zp3M b c2 h a1 a2).objs.size] }
theorem aKv(b c2:Bool)(a1 a2:Addr)(us vs:Array Value):Meets (BA.«zip.__new__» ⟨[.type "zip",.ref a1,.ref a2],[]⟩) (fun _ R s=>vW b s.heap a1 us/\vW c2 s.heap a2 vs/\R (.ok (.ret (.ref (zp4M b c2 s.heap a1 a2).objs.size))) { s with heap:=aJi b c2 s.heap a1 a2 }) :=
 .of_wp fun prog w A R s h=>by
  obtain⟨hp,g,d,tk,os⟩:=s;obtain⟨k1,k2,h⟩:=h;have hsub:=sub_zip;cases b <;> cases c2
  ·have y1:Ag.IsList (CO ⟨hp,g,d,tk,os⟩) a1 us:=k1;have y2:Ag.IsList (CO ⟨hp.push { cls:=.type "list_iterator",data:=.fields #[.ref a1,.int 0 0] },g,d,tk,os⟩) a2 vs:=Ag.IsList.push k2 _
   wp_walk using Bu y1,Bu y2
   exact⟨_,rfl,h⟩
  ·have y1:Ag.IsList (CO ⟨hp,g,d,tk,os⟩) a1 us:=k1;have y2:DI (CO ⟨hp.push { cls:=.type "list_iterator",data:=.fields #[.ref a1,.int 0 0] },g,d,tk,os⟩) a2 vs:=DI.push k2 _
   wp_walk using Bu y1,BI y2
   exact⟨_,rfl,h⟩
  ·have y1:DI (CO ⟨hp,g,d,tk,os⟩) a1 us:=k1;have y2:Ag.IsList (CO ⟨hp.push { cls:=.type "tuple_iterator",data:=.fields #[.ref a1,.int 0 0] },g,d,tk,os⟩) a2 vs:=Ag.IsList.push k2 _
   wp_walk using BI y1,Bu y2
   exact⟨_,rfl,h⟩
  ·have y1:DI (CO ⟨hp,g,d,tk,os⟩) a1 us:=k1;have y2:DI (CO ⟨hp.push { cls:=.type "tuple_iterator",data:=.fields #[.ref a1,.int 0 0] },g,d,tk,os⟩) a2 vs:=DI.push k2 _
   wp_walk using BI y1,BI y2
   exact⟨_,rfl,h⟩
section
variable {P:Ao}{w:AD}{A:Ak}{E:Value->ν->Prop}{s:ν}
theorem aGy{Q:Value->ν->Prop}(k1:vW b s.heap a1 us)(k2:vW c2 s.heap a2 vs)
  (h:∀g,ZpM b c2 g (s.heap.objs.size+4) (s.heap.objs.size+2) (s.heap.objs.size+3) s.heap.objs.size (s.heap.objs.size+1) a1 a2 0->(∀c o,s.heap.get? c=some o->g.get? c=some o)->Q (.ref (s.heap.objs.size+4)) { s with heap:=g }):
  xy (yl P w) A (call (.type "zip") [.ref a1,.ref a2]) Q E s:=by
 refine callType_new F.called_zip (by decide) (F.typeCall_zip_2 _ _) (F.newCall_zip_2 _ _) (fun obj=>F.args_object_init_3 obj _ _) F.entry_zip_new (aKv b c2 a1 a2 us vs) ⟨k1,k2,?_⟩;have z1:(zp1 b s.heap a1).objs.size=s.heap.objs.size+1:=AT ..;have z2:(zp1 c2 (zp1 b s.heap a1) a2).objs.size=s.heap.objs.size+2:=by rw[AT,z1]
 have z3:(zp3M b c2 s.heap a1 a2).objs.size=s.heap.objs.size+3:=by rw[AT,z2]
 have z4:(zp4M b c2 s.heap a1 a2).objs.size=s.heap.objs.size+4:=by rw[AT,z3]
 have up:=fun {h:Ag}{c:Addr}{x:Obj}(o:Obj) (e:h.get? c=some x)=>ρ o e;have g5:(aJi b c2 s.heap a1 a2).get? (zp4M b c2 s.heap a1 a2).objs.size=some _:=yf _ rfl;have g4:(aJi b c2 s.heap a1 a2).get? (zp3M b c2 s.heap a1 a2).objs.size=some _:=up _ (yf _ rfl);have g3:(aJi b c2 s.heap a1 a2).get? (zp1 c2 (zp1 b s.heap a1) a2).objs.size=some _:=up _ (up _ (yf _ rfl));have g2:(aJi b c2 s.heap a1 a2).get? (zp1 b s.heap a1).objs.size=some _:=up _ (up _ (up _ (yf _ rfl)));have g1:(aJi b c2 s.heap a1 a2).get? s.heap.objs.size=some _:=up _ (up _ (up _ (up _ (yf _ rfl))));show _/\_;rw[z2,z3,z4]at g5;rw[z1,z2]at g3;rw[z3]at g4;rw[z1]at g2;rw[z4];refine⟨⟨_,g5,rfl⟩,h _ ⟨g5,g3,⟨_,_,g4⟩,?_,?_⟩ fun c o x=>up _ (up _ (up _ (up _ (up _ x))))⟩
 ·cases b <;> exact⟨_,g1,rfl,rfl⟩
 ·cases c2 <;> exact⟨_,g2,rfl,rfl⟩
end
def aIf (K:ω) (b c2:Bool) (a1 a2:Addr):It :=
 ⟨fun i H=>∃xs ys x y,Sq2 K b H a1 xs/\Sq2 K c2 H a2 ys/\xs[i]?=some x/\ys[i]?=some y,
   fun i H v H'=>∃x y p,v=.ref p/\H p=none/\H'=upd H p (.tup [x,y])/\(∀xs,Sq2 K b H a1 xs->xs[i]?=some x)/\∀ys,Sq2 K c2 H a2 ys->ys[i]?=some y,
   fun i H=>∃xs ys,Sq2 K b H a1 xs/\Sq2 K c2 H a2 ys/\(xs.length<=i\/ys.length<=i)⟩
theorem aJg{K:ω}(D:Dl z ti to j1 j2 a1 a2):
  Turn P w K (.Tuple elts x1 pos) (aIf K b c2 a1 a2) [z,ti,to,j1,j2] z (fun i h=>ZpM b c2 h z ti to j1 j2 a1 a2 i) where
 mem:=by simp
 obj:=fun i h st c hc=>by
  obtain⟨hz,hi,⟨p,q,ho⟩,h1,h2⟩:=st;have:c=z\/c=ti\/c=to\/c=j1\/c=j2:=by simpa using hc
  rcases this with rfl|rfl|rfl|rfl|rfl
  ·exact⟨_,hz,fun v z=>by cases z⟩
  ·exact⟨_,hi,fun v z=>by cases z⟩
  ·exact⟨_,ho,fun v z=>by cases z⟩
  ·exact h1.obj
  ·exact h2.obj
 keep:=fun i h h' st k=>by
  obtain⟨hz,hi,⟨p,q,ho⟩,h1,h2⟩:=st;exact⟨k z (by simp) _ hz,k ti (by simp) _ hi,⟨p,q,k to (by simp) _ ho⟩,h1.keep fun o e=>k j1 (by simp) o e,h2.keep fun o e=>k j2 (by simp) o e⟩
 item:=by
  intro X hP hw hK hc i pins s σ H E I hf st hg;subst hP hw hK;obtain⟨xs,ys,x,y,hq1,hq2,hx,hy⟩:=hg;obtain⟨is1,r1,p1⟩:=I.seq2 hq1;obtain⟨is2,r2,p2⟩:=I.seq2 hq2;obtain⟨u,hu,ru⟩:=r1.get hx;obtain⟨v,hv,rv⟩:=r2.get hy;refine aGr D st p1 p2 (u:=u) (v:=v) (by simpa using hu) (by simpa using hv) fun g gz go g1 g2 gn gk=>⟨_,rfl,?_⟩;refine wpAny_letOwnedTupleGo_zip gz fun h2 z2 s2=>?_;replace s2:AH z g h2:=s2;have nz:s.heap.objs.size≠z:=As (Ξ st.z);have t2:IsPair h2 s.heap.objs.size u v:=(s2.2 _ nz).trans gn;have k2:∀c o,c∉[z,to,j1,j2]->s.heap.get? c=some o->h2.get? c=some o:=fun c o hc e=>(s2.2 c (fun q=>hc (by simp[q]))).trans (gk c o hc e);have mem:∀c∈[z,to,j1,j2],c∈[z,ti,to,j1,j2]:=fun c hc=>by
   simp only[ς,Ω,or_false]at hc ⊢;rcases hc with q|q|q|q <;> simp[q]
  refine⟨.ref s.heap.objs.size,upd H s.heap.objs.size (.tup [x,y]),I.turnedL (t':=s.toks) k2 (fun c hc=>hf c (mem c hc)) (μ _) ⟨(by show 2<=ψ;decide),[u,v],.cons ru (.cons rv .nil),_,t2,rfl,_,rfl⟩,rfl,
   ⟨x,y,_,rfl,I.hok.fresh (μ _),rfl,fun zs hz=>by rw[I.seq2_inj hz hq1];exact hx,fun zs hz=>by rw[I.seq2_inj hz hq2];exact hy⟩,
   ⟨z2,k2 ti _ (by simp[D.TIz,D.TITO,D.TIi1,D.TIi2]) st.ti,⟨_,_,(s2.2 to D.TOz).trans go⟩,g1.keep fun o e=>(s2.2 j1 D.i1z).trans e,g2.keep fun o e=>(s2.2 j2 D.i2z).trans e⟩,fun c hc=>?_⟩
  obtain⟨oc,ec,_⟩ : ∃o,s.heap.get? c=some o/\∀v,o.data≠.cell v:=by
   obtain⟨hz,hi,⟨p,q,ho⟩,h1,h2⟩:=st;have:c=z\/c=ti\/c=to\/c=j1\/c=j2:=by simpa using hc
   rcases this with rfl|rfl|rfl|rfl|rfl
   ·exact⟨_,hz,fun v z=>by cases z⟩
   ·exact⟨_,hi,fun v z=>by cases z⟩
   ·exact⟨_,ho,fun v z=>by cases z⟩
   ·exact h1.obj
   ·exact h2.obj
  rw[jY (yg (Ξ ec))];exact(hf c hc).1
 done:=by
  intro X hP hw hK hc i pins s σ H E I hf st hg;subst hP hw hK;obtain⟨xs,ys,hq1,hq2,hl⟩:=hg;obtain⟨is1,r1,p1⟩:=I.seq2 hq1;obtain⟨is2,r2,p2⟩:=I.seq2 hq2;have e1:=r1.length;have e2:=r2.length;have mem:∀c∈[z,to,j1,j2],c∈[z,ti,to,j1,j2]:=fun c hc=>by
   simp only[ς,Ω,or_false]at hc ⊢;rcases hc with q|q|q|q <;> simp[q]
  refine aMo (I.ok.hd hc) D st p1 p2 ?_ fun g gk=>⟨rfl,I.turnedL0 (t':=s.toks) gk fun c hc=>hf c (mem c hc)⟩;rcases hl with q|q
  ·exact .inl (by simp;omega)
  ·exact .inr (by simp;omega)
 self:=fun _ _ _ _ _ st h=>wpAny_pyIter_zip st.z h
def iZipM (K:ω) (b c2:Bool) (ta:TA):TI:=fun σ H R=>ta σ H fun vs H1=>∃a1 a2 xs ys,vs=[.ref a1,.ref a2]/\Sq2 K b H1 a1 xs/\Sq2 K c2 H1 a2 ys/\R (aIf K b c2 a1 a2) H1
def aTh (K:ω) (ta:TA):TI:=fun σ H R=>∃b c2,iZipM K b c2 ta σ H R
theorem aGl{a c:Expr}(hg:Gl X "zip")(hm:X.mg "zip" = none)(ha:PA X [a,c] ta)(hs:yi [a,c] X.env=(false,eval a X.env)::yi [c] X.env:=by rfl)(hs2:yi [c] X.env=[(false,eval c X.env)]:=by rfl):
  PI X (.Tuple elts x1 tpos) (.Call (.Name "zip" p) [a,c] [] pos) (aTh X.K ta):=by
 intro pins s σ H R I h;obtain⟨b,c2,h⟩:=h;refine Call_ (eN I hg hm (show AV "zip" = some (.type "zip") from by ac_rfl) (AJ (thn (ha pos pins s σ H _ I h) fun us s1 zq=>?_) (by rw[hs,hs2]) (by rw[hs2];rfl)));obtain⟨vs,H1,I1,r1,q1⟩:=zq;obtain⟨a1,a2,xs,ys,e,h1,h2,q⟩:=q1;subst e;obtain⟨u,v,rfl,rx,ry⟩:=vals2 r1;cases rx;cases ry;obtain⟨is1,v1,p1⟩:=I1.seq2 h1;obtain⟨is2,v2,p2⟩:=I1.seq2 h2;have l1:=p1.lt;have l2:=p2.lt;refine aGy p1 p2 fun g gz gk=>wpAny_pyIter_zip gz.z ?_;have D:Dl (s1.heap.objs.size+4) (s1.heap.objs.size+2) (s1.heap.objs.size+3) s1.heap.objs.size (s1.heap.objs.size+1) a1 a2:=by
  have A1:(s1.heap.objs.size:Nat)+4=s1.heap.objs.size+4:=rfl;constructor <;> simp <;> first|exact yg (χ l1 (AY _ _))|exact yg (χ l2 (AY _ _))|exact yg l1|exact yg l2|decide
 refine⟨_,_,_,_,H1,rfl,I1.kept (t':=s1.toks) gk,aJg D,gz,fun c hc=>?_,q⟩;have:c=s1.heap.objs.size+4\/c=s1.heap.objs.size+2\/c=s1.heap.objs.size+3\/c=s1.heap.objs.size\/c=s1.heap.objs.size+1:=by simpa using hc
 have ge:s1.heap.objs.size<=c:=by
  rcases this with rfl|rfl|rfl|rfl|rfl <;> first|exact AY _ _|exact μ _
 exact I1.fpOk ge (I1.hok.fresh ge)
theorem aLc{K:ω}{xs ys:List V}{g:TG}{tb:TS}{D:Ends}{σ:St}{H:Hp}(Pv:Nat->St->Hp->Prop)(he:ys.length=xs.length)(h0:Pv 0 σ H)(hl:∀i σ H,i<=xs.length->Pv i σ H->Sq2 K b H a1 xs/\Sq2 K c2 H a2 ys)
  (hs:∀i x y σ H p,xs[i]?=some x->ys[i]?=some y->Pv i σ H->H p=none->g (.ref p) σ (upd H p (.tup [x,y])) fun σ2 H2=>tb { D with nx:=Pv (i+1),ct:=Pv (i+1),bk:=D.nx } σ2 H2)(hd:∀σ H,Pv xs.length σ H->D.nx σ H):
  ∃W:Nat->Nat->St->Hp->Prop,(∃m,W 0 m σ H)/\∀i m σ H,W i m σ H →
   ((aIf K b c2 a1 a2).stop i H/\D.nx σ H)\/((aIf K b c2 a1 a2).go i H/\∃N:St->Hp->Prop,(∀σ' H',N σ' H'->∃m',m'<m/\W (i+1) m' σ' H')/\∀x H',(aIf K b c2 a1 a2).yld i H x H'->g x σ H' fun σ2 H2=>tb { D with nx:=N,ct:=N,bk:=D.nx } σ2 H2):=by
 refine⟨fun i m σ H=>m=xs.length-i/\i<=xs.length/\Pv i σ H,⟨xs.length,by simp,yq _,h0⟩,?_⟩;rintro i m σ H ⟨rfl,hi,p⟩;obtain⟨q1,q2⟩:=hl i σ H hi p
 by_cases hlt:i<xs.length
 ·have hl2:i<ys.length:=by omega
  refine .inr ⟨⟨xs,ys,xs[i],ys[i],q1,q2,by simp[hlt],by simp[hl2]⟩,Pv (i+1),fun σ' H' p'=>⟨xs.length-(i+1),by omega,rfl,hlt,p'⟩,fun v H' y=>?_⟩;obtain⟨x,y,pa,rfl,hn,rfl,hx,hy⟩:=y;exact hs i x y σ H pa (hx xs q1) (hy ys q2) p hn
 ·have e:i=xs.length:=by omega
  subst e;exact .inl ⟨⟨xs,ys,q1,q2,.inl (μ _)⟩,hd σ H p⟩
theorem aIx{K:ω}{b:Bool}{xs ys:List V}{k:Nat}{g:TG}{tc:TT}{te:TE}{Q:VK}(P:Nat->List V->Hp->Prop)(he:ys.length=xs.length)(h0:P 0 [] H1)(hl:∀i zs H,i<=xs.length->P i zs H->Sq2 K b H a1 xs/\Sq2 K c2 H a2 ys/\zs.length<=i)(hz:xs.length<ψ)
  (hs:∀i x y zs H p (os:St),os.length=k->xs[i]?=some x->ys[i]?=some y->P i zs H->H p=none->g (.ref p) (os++xE js σ) (upd H p (.tup [x,y])) fun σ3 H3=>tc σ3 H3 fun b H2=>if b=true then te σ3 H2 fun v H3=>lB P i k js σ σ3 (zs++[v]) H3 else lB P i k js σ σ3 zs H2)
  (hd:∀zs H,P xs.length zs H->∀p,H p=none->Q (.ref p) (upd H p (.lst zs))):
  mH (aIf K b c2 a1 a2) k js g tc te σ Q H1:=by
 refine⟨fun i m σ' zs H=>m=xs.length-i/\i<=xs.length/\P i zs H/\∃os:St,os.length=k/\σ'=os++xE js σ,⟨xs.length,by simp,yq _,h0,Ac k none,Bg,rfl⟩,?_⟩;rintro i m σ' zs H ⟨rfl,hi,p,os,ho,rfl⟩;obtain⟨q1,q2,hy⟩:=hl i zs H hi p
 by_cases hlt:i<xs.length
 ·have hl2:i<ys.length:=by omega
  refine .inr ⟨⟨xs,ys,xs[i],ys[i],q1,q2,by simp[hlt],by simp[hl2]⟩,by omega,lB P i k js σ,fun σ3 zs H3 z=>⟨xs.length-(i+1),by omega,rfl,hlt,z.1,z.2⟩,fun v H' y=>?_⟩;obtain⟨x,y,pa,rfl,hn,rfl,hx,hy⟩:=y;exact hs i x y zs H pa os ho (hx xs q1) (hy ys q2) p hn
 ·have e:i=xs.length:=by omega
  subst e;exact .inl ⟨⟨xs,ys,q1,q2,.inl (μ _)⟩,hd zs H p⟩
section
variable {P:Ao}{w:AD}{A:Ak}{E:Value->ν->Prop}{s:ν}
theorem lK{s:ν}{a:Addr}{Q:Option Obj->ν->Prop}(h:Q (s.heap.get? a) s):xy M A (loadIfAlive a) Q E s:=fun Γ p hΓ=>by
 unfold loadIfAlive;rw[Sem.wp_loadIfAlive];exact h
abbrev sZ (h:Ag) (z TI TO:Addr) (f0:Value) (b:Bool):Prop :=
 h.get? z=some { cls:=.type "zip",dict:=none,data:=.fields #[f0,.bool b,.bool false,.ref TI,.ref TO],slots:=#[] }
structure ZpB (b c2 f:Bool) (T:Addr) (h:Ag) (z ti to j1 j2 a1 a2:Addr) (n:Nat):Prop where
 z:sZ h z ti to (Bt T) f
 ti:IsPair h ti (.ref j1) (.ref j2)
 t:∃o,h.get? T=some o
 i1:yV b h j1 a1 n
 i2:yV c2 h j2 a2 n
theorem aJx{T:Addr}{f:Bool}{z ti to:Addr}{Q:Bool->ν->Prop}(hz:sZ s.heap z ti to (Bt T) f)(ht:∃o,s.heap.get? T=some o)(nz:T≠z)
  (k:∀g,sZ g z ti to (Bt T) true->(∀c o,c≠z->s.heap.get? c=some o->g.get? c=some o)->g.objs.size=s.heap.objs.size->Q false { s with heap:=g }):xy (yl P w) A (zo (.ref z)) Q E s:=by
 obtain⟨o,ho⟩:=ht;unfold zo;refine ζ (Af hz rfl (x:=Bt T) rfl ?_);show xy _ _ (loadIfAlive T >>= fun _=>_) _ _ _;refine ζ (lK ?_);rw[ho];simp only[Option.isNone_some,Cq,if_false];cases f with
 |false =>
  refine ζ (Af hz rfl (x:=.bool false) rfl ?_);rw[if_pos (by decide)];refine ζ (Bl hz (by simp) fun e1 z1 s1=>?_);exact Θ (k _ z1 (fun c o hc e=>s1.extBut _ _ hc e) s1.1)
 |true =>
  refine ζ (Af hz rfl (x:=.bool true) rfl ?_);rw[if_neg (by decide)];exact Θ (k _ hz (fun c o _ e=>e) rfl)
theorem aPn{T:Addr}{Q:Option Value->ν->Prop}(D:Dl z ti to j1 j2 a1 a2)(nz:T≠z)(hz:ZpB b c2 f T s.heap z ti to j1 j2 a1 a2 n)
  (g1:vW b s.heap a1 us)(g2:vW c2 s.heap a2 vs)(hu:us[n]?=some u)(hv:vs[n]?=some v)
  (k:∀g,sZ g z ti to (Bt T) true->yV b g j1 a1 (n+1)->yV c2 g j2 a2 (n+1)->IsPair g s.heap.objs.size u v->g.objs.size=s.heap.objs.size+1 →
   (∀c o,c∉[z,j1,j2]->s.heap.get? c=some o->g.get? c=some o)->Q (some (.ref s.heap.objs.size)) { s with heap:=g }):xy (yl P w) A (pyNext (.ref z)) Q E s:=by
 obtain⟨hz,hi,ht,h1,h2⟩:=hz;have ty:s.TypeIs (.ref z) "zip":=⟨_,hz,rfl⟩;unfold pyNext;refine ζ (Ec (wpAny_callSpecial?_slot (name:=ε "__next__") ty Bx (Cf Bx ty DY ?_ (DH _))));show xy _ _ (field (.ref z) 2 >>= fun _=>_) _ _ _;refine ζ (Af hz rfl (x:=.bool false) rfl ?_);show xy _ _ (field (.ref z) 3 >>= fun _=>_) _ _ _;refine ζ (Af hz rfl (x:=.ref ti) rfl ?_);refine ζ (AU hi rfl ?_);show xy _ _ (zo (.ref z) >>= fun _=>_) _ _ _;refine ζ (aJx hz ht nz fun e1 z1 x1 sz1=>?_);simp only[Cq,if_false];refine ζ ?_;simp only[←Array.forIn_toList,List.forIn_cons,List.forIn_nil];refine ζ (ζ (AM ?_));show xy _ _ (zd (.ref j1) >>= fun _=>_) _ _ _;refine ζ (rF (h1.keep fun o e=>x1 _ o D.i1z e) (g1.keep fun o e=>x1 _ o D.l1z e) hu fun e2 m2 s2=>Θ ?_);have x2:=s2.extBut;refine Θ ?_;refine ζ (ζ (AM ?_));show xy _ _ (zd (.ref j2) >>= fun _=>_) _ _ _;refine ζ (rF (h2.keep fun o e=>x2 _ o D.i12.symm (x1 _ o D.i2z e)) (g2.keep fun o e=>x2 _ o D.l2i1 (x1 _ o D.l2z e)) hv fun e4 m4 s4=>Θ ?_);have x4:=s4.extBut;refine Θ (Θ ?_);show xy _ _ (newTuple [u,v] >>= fun _=>_) _ _ _;refine ζ (wpAny_newTuple ?_);refine Θ ⟨_,rfl,Θ ?_⟩;have sz:e4.objs.size=s.heap.objs.size:=by rw[s4.1,s2.1,sz1]
 show Q (some (.ref e4.objs.size)) _;have lt:∀{c:Addr}{o:Obj},e4.get? c=some o->(e4.push { cls:=.type "tuple",data:=.seq #[u,v] }).get? c=some o:=fun e=>ρ _ e;have up:∀c o,c∉[z,j1,j2]->s.heap.get? c=some o->e4.get? c=some o:=fun c o hc e=>by
  simp only[ς,Ω,or_false,not_or]at hc;exact x4 _ _ hc.2.2 (x2 _ _ hc.2.1 (x1 _ _ hc.1 e))
 have z4:sZ e4 z ti to (Bt T) true:=x4 _ _ D.i2z.symm (x2 _ _ D.i1z.symm z1);have m24:yV b e4 j1 a1 (n+1):=m2.keep fun o e=>x4 _ o D.i12 e;have tp:(e4.push { cls:=.type "tuple",data:=.seq #[u,v] }).get? e4.objs.size=some { cls:=.type "tuple",data:=.seq #[u,v] }:=yf _ rfl;have szp:(e4.push { cls:=.type "tuple",data:=.seq #[u,v] }).objs.size=e4.objs.size+1:=AT ..;rw[sz]at tp szp;rw[sz];exact k _ (lt z4) (m24.keep fun o e=>lt e) (m4.keep fun o e=>lt e) tp szp fun c o hc e=>lt (up c o hc e)
theorem aRy{T:Addr}{Q:Option Value->ν->Prop}(hh:A.handled=none)(D:Dl z ti to j1 j2 a1 a2)(nz:T≠z)(hz:ZpB b c2 f T s.heap z ti to j1 j2 a1 a2 n)
  (g1:vW b s.heap a1 us)(g2:vW c2 s.heap a2 vs)(hend:us[n]?=none)
  (k:∀g,(∀c o,c∉[z,j1,j2]->s.heap.get? c=some o->g.get? c=some o)->Q none { s with heap:=g }):xy (yl P w) A (pyNext (.ref z)) Q E s:=by
 obtain⟨hz,hi,ht,h1,h2⟩:=hz;have ty:s.TypeIs (.ref z) "zip":=⟨_,hz,rfl⟩;unfold pyNext;refine ζ (Ec (wpAny_callSpecial?_slot (name:=ε "__next__") ty Bx (Cf Bx ty DY ?_ (DH _))));show xy _ _ (field (.ref z) 2 >>= fun _=>_) _ _ _;refine ζ (Af hz rfl (x:=.bool false) rfl ?_);show xy _ _ (field (.ref z) 3 >>= fun _=>_) _ _ _;refine ζ (Af hz rfl (x:=.ref ti) rfl ?_);refine ζ (AU hi rfl ?_);show xy _ _ (zo (.ref z) >>= fun _=>_) _ _ _;refine ζ (aJx hz ht nz fun e1 z1 x1 sz1=>?_);simp only[Cq,if_false];refine ζ ?_;simp only[←Array.forIn_toList,List.forIn_cons,List.forIn_nil];refine ζ (ζ (AM ?_));show xy _ _ (zd (.ref j1) >>= fun _=>_) _ _ _;refine ζ (aLo hh (h1.keep fun o e=>x1 _ o D.i1z e) (g1.keep fun o e=>x1 _ o D.l1z e) hend fun e2 x s2 hx=>?_);obtain⟨ox,ex,cx⟩:=hx;refine ζ (wpAny_isInstance (T:="StopIteration") (b:=true) ⟨ox,ex,cx⟩ isSubtype_stop ?_);refine Θ (k _ fun c o hc e=>?_);simp only[ς,Ω,or_false,not_or]at hc;exact s2 _ _ hc.2.1 (x1 _ _ hc.1 e)
end
theorem gT:CI (.type "zip") "__getattr__" = pure none:=by rw[typeLookup_type,DP];kernel_rfl
theorem nQ:CI (.type "zip") "keys" = pure none:=by rw[typeLookup_type,DP];kernel_rfl
theorem bI:entryFor table "zip.__getattribute__" = some BA.«object.__getattribute__» :=
 entryFor_alias (id':="object.__getattribute__") (by kernel_rfl) (by ac_rfl) (by ac_rfl) (by kernel_rfl)
theorem aH(a:Addr)(fs:Array Value)(sl:Array (Option Value))(name:Str)(u:Tok)(hmiss:CI (.type "zip") name=pure none)(hname:(["__module__","__name__","__qualname__","__doc__","__annotations__"]:List Str).contains name=false)(hsz:name.length+100<=ψ:=by size_fits):
  Meets (BA.«object.__getattribute__» ⟨[.ref a,.str name u],[]⟩) (fun A R s=>s.heap.get? a=some { cls:=.type "zip",dict:=none,data:=.fields fs,slots:=sl }/\raisesAttr (.ref a) name A R s) :=
 Meets.of_wp fun prog w A R s hs=>by
  obtain⟨hp,g,d,tk,os⟩:=s;obtain⟨hx,hs⟩:=hs;have hT:(⟨hp,g,d,tk,os⟩ : ν).TypeIs (.ref a) "zip":=⟨_,hx,rfl⟩;unfold BA.«object.__getattribute__»
  repeat (any_goals (first|assumption|wp_step))
  simp only[hname,Cq,if_false]
  repeat (any_goals (first|assumption|wp_step))
  exact wpAny_raiseAttrError hs.1 hs.2 (attrMsg_fits (by ac_rfl) hsz)
theorem aCw{A:Ak}{s:ν}{a:Addr}{Q:Option Value->ν->Prop}
  (hx:s.heap.get? a=some { cls:=.type "zip",dict:=none,data:=.fields fs,slots:=#[] })(hA:A.handled=none)
  (h:∀h' tk e,Ag.NewExcOf s.heap h' e "AttributeError"->Q none { s with heap:=h',toks:=tk }):
  xy (yl prog w) A (getAttr? (.ref a) "keys") Q E s:=by
 obtain⟨hp,g,d,tk,os⟩:=s;have hT:∀tk',(⟨hp,g,d,tk',os⟩ : ν).TypeIs (.ref a) "zip":=fun _=>⟨_,hx,rfl⟩;have f1:=sub_AttributeError;have f3:=Dy.lookup;have f4:=Dy.bind (.ref a);have f5:=gT;unfold getAttr? getAttrBy? getAttrBy
 repeat (any_goals (first|assumption|exact hT _|((with_reducible show xy _ _ (call (Value.builtin "zip.__getattribute__") _ _) _ _ _);refine CJ Dy (hT _) bI (F.args_zip_getattribute_2 _ _) (aH a fs #[] "keys" _ nQ (by decide) (by size_fits)) ⟨hx,hA,fun h' tk' e hx'=>?_⟩)|wp_step))
 obtain⟨t',u',he⟩:=hx'.there;show xy _ _ (getattributeRaised _ _ _ _ _ _ _) _ _ _;unfold getattributeRaised
 repeat (any_goals (first|assumption|wp_step))
 exact h _ _ _ hx'.of
theorem uL:entryFor table "dict.update.loop" = some BA.«dict.update.loop»:=entryFor_of_tree (by kernel_rfl)
theorem gO:plainId "dict.update.loop" = true:=by ac_rfl
def ZS (b c2:Bool) (h:Ag) (z ti to j1 j2 a1 a2:Addr) (n:Nat):Prop:=ZpM b c2 h z ti to j1 j2 a1 a2 n\/∃f T,T≠z/\T∉[to,j1,j2]/\(∃o,h.get? to=some o)/\ZpB b c2 f T h z ti to j1 j2 a1 a2 n
section
variable {P:Ao}{w:AD}{A:Ak}{E:Value->ν->Prop}{s:ν}
theorem aRk{Q:Option Value->ν->Prop}(D:Dl z ti to j1 j2 a1 a2)(hz:ZS b c2 s.heap z ti to j1 j2 a1 a2 n)
  (g1:vW b s.heap a1 us)(g2:vW c2 s.heap a2 vs)(hu:us[n]?=some u)(hv:vs[n]?=some v)
  (k:∀g,ZS b c2 g z ti to j1 j2 a1 a2 (n+1)->IsPair g s.heap.objs.size u v->(∀c o,c∉[z,to,j1,j2]->s.heap.get? c=some o->g.get? c=some o)->Q (some (.ref s.heap.objs.size)) { s with heap:=g }):xy (yl P w) A (pyNext (.ref z)) Q E s:=by
 have tin:ti∉[z,to,j1,j2]:=by simp[D.TIz,D.TITO,D.TIi1,D.TIi2]
 rcases hz with hz|⟨f,T,nz,nT,⟨o',ho'⟩,hz⟩
 ·have l0:z<s.heap.objs.size:=Ξ hz.z;obtain⟨p,q,hto⟩:=hz.to;have l1:to<s.heap.objs.size:=Ξ hto;obtain⟨o1,e1,_⟩:=hz.i1.obj;obtain⟨o2,e2,_⟩:=hz.i2.obj;have l2:=Ξ e1;have l3:=Ξ e2;refine aGr D hz g1 g2 hu hv fun g gz go i1 i2 gn fr=>k g (.inr ⟨false,s.heap.objs.size,As l0,?_,⟨_,go⟩,gz,fr _ _ tin hz.ti,⟨_,gn⟩,i1,i2⟩) gn fr;simp only[ς,Ω,or_false,not_or];exact⟨As l1,As l2,As l3⟩
 ·obtain⟨ot,ht⟩:=hz.t;have nT':T∉[z,j1,j2]:=by
   simp only[ς,Ω,or_false,not_or]at nT ⊢;exact⟨nz,nT.2.1,nT.2.2⟩
  have tin':ti∉[z,j1,j2]:=by simp[D.TIz,D.TIi1,D.TIi2]
  have to':to∉[z,j1,j2]:=by simp[D.TOz,D.TOi1,D.TOi2]
  refine aPn D nz hz g1 g2 hu hv fun g gz i1 i2 gn _ fr=>k g (.inr ⟨true,T,nz,nT,⟨_,fr _ _ to' ho'⟩,gz,fr _ _ tin' hz.ti,⟨_,fr _ _ nT' ht⟩,i1,i2⟩) gn fun c o hc e=>fr c o (fun m=>hc ?_) e;simp only[ς,Ω,or_false]at m ⊢;rcases m with m|m|m
  ·exact .inl m
  ·exact .inr (.inr (.inl m))
  ·exact .inr (.inr (.inr m))
theorem zsEnd{Q:Option Value->ν->Prop}(hh:A.handled=none)(D:Dl z ti to j1 j2 a1 a2)(hz:ZS b c2 s.heap z ti to j1 j2 a1 a2 n)
  (g1:vW b s.heap a1 us)(g2:vW c2 s.heap a2 vs)(hend:us[n]?=none)
  (k:∀g,(∀c o,c∉[z,to,j1,j2]->s.heap.get? c=some o->g.get? c=some o)->Q none { s with heap:=g }):xy (yl P w) A (pyNext (.ref z)) Q E s:=by
 rcases hz with hz|⟨f,T,nz,nT,_,hz⟩
 ·exact aMo hh D hz g1 g2 (.inl hend) k
 ·refine aRy hh D nz hz g1 g2 hend fun g fr=>k g fun c o hc e=>fr c o (fun m=>hc ?_) e;simp only[ς,Ω,or_false]at m ⊢;rcases m with m|m|m
  ·exact .inl m
  ·exact .inr (.inr (.inl m))
  ·exact .inr (.inr (.inr m))
end
def aHh (xs:List Str) (vs:List Value) (kvs:List (Key×Value)):List (Key×Value):=(xs.zip vs).foldl (fun acc p=>stored acc (.inr p.1) p.2) kvs
section
variable {P:Ao}{w:AD}{A:Ak}{R:Result->ν->Prop}
theorem aSj{d:Addr}{xs:List Str}{us vs:Array Value}(hh:A.handled=none)(D:Dl z ti to j1 j2 a1 a2)(hd:d∉[z,ti,to,j1,j2,a1,a2])(hx:∀(i:Nat) (x:Str),xs[i]?=some x->∃t,us[i]?=some (.str x t))(hl:xs.length=us.size)(hv:vs.size=us.size)(hb:us.size<=100):
  ∀(m n:Nat) (i:Int) (kvs:List (Key×Value)) (s:ν),us.size-n=m->n<=us.size->kvs.length<=n->ZS b c2 s.heap z ti to j1 j2 a1 a2 n->vW b s.heap a1 us->vW c2 s.heap a2 vs->s.heap.DictOf (qT P w) d kvs →
   (∀(h':Ag) (tk:Nat),h'.DictOf (qT P w) d (aHh (xs.drop n) (vs.toList.drop n) kvs)->(∀c o,c∉[z,to,j1,j2,d]->s.heap.get? c=some o->h'.get? c=some o)->R (.ok (.ret .none)) { s with heap:=h',toks:=tk }) →
   Dr (yl P w) A (.builtin "dict.update.loop" ⟨[.ref d,.ref z,Bt i,.none],[]⟩) R s:=by
 intro m
 induction m with
 |zero =>
  intro n i kvs s hm hn hk zs g1 g2 dd hR;have hin:n=us.size:=by omega
  refine codeAny_builtin uL ?_;rw[Ak.under_plainId gO _];show xy _ A.in1 (pyNext (.ref z) >>= _) _ _ s;refine ζ (zsEnd hh D zs g1 g2 (by rw[hin];simp) fun g fr=>?_);show xy _ _ (BA.Dict.addKeywords d [] >>= _) _ _ _;refine ζ (Θ (Θ ?_));have e0:aHh (xs.drop n) (vs.toList.drop n) kvs=kvs:=by
   rw[List.drop_of_length_le (by omega)];rfl
  refine hR g s.toks ?_ fun c o hc e=>fr c o (fun m=>hc ?_) e
  ·rw[e0];obtain⟨o,es,ep,ho,rest⟩:=dd;refine⟨o,es,ep,fr _ _ (fun m=>hd ?_) ho,rest⟩;simp only[ς,Ω,or_false]at m ⊢;rcases m with m|m|m|m <;> simp[m]
  ·simp only[ς,Ω,or_false]at m ⊢;rcases m with m|m|m|m <;> simp[m]
 |succ m ih =>
  intro n i kvs s hm hn hk zs g1 g2 dd hR;have hlt:n<us.size:=by omega
  have hxn:n<xs.length:=by omega
  obtain⟨t,hu⟩:=hx n xs[n] (η hxn);have hvn:vs[n]?=some vs[n]:=by simp[hv,hlt]
  refine codeAny_builtin uL ?_;rw[Ak.under_plainId gO _];show xy _ A.in1 (pyNext (.ref z) >>= _) _ _ s;refine ζ (aRk D zs g1 g2 hu hvn fun g zs' pr fr=>?_);show xy _ _ (holding [yk s.heap.objs.size] _ >>= _) _ _ _;refine ζ (AM (ζ (wpAny_tryCatch ?_)));unfold BA.Dict.pairItems;have hT:({ s with heap:=g } : ν).TypeIs (.ref s.heap.objs.size) "tuple":=⟨_,pr,rfl⟩;refine ζ (wpAny_typeOf hT ?_);rw[if_pos (by decide)];refine ζ (AU pr rfl (Θ ?_));show xy _ _ (holding [Value.str xs[n] t,vs[n]] (dictSet d (.str xs[n] t) vs[n])) _ _ _;have frd:∀{c:Addr},c∈[z,to,j1,j2]->c∈[z,to,j1,j2,d]:=fun {c} m=>by
   simp only[ς,Ω,or_false]at m ⊢;rcases m with m|m|m|m <;> simp[m]
  have dd':g.DictOf (qT P w) d kvs:=by
   obtain⟨o,es,ep,ho,rest⟩:=dd;refine⟨o,es,ep,fr _ _ (fun m=>hd ?_) ho,rest⟩;simp only[ς,Ω,or_false]at m ⊢;rcases m with m|m|m|m <;> simp[m]
  refine AM (wpAny_dictSet_pairs (knd:=qT P w) (k:=AO xs[n]) (sQ (k:=AO xs[n]) ⟨t,rfl⟩) dd' (fun h' dd2 sb=>?_) (by rw[ym];omega));have ls:(stored kvs (AO xs[n]) vs[n]).length<=n+1:=by
   unfold stored
   split
   ·rw[δ];omega
   ·rw[ι,zk];omega
  have nd:∀c,c∈[z,ti,to,j1,j2,a1,a2]->c≠d:=fun c hc e=>hd (e ▸ hc);have kp:∀c o,c≠d->g.get? c=some o->h'.get? c=some o:=fun c o hc e=>sb.extBut _ _ hc e;have zs2:ZS b c2 h' z ti to j1 j2 a1 a2 (n+1):=by
   rcases zs' with q|⟨f,T,nz,nT,⟨o',ho'⟩,q⟩
   ·obtain⟨p,q',ho⟩:=q.to;exact .inl ⟨kp _ _ (nd _ (by simp)) q.z,kp _ _ (nd _ (by simp)) q.ti,⟨p,q',kp _ _ (nd _ (by simp)) ho⟩,q.i1.keep fun o e=>kp _ _ (nd _ (by simp)) e,q.i2.keep fun o e=>kp _ _ (nd _ (by simp)) e⟩
   ·refine .inr ⟨f,T,nz,nT,⟨o',kp _ _ (nd _ (by simp)) ho'⟩,kp _ _ (nd _ (by simp)) q.z,kp _ _ (nd _ (by simp)) q.ti,?_,q.i1.keep fun o e=>kp _ _ (nd _ (by simp)) e,q.i2.keep fun o e=>kp _ _ (nd _ (by simp)) e⟩;obtain⟨o,ho⟩:=q.t
    by_cases e:T=d
    ·rw[e];obtain⟨o2,_,_,h2,_⟩:=dd2;exact⟨o2,h2⟩
    ·exact⟨o,kp _ _ e ho⟩
  have a1n:a1∉[z,to,j1,j2]:=by simp[D.l1z,D.l1TO,D.l1i1,D.l1i2]
  have a2n:a2∉[z,to,j1,j2]:=by simp[D.l2z,D.l2TO,D.l2i1,D.l2i2]
  refine Θ ⟨plainId_quiet gO _,ih (n+1) (i+1) _ _ (by omega) (by omega) ls zs2 (g1.keep fun o e=>kp _ _ (nd _ (by simp)) (fr _ _ a1n e)) (g2.keep fun o e=>kp _ _ (nd _ (by simp)) (fr _ _ a2n e)) dd2 fun h2 tk dd3 fr2=>?_⟩;refine hR h2 tk ?_ fun c o hc e=>fr2 c o hc (kp _ _ (fun z=>hc (by simp[z])) (fr _ _ (fun m=>hc (frd m)) e));have e1:xs.drop n=xs[n]::xs.drop (n+1):=CV hxn;have e2:vs.toList.drop n=vs[n]::vs.toList.drop (n+1):=CV (by simpa using (show n<vs.size by omega));rw[e1,e2];exact dd3
end
section
variable {P:Ao}{w:AD}{A:Ak}{E:Value->ν->Prop}{s:ν}
theorem uG{xs:List Str}{Q:Value->ν->Prop}(hh:A.handled=none)(D:Dl z ti to j1 j2 a1 a2)(hz:ZpM b c2 s.heap z ti to j1 j2 a1 a2 0)(g1:vW b s.heap a1 us)(g2:vW c2 s.heap a2 vs)
  (hx:∀(i:Nat) (x:Str),xs[i]?=some x->∃t,us[i]?=some (.str x t))(hl:xs.length=us.size)(hv:vs.size=us.size)(hb:us.size<=100)
  (h:∀(h':Ag) (tk:Nat),h'.DictOf (qT P w) s.heap.objs.size (aHh xs vs.toList [])->(∀c o,c∉[z,to,j1,j2]->s.heap.get? c=some o->h'.get? c=some o)->Q (.ref s.heap.objs.size) { s with heap:=h',toks:=tk }):
  xy (yl P w) A (call (.type "dict") [.ref z]) Q E s:=by
 refine callType_codes (Q₁:=fun obj s₁=>obj=.ref s.heap.objs.size/\s₁ = { s with heap:=s.heap.push { cls:=.type "dict",data:=.dict #[] } }) F.kt_called_dict (F.kt_typeCall_dict_1 _) F.entry_dict_init (kt_code_dict_new _ ⟨rfl,rfl⟩) ?_;rintro obj s₁ ⟨rfl,rfl⟩;have hnew:(s.heap.push { cls:=.type "dict",data:=.dict #[] }).DictOf (qT P w) s.heap.objs.size []:=Ag.DictOf.new s.heap;have up:∀c o,s.heap.get? c=some o->(s.heap.push { cls:=.type "dict",data:=.dict #[] }).get? c=some o:=fun c o e=>ρ _ e;have hz':IsZip (s.heap.push { cls:=.type "dict",data:=.dict #[] }) z ti to .none:=up _ _ hz.z;refine⟨hnew.typeIs,F.args_dict_init_2 _ _,?_⟩;unfold BA.«dict.__init__»;refine ζ ?_;unfold BA.Dict.selfAndRest;refine ζ (wpAny_notOrdered_dict hnew.typeIs ?_);show xy _ _ (pure (s.heap.objs.size,[yk z])) _ _ _;refine Θ ?_;show xy _ _ (BA.Dict.updateFrom "dict.__init__" s.heap.objs.size (.ref z) [] .none) _ _ _;unfold BA.Dict.updateFrom;refine ζ (wpAny_typeOf (T:="zip") ⟨_,hz',rfl⟩ ?_);rw[if_pos (by decide)];refine ζ (aCw hz' hh fun h1 tk e ne=>?_);simp only[Option.isNone_none,if_true];have kp:∀c o,s.heap.get? c=some o->h1.get? c=some o:=fun c o q=>ne.keeps _ _ (up _ _ q);refine ζ (wpAny_rule ?_);refine ζ (wpAny_pyIter_zip (kp _ _ hz.z) ?_);obtain⟨p,q,ho⟩:=hz.to;have z1:ZpM b c2 h1 z ti to j1 j2 a1 a2 0:=⟨kp _ _ hz.z,kp _ _ hz.ti,⟨p,q,kp _ _ ho⟩,hz.i1.keep fun o e=>kp _ _ e,hz.i2.keep fun o e=>kp _ _ e⟩;have dd1:h1.DictOf (qT P w) s.heap.objs.size []:=by
  obtain⟨o,es,ep,ho,rest⟩:=hnew;exact⟨o,es,ep,ne.keeps _ _ ho,rest⟩
 obtain⟨o1,e1,_⟩:=hz.i1.obj;obtain⟨o2,e2,_⟩:=hz.i2.obj;have hd:s.heap.objs.size∉[z,ti,to,j1,j2,a1,a2]:=by
  simp only[ς,Ω,or_false,not_or];exact⟨As (Ξ hz.z),As (Ξ hz.ti),As (Ξ ho),As (Ξ e1),As (Ξ e2),As g1.lt,As g2.lt⟩
 refine Θ ⟨plainId_quiet gO _,aSj (A:=A.in1) hh D hd hx hl hv hb us.size 0 0 [] _ rfl (yq _) (μ _) (.inl z1) (g1.keep fun o e=>kp _ _ e) (g2.keep fun o e=>kp _ _ e) dd1 fun h' tk' dd fr=>⟨rfl,h h' tk' dd fun c o hc e=>fr c o (fun m=>?_) (kp _ _ e)⟩⟩;simp only[ς,Ω,or_false]at m hc;rcases m with m|m|m|m|m
 ·exact hc (.inl m)
 ·exact hc (.inr (.inl m))
 ·exact hc (.inr (.inr (.inl m)))
 ·exact hc (.inr (.inr (.inr m)))
 ·exact absurd (Ξ e) (by rw[m];exact AG _)
end
theorem aCc:∀{xs ys:List Str}{us:List Value}{kvs:List (Key×V)}{vs:List (Key×Value)},xs.length=ys.length->kQ (ys.map V.str) us->KV kvs vs->KV (bC kvs (zt (fun x y=>((.inr x:Key),V.str y)) xs ys)) (aHh xs us vs)
 |[],_,_,_,_,_,_,r=>r
 |x::xs,[],_,_,_,h,_,_=>by simp at h
 |x::xs,y::ys,us,kvs,vs,h,hv,r=>by
  rw[zm]at hv;cases hv with
  | @cons _ _ u us' ru rs =>
   exact aCc (xs:=xs) (ys:=ys) (by simpa using h) rs (r.put (.inr x) ru)
def tDZip (K:ω) (ta:TA):TE:=fun σ H Q=>ta σ H fun vs H1=>∃(b c2:Bool) (a1 a2:Addr) (xs ys:List Str),vs=[.ref a1,.ref a2]/\Sq2 K b H1 a1 (xs.map V.str)/\Sq2 K c2 H1 a2 (ys.map V.str)/\xs.length=ys.length/\xs.length<=100 ∧
 ∀d,H1 d=none->Q (.ref d) (upd H1 d (.dK (bC [] (zt (fun x y=>((.inr x:Key),V.str y)) xs ys))))
theorem aNk{a c:Expr}(hgd:Gl X "dict")(hmd:X.mg "dict" = none)(hg:Gl X "zip")(hm:X.mg "zip" = none)(hc:X.calm=true)(ha:PA X [a,c] ta)
  (hs:yi [a,c] X.env=(false,eval a X.env)::yi [c] X.env:=by rfl)(hs2:yi [c] X.env=[(false,eval c X.env)]:=by rfl)
  (hs3:yi [.Call (.Name "zip" p2) [a,c] [] pos2] X.env=(false,eval (.Call (.Name "zip" p2) [a,c] [] pos2) X.env)::yi [] X.env:=by rfl):
  PE X (.Call (.Name "dict" p) [.Call (.Name "zip" p2) [a,c] [] pos2] [] pos) (tDZip X.K ta):=by
 intro pins s σ H Q I h;refine AW (eN I hgd hmd (show AV "dict" = some (.type "dict") from by ac_rfl) ?_ (by decide) (by decide));refine AJ ?_ hs3 rfl;rw[hs3];show xy _ _ (spliced ((false,eval (.Call (.Name "zip" p2) [a,c] [] pos2) X.env)::BH pos (yi [] X.env))) _ _ s;refine Dt ?_;refine AW (eN I hg hm (show AV "zip" = some (.type "zip") from by ac_rfl) ?_ (by decide) (by decide));refine AJ (thn (ha pos2 pins s σ H _ I h) fun us s1 zq=>?_) hs (by rw[hs2];rfl);obtain⟨vs,H1,I1,r1,q1⟩:=zq;obtain⟨b,c2,a1,a2,xs,ys,e,h1,h2,hl,hb,q⟩:=q1;subst e;obtain⟨u,v,rfl,rx,ry⟩:=vals2 r1;cases rx;cases ry;obtain⟨is1,v1,k1⟩:=I1.seq2 h1;obtain⟨is2,v2,k2⟩:=I1.seq2 h2;have l1:=k1.lt;have l2:=k2.lt;have n1:=v1.length;have n2:=v2.length;rw[δ]at n1 n2;refine aGy k1 k2 fun g gz gk=>?_;have D:Dl (s1.heap.objs.size+4) (s1.heap.objs.size+2) (s1.heap.objs.size+3) s1.heap.objs.size (s1.heap.objs.size+1) a1 a2:=by
  constructor <;> simp <;> first|exact yg (χ l1 (AY _ _))|exact yg (χ l2 (AY _ _))|exact yg l1|exact yg l2|decide
 refine Calls.spliced_nil ?_;refine uG (xs:=xs) (I1.ok.hd hc) D gz (k1.keep fun o e=>gk _ _ e) (k2.keep fun o e=>gk _ _ e) (fun i x hx=>?_) (by rw[υ];omega) (by rw[υ,υ];omega) (by rw[υ];omega) fun h' tk dd fr=>?_
 ·obtain⟨u,hu,ru⟩:=v1.get (x:=V.str x) (i:=i) (by rw[yv,hx];rfl);obtain⟨t,rfl⟩:=ru;exact⟨t,by simpa using hu⟩
 have gs:s1.heap.objs.size<=g.objs.size:=by
  have:=Ξ gz.z;exact Bn (zy (AY _ _) this)
 have keep:∀b o,s1.heap.get? b=some o->h'.get? b=some o:=fun b o e=>by
  have lb:=Ξ e;refine fr b o ?_ (gk _ _ e);simp only[ς,Ω,or_false,not_or];exact⟨yg (χ lb (AY _ _)),yg (χ lb (AY _ _)),yg lb,yg (χ lb (AY _ _))⟩
 have hz:(bC [] (zt (fun x y=>((.inr x:Key),V.str y)) xs ys)).length<=ψ:=by
  have h1:=gY (zt (fun x y=>((.inr x:Key),V.str y)) xs ys) [];rw[Cv,De]at h1;rw[ym];omega
 refine⟨.ref g.objs.size,_,I1.laid (a:=g.objs.size) (o:=.dK (bC [] (zt (fun x y=>((.inr x:Key),V.str y)) xs ys))) (t':=tk) keep gs ?_,rfl,q _ (I1.hok.fresh gs)⟩;exact aEz hz (beq_eq_false_iff_ne.mpr (Aj (yg (χ I1.big gs)))) (aCc hl v2 .nil) (by simpa using dd)
theorem rA{X:Cx}{K:ω}(hK:X.K=K):OpR X (Ah .In) (rIn K false):=hK ▸ vU
theorem aOw{X:Cx}(hu:X.A.units+64<Cs):OpR X (Ah .NotEq) (fun x y H Q=>∃(a b:Addr) (o:Option Str) (z:Str),x=.ref a/\y=.ref b/\SqL X.K H a (o.toList.map V.str)/\SqL X.K H b [.str z]/\Q (.bl (!decide (o=some z))) H):=by
 intro pins s σ H x y v u Q I rx ry h;obtain⟨a,b,o,z,rfl,rfl,ha,hb,q⟩:=h;cases rx;cases ry;obtain⟨i1,r1,p1,_⟩:=I.list ha;obtain⟨i2,r2,p2,_⟩:=I.list hb;show xy _ _ (richCompare .NotEq (.ref a) (.ref b)) _ _ _;cases r2 with
 |cons rz rt =>
  cases rt;obtain⟨t,rfl⟩:=rz;cases o with
  |none =>
   cases r1;refine BL p1.isList p2.isList (by simp) (by omega) _ _ _ _ ?_;exact⟨.bl true,H,I,rfl,q⟩
  |some w =>
   cases r1 with
   |cons rw' rt' =>
    cases rt';obtain⟨t',rfl⟩:=rw';refine SeqAt.RcNeAt.lists (e:=fun _=>w == z) p1.isList p2.isList rfl (by omega) (fun j h1 h2=>?_) _ _ _ _ ?_
    ·obtain rfl:j=0:=by simp at h1;omega
     exact Ab.str_str w t' z t
    ·refine⟨.bl (!decide (w=z)),H,I,?_,?_⟩
     ·show RelV _ _
      by_cases e:w=z
      ·subst e;simp[RelV]
      ·simp[RelV,e]
     ·rw[show(decide (w=z))=decide (some w=some z) by simp];exact q
def bF:List Str:=["A","B","C","I","J"]
def sigL:List Str:=["+","-","*","<","=","&"]
def aMz:List Str:=["each","span","if"]
def iL:List (Str×List Str):=[("number",["A","=","NUMBER"]),("name",["A","=","B"]),("OP",["A","=","B","OP","C"]),("look",["A","=","look","I","PATH"]),("store",["store","I","PATH","B"]),("which",["A","=","which","I","PATH"]),("choose",["choose","I","PATH","B"]),("copy",["copy","I","J"]),("put",["A","=","put"]),("take",["take","I"]),("many",["A","=","many"]),("out",["out","A"]),("each",["each","I"]),("span",["span","I","B","C"]),("if",["if","A"]),("else",["else"]),("end",["end"])]
def pI (K:ω) (H:Hp) (fas:List Addr) (fs:List (Str×List Str)):Prop:=fas.length=fs.length/\∀(i:Nat) (fa:Addr) (f:Str×List Str),fas[i]?=some fa->fs[i]?=some f->∃ga,SqT K H fa [.str f.1,.ref ga]/\SqT K H ga (f.2.map V.str)
end L2
namespace K29
open PySem L2
theorem zL : 0<=ψ:=by decide
theorem iF : 1<=ψ:=by decide
theorem vD : 2<=ψ:=by decide
theorem oU : 3<=ψ:=by decide
theorem aLh : 4<=ψ:=by decide
theorem aMv : 5<=ψ:=by decide
def top (i : Nat) : Stmt := PySem.Challenge.pw_roomslaid_k29_paths.main.body.getD i (.Pass ⟨0,0,0,0⟩)
def inClass:Stmt->Nat->Stmt
 |.ClassDef _ _ _ body _ _ _ _ _ _ _,j=>body.getD j (.Pass ⟨0,0,0,0⟩)
 |s,_=>s
theorem vJ{c A B:Prop}[Decidable c](hc:c)(h:A):if c then A else B:=by rw[if_pos hc];exact h
theorem kS{c A B:Prop}[Decidable c](hc:¬ c)(h:B):if c then A else B:=by rw[if_neg hc];exact h
structure Blt (mg:Str->Option Value):Prop where
 range:mg "range" = none
 len:mg "len" = none
 isinstance:mg "isinstance" = none
 int:mg "int" = none
 bool:mg "bool" = none
 list:mg "list" = none
 all:mg "all" = none
 max:mg "max" = none
 min:mg "min" = none
 reversed:mg "reversed" = none
 tuple:mg "tuple" = none
 divmod:mg "divmod" = none
 str:mg "str" = none
 sum:mg "sum" = none
 zip:mg "zip" = none
 enumerate:mg "enumerate" = none
 dict:mg "dict" = none
 ValueError:mg "ValueError" = none
 repr:mg "repr" = none
structure Df (K:ω) (mg:Str->Option Value) (x:Str) (f:Addr) (fd:zb) (ps:List Str):Prop where
 m:mg x=some (.ref f)
 k:keepIn K (.ref f)=true
 b:Binds K fd ps []
def St3 (H:Hp) (p:Addr):Prop:=∃a b c:Int,H p=some (.lst [.int a,.int b,.int c])
def Drawn (p:Addr) (H H':Hp):Prop:=St3 H' p/\∀b o,b≠p->H b=some o->H' b=some o
theorem Drawn.trans(a:Drawn p H H1)(b:Drawn p H1 H2):Drawn p H H2:=⟨b.1,fun c o n h=>b.2 c o n (a.2 c o n h)⟩
theorem Drawn.refl(h:St3 H p):Drawn p H H:=⟨h,fun _ _ _ q=>q⟩
theorem Drawn.new{H1:Hp}(a:Drawn p H H1)(hl:H1 l=none):Drawn p H (upd H1 l o):=by
 obtain⟨⟨x,y,z,e⟩,h⟩:=a;refine⟨⟨x,y,z,by rw[jY (jL e hl)];exact e⟩,fun b u n q=>?_⟩;have:=h b u n q;rw[jY (jL this hl)];exact this
theorem Drawn.same{H:Hp}(a:Drawn p H H')(hp:H p=none):jF H H':=fun b o h=>a.2 b o (jL h hp) h
theorem xQ{H:Hp}(h:H p=none)(o:HO):jF H (upd H p o):=fun b u q=>by rw[jY (jL q h)];exact q
theorem aDt(ns:List Int){i:Int}(h0 : 0<=i)(h1:i<ns.length):∃v:Int,atI (ns.map V.int) i=some (.int v):=by
 have hk:i.toNat<ns.length:=by omega
 have e:i=((i.toNat:Nat):Int):=by omega
 have q:atI (ns.map V.int) ((i.toNat:Nat):Int)=some (.int ns[i.toNat]):=zI (by rw[yv,η hk] <;> rfl);rw[←e]at q;exact⟨_,q⟩
theorem small{n:Nat}(h:n<=1000):n<=ψ:=Bn (kN h)
def aHk (K:ω):Sp:=fun vs H Q _=>∃(a:Addr) (ns:List Int),vs=[.ref a]/\SqL K H a (ns.map V.int)/\ns.length<=63/\∀H',Q (.bl true) H'
theorem jF.tup{K:ω}{H H':Hp}{a:Addr}{xs:List V}(e:jF H H')(h:SqT K H a xs):SqT K H' a xs:=by
 rcases h with (h|⟨o,h⟩)|h
 ·exact .inl (.inl (e _ _ h))
 ·exact .inl (.inr ⟨o,e _ _ h⟩)
 ·exact .inr h
theorem Drawn.tup{K:ω}{p:Addr}{H H':Hp}{a:Addr}{xs:List V}(hs:St3 H p)(e:Drawn p H H')(h:SqT K H a xs):SqT K H' a xs:=by
 obtain⟨x,y,z,hp⟩:=hs;rcases h with (h|⟨o,h⟩)|h
 ·exact .inl (.inl (e.2 _ _ (oE h hp (by intro z;cases z)) h))
 ·exact .inl (.inr ⟨o,e.2 _ _ (oE h hp (by intro z;cases z)) h⟩)
 ·exact .inr h
structure tH (K:ω) (mg:Str->Option Value) (x:Str) (C fI:Addr) (as:List Str):Prop where
 m:mg x=some (.ref C)
 cl:Cls K C
 ma:Mk K C fI
 na:∀a∈as,aX K C a
structure DfM (K:ω) (C:Addr) (m:Str) (f:Addr) (fd:zb) (ps:List Str):Prop where
 me:Meth K C m f
 b:Binds K fd ps []
structure DfI (K:ω) (fd:zb) (ps:List Str):Prop where
 b:Binds K fd ps []
structure TX (K:ω) (mg:Str->Option Value) (x:Str) (C R fI:Addr) (as:List Str):Prop where
 m:mg x=some (.ref C)
 c:gP K C R fI
 x:XCls K C (.ref R::VB)
 n:∀a∈as,Ap K (.ref C) a=some none
structure TXB (K:ω) (mg:Str->Option Value) (C fI:Addr):Prop where
 m:mg "RoomError" = some (.ref C)
 i:aQf K C fI
 x:XCls K C VB
def dW:List Str:=["shape","num","row","pick","tag","room","things","part","tags","put","take","many","look","which","store","choose","copy","each","span","if","else","end","out"]
abbrev xR:Str:="abcdefghijklmnopqrstuvwxyz"
abbrev cX:Str:="0123456789"
structure Cst (K:ω) (mg:Str->Option Value) (t1 t2 t3 t4 t5 t6 t7 t8 t9 t10 t11 t12 t13 t14 t15 t16 t17:Tok) (ts tNa tSi tBe tFo:Addr):Prop where
 SMALL_LETTERS:mg "SMALL_LETTERS" = some (.str "abcdefghijklmnopqrstuvwxyz" t1)
 FIGURES:mg "FIGURES" = some (.str "0123456789" t2)
 MOST_LETTERS:mg "MOST_LETTERS" = some (.int 6 t3)
 MOST_FIGURES:mg "MOST_FIGURES" = some (.int 10 t4)
 MOST_SHAPES:mg "MOST_SHAPES" = some (.int 8 t5)
 MOST_FIELDS:mg "MOST_FIELDS" = some (.int 6 t6)
 MOST_CELLS:mg "MOST_CELLS" = some (.int 64 t7)
 MOST_UNITS:mg "MOST_UNITS" = some (.int 40 t8)
 MOST_DEPTH:mg "MOST_DEPTH" = some (.int 4 t9)
 MOST_WIDTH:mg "MOST_WIDTH" = some (.int 4 t10)
 MOST_COUNT:mg "MOST_COUNT" = some (.int 6 t11)
 LEAST_PICKED:mg "LEAST_PICKED" = some (.int 2 t12)
 MOST_PICKED:mg "MOST_PICKED" = some (.int 4 t13)
 WORD_CELLS:mg "WORD_CELLS" = some (.int 4 t14)
 MOST_LINES:mg "MOST_LINES" = some (.int 60 t15)
 MOST_NAMES:mg "MOST_NAMES" = some (.int 12 t16)
 MOST_BEGUN:mg "MOST_BEGUN" = some (.int 3 t17)
 NAMES:mg "NAMES" = some (.ref tNa)
 nams:∀H,SqT K H tNa (bF.map V.str)
 SIGNS:mg "SIGNS" = some (.ref tSi)
 sgns:∀H,SqT K H tSi (sigL.map V.str)
 BEGINNINGS:mg "BEGINNINGS" = some (.ref tBe)
 begs:∀H,SqT K H tBe (aMz.map V.str)
 FORMS:mg "FORMS" = some (.ref tFo)
 frms:∀H,∃fas:List Addr,SqT K H tFo (fas.map V.ref)/\pI K H fas iL
 OWN_WORDS:mg "OWN_WORDS" = some (.ref ts)
 words:∀H,SqT K H ts (dW.map V.str)
def tyA (K:ω) (x:V) (H:Hp) (t:String):Prop:=tyN K x H t\/(t = "dict"/\∃p kvs,x=.ref p/\H p=some (.dK kvs))
theorem jF.tyA{K:ω}(g:jF H H')(h:tyA K x H t):tyA K x H' t:=by
 rcases h with h|⟨e,p,kvs,ex,h⟩
 ·left;cases x with
  |ref p =>
   rcases h with⟨e,xs,h⟩|⟨e,xs,h⟩
   ·exact .inl ⟨e,xs,g.seq h⟩
   ·exact .inr ⟨e,xs,jF.tup g h⟩
  |_=>exact h
 ·exact .inr ⟨e,p,kvs,ex,g _ _ h⟩
def within (x:Str) (most:Int):Bool:=decide (1<=(x.length:Int))&&decide ((x.length:Int)<=most)
def uQ (x signs:Str):Bool:=x.cps.toList.all fun c=>decide (c∈signs.cps.toList)
def kP (x:Str):Bool:=within x 6&&uQ x xR&&!decide (x∈dW)
def sH (x:Str):Bool:=decide (x.cps.toList[0]?=some 48)&&decide (1<(x.length:Int))
def yJ (x:Str):Option Int:=if (within x 10&&uQ x cX&&!sH x)=true then some ((PySem.NumText.digitsVal x.cps.toList:Nat):Int) else none
def aNd:Option Int->V
 |none=>.non
 |some n=>.int n
def vO (o:Option Int) (lo hi:Int):Option Int:=match o with
 |none=>none
 |some n=>if lo<=n/\n<=hi then some n else none
def rH (K:ω):Sp:=fun vs H Q _=>∃(x:V) (signs:Str) (most:Int),vs=[x,.str signs,.int most] ∧
 ((∃z:Str,x=.str z/\z.length<=1000/\∀H',jF H H'->Q (.bl (within z most&&uQ z signs)) H')\/(∃t,tyA K x H t/\t ≠ "str"/\Q (.bl false) H))
inductive sD (K:ω) (vs:List V) (H:Hp) (Q:VK):Prop|mk:∀x:V,vs=[x]->(((∃z:Str,x=.str z/\z.length<=1000/\∀H',jF H H'->Q (.bl (kP z)) H')\/(∃t,tyA K x H t/\t ≠ "str"/\∀H',jF H H'->Q (.bl false) H')))->sD K vs H Q
def zM (K:ω):Sp:=fun vs H Q _=>sD K vs H Q
inductive iY (K:ω) (vs:List V) (H:Hp) (Q:VK):Prop|mk:∀(x:V) (lo hi:Int),vs=[x,.int lo,.int hi]->(((∃z:Str,x=.str z/\z.length<=1000/\∀H',jF H H'->Q (aNd (vO (yJ z) lo hi)) H')\/(∃t,tyA K x H t/\t ≠ "str"/\∀H',jF H H'->Q .non H')))->iY K vs H Q
def aU (K:ω):Sp:=fun vs H Q _=>iY K vs H Q
theorem vB(x:Str)(ys:List Str):inV (.str x) (ys.map V.str)=decide (x∈ys):=by
 rw[Bw];simp only[inV,List.any_map,DX,Function.comp,decide_eq_true_eq,eqV,beq_iff_eq];constructor
 ·rintro ⟨y,hy,rfl⟩;exact hy
 ·intro h;exact⟨x,h,rfl⟩
theorem qY(ys:List Str):(ys.map V.str).all fB=true:=by
 rw[ze];intro x hx;obtain⟨n,_,rfl⟩:=yj.mp hx;rfl
theorem wP:xR.cps.toList=List.range' 97 26:=by ac_rfl
theorem aAk:cX.cps.toList=List.range' 48 10:=by ac_rfl
theorem bK(c:Nat):c∈xR.cps.toList ↔ 97<=c/\c<=122:=by
 rw[wP,List.mem_range'_1];omega
theorem fE(c:Nat):c∈cX.cps.toList ↔ 48<=c/\c<=57:=by
 rw[aAk,List.mem_range'_1];omega
theorem aNb(f:Nat->Bool)(l:List Nat)(i:Nat)(h:l[i]?=some c):((l.take (i+1)).map f)=(l.take i).map f++[f c]:=by
 rw[zu,h,ξ] <;> rfl
theorem all_map(f:Nat->Bool)(l:List Nat):(l.map f).all id=l.all f:=by
 rw[List.all_map];rfl
theorem isa3{t:String}(h:t ≠ "str"):isa t "str" = false:=by
 unfold isa;simp[h]
theorem is_0{c:Nat}: decide (V.str ⟨#[c]⟩=V.str (ε "0"))=decide (c=48):=by
 have e:(ε "0")=⟨#[48]⟩:=by ac_rfl
 rw[e,Bw,decide_eq_true_eq,decide_eq_true_eq];constructor
 ·intro h;injection h with h;injection h with h;simpa using h
 ·rintro rfl;rfl
theorem jF.st3(g:jF H H')(h:St3 H p):St3 H' p:=by
 obtain⟨x,y,z,e⟩:=h;exact⟨x,y,z,g _ _ e⟩
theorem Drawn.keep(d:Drawn p H H1)(g:jF H1 H2):Drawn p H H2:=⟨jF.st3 g d.1,fun b o n e=>g _ _ (d.2 b o n e)⟩
theorem len_list(z:Str):z.cps.toList.length=z.length:=Be
theorem pM(p:Str):Str.empty++p=p:=Str.ext' (by rw[Bd];simp[Str.empty])
theorem aNa{a:Nat}(h:a<=5000):a<=ψ:=by rw[ym];omega
def sX:Sp:=fun vs H Q _=>∃(p:Str) (x:V) (y:Str),vs=[.str p,x]/\aEg x=some y/\p.length<=1000/\y.length<=1000/\Q (.str (pj p y)) H
inductive aBu (vs:List V) (H:Hp) (Q:VK):Prop|mk:∀(p:Addr) (m:Int),vs=[.ref p,.int m]->0<m->m<1073741824->St3 H p->(∀(v:Nat) (H':Hp),(v:Int)<m->Drawn p H H'->Q (.int v) H')->aBu vs H Q
def nB:Sp:=fun vs H Q _=>aBu vs H Q
def aQi:Sp:=fun vs H Q _=>∃c:Int,vs=[.int c]/\∀(p:Addr) (H':Hp),H p=none->Drawn p H H'->Q (.ref p) H'
structure Wds (K:ω) (H:Hp) (a:Addr) (ws:List Str):Prop where
 l:SqL K H a (ws.map V.str)
 s:∀w∈ws,w.length<=1000
 n:ws.length<=1000
theorem Wds.same{K:ω}(h:Wds K H a ws)(g:jF H H'):Wds K H' a ws:=⟨g.seq h.l,h.s,h.n⟩
def aCf:List Str->Bool
 |[x,y]=>decide (x=ε "shape")&&kP y
 |_=>false
def aPw (K:ω):Sp:=fun vs H Q _=>∃(a:Addr) (ws:List Str),vs=[.ref a]/\Wds K H a ws/\∀H',jF H H'->Q (.bl (aCf ws)) H'
inductive aKj (C:Addr) (n:Str) (vs:List V) (H:Hp) (Q:VK):Prop|mk:∀(a dx:Addr) (v:V) (H1:Hp),vs=[.ref a,v]->H a=some (.ins C dx [])->jF H1 H->H1 a=none->(∀H',jF H1 H'->H' a=some (.ins C dx [(n,v)])->Q .non H')->aKj C n vs H Q
def aEw (C:Addr) (n:Str):Sp:=fun vs H Q _=>aKj C n vs H Q
def spI2 (C:Addr) (n m:Str):Sp:=fun vs H Q _=>∃(a dx:Addr) (v u:V) (H1:Hp),vs=[.ref a,v,u]/\H a=some (.ins C dx [])/\jF H1 H/\H1 a=none/\∀H',jF H1 H'->H' a=some (.ins C dx [(n,v),(m,u)])->Q .non H'
def spIT (K:ω) (C:Addr) (n:Str):Sp:=fun vs H Q _=>∃(a dx l:Addr) (ys:List V) (H1:Hp),vs=[.ref a,.ref l]/\H a=some (.ins C dx [])/\jF H1 H/\H1 a=none/\SqL K H1 l ys/\∀t H',jF H1 H'->H' a=some (.ins C dx [(n,.ref t)])->SqT K H' t ys->Q .non H'
def aMt (c:Cl5) (K:ω):Sp:=fun vs H Q _=>∃(a dx fl:Addr) (nm:Str) (ps:List Addr) (fs:List (Str×Kd)) (sa:List Addr) (H1:Hp),vs=[.ref a,.str nm,.ref fl]/\H a=some (.ins c.shape dx [])/\jF H1 H/\H1 a=none/\(SqL K H1 fl (ps.map V.ref)\/SqT K H1 fl (ps.map V.ref))/\FO c K H1 sa ps fs/\fs.length<=100 ∧
 ∀t ps' H',jF H1 H'->H' a=some (.ins c.shape dx [("name",.str nm),("fields",.ref t)])->SqT K H' t (ps'.map V.ref)->FO c K H' sa ps' fs->Q .non H'
def spGr (c:Cl5) (K:ω) (r:Nat):Sp:=fun vs H Q _=>∃(a:Addr) (is:List Nat) (sa:List Addr) (S:List Shp),vs=[.ref a]/\(Kd.pick is).Rk r/\(Kd.pick is).Fit S.length/\KO c K H sa a (.pick is)/\SW c K H sa S/\Good S/\∀H',jF H H'->Q (.int ((yG (is.map fun i=>(tabs S).sz.getD i 0):Nat):Int)) H'
def aQn (c:Cl5) (K:ω) (r:Nat):Sp:=fun vs H Q _=>∃(a:Addr) (i:Nat) (sa:List Addr) (S:List Shp),vs=[.ref a]/\sa[i]?=some a/\2*i+2<=r/\8*r<=200/\SW c K H sa S/\Good S/\∀l H',jF H H'->H l=none->UL K H' l (un (.nest i) S Str.empty)->Q (.ref l) H'
theorem FO.insD{K:ω}{H:Hp}{x:V}(h:FO c K H sa ps fs)(ha:H a=some (.ins C dx [("name",x)])):FO c K (upd H a o) sa ps fs:=by
 have n:∀{b C' dx' fs'},H b=some (.ins C' dx' fs')->fs'.head?.map (·.1)≠some ("name" : Str)->upd H a o b=some (.ins C' dx' fs'):=fun hb z=>by
  rw[jY (fun e=>z (by rw[e,ha]at hb;cases hb;rfl))];exact hb
 have t:∀{b xs},SqT K H b xs->SqT K (upd H a o) b xs:=fun h=>by
  rcases h with (h|⟨o',h⟩)|h
  ·exact .inl (.inl (by rw[jY (oE h ha (by intro z;cases z))];exact h))
  ·exact .inl (.inr ⟨o',by rw[jY (oE h ha (by intro z;cases z))];exact h⟩)
  ·exact .inr h
 have kk:∀{b kd},KO c K H sa b kd->KO c K (upd H a o) sa b kd:=fun h=>by
  induction h with
  |num h=>exact .num (n h (by show some (ε "width")≠some (ε "name");decide))
  |nest e h=>exact .nest e (n h (by show some (ε "shape")≠some (ε "name");decide))
  |many h _ ih=>exact .many (n h (by show some (ε "count")≠some (ε "name");decide)) ih
  |pick h h2 l e=>exact .pick (n h (by show some (ε "shapes")≠some (ε "name");decide)) (t h2) l e
 induction h with
 |nil=>exact .nil
 |cons h1 h2 _ ih=>exact .cons (t h1) (kk h2) ih
def NOk (nm:Nat->Str) (n:Nat):Prop:=∀i,i<n->kP (nm i)=true
theorem vV(h:kP x=true): 1<=x.length/\x.length<=6:=by
 unfold kP within at h;simp only[zj,decide_eq_true_eq]at h;omega
theorem cY{y:Str}(h:kP x=true)(hy:y∈dW):x≠y:=by
 rintro rfl;unfold kP at h;simp only[zj,Bool.not_eq_true',decide_eq_false_iff_not]at h;exact h.2 hy
theorem dig{w:Nat}(h:w<=9):yJ (ε (toString (w:Int)))=some (w:Int)/\(ε (toString (w:Int))).length=1/\kP (ε (toString (w:Int)))=false/\PySem.intText? (ε (toString (w:Int)))=some (w:Int):=by
 have:∀m:Fin 10,yJ (ε (toString ((m.val:Nat):Int)))=some ((m.val:Nat):Int)/\(ε (toString ((m.val:Nat):Int))).length=1/\kP (ε (toString ((m.val:Nat):Int)))=false/\PySem.intText? (ε (toString ((m.val:Nat):Int)))=some ((m.val:Nat):Int):=by ac_rfl
 exact this ⟨w,by omega⟩
theorem rX:kP (ε "num")=false/\kP (ε "row")=false/\kP (ε "pick")=false:=by ac_rfl
def Kd.named (nm:Nat->Str):Kd->List Str
 |.num _=>[]
 |.nest i=>[nm i]
 |.many _ k=>Kd.named nm k
 |.pick is=>is.map nm
theorem aAd(hn:NOk nm n):∀{k:Kd},k.Fit n->(k.words nm).filter kP=Kd.named nm k:=by
 have hnum:∀w,w<=9->((Kd.num w).words nm).filter kP=[]:=fun w hw=>by
  show[ε "num",ε (toString (w:Int))].filter kP=[];rw[Av (by rw[rX.1];decide),Av (by rw[(dig hw).2.2.1];decide)];rfl
 have hnest:∀i,i<n->((Kd.nest i).words nm).filter kP=[nm i]:=fun i hi=>by
  show[nm i].filter kP=_;rw[Cg (hn i hi)];rfl
 intro k hk;cases k with
 |num w=>exact hnum w (by have:=hk.2;omega)
 |nest i=>exact hnest i hk
 |many m k =>
  show(ε "row" :: ε (toString (m:Int))::k.words nm).filter kP=Kd.named nm k;rw[Av (by rw[rX.2.1];decide),Av (by rw[(dig (by have:=hk.2.1;omega)).2.2.1];decide)];rcases hk.2.2 with⟨w,rfl,hw⟩|⟨i,rfl,hi⟩
  ·exact hnum w (by omega)
  ·exact hnest i hi
 |pick is =>
  show(ε "pick" :: is.map nm).filter kP=is.map nm;rw[Av (by rw[rX.2.2];decide),List.filter_eq_self.mpr];intro x hx;obtain⟨i,hi,rfl⟩:=yj.mp hx;exact hn i (hk.2.2.2 i hi)
theorem gM{nm:Nat->Str}{n:Nat}(hn:NOk nm n):∀{k:Kd},k.Fit n->(∀w∈k.words nm,w.length<=6)/\(k.words nm).length<=5:=by
 have hnum:∀w,w<=9->∀x∈(Kd.num w).words nm,x.length<=6:=fun w hw x hx=>by
  simp only[Kd.words,ς,Ω,or_false]at hx;rcases hx with rfl|rfl
  ·decide
  ·rw[(dig hw).2.1];decide
 have hnest:∀i,i<n->∀x∈(Kd.nest i).words nm,x.length<=6:=fun i hi x hx=>by
  rw[τ.mp (show x∈[nm i] from hx)];exact(vV (hn i hi)).2
 intro k hk;cases k with
 |num w=>exact⟨hnum w (by have:=hk.2;omega),by show 2<=5;decide⟩
 |nest i=>exact⟨hnest i hk,by show 1<=5;decide⟩
 |many m k =>
  have:(∀x∈k.words nm,x.length<=6)/\(k.words nm).length<=2:=by
   rcases hk.2.2 with⟨w,rfl,hw⟩|⟨i,rfl,hi⟩
   ·exact⟨hnum w (by omega),by show 2<=2;decide⟩
   ·exact⟨hnest i hi,by show 1<=2;decide⟩
  refine⟨fun x hx=>?_,by show(k.words nm).length+1+1<=5;omega⟩;simp only[Kd.words,ς]at hx;rcases hx with rfl|rfl|hx
  ·decide
  ·rw[(dig (by have:=hk.2.1;omega)).2.1];decide
  ·exact this.1 x hx
 |pick is =>
  refine⟨fun x hx=>?_,by show(is.map nm).length+1<=5;rw[δ];have:=hk.2.1;omega⟩;simp only[Kd.words,ς,yj]at hx;rcases hx with rfl|⟨i,hi,rfl⟩
  ·decide
  ·exact(vV (hn i (hk.2.2.2 i hi))).2
def spSg (K:ω):Sp:=fun vs H Q _=>∃(a:Addr) (ws:List Str),vs=[.ref a]/\SqL K H a (ws.map V.str)/\((∃w:Nat,1<=w/\w<=4/\ws=[ε "num",ε (toString (w:Int))])\/∃x,kP x=true/\ws=[x])/\∀H',jF H H'->Q (.bl true) H'
def spKd (K:ω):Sp:=fun vs H Q _=>∃(a:Addr) (nm:Nat->Str) (n:Nat) (kd:Kd),vs=[.ref a]/\SqL K H a ((kd.words nm).map V.str)/\kd.Fit n/\NOk nm n/\∀H',jF H H'->Q (.bl true) H'
def spFl (K:ω):Sp:=fun vs H Q _=>∃(a:Addr) (nm:Nat->Str) (n:Nat) (kd:Kd) (f:Str),vs=[.ref a]/\SqL K H a ((f::kd.words nm).map V.str)/\kP f=true/\kd.Fit n/\NOk nm n/\∀H',jF H H'->Q (.bl true) H'
def aGe (K:ω):Sp:=fun vs H Q _=>∃(a:Addr) (nm:Nat->Str) (n:Nat) (kd:Kd) (f:Str),vs=[.ref a]/\SqL K H a ((f::kd.words nm).map V.str)/\kd.Fit n/\NOk nm n/\∀l H',jF H H'->H l=none->H' l=some (.lst ((Kd.named nm kd).map V.str))->Q (.ref l) H'
theorem mS{f:Str->Bool}{l:List Str}{i:Nat}(h:l[i]?=some a):(l.take (i+1)).filter f=(l.take i).filter f++(if f a=true then [a] else []):=by
 rw[zu,h,List.filter_append]
 congr 1
 show[a].filter f=_
 by_cases z:f a=true
 ·rw[if_pos z,Cg z];rfl
 ·rw[if_neg z,Av z];rfl
theorem vK{ns:List Str}{i:Nat}(h:(ns.map V.str)[i]?=some x):∃c,ns[i]?=some c/\x=.str c:=by
 rw[yv]at h;cases e:ns[i]? with
 |none=>rw[e]at h;cases h
 |some c=>rw[e]at h;cases h;exact⟨c,rfl,rfl⟩
structure Wel (S:List Shp):Prop where
 good:Good S
 nm:∀s∈S,kP s.1=true
 fnm:∀s∈S,∀f∈s.2,kP f.1=true
 nd:(S.map (·.1)).Nodup
 fnd:∀s∈S,(s.2.map (·.1)).Nodup
 len:S.length<=5
 bd:∀(i:Nat) (s:Shp),S[i]?=some s->(tabs S).sz.getD i 0<=64/\(un (.nest i) S Str.empty).length<=40/\(tabs S).dp.getD i 0<=4/\s.2.length<=5
theorem vZ{α : Type}{S:List α}{x y : α}{i:Nat}(h:(S++[x])[i]?=some y):S[i]?=some y\/(i=S.length/\y=x):=by
 by_cases hi:i<S.length
 ·rw[yr hi]at h;exact .inl h
 ·rw[yb (by omega)]at h;have:i-S.length<1:=(θ.mp h).1;have e:i=S.length:=by omega
  subst e;rw[AA]at h;cases h;exact .inr ⟨rfl,rfl⟩
theorem Good.snoc{s:Shp}(h:Good S1)(h1:s.2≠[])(h2:s.2.length<=6)(h3:∀f∈s.2,f.2.Fit S1.length/\1<=f.1.length/\f.1.length<=6)(h4:(s.2.map fun f=>f.2.size (tabs S1).sz).sum<=1000):Good (S1++[s]):=by
 refine⟨fun i t e=>?_,fun i t e=>?_,fun i t e=>?_,fun i=>?_⟩
 ·rcases vZ e with e|⟨_,rfl⟩
  ·exact h.ne i t e
  ·exact h1
 ·rcases vZ e with e|⟨_,rfl⟩
  ·exact h.few i t e
  ·exact h2
 ·rcases vZ e with e|⟨rfl,rfl⟩
  ·exact h.fit i t e
  ·exact h3
 ·by_cases hi:i<S1.length
  ·rw[(bR hi).1];exact h.sz i
  ·by_cases e:i=S1.length
   ·subst e;rw[(bN S1 s []).1];exact h4
   ·have hl:=(fC (S1++[s])).1;rw[ι,zk]at hl;rw[Φ,List.getElem?_eq_none (by omega)];exact yq _
theorem Good.pre{S1 S2:List Shp}(h:Good (S1++S2)):Good S1:=by
 refine⟨fun i t e=>h.ne i t ?_,fun i t e=>h.few i t ?_,fun i t e=>h.fit i t ?_,fun i=>?_⟩
 ·rw[yr (θ.mp e).1];exact e
 ·rw[yr (θ.mp e).1];exact e
 ·rw[yr (θ.mp e).1];exact e
 ·by_cases hi:i<S1.length
  ·rw[←(bR (R:=S2) hi).1];exact h.sz i
  ·have hl:=(fC S1).1;rw[Φ,List.getElem?_eq_none (by omega)];exact yq _
def aLs (S:List Shp) (i:Nat):Prop:=(tabs S).sz.getD i 0<=64/\(un (.nest i) S Str.empty).length<=40/\(tabs S).dp.getD i 0<=4
theorem Wel.pre{S S1 S2:List Shp}{s:Shp}{f1 f2:List (Str×Kd)}(h:Wel S)(e:S=S1++s::S2)(ef:s.2=f1++f2)(hne:f1≠[]):Good (S1++[(s.1,f1)])/\aLs (S1++[(s.1,f1)]) S1.length/\f1.length<=5:=by
 subst e;have hi:(S1++s::S2)[S1.length]?=some s:=by rw[yb (μ _),AA];rfl
 obtain⟨b1,b2,b3,b4⟩:=h.bd _ _ hi;obtain⟨t1,t2,t3⟩:=bN S1 s S2;obtain⟨u1,u2,u3⟩:=bN S1 (s.1,f1) [];rw[ef,ι]at b4;have z1:(f1.map fun f=>f.2.size (tabs S1).sz).sum<=64:=by
  rw[t1,ef,ξ,List.sum_append]at b1;omega
 have hfit:=h.good.fit _ _ hi;refine⟨Good.snoc (Good.pre h.good) hne (by show f1.length<=6;omega) (fun f hf=>hfit f (by rw[ef];exact AL _ hf)) (by show(f1.map _).sum<=1000;omega),⟨by rw[u1];exact z1,?_,?_⟩,by omega⟩
 ·have e1:un (.nest S1.length) (S1++[(s.1,f1)]) Str.empty=_:=u3 Str.empty;have e2:un (.nest S1.length) (S1++s::S2) Str.empty=_:=t3 Str.empty;rw[e2,ef,By,ι]at b2;rw[e1];show(f1.flatMap _).length<=40;omega
 ·rw[u2];rw[t2,ef,ξ]at b3;have:yG (f1.map fun f=>f.2.depth (tabs S1).dp)<=yG ((f1.map fun f=>f.2.depth (tabs S1).dp)++(f2.map fun f=>f.2.depth (tabs S1).dp)):=lP fun x hx=>pL (AL _ hx);show 1+yG (f1.map fun f=>f.2.depth (tabs S1).dp)<=4;omega
theorem vY{S:List Shp}{i:Nat}(h:S[i]?=some s):kO S i=s.1:=by
 unfold kO;rw[Φ,h];rfl
theorem aMm{S1 S2:List Shp}{i:Nat}(h:i<S1.length):kO (S1++S2) i=kO S1 i:=by
 have e:S1[i]?=some S1[i]:=η h;rw[vY e,vY (by rw[yr h];exact e)]
theorem nV{nm nm':Nat->Str}{n:Nat}(h:∀i,i<n->nm i=nm' i):∀{k:Kd},k.Below n->k.words nm=k.words nm'
 |.num _,_=>rfl
 |.nest i,hk=>by show[nm i]=[nm' i];rw[h i hk]
 |.many m k,hk=>by show _::_::k.words nm=_::_::k.words nm';rw[nV h (k:=k) hk]
 |.pick is,hk=>by
  show _::is.map nm=_::is.map nm';rw[Dc fun i hi=>h i (hk i hi)]
theorem aAb{S:List Shp}(h:∀s∈S,kP s.1=true):NOk (kO S) S.length:=fun i hi=>by
 have e:S[i]?=some S[i]:=η hi;rw[vY e];exact h _ (BF hi)
theorem aKt{S:List Shp}(h:(S.map (·.1)).Nodup){i j:Nat}(hi:i<S.length)(hj:j<S.length)(e:kO S i=kO S j):i=j:=by
 have ei:S[i]?=some S[i]:=η hi;have ej:S[j]?=some S[j]:=η hj;rw[vY ei,vY ej]at e;have hp:=CY.mp h;rcases Nat.lt_trichotomy i j with hl|hl|hl
 ·exact absurd (by rw[DZ,DZ];exact e) (hp i j (by rw[δ];exact hi) (by rw[δ];exact hj) hl)
 ·exact hl
 ·exact absurd (by rw[DZ,DZ];exact e.symm) (hp j i (by rw[δ];exact hj) (by rw[δ];exact hi) hl)
theorem aCy{S:List Shp}(h:(S.map (·.1)).Nodup):∀{k:Kd},k.Fit S.length->(Kd.named (kO S) k).Nodup/\(Kd.named (kO S) k).length<=4/\∀x∈Kd.named (kO S) k,∃i,i<S.length/\x=kO S i:=by
 have hs:∀{k:Kd},(∃w,k=.num w/\1<=w/\w<=4)\/(∃i,k=.nest i/\i<S.length)->(Kd.named (kO S) k).Nodup/\(Kd.named (kO S) k).length<=4/\∀x∈Kd.named (kO S) k,∃i,i<S.length/\x=kO S i:=by
  rintro k (⟨w,rfl,_⟩|⟨i,rfl,hi⟩)
  ·exact⟨Eb.nil,yq _,fun x hx=>by cases hx⟩
  ·exact⟨List.pairwise_singleton _ _,(by show 1<=4;decide),fun x hx=>⟨i,hi,τ.mp hx⟩⟩
 intro k hk;cases k with
 |num w=>exact hs (.inl ⟨w,rfl,hk⟩)
 |nest i=>exact hs (.inr ⟨i,rfl,hk⟩)
 |many m k=>exact hs (k:=k) hk.2.2
 |pick is =>
  refine⟨?_,by show(is.map _).length<=4;rw[δ];exact hk.2.1,fun x hx=>?_⟩
  ·show(is.map (kO S)).Pairwise (·≠·);rw[List.pairwise_map];exact hk.2.2.1.imp_of_mem fun ha hb ne e=>ne (aKt h (hk.2.2.2 _ ha) (hk.2.2.2 _ hb) e)
  ·obtain⟨i,hi,rfl⟩:=yj.mp hx;exact⟨i,hk.2.2.2 i hi,rfl⟩
theorem aNj{ws:List Str}(h:kP n=true):aCf (n::ws)=false:=by
 match ws with
 |[]=>rfl
 |[y] =>
  show(decide (n=ε "shape")&&kP y)=false;rw[decide_eq_false (cY h (by decide)),AE]
 |_::_::_=>rfl
def aQb (c:Cl5) (K:ω):Sp:=fun vs H Q _=>∃(tl:Addr) (x:V) (nm:Str) (sa:List Addr) (T:List Shp),vs=[.ref tl,x,.str nm]/\H tl=some (.lst (sa.map V.ref))/\SW c K H sa T/\(∀s∈T,s.2≠[])/\nm∉T.map (·.1)/\T.length<8/\∀H',jF H H'->Q .non H'
def spWh (c:Cl5) (K:ω):Sp:=fun vs H Q _=>∃(tl z:Addr) (sa:List Addr) (T:List Shp) (s:Shp),vs=[.ref tl]/\H tl=some (.lst ((sa++[z]).map V.ref))/\SW c K H (sa++[z]) (T++[s])/\(T.map (·.1)).Nodup/\T.length<=100/\∀d H',jF H H'->H d=none->H' d=some (.dK (dk T sa))->Q (.ref d) H'
def spNF (c:Cl5) (K:ω):Sp:=fun vs H Q _=>∃(tl a z:Addr) (x:V) (sa:List Addr) (T:List Shp) (s:Shp) (fn:Str) (kd:Kd),vs=[.ref tl,x,.ref a]/\H tl=some (.lst ((sa++[z]).map V.ref))/\SW c K H (sa++[z]) (T++[s])/\SqL K H a ((fn::kd.words (kO T)).map V.str)/\kP fn=true/\fn∉s.2.map (·.1)/\s.2.length<=100/\kd.Fit T.length/\NOk (kO T) T.length/\(T.map (·.1)).Nodup/\T.length<=100/\∀H',jF H H'->Q .non H'
inductive aHg (c:Cl5) (K:ω) (n:Nat) (vs:List V) (H:Hp) (Q:VK):Prop|mk:∀(a d:Addr) (kd:Kd) (sa:List Addr) (T:List Shp),vs=[.ref a,.ref d]->kd.lv<n->SqL K H a ((kd.words (kO T)).map V.str)->H d=some (.dK (dk T sa))->kd.Fit T.length->NOk (kO T) T.length->(T.map (·.1)).Nodup->sa.length=T.length->(∀k H',jF H H'->KO c K H' sa k kd->Q (.ref k) H')->aHg c K n vs H Q
def aHo (c:Cl5) (K:ω) (n:Nat):Sp:=fun vs H Q _=>aHg c K n vs H Q
def spTM (c:Cl5) (K:ω) (r:Nat):Sp:=fun vs H Q _=>∃(a:Addr) (i:Nat) (sa:List Addr) (S:List Shp),vs=[.ref a]/\sa[i]?=some a/\2*i+2<=r/\8*r<=200/\SW c K H sa S/\Good S/\aLs S i/\∀H',jF H H'->Q (.bl false) H'
def spWF (c:Cl5) (K:ω) (r:Nat):Sp:=fun vs H Q _=>∃(tl a z:Addr) (x:V) (sa:List Addr) (T:List Shp) (s:Shp) (fn:Str) (kd:Kd),vs=[.ref tl,x,.ref a]/\H tl=some (.lst ((sa++[z]).map V.ref))/\SW c K H (sa++[z]) (T++[s])/\SqL K H a ((fn::kd.words (kO T)).map V.str)/\kd.Fit T.length/\NOk (kO T) T.length/\(T.map (·.1)).Nodup/\T.length<=100/\2*T.length+2<=r/\8*r<=200/\s.2.length<=50/\Good (T++[(s.1,s.2++[(fn,kd)])])/\aLs (T++[(s.1,s.2++[(fn,kd)])]) T.length ∧
 ∀y H',jF H H'->SO c K H' sa y (s.1,s.2++[(fn,kd)])->Q (.ref y) H'
def txt (S:List Shp):Str:=yd nlS ((pQ S).map (yd spS))
def spRd (c:Cl5) (CS:Addr) (K:ω) (r:Nat):Sp:=fun vs H Q _=>∃S:List Shp,vs=[.str (txt S)]/\Wel S/\S≠[]/\12<=r/\8*r<=200/\∀(a dx t:Addr) (sa:List Addr) H',jF H H'->H' a=some (.ins CS dx [("shapes",.ref t)])->SqT K H' t (sa.map V.ref)->SW c K H' sa S->Q (.ref a) H'
theorem sL(h:kP x=true):Pln x:=by
 unfold kP at h;simp only[zj]at h;have ha:x.cps.toList.all (fun c=>decide (c∈xR.cps.toList))=true:=h.1.2;have hc:∀c∈x.cps.toList,97<=c/\c<=122:=fun c hc=>(bK c).mp (of_decide_eq_true (ze.mp ha c hc));exact⟨fun z=>by have:=hc _ z;omega,fun z=>by have:=hc _ z;omega⟩
theorem aHn(hW:Wel S):∀it∈vR S,(∀w∈it.line (kO S),Pln w/\w.length<=6)/\(it.line (kO S)).length<=6/\it.line (kO S)≠[]:=by
 intro it hit;obtain⟨s,hs,hit⟩:=List.mem_flatMap.mp hit;have hn:=aAb hW.nm;unfold gQ at hit;rcases ς.mp hit with rfl|hit
 ·refine⟨fun w hw=>?_,(by show 2<=6;decide),(by simp[Itm.line])⟩;simp only[Itm.line,ς,Ω,or_false]at hw;rcases hw with rfl|rfl
  ·exact⟨by unfold Pln;ac_rfl,by decide⟩
  ·exact⟨sL (hW.nm s hs),(vV (hW.nm s hs)).2⟩
 ·obtain⟨f,hf,rfl⟩:=yj.mp hit;obtain⟨i,hi⟩:=Ai.mp hs;have hfit:f.2.Fit S.length:=(hW.good.fit i s hi f hf).1.mono (Bn (θ.mp hi).1);have hnm:=hW.fnm s hs f hf;obtain⟨w6,w5⟩:=gM hn hfit;refine⟨fun w hw=>?_,(by show(f.2.words (kO S)).length+1<=6;omega),(by simp[Itm.line])⟩;rcases ς.mp (show w∈f.1::f.2.words (kO S) from hw) with rfl|hw
  ·exact⟨sL hnm,(vV hnm).2⟩
  ·exact⟨hfit.plain (fun j hj=>sL (hn j hj)) w hw,w6 w hw⟩
theorem aKc{S:List Shp}(hW:Wel S)(hne:S≠[]):(vR S).length<=30/\(∀it∈vR S,(yd spS (it.line (kO S))).length<=100/\zv (yd spS (it.line (kO S))) spS=it.line (kO S))/\(txt S).length<=4000/\zv (txt S) nlS=(vR S).map fun it=>yd spS (it.line (kO S)):=by
 have hl:=aHn hW;have h30:(vR S).length<=30:=by
  unfold vR;rw[List.length_flatMap];have h1:(S.map fun s=>(gQ s).length).sum<=S.length*6:=cD fun s hs=>by
   obtain⟨i,hi⟩:=Ai.mp hs;have:=(hW.bd i s hi).2.2.2;unfold gQ;rw[Δ,δ];omega
  have:=hW.len;omega
 have hrow:∀it∈vR S,(yd spS (it.line (kO S))).length<=100:=fun it hit=>by
  obtain⟨h1,h2,_⟩:=hl it hit;have h3:(yd spS (it.line (kO S))).length<=_:=cL (c:=32) (m:=6) fun w hw=>(h1 w hw).2;omega
 have e:(pQ S).map (yd spS)=(vR S).map fun it=>yd spS (it.line (kO S)):=by rw[dF,zf];rfl
 refine⟨h30,fun it hit=>⟨hrow it hit,aFk (hl it hit).2.2 fun w hw=>((hl it hit).1 w hw).1⟩,?_,?_⟩
 ·unfold txt;rw[e];have h3:(yd nlS ((vR S).map fun it=>yd spS (it.line (kO S)))).length<=_:=cL (c:=10) (m:=100) (ws:=(vR S).map fun it=>yd spS (it.line (kO S))) fun w hw=>by
   obtain⟨it,hit,rfl⟩:=yj.mp hw;exact hrow it hit
  rw[δ]at h3;omega
 ·unfold txt;rw[aCa,e]
  ·rw[dF];intro z;have h0:=aAj hne;rw[Ce]at z;rw[z]at h0;exact absurd h0 (by decide)
  ·intro l hl' w hw;rw[dF]at hl';obtain⟨it,hit,rfl⟩:=yj.mp hl';exact((hl it hit).1 w hw).1
theorem aGg{sa:List Addr}{T:List Shp}{s:Shp}(h:sa.length=(T++[s]).length):∃sa0 z,sa=sa0++[z]:=by
 rcases BO sa with rfl|⟨sa0,z,rfl⟩
 ·rw[ι]at h;exact absurd h (by simp)
 ·exact⟨sa0,z,BP ..⟩
theorem Al.drawn(h:Al xs H)(d:Drawn p H H'):Al xs H':=fun b hb=>by
 by_cases e:b=p
 ·obtain⟨x,y,z,q⟩:=d.1;exact⟨_,by rw[e];exact q⟩
 ·obtain⟨o,ho⟩:=h b hb;exact⟨o,d.2 b o e ho⟩
theorem Drawn.offs{xs:List Addr}(d:Drawn p H H')(hp:p∈xs):jF (offs xs H) (offs xs H'):=cT fun b o n q=>d.2 b o (fun z=>n (by rw[z];exact hp)) q
theorem aJa{a n m:Nat}(h:m<=n):((zw m).map fun k=>(a+k) % n).Nodup:=by
 show Eb (·≠·) _;rw[List.pairwise_map];refine List.pairwise_lt_range.imp_of_mem fun {i j} hi hj hlt e=>?_;have hj':=Bs.mp hj;have h1:=Cj e.symm;rw[show a+j-(a+i)=j-i by omega,Nat.mod_eq_of_lt (by omega)]at h1;omega
def spTx (K:ω):Sp:=fun vs H Q _=>∃(sl:Addr) (S:List Shp),vs=[.ref sl]/\LX K H sl S/\Wel S/\S≠[]/\∀H',jF H H'->Q (.str (txt S)) H'
def uB (S:List Shp) (it:Itm):Str:=yd spS (it.line (kO S))
theorem aLe(S:List Shp):txt S=yd nlS ((vR S).map (uB S)):=by
 unfold txt;rw[dF,zf];rfl
def c1L:Str:=ε "bfgjkqvxyzwh"
def c1 (a k:Nat):Nat:=c1L.cps.toList.getD ((a+k) % 12) 0
def nm1 (tl:Str) (a:Nat):List Str:=(zw 12).map fun k=>(⟨#[c1 a k]⟩ : Str)++tl++ε "x"
def nm2 (a:Nat):List Str:=((zw 6).map fun k=>Txt.slice (ε "zyxwvu") none (some (1+(((a+k) % 6:Nat):Int))))++(["yz","yyyyyy","y","yx","numz","tagszz"]:List Str)
theorem rR:∀cs:List Nat,(yd (ε "") (cs.map fun c=>(⟨#[c]⟩ : Str))).cps.toList=cs
 |[]=>rfl
 |[c]=>rfl
 |c::d::cs=>by
  have ih:=rR (d::cs);rw[zm,aL (by simp),Bd,Bd,AQ,AQ,ih];rfl
theorem Drawn.free{H H1:Hp}(d:Drawn p H H1)(h:H1 l=none):H l=none:=by
 cases e:H l with
 |none=>rfl
 |some o =>
  by_cases z:l=p
  ·obtain⟨x,y,w,q⟩:=d.1;rw[z,q]at h;cases h
  ·rw[d.2 l o z e]at h;cases h
theorem modc{a j n:Nat}: (((a:Nat):Int)+((0:Int)+(j:Nat))) % ((n:Nat):Int)=(((a+j) % n:Nat):Int):=by
 rw[DJ,←Int.natCast_add]
 first|exact(Int.natCast_emod _ _).symm|exact(Int.ofNat_emod _ _).symm|rfl
theorem Wel.nil:Wel []:=⟨⟨fun i s h=>by simp at h,fun i s h=>by simp at h,fun i s h=>by simp at h,fun i=>by show(([]:List Nat).getD i 0)<=1000;simp⟩,fun s h=>by simp at h,fun s h=>by simp at h,Eb.nil,fun s h=>by simp at h,yq _,fun i s h=>by simp at h⟩
theorem Wel.snoc{S:List Shp}{nm:Str}{fs:List (Str×Kd)}(h:Wel S)(h1:kP nm=true)(h2:nm∉S.map (·.1))(h3:S.length<=4)(h4:fs≠[])(h5:fs.length<=5)(h6:∀f∈fs,f.2.Fit S.length/\kP f.1=true)(h7:(fs.map (·.1)).Nodup)(h8:aLs (S++[(nm,fs)]) S.length):Wel (S++[(nm,fs)]):=by
 have hz:=h8.1;rw[(bN S (nm,fs) []).1]at hz;refine⟨Good.snoc h.good h4 (by show fs.length<=6;omega) (fun f hf=>⟨(h6 f hf).1,vV (h6 f hf).2⟩) (by show(fs.map _).sum<=1000;exact yo hz (by decide)),fun s hs=>?_,fun s hs=>?_,?_,fun s hs=>?_,by rw[ι,zk];omega,fun i s e=>?_⟩
 ·rcases za.mp hs with hs|hs
  ·exact h.nm s hs
  ·rw[τ.mp hs];exact h1
 ·rcases za.mp hs with hs|hs
  ·exact h.fnm s hs
  ·rw[τ.mp hs];exact fun f hf=>(h6 f hf).2
 ·rw[ξ,List.nodup_append];refine⟨h.nd,List.pairwise_singleton _ _,fun a ha b hb e=>h2 ?_⟩;rw[←show b=nm from τ.mp hb,←e];exact ha
 ·rcases za.mp hs with hs|hs
  ·exact h.fnd s hs
  ·rw[τ.mp hs];exact h7
 ·rcases vZ e with e|⟨rfl,rfl⟩
  ·have hi:i<S.length:=(θ.mp e).1;obtain⟨t1,t2,t3⟩:=bR (R:=[(nm,fs)]) hi;obtain⟨b1,b2,b3,b4⟩:=h.bd i s e;refine⟨by rw[t1];exact b1,?_,by rw[t2];exact b3,b4⟩;have e1:un (.nest i) (S++[(nm,fs)]) Str.empty=un (.nest i) S Str.empty:=by
    show((tabs (S++[(nm,fs)])).ut.getD i fun _=>[]) Str.empty=((tabs S).ut.getD i fun _=>[]) Str.empty;rw[t3]
   rw[e1];exact b2
  ·exact⟨h8.1,h8.2.1,h8.2.2,h5⟩
theorem aHt{H:Hp}(h:St3 H p)(ha:H a=none):a≠p:=fun z=>by
 obtain⟨x,y,w,q⟩:=h;rw[z,q]at ha;cases ha
theorem aNh{H:Hp}(h:St3 H p):∃o,H p=some o:=by
 obtain⟨x,y,w,q⟩:=h;exact⟨_,q⟩
theorem aCb{X:Cx}{K:ω}(hK:X.K=K)(he:PE X o ta)(hb:Cb o f X.env (eval o X.env)=eval o X.env):PE X (.Attribute o f pos) (aQd K ta f):=hK ▸ aPe he hb
def spRE (K:ω):Sp:=fun vs H Q _=>∃(e:Addr) (v:V) (C R fI:Addr) (dx:Option Addr),vs=[.ref e,v]/\H e=some (Ex0 e C dx)/\gP K C R fI/\Q .non H
theorem mK{H:Hp}(hp:H p=some (.lst xs))(e:H b=some o)(n:∀ys,o≠.lst ys):offs [p] H b=some o:=qS (fun z=>n xs (by rw[τ.mp z,hp]at e;exact(zc e).symm)) e
theorem aQp{K:ω}{H:Hp}(hp:H p=some (.lst xs))(h:SqT K H b ys):SqT K (offs [p] H) b ys:=by
 rcases h with (h|⟨o,h⟩)|h
 ·exact .inl (.inl (mK hp h (fun _ z=>by cases z)))
 ·exact .inl (.inr ⟨o,mK hp h (fun _ z=>by cases z)⟩)
 ·exact .inr h
def RO (c:Cl5) (CS:Addr) (K:ω) (H:Hp) (ra:Addr) (sa:List Addr) (S:List Shp):Prop:=∃dx t,H ra=some (.ins CS dx [("shapes",.ref t)])/\SqT K H t (sa.map V.ref)/\SW c K H sa S
theorem dI{K:ω}(h:RO c CS K H ra sa S)(g:jF H H'):RO c CS K H' ra sa S:=by
 obtain⟨dx,t,a,b,w⟩:=h;exact⟨dx,t,g _ _ a,g.tp b,w.same g⟩
def spMn (c:Cl5) (CS:Addr) (K:ω):Sp:=fun vs H Q _=>∃(ra z:Addr) (sa:List Addr) (S:List Shp),vs=[.ref ra]/\RO c CS K H ra (sa++[z]) S/\Q (.ref z) H
def eV (p w:Str):Bool:=if p∈bF then kP w else if p = "NUMBER" then (vO (yJ w) 0 4294967295).isSome else if p = "OP" then decide (w∈sigL) else if p = "PATH" then !decide (w = "") else decide (w=p)
def eO (ws:List Str) (f:Str×List Str):Bool:=decide (f.2.length=ws.length)&&(zt eV f.2 ws).all id
def rdF (goal:Str):List (Str×Str)->List Str
 |[]=>[]
 |p::r=>if p.1∈bF/\(p.1 ≠ "A" ∨ goal = "") then p.2::rdF goal r else rdF goal r
theorem len_app{x y:Str}: (x++y).length=x.length+y.length:=by
 show(x++y).cps.size=x.cps.size+y.cps.size;rw[Bd,Array.size_append]
theorem join_one{x:Str}: yd sep [x]=x:=rfl
def spBo:Sp:=fun vs H Q _=>vs=[.int 4]/\Q (.int 4294967296) H
def spFi:Sp:=fun vs H Q _=>∃p w:Str,vs=[.str p,.str w]/\w.length<=1000/\∀H',jF H H'->Q (.bl (eV p w)) H'
def spI4 (C:Addr) (n1 n2 n3 n4:Str):Sp:=fun vs H Q _=>∃(a dx:Addr) (v1 v2 v3 v4:V) (H1:Hp),vs=[.ref a,v1,v2,v3,v4]/\H a=some (.ins C dx [])/\jF H1 H/\H1 a=none/\∀H',jF H1 H'->H' a=some (.ins C dx [(n1,v1),(n2,v2),(n3,v3),(n4,v4)])->Q .non H'
def spI6 (C:Addr) (n1 n2 n3 n4 n5 n6:Str):Sp:=fun vs H Q _=>∃(a dx:Addr) (v1 v2 v3 v4 v5 v6:V) (H1:Hp),vs=[.ref a,v1,v2,v3,v4,v5,v6]/\H a=some (.ins C dx [])/\jF H1 H/\H1 a=none/\∀H',jF H1 H'->H' a=some (.ins C dx [(n1,v1),(n2,v2),(n3,v3),(n4,v4),(n5,v5),(n6,v6)])->Q .non H'
theorem lJ{f:Str×List Str->Bool}{j:Nat}(hj:iL[j]?=some x)(hx:f x=true)(h:∀m y,m<j->iL[m]?=some y->f y=false):iL.find? f=some x:=by
 rw[List.find?_eq_some_iff_getElem];obtain⟨hl,e⟩:=θ.mp hj;exact⟨hx,j,hl,e,fun m hm=>by rw[h m _ hm (η (by omega))];rfl⟩
theorem aGp{f:Str×List Str->Bool}{j:Nat}(hj:iL[j]?=some x)(hx:f x=false)(h:∀m y,m<j->iL[m]?=some y->f y=false):∀m y,m<j+1->iL[m]?=some y->f y=false:=fun m y hm hy=>by
 by_cases z:m=j
 ·subst z;rw[hj]at hy;cases hy;exact hx
 ·exact h m y (by omega) hy
theorem aNx(a b:List (Str×Str)):rdF g (a++b)=rdF g a++rdF g b:=by
 induction a with
 |nil=>rfl
 |cons p r ih =>
  show(if p.1∈bF/\(p.1 ≠ "A" ∨ g = "") then p.2::rdF g (r++b) else rdF g (r++b))=(if p.1∈bF/\(p.1 ≠ "A" ∨ g = "") then p.2::rdF g r else rdF g r)++rdF g b
  split
  ·rw[ih];rfl
  ·exact ih
theorem eW{a b:List Str}{j:Nat}(hu:a[j]?=some u)(hv:b[j]?=some v):(a.zip b).take (j+1)=(a.zip b).take j++[(u,v)]:=by
 rw[zu]
 congr 1
 show(zt Prod.mk a b)[j]?.toList=_;rw[CA,hu,hv];rfl
theorem aMe:∀(a b:List Str) (k:Str),zT (zt (fun x y=>((.inr x:Key),V.str y)) a b) (.inr k)=((a.zip b).lookup k).map V.str
 |[],_,_=>rfl
 |_::_,[],_=>rfl
 |x::a,y::b,k=>by
  show zT (((.inr x:Key),V.str y)::zt _ a b) (.inr k)=(((x,y)::a.zip b).lookup k).map V.str
  by_cases e:x=k
  ·subst e;rw[mE rfl,List.lookup_cons_self];rfl
  ·rw[lI (fun z=>e (AO.inj z)),Ci,show(k == x)=false from beq_false_of_ne (Aj e),aMe a b k]
theorem aAa:∀{a b:List Str}{k:Str},k∉a->(a.zip b).lookup k=none
 |[],_,_,_=>rfl
 |_::_,[],_,_=>rfl
 |x::a,y::b,k,h=>by
  rw[List.zip_cons_cons,Ci,show(k == x)=false from beq_false_of_ne (fun z=>h (by rw[z];exact Ψ ..))];exact aAa fun z=>h (yc _ z)
theorem wK:∀{a b:List Str}{j:Nat}{u v:Str},a.Nodup->a[j]?=some u->b[j]?=some v->(a.zip b).lookup u=some v
 |[],_,_,_,_,_,h,_=>by simp at h
 |_::_,[],_,_,_,_,_,h=>by simp at h
 |x::a,y::b,0,u,v,_,hu,hv=>by
  cases hu;cases hv;rw[List.zip_cons_cons,List.lookup_cons_self]
 |x::a,y::b,j+1,u,v,hd,hu,hv=>by
  obtain⟨h1,h2⟩:=BS.mp hd;have hu':a[j]?=some u:=hu;rw[List.zip_cons_cons,Ci,show(u == x)=false from beq_false_of_ne (fun z=>h1 (by rw[←z];exact ο hu'))];exact wK h2 hu' hv
theorem oF:∀(a b:List Str) (acc:List (Key×V)),a.Nodup->(∀x∈a,∀kv∈acc,kv.1≠.inr x)->bC acc (zt (fun x y=>((.inr x:Key),V.str y)) a b)=acc++zt (fun x y=>((.inr x:Key),V.str y)) a b
 |[],_,acc,_,_=>by simp[bC]
 |_::_,[],acc,_,_=>by simp[bC]
 |x::a,y::b,acc,hd,hn=>by
  obtain⟨h1,h2⟩:=BS.mp hd;have e:putK acc (.inr x) (V.str y)=acc++[(.inr x,V.str y)]:=by
   unfold putK;rw[if_neg];rw[DX];rintro ⟨kv,hkv,z⟩;exact hn x (Ψ ..) kv hkv (of_decide_eq_true z)
  have:=oF a b (acc++[(.inr x,V.str y)]) h2 (fun z hz kv hkv=>by
   rcases za.mp hkv with hkv|hkv
   ·exact hn z (yc _ hz) kv hkv
   ·rw[τ.mp hkv];intro q;rw[AO.inj q]at h1;exact h1 hz)
  show bC (putK acc (.inr x) (V.str y)) _=_;rw[e,this,zx];rfl
def pT:Sp:=fun _ _ _ _=>False
theorem aFu{ks p}{es:List Expr}: yi (.Call f as ks p::es) env=(false,eval (.Call f as ks p) env)::yi es env:=rfl
theorem ifJ{Q:VK}(v:V)(hq:Q v H)(h:∀Q':VK,Q' v H->tIf t ta tb σ H Q'):tIf t ta tb σ H Q:=h Q hq
theorem aLd{a b:List Str}{j:Nat}(hu:a[j]?=some u)(hv:b[j]?=some v):rdF g ((a.zip b).take (j+1))=rdF g ((a.zip b).take j)++(if u∈bF/\(u ≠ "A" ∨ g = "") then [v] else []):=by
 rw[eW hu hv,aNx];rfl
theorem pV{H:Hp}(e:H a=some (.frz o (.dK kvs))):bY H a (kV k) (zT kvs k):=.inl ⟨kvs,k,.inr ⟨o,e⟩,rfl,rfl⟩
theorem cQ{xs:List Addr}{l:Addr}: offs (l::xs) (upd H l o)=offs (l::xs) H:=by
 funext b
 unfold offs
 by_cases z:b∈l::xs
 ·rw[if_pos z,if_pos z]
 ·rw[if_neg z,if_neg z,jY (fun e=>z (by rw[e];exact Ψ ..))]
theorem aGq{H:Hp}(h:Al xs H)(hl:H l=some o):Al (l::xs) H:=fun b hb=>by
 rcases ς.mp hb with rfl|hb
 ·exact⟨o,hl⟩
 ·exact h b hb
theorem aRn(h:Al xs H):Al xs (L2.upd H l o):=fun b hb=>by
 by_cases z:b=l
 ·rw[z,jO];exact⟨_,rfl⟩
 ·rw[jY z];exact h b hb
theorem aHa{as:List Addr}{n:Nat}(h:as[n]?=some a):atI (as.map V.ref) (n:Int)=some (.ref a):=zI (by rw[yv,h];rfl)
theorem mD{H:Hp}(h:H l=none)(g:jF H G):jF H (offs [l] G):=fun b o e=>qS (fun z=>by rw[τ.mp z,h]at e;cases e) (g b o e)
theorem aFj{X:Cx}{K:ω}{o e:Expr}{es:List Expr}{name:Str}{T id:String}{apos cpos:Pos}{r:V->List V->Hp->VK->Prop}{to:TE}{t:TA}(hK:X.K=K)(pa:PlainAttrs T)(slot:Slot T name id)(hty:typeOf (.builtin id)=pure (.type "method_descriptor"))(hm:MtR X id r)(ho:PE X o to)(ha:PA X (e::es) t)
  (hbase:Cb o name X.env (eval o X.env)=eval o X.env:=by rfl)
  (hfew:((BH cpos (yi (e::es) X.env)).all (fun x=>!x.1)&&(backToKw cpos (CH [] X.env)).all (fun x=>x.1.isSome)
   && decide ((e::es).length+([]:List Keyword).length+(if ([]:List Keyword).isEmpty then 0 else 1)<30))=true:=by rfl)
  (hline:(apos.endLine == cpos.line)=true:=by rfl)(hs:yi (e::es) X.env=(false,eval e X.env)::yi es X.env:=by rfl)(hplain:(BH cpos (yi es X.env)).any (·.1)=false:=by rfl):
  PE X (.Call (.Attribute o name apos) (e::es) [] cpos) (tBM K T r to t):=by
 subst hK;exact xA pa slot hty hm ho ha hbase hfew hline hs hplain
inductive aMq (K:ω) (vs:List V) (H:Hp) (Q:VK):Prop|mk:∀(a:Addr) (ns:List Int) (k:Int),vs=[.ref a,.int k]->SqL K H a (ns.map V.int)->0<=k->k<=100->(∀v H',jF H H'->Q (.int v) H')->aMq K vs H Q
def spLc (K:ω):Sp:=fun vs H Q _=>aMq K vs H Q
def spMx:Sp:=fun vs H Q _=>∃c k:Int,vs=[.int c,.int k]/\∀v:Int,Q (.int v) H
theorem wC{X:Cx}{K:ω}(hK:X.K=K):MtR X "str.join" (fun x vs H Q=>∃(sep:Str) (a:Addr) (ys:List Str),x=.str sep/\vs=[.ref a]/\SqL K H a (ys.map V.str)/\(ys.map (·.length)).sum+ys.length*sep.length<=16777216/\Q (.str (yd sep ys)) H):=hK ▸ eZ
structure Fl (CN e dx:Addr) (H H':Hp) (fs:List (Str×V)):Prop where
 ne:dx≠e
 fr:H dx=none
 kp:∀b o,b≠e->H b=some o->H' b=some o
 ae:H' e=some (Ex0 e CN (some dx))
 ad:H' dx=some (XD dx fs)
theorem Fl.first{H:Hp}{f:Str}{y:V}(he:H e=some (Ex0 e CN none))(hd:H dx=none):Fl CN e dx H (upd (upd H dx (XD dx [(f,y)])) e (Ex0 e CN (some dx))) [(f,y)]:=by
 have ne:dx≠e:=fun z=>by rw[z,he]at hd;cases hd
 refine⟨ne,hd,fun b o n q=>?_,jO,?_⟩
 ·rw[jY n,jY (jL q hd)];exact q
 ·rw[jY ne,jO]
theorem Fl.next(h:Fl CN e dx H H' fs):Fl CN e dx H (upd H' dx (XD dx fs')) fs' :=
 ⟨h.ne,h.fr,fun b o n q=>by rw[jY (jL q h.fr)];exact h.kp b o n q,by rw[jY (Aj h.ne)];exact h.ae,jO⟩
def spXn (CN:Addr) (ns:List Str):Sp:=fun vs H Q _=>∃(e:Addr) (xs:List V),vs=.ref e::xs/\xs.length=ns.length/\H e=some (Ex0 e CN none)/\∀dx H',Fl CN e dx H H' (ns.zip xs)->Q .non H'
theorem Fl.from{H:Hp}(he:H e=none)(h:Fl CN e dx (upd H e (Ex0 e CN none)) H' fs):jF H H':=fun b o q=>by
 have n:=jL q he;exact h.kp b o n (by rw[jY n];exact q)
theorem Fl.fly{H:Hp}(he:H e=none)(h:Fl CN e dx (upd H e (Ex0 e CN none)) H' fs):jF H (upd H' e (ExF e CN (some dx)))/\upd H' e (ExF e CN (some dx)) e=some (ExF e CN (some dx))/\upd H' e (ExF e CN (some dx)) dx=some (XD dx fs):=by
 refine⟨fun b o q=>?_,jO,?_⟩
 ·rw[jY (jL q he)];exact h.from he b o q
 ·rw[jY h.ne];exact h.ad
theorem aHl:∀(cs:List Nat) (a:Nat),a<=cs.foldl (fun acc c=>acc*10+(c-48)) a
 |[],a=>μ _
 |c::cs,a=>yo (by omega) (aHl cs (a*10+(c-48)))
theorem wI:∀m:Fin 10,ε (toString (m.val:Nat))=⟨#[48+m.val]⟩:=by ac_rfl
theorem aNf{x:Str}{j:Int}(h:yJ x=some j)(hj:j<=9):∃n:Nat,j=(n:Int)/\n<=9/\x=ε (toString n):=by
 unfold yJ at h
 split at h
 ·rename_i hc;simp only[zj]at hc;obtain⟨⟨h1,h2⟩,h3⟩:=hc;have e:=zc h;obtain⟨⟨cs⟩⟩:=x;unfold within at h1;simp only[zj,decide_eq_true_eq]at h1;have hl:(⟨⟨cs⟩⟩ : Str).length=cs.length:=rfl;rw[hl]at h1;have all:∀c∈cs,48<=c/\c<=57:=fun c hc=>(fE c).mp (of_decide_eq_true (ze.mp h2 c hc))
  match cs,h1,h3,e,all with
  |[],h1,_,_,_=>simp at h1
  |[c],_,_,e,all =>
   have hc:=all c (by simp);have e':((0*10+(c-48):Nat):Int)=j:=e;refine⟨c-48,by omega,by omega,?_⟩;have:=wI ⟨c-48,by omega⟩;rw[this,show 48+(c-48)=c by omega]
  |c::d::r,_,h3,e,all =>
   exfalso;have hc:=all c (by simp);have hc':c≠48:=by
    rintro rfl;have:sH ⟨⟨48::d::r⟩⟩=true:=by
     unfold sH;rw[zj];refine⟨by simp,?_⟩;rw[decide_eq_true_eq];show(1:Int)<(((48::d::r).length:Nat):Int);simp only[Δ];omega
    rw[this]at h3;exact absurd h3 (by decide)
   have e':((r.foldl (fun acc c=>acc*10+(c-48)) ((0*10+(c-48))*10+(d-48)):Nat):Int)=j:=e;have:=aHl r ((0*10+(c-48))*10+(d-48));omega
 ·cases h
def onw (S:List Shp):Kd->List (Str×Kd)
 |.pick is=>is.map fun i=>(kO S i,.nest i)
 |k=>k.parts S
def ledK (S:List Shp) (k:Kd) (w:Str):Option Kd:=((onw S k).find? fun f=>decide (f.1=w)).map (·.2)
def zV:Kd->Str
 |.num _=>ε "num"
 |.nest _=>ε "shape"
 |.many _ _=>ε "row"
 |.pick _=>ε "pick"
def iW:Kd->Str->V
 |.many n _,w=>aNd (vO (yJ w) 0 ((n:Int)-1))
 |_,w=>.str w
def aJm (c:Cl5) (K:ω) (F:Kd->Bool):Sp:=fun vs H Q _=>∃(a:Addr) (w:Str) (kd:Kd) (sa:List Addr) (S:List Shp),vs=[.ref a,.str w]/\w.length<=1000/\F kd=true/\kd.Fit S.length/\KO c K H sa a kd/\SW c K H sa S/\∀H',jF H H'->Q (iW kd w) H'
def uU (c:Cl5) (K:ω) (F:Kd->Bool):Sp:=fun vs H Q _=>∃(a:Addr) (w:Str) (kd:Kd) (sa:List Addr) (S:List Shp),vs=[.ref a,iW kd w]/\F kd=true/\kd.Fit S.length/\KO c K H sa a kd/\SW c K H sa S/\Good S ∧
 ((ledK S kd w=none/\∀H',jF H H'->Q .non H')\/∃k',ledK S kd w=some k'/\∀a' H',jF H H'->KO c K H' sa a' k'->Q (.ref a') H')
theorem aY{w:Str}: ∀{fs:List (Str×Kd)}{j:Nat}{f:Str×Kd},fs[j]?=some f->f.1=w->(∀m g,m<j->fs[m]?=some g->g.1≠w)->fs.find? (fun f=>decide (f.1=w))=some f
 |[],j,f,h,_,_=>by simp at h
 |g::fs,0,f,h,hf,_=>by
  have e:g=f:=by simpa using h
  subst e;rw[List.find?_cons_of_pos (by simpa using hf)]
 |g::fs,j+1,f,h,hf,hn=>by
  rw[List.find?_cons_of_neg (by simpa using hn 0 g (Nat.zero_lt_succ _) rfl)];exact aY (fs:=fs) (j:=j) (by simpa using h) hf fun m g' hm hg=>hn (m+1) g' (Nat.succ_lt_succ hm) (by simpa using hg)
theorem pN{w:Str}{fs:List (Str×Kd)}(hn:∀m g,m<fs.length->fs[m]?=some g->g.1≠w):fs.find? (fun f=>decide (f.1=w))=none:=by
 refine List.find?_eq_none.mpr fun f hf z=>?_;obtain⟨m,hm⟩:=Ai.mp hf;exact hn m f (θ.mp hm).1 hm (by simpa using z)
theorem pH{w:Str}{fs:List (Str×Kd)}{j:Nat}(h:fs[j]?=some f)(hf:¬ f.1=w)(hn:∀m g,m<j->fs[m]?=some g->g.1≠w):∀m g,m<j+1->fs[m]?=some g->g.1≠w:=fun m g hm hg=>by
 by_cases z:m<j
 ·exact hn m g z hg
 ·obtain rfl:m=j:=by omega
  rw[h]at hg;cases hg;exact hf
abbrev zP:Str:=ε "."
theorem rC : ∀{ys:List Str}{y:Str},y∈ys->y.length<=(yd sep ys).length
 |[y'],y,h=>by rw[τ.mp h];exact μ _
 |y'::z::ys,y,h=>by
  rw[show yd sep (y'::z::ys)=y'++sep++yd sep (z::ys) from rfl,Ax,Ax];rcases ς.mp h with rfl|h
  ·omega
  ·have:=rC (sep:=sep) h;omega
theorem aTe(hg:Good S)(hn:NOk (kO S) S.length):∀{k:Kd},k.Fit S.length->∀f∈onw S k,f.2.Fit S.length/\f.1.length<=6
 |.pick is,hk,f,hf=>by
  obtain⟨i,hi,rfl⟩:=yj.mp hf;exact⟨hk.2.2.2 i hi,(vV (hn i (hk.2.2.2 i hi))).2⟩
 |.num w,hk,f,hf=>by cases hf
 |.nest i,hk,f,hf=>by
  obtain⟨_,a,_,b⟩:=Kd.parts_ok hg hk (Kd.Rk.mono (BE _) hk.rk) hf;exact⟨a,b⟩
 |.many n k,hk,f,hf=>by
  obtain⟨_,a,_,b⟩:=Kd.parts_ok hg hk (Kd.Rk.mono (BE _) hk.rk) hf;exact⟨a,b⟩
theorem aQw(hg:Good S)(hn:NOk (kO S) S.length){k:Kd}(hk:k.Fit S.length)(h:ledK S k w=some k'):k'.Fit S.length:=by
 unfold ledK at h;cases hf:(onw S k).find? fun f=>decide (f.1=w) with
 |none=>rw[hf]at h;cases h
 |some f=>rw[hf]at h;cases h;exact(aTe hg hn hk f (List.mem_of_find?_eq_some hf)).1
theorem KO.off{K:ω}{H:Hp}(hp:H p=some (.lst xs))(h:KO c K H sa a k):KO c K (offs [p] H) sa a k:=by
 induction h with
 |num h=>exact .num (mK hp h (fun _ z=>by cases z))
 |nest e h=>exact .nest e (mK hp h (fun _ z=>by cases z))
 |many h _ ih=>exact .many (mK hp h (fun _ z=>by cases z)) ih
 |pick h t l e=>exact .pick (mK hp h (fun _ z=>by cases z)) (aQp hp t) l e
theorem aIo{X:Cx}{K:ω}(hK:X.K=K):xD X (.builtin "isinstance") (fun xs H Q=>∃x T t,xs=[x,.ty T]/\T∈wF/\tyN K x H t/\Q (.bl (isa t T)) H):=hK ▸ mI
inductive Stp where
 |wd (s:Str)
 |no (n:Int)
 |nm (s:Str)
def stepK (S:List Shp):Kd->Str->Option (Stp×Kd)
 |.many n k,w=>match vO (yJ w) 0 ((n:Int)-1) with
  |some j=>some (.no j,k)
  |none=>if kP w=true then some (.nm w,k) else none
 |k,w=>(ledK S k w).map fun k'=>(.wd w,k')
def qQ (S:List Shp):Kd->List Str->Option (List Stp×Kd)
 |k,[]=>some ([],k)
 |k,w::ws=>match stepK S k w with
  |none=>none
  |some r=>(qQ S r.2 ws).map fun q:List Stp×Kd=>(r.1::q.1,q.2)
theorem tG : ∀(ws:List Str) (k:Kd) (w:Str),qQ S k (ws++[w])=(qQ S k ws).bind fun q=>(stepK S q.2 w).map fun r:Stp×Kd=>(q.1++[r.1],r.2)
 |[],k,w=>by
  show(match stepK S k w with|none=>none|some r=>(some (([]:List Stp),r.2)).map fun q:List Stp×Kd=>(r.1::q.1,q.2))=(stepK S k w).map fun r=>([]++[r.1],r.2);cases stepK S k w <;> rfl
 |v::ws,k,w=>by
  show(match stepK S k v with|none=>none|some r=>(qQ S r.2 (ws++[w])).map fun q:List Stp×Kd=>(r.1::q.1,q.2))=(match stepK S k v with|none=>none|some r=>(qQ S r.2 ws).map fun q:List Stp×Kd=>(r.1::q.1,q.2)).bind _;cases stepK S k v with
  |none=>rfl
  |some r =>
   show(qQ S r.2 (ws++[w])).map _=((qQ S r.2 ws).map _).bind _;rw[tG ws r.2 w];cases qQ S r.2 ws with
   |none=>rfl
   |some q =>
    show((stepK S q.2 w).map _).map _=(stepK S q.2 w).map _;cases stepK S q.2 w <;> rfl
theorem tJ{ws:List Str}{j:Nat}{kd:Kd}{ss:List Stp}(h:ws[j]?=some w)(e:qQ S k (ws.take j)=some (ss,kd)):qQ S k (ws.take (j+1))=(stepK S kd w).map fun r=>(ss++[r.1],r.2):=by
 rw[zu,h];show qQ S k (ws.take j++[w])=_;rw[tG,e];rfl
theorem sK : ∀{as bs:List Str}{k:Kd},qQ S k as=none->qQ S k (as++bs)=none
 |[],_,_,h=>by cases h
 |w::as,bs,k,h=>by
  have h':(match stepK S k w with|none=>none|some r=>(qQ S r.2 as).map fun q:List Stp×Kd=>(r.1::q.1,q.2))=none:=h;show(match stepK S k w with|none=>none|some r=>(qQ S r.2 (as++bs)).map fun q:List Stp×Kd=>(r.1::q.1,q.2))=none;cases hs:stepK S k w with
  |none=>rfl
  |some r =>
   rw[hs]at h';have h2:(qQ S r.2 as).map (fun q:List Stp×Kd=>(r.1::q.1,q.2))=none:=h';show(qQ S r.2 (as++bs)).map _=none;rw[sK (Option.map_eq_none_iff.mp h2)];rfl
theorem tN{ws:List Str}(e:qQ S k (ws.take j)=none):qQ S k ws=none:=by
 rw[←BN j ws];exact sK e
theorem aGk(hg:Good S)(hn:NOk (kO S) S.length){k k':Kd}{s:Stp}(hk:k.Fit S.length)(h:stepK S k w=some (s,k')):k'.Fit S.length:=by
 have led:∀{k:Kd},k.Fit S.length->(ledK S k w).map (fun k'=>(Stp.wd w,k'))=some (s,k')->k'.Fit S.length:=fun {k} hk h=>by
  cases e:ledK S k w with
  |none=>rw[e]at h;cases h
  |some k2=>rw[e]at h;cases h;exact aQw hg hn hk e
 cases k with
 |many n k2 =>
  have h':(match vO (yJ w) 0 ((n:Int)-1) with|some j=>some (Stp.no j,k2)|none=>if kP w=true then some (.nm w,k2) else none)=some (s,k'):=h;cases e:vO (yJ w) 0 ((n:Int)-1) with
  |some j=>rw[e]at h';cases h';exact hk.sub
  |none =>
   rw[e]at h';have h2:(if kP w=true then some (Stp.nm w,k2) else none)=some (s,k'):=h'
   split at h2
   ·cases h2;exact hk.sub
   ·cases h2
 |num n=>exact led hk h
 |nest n=>exact led hk h
 |pick n=>exact led hk h
theorem mL : ∀{ws:List Str}{k k':Kd}{ss:List Stp},qQ S k ws=some (ss,k')->ss.length=ws.length
 |[],k,k',ss,h=>by cases h;rfl
 |w::ws,k,k',ss,h=>by
  have h':(match stepK S k w with|none=>none|some r=>(qQ S r.2 ws).map fun q:List Stp×Kd=>(r.1::q.1,q.2))=some (ss,k'):=h;cases hs:stepK S k w with
  |none=>rw[hs]at h';cases h'
  |some r =>
   rw[hs]at h';have h2:(qQ S r.2 ws).map (fun q:List Stp×Kd=>(r.1::q.1,q.2))=some (ss,k'):=h';cases hq:qQ S r.2 ws with
   |none=>rw[hq]at h2;cases h2
   |some q =>
    rw[hq]at h2;cases h2;exact congrArg (·+1) (mL (ss:=q.1) (k':=q.2) hq)
theorem nL{sep:Str}(hs:sep.length=1):∀(ys:List Str),ys.length<=(yd sep ys).length+1
 |[]=>yq _
 |[y]=>by show 1<=_+1;omega
 |y::z::ys=>by
  have:=nL hs (z::ys);rw[show yd sep (y::z::ys)=y++sep++yd sep (z::ys) from rfl,Ax,Ax,hs];show(z::ys).length+1<=_;omega
theorem nG(p:Str):(zv p zP).length<=p.length+1:=by
 have:=nL (sep:=zP) rfl (zv p zP);rw[StrLaws.join_split p zP]at this;exact this
theorem nY{w:Str}(h:w∈zv p zP):w.length<=p.length:=by
 have:=rC (sep:=zP) h;rw[StrLaws.join_split p zP]at this;exact this
def aT (d:Str):Str:=if d = "look" ∨ d = "store" then "num" else "pick"
def qJ (S:List Shp) (k:Kd) (d p:Str):Option (List Stp):=match qQ S k (zv p zP) with
 |none=>none
 |some q=>if zV q.2=aT d then some q.1 else none
def lO (K:ω) (H:Hp):V->Stp->Prop
 |v,.wd s=>v=.str s
 |v,.no n=>v=.int n
 |v,.nm s=>∃t,v=.ref t/\SqT K H t [.str "name",.str s]
theorem lO.same{K:ω}(h:lO K H v s)(g:jF H H'):lO K H' v s:=by
 cases s with
 |nm s=>obtain⟨t,e,h⟩:=h;exact⟨t,e,g.tp h⟩
 |_=>exact h
def xM (K:ω) (H:Hp) (vs:List V) (ss:List Stp):Prop:=vs.length=ss.length/\∀(i:Nat) (v:V) (s:Stp),vs[i]?=some v->ss[i]?=some s->lO K H v s
theorem xM.same{K:ω}(h:xM K H vs ss)(g:jF H H'):xM K H' vs ss:=⟨h.1,fun i v s a b=>(h.2 i v s a b).same g⟩
theorem xM.snoc{K:ω}(h:xM K H vs ss)(h2:lO K H v s):xM K H (vs++[v]) (ss++[s]):=by
 refine⟨by rw[ι,ι,h.1];rfl,fun i v' s' a b=>?_⟩;rcases vZ a with a|⟨ei,ev⟩
 ·rcases vZ b with b|⟨ei,_⟩
  ·exact h.2 i v' s' a b
  ·have:=(θ.mp a).1;have:=h.1;omega
 ·rcases vZ b with b|⟨_,es⟩
  ·have:=(θ.mp b).1;have:=h.1;omega
  ·subst ev;subst es;exact h2
def T3 (c:Cl5) (sp4:(Kd->Bool)->Sp):Addr->Sp->Prop:=fun C sp=>(C=c.num/\sp=sp4 Kd.isNum)\/(C=c.nest/\sp=sp4 Kd.isNest)\/(C=c.pick/\sp=sp4 Kd.isPick)
def T4 (c:Cl5) (sp4:(Kd->Bool)->Sp):Addr->Sp->Prop:=fun C sp=>(C=c.num/\sp=sp4 Kd.isNum)\/(C=c.nest/\sp=sp4 Kd.isNest)\/(C=c.many/\sp=sp4 Kd.isMany)\/(C=c.pick/\sp=sp4 Kd.isPick)
theorem aPp{K:ω}{sp4:(Kd->Bool)->Sp}{H:Hp}(hm:aIb m)(ho:KO c K H sa a kd):∃C dx fs sp,H a=some (.ins C dx fs)/\fs.lookup m=none/\T4 c sp4 C sp/\∃F:Kd->Bool,F kd=true/\sp=sp4 F:=by
 cases id ho with
 |num h=>exact⟨_,_,_,_,h,(hm _ .non).1,.inl ⟨rfl,rfl⟩,_,rfl,rfl⟩
 |nest e h=>exact⟨_,_,_,_,h,(hm _ .non).2.1,.inr (.inl ⟨rfl,rfl⟩),_,rfl,rfl⟩
 |many h _=>exact⟨_,_,_,_,h,(hm _ _).2.2.1,.inr (.inr (.inl ⟨rfl,rfl⟩)),_,rfl,rfl⟩
 |pick h _ _ _=>exact⟨_,_,_,_,h,(hm _ .non).2.2.2,.inr (.inr (.inr ⟨rfl,rfl⟩)),_,rfl,rfl⟩
theorem call3{K:ω}{sp4:(Kd->Bool)->Sp}{H:Hp}(hm:aIb m)(ho:KO c K H sa a kd)(hk:kd.isMany=false):∃C dx fs sp,H a=some (.ins C dx fs)/\fs.lookup m=none/\T3 c sp4 C sp/\∃F:Kd->Bool,F kd=true/\sp=sp4 F:=by
 cases id ho with
 |num h=>exact⟨_,_,_,_,h,(hm _ .non).1,.inl ⟨rfl,rfl⟩,_,rfl,rfl⟩
 |nest e h=>exact⟨_,_,_,_,h,(hm _ .non).2.1,.inr (.inl ⟨rfl,rfl⟩),_,rfl,rfl⟩
 |many h _=>cases hk
 |pick h _ _ _=>exact⟨_,_,_,_,h,(hm _ .non).2.2.2,.inr (.inr ⟨rfl,rfl⟩),_,rfl,rfl⟩
def aFp (c:Cl5) (K:ω) (F:Kd->Bool):Sp:=fun vs H Q _=>∃(a:Addr) (kd:Kd) (sa:List Addr),vs=[.ref a]/\F kd=true/\KO c K H sa a kd/\Q (.str (zV kd)) H
structure KdM (K:ω) (c:Cl5):Prop where
 i1:aEy K c.num
 i2:aEy K c.nest
 i3:aEy K c.many
 i4:aEy K c.pick
 k1:AF K (.ref c.num) (.ref c.many)=some false
 k2:AF K (.ref c.nest) (.ref c.many)=some false
 k3:AF K (.ref c.many) (.ref c.many)=some true
 k4:AF K (.ref c.pick) (.ref c.many)=some false
theorem KdM.no{K:ω}(h:KdM K c)(ho:KO c K H sa a k)(hk:k.isMany=false):∃t,gZ K H (.ref a) t/\AF K t (.ref c.many)=some false:=by
 cases ho with
 |num e=>exact⟨_,h.i1.ty e,h.k1⟩
 |nest _ e=>exact⟨_,h.i2.ty e,h.k2⟩
 |many e _=>cases hk
 |pick e _ _ _=>exact⟨_,h.i4.ty e,h.k4⟩
def spSi (c:Cl5) (K:ω):Sp:=fun vs H Q _=>∃(a:Addr) (w:Str) (kd:Kd) (sa:List Addr) (S:List Shp),vs=[.ref a,.str w]/\w.length<=1000/\kd.Fit S.length/\KO c K H sa a kd/\SW c K H sa S ∧
 (iW kd w≠.non->∀H',jF H H'->Q (iW kd w) H')/\(iW kd w=.non->kP w=true->∀t H',jF H H'->H t=none->H' t=some (.tup [.str "name",.str w])->Q (.ref t) H')/\(iW kd w=.non->kP w=false->∀H',jF H H'->Q .non H')
def XAt (CN:Addr) (H:Hp) (e:Addr) (fs:List (Str×V)):Prop:=∃dx,H e=some (ExF e CN (some dx))/\H dx=some (XD dx fs)
def aQj (c:Cl5) (CW:Addr) (K:ω):Sp:=fun vs H Q E=>∃(z:Addr) (li:V) (d p:Str) (n:Nat) (sa:List Addr) (S:List Shp) (xs:List Addr),vs=[.ref z,li,.str d,.str p]/\sa[n]?=some z/\SW c K H sa S/\Good S/\NOk (kO S) S.length/\p.length<=1000/\Al xs H ∧
 (∀ss,qJ S (.nest n) d p=some ss->∀l us H',jF H H'->SqL K (offs xs H') l us->xM K (offs xs H') us ss->Q (.ref l) H') ∧
 (qJ S (.nest n) d p=none->∀e H',jF H H'->H e=none->XAt CW H' e [("line",li),("path",.str p)]->E (.ref e) none H')
structure Ln where
 ws:List Str
 d:Str
 ps:List Str
def Ln.x (l:Ln):Str:=yd spS l.ws
def zJ (l:Ln):Option Str:=(l.ps.zip l.ws).lookup ("PATH" : Str)
def qV (S:List Shp) (k:Kd) (l:Ln):Option (List Stp):=match zJ l with
 |none=>some []
 |some p=>qJ S k l.d p
def aP (l:Ln):Str:=if ("=" : Str)∈l.ps then ((l.ps.zip l.ws).lookup ("A" : Str)).getD "" else ""
def stN:List Stp->List Str
 |[]=>[]
 |.nm s::r=>s::stN r
 |_::r=>stN r
theorem pS:∀(a b:List Stp),stN (a++b)=stN a++stN b
 |[],b=>rfl
 |.nm s::r,b=>by show s::stN (r++b)=s::stN r++stN b;rw[pS r b];rfl
 |.wd s::r,b=>pS r b
 |.no s::r,b=>pS r b
theorem dD:∀(a:List Stp),(stN a).length<=a.length
 |[]=>μ _
 |.nm s::r=>CU (dD r)
 |.wd s::r=>DK (dD r)
 |.no s::r=>DK (dD r)
structure LnF (l:Ln):Prop where
 w:∀w∈l.ws,w.length<=150/\32∉w.cps.toList/\10∉w.cps.toList
 fd:iL.find? (eO l.ws)=some (l.d,l.ps)
 nd:l.ps.Nodup
 pl:l.ps.length=l.ws.length
 w5:l.ws.length<=5
 ne:l.ws≠[]
 w0:∀w∈l.ws,w.length≠0
 ga:("=" : Str)∈l.ps->("A" : Str)∈l.ps
 nu:("NUMBER" : Str)∉l.ps
 op:("OP" : Str)∉l.ps
 x240:l.x.length<=240
 fl:l.d∉aMz/\l.d ≠ "else"/\l.d ≠ "end"
def lZ (CR:Addr) (K:ω) (H:Hp) (a:Addr) (i:Nat) (l:Ln) (ss:List Stp):Prop:=∃dx ra sa us,H a=some (.ins CR dx [("line",.int i),("deed",.str l.d),("goal",.str (aP l)),("reads",.ref ra),("steps",.ref sa),("number",.int 0)])/\SqL K H sa us/\xM K H us ss
theorem lZ.same{CR:Addr}{K:ω}{H H':Hp}{a:Addr}{i:Nat}{l:Ln}{ss:List Stp}(h:lZ CR K H a i l ss)(g:jF H H'):lZ CR K H' a i l ss:=by
 obtain⟨dx,ra,sa,us,h1,h2,h3⟩:=h;exact⟨dx,ra,sa,us,g _ _ h1,g.seq h2,h3.same g⟩
def mM (l:Ln):List (Key×V):=zt (fun x y=>((.inr x:Key),V.str y)) l.ps l.ws
theorem kv_at{j:Nat}(h:(mM l)[j]?=some kv):∃u v,l.ps[j]?=some u/\l.ws[j]?=some v/\kv=(.inr u,.str v):=by
 unfold mM at h;rw[CA]at h;cases hu:l.ps[j]? with
 |none=>rw[hu]at h;cases h
 |some u =>
  cases hv:l.ws[j]? with
  |none=>rw[hu,hv]at h;cases h
  |some v=>rw[hu,hv]at h;cases h;exact⟨u,v,rfl,rfl,rfl⟩
theorem rQ(hF:LnF l){u:Str}(h:u∈l.ps):∃v,(l.ps.zip l.ws).lookup u=some v/\v∈l.ws:=by
 obtain⟨j,hj⟩:=Ai.mp h;obtain⟨v,hv⟩ : ∃v,l.ws[j]?=some v:=⟨_,η (by have:=(θ.mp hj).1;have:=hF.pl;omega)⟩;exact⟨v,wK hF.nd hj hv,ο hv⟩
def nmG (ss:List Stp):List (Str×Str)->List Str
 |[]=>[]
 |p::r=>(if p.1∈bF then [p.2] else [])++((if p.1 = "PATH" then stN ss else [])++nmG ss r)
theorem aNn(a b:List (Str×Str)):nmG ss (a++b)=nmG ss a++nmG ss b:=by
 induction a with
 |nil=>rfl
 |cons p r ih =>
  show(if p.1∈bF then [p.2] else [])++((if p.1 = "PATH" then stN ss else [])++nmG ss (r++b))=((if p.1∈bF then [p.2] else [])++((if p.1 = "PATH" then stN ss else [])++nmG ss r))++nmG ss b;rw[ih,zx,zx]
theorem aBd{ss:List Stp}(h:ss.length<=160):∀(a:List (Str×Str)),(nmG ss a).length<=a.length*161
 |[]=>μ _
 |p::r=>by
  have h1:=aBd h r;have h2:=dD ss;show((if p.1∈bF then [p.2] else [])++((if p.1 = "PATH" then stN ss else [])++nmG ss r)).length<=(r.length+1)*161;rw[ι,ι];have a1:(if p.1∈bF then [p.2] else ([]:List Str)).length<=1:=by split <;> simp
  have a2:(if p.1 = "PATH" then stN ss else []).length<=160:=by
   split
   ·omega
   ·simp
  omega
def spLi:Sp:=fun vs H Q _=>∃xs:List Str,vs=[.str (yd nlS xs)]/\xs≠[]/\(∀x∈xs,10∉x.cps.toList/\x.length<=240/\x.length≠0)/\xs.length<=4/\∀p,H p=none->Q (.ref p) (upd H p (.lst (xs.map V.str)))
def spFm (K:ω):Sp:=fun vs H Q _=>∃(i:V) (a:Addr) (l:Ln),vs=[i,.ref a]/\LnF l/\SqL K H a (l.ws.map V.str)/\∀t g H',jF H H'->SqT K H' t [.str l.d,.ref g]->SqT K H' g (l.ps.map V.str)->Q (.ref t) H'
def spNs:Sp:=fun vs H Q _=>∃(a:Addr) (i:V) (d:Str),vs=[.ref a,i,.str d]/\(d∉aMz/\d ≠ "else"/\d ≠ "end")/\Q .non H
def spBg:Sp:=fun vs H Q _=>∃(a:Addr) (d:Str),vs=[.ref a,.str d]/\(d∉aMz/\d ≠ "else"/\d ≠ "end")/\Q (.ref a) H
def spRo (c:Cl5) (CR CW:Addr) (K:ω):Sp:=fun vs H Q E=>∃(z:Addr) (i:Nat) (d:Addr) (l:Ln) (n:Nat) (sa:List Addr) (S:List Shp) (xs:List Addr) (H0:Hp),vs=[.ref z,.int i,.str l.d,.ref d]/\LnF l/\sa[n]?=some z/\jF H0 H/\H0 d=none/\SW c K H0 sa S/\Good S/\NOk (kO S) S.length/\H d=some (.dK (mM l))/\Al xs H ∧
 (∀ss,qV S (.nest n) l=some ss->∀r H',jF H0 H'->lZ CR K (offs xs H') r i l ss->Q (.ref r) H') ∧
 (qV S (.nest n) l=none->∀p,zJ l=some p->∀e H',jF H0 H'->H0 e=none->XAt CW H' e [("line",.int i),("path",.str p)]->E (.ref e) none H')
def spNi (K:ω):Sp:=fun vs H Q _=>∃(g a sl:Addr) (l:Ln) (us:List V) (ss:List Stp),vs=[.ref g,.ref a,.ref sl]/\LnF l/\SqT K H g (l.ps.map V.str)/\SqL K H a (l.ws.map V.str)/\SqL K H sl us/\xM K H us ss/\ss.length<=160/\∀p H',jF H H'->H' p=some (.lst ((nmG ss (l.ps.zip l.ws)).map V.str))->Q (.ref p) H'
def spUn (K:ω):Sp:=fun vs H Q _=>∃(a b:Addr) (xs ys:List Str),vs=[.ref a,.ref b]/\SqL K H a (xs.map V.str)/\SqL K H b (ys.map V.str)/\xs.length<=2000/\∀l (zs:List Str) H',jF H H'->H' l=some (.lst (zs.map V.str))->zs.length<=xs.length->Q (.ref l) H'
structure TD (CR:Addr) (K:ω) (H:Hp) (tl:Addr) (rs:List Addr) (ls:List Ln) (sz:List (List Stp)):Prop where
 l:SqL K H tl (rs.map V.ref)
 n:rs.length=ls.length
 m:∀x∈ls,LnF x
 r:∀(i:Nat) (a:Addr) (x:Ln) (s:List Stp),rs[i]?=some a->ls[i]?=some x->sz[i]?=some s->lZ CR K H a i x s
 z:sz.length=ls.length
theorem TD.same{CR:Addr}{K:ω}{H H':Hp}{tl:Addr}{rs:List Addr}{ls:List Ln}{sz:List (List Stp)}(h:TD CR K H tl rs ls sz)(g:jF H H'):TD CR K H' tl rs ls sz:=⟨g.seq h.l,h.n,h.m,fun i a x s ha hx hs=>(h.r i a x s ha hx hs).same g,h.z⟩
theorem TD.at{CR:Addr}{K:ω}{H:Hp}{tl:Addr}{rs:List Addr}{ls:List Ln}{sz:List (List Stp)}(h:TD CR K H tl rs ls sz){n:Nat}(hn:n<ls.length):∃a l s,rs[n]?=some a/\ls[n]?=some l/\sz[n]?=some s/\LnF l/\lZ CR K H a n l s:=by
 have hl:ls[n]?=some ls[n]:=η hn;have ha:rs[n]?=some (rs[n]'(by rw[h.n];exact hn)):=η _;have hs:sz[n]?=some (sz[n]'(by rw[h.z];exact hn)):=η _;exact⟨_,_,_,ha,hl,hs,h.m _ (ο hl),h.r _ _ _ _ ha hl hs⟩
structure RwC (K:ω) (CR:Addr):Prop where
 i:aEy K CR
 r:AF K (.ref CR) (.ref CR)=some true
def spLb (CR:Addr) (K:ω):Sp:=fun vs H Q _=>∃(a:Addr) (i:Nat) (l:Ln) (s:List Stp),vs=[.ref a]/\lZ CR K H a i l s/\Q (.int ((i+1:Nat):Int)) H
def spWR (CR:Addr) (K:ω):Sp:=fun vs H Q _=>∃(tl a:Addr) (n:Nat) (rs:List Addr) (ls:List Ln) (sz:List (List Stp)),vs=[.ref tl,.int (n:Int)]/\TD CR K H tl rs ls sz/\rs[n]?=some a/\Q (.ref a) H
inductive aNg (CR:Addr) (K:ω) (vs:List V) (H:Hp) (Q:VK):Prop|mk:∀(tl:Addr) (rs:List Addr) (ls:List Ln) (sz:List (List Stp)),vs=[.ref tl,.int 0]->TD CR K H tl rs ls sz->ls.length<=60->(∀(p ra:Addr) (H':Hp),jF H H'->SqT K H' p [.ref ra,.int (ls.length:Nat)]->SqL K H' ra (rs.map V.ref)->Q (.ref p) H')->aNg CR K vs H Q
def spRF (CR:Addr) (K:ω):Sp:=fun vs H Q _=>aNg CR K vs H Q
def aCv (S:List Shp) (k:Kd):List Ln->Nat->Option (Nat×Str)
 |[],_=>none
 |l::ls,i=>match qV S k l with
  |none=>some (i,(zJ l).getD "")
  |some _=>aCv S k ls (i+1)
def spRP (c:Cl5) (CS CW CP CR:Addr) (K:ω):Sp:=fun vs H Q E=>∃(ra z:Addr) (sa:List Addr) (S:List Shp) (ls:List Ln),vs=[.ref ra,.str (yd nlS (ls.map Ln.x))]/\RO c CS K H ra (sa++[z]) S/\Good S/\NOk (kO S) S.length/\(∀l∈ls,LnF l)/\ls≠[]/\ls.length<=4/\(∀sz:List (List Stp),sz.length<=ls.length->(∀(i:Nat) (l:Ln) (s:List Stp),ls[i]?=some l->sz[i]?=some s->qV S (.nest sa.length) l=some s)->(zt (fun l s=>(nmG s (l.ps.zip l.ws)).length) ls sz).sum<=12) ∧
 (∀sz:List (List Stp),sz.length=ls.length->(∀(i:Nat) (l:Ln) (s:List Stp),ls[i]?=some l->sz[i]?=some s->qV S (.nest sa.length) l=some s)->∀(p dx rp:Addr) (v1 v3 v4:V) (rs:List Addr) (H':Hp),jF H H'->H' p=some (.ins CP dx [("shapes",v1),("rows",.ref rp),("named",v3),("written",v4)])->SqL K H' rp (rs.map V.ref)->rs.length=ls.length->(∀(i:Nat) (a:Addr) (l:Ln) (s:List Stp),rs[i]?=some a->ls[i]?=some l->sz[i]?=some s->lZ CR K H' a i l s)->Q (.ref p) H') ∧
 (∀i p,aCv S (.nest sa.length) ls 0=some (i,p)->∀e H',jF H H'->H e=none->XAt CW H' e [("line",.int (i:Nat)),("path",.str p)]->E (.ref e) none H')
theorem aDz : ∀{ls:List Ln}{i m:Nat}{l:Ln},ls[i]?=some l->(∀(j:Nat) (l':Ln),j<i->ls[j]?=some l'->∃s,qV S k l'=some s)->qV S k l=none->aCv S k ls m=some (m+i,(zJ l).getD "")
 |[],i,m,l,h,_,_=>by simp at h
 |x::ls,0,m,l,h,_,hn=>by
  cases h;show(match qV S k x with|none=>some (m,(zJ x).getD "")|some _=>aCv S k ls (m+1))=_;rw[hn];rfl
 |x::ls,i+1,m,l,h,hp,hn=>by
  obtain⟨s,hs⟩:=hp 0 x (Nat.zero_lt_succ _) rfl;show(match qV S k x with|none=>some (m,(zJ x).getD "")|some _=>aCv S k ls (m+1))=_;rw[hs];show aCv S k ls (m+1)=_;rw[aDz (ls:=ls) (i:=i) (m:=m+1) (by simpa using h) (fun j l' hj hl=>hp (j+1) l' (Nat.succ_lt_succ hj) (by simpa using hl)) hn]
  congr 2
  omega
theorem aAy{f:Ln->List Stp->Nat}: ∀{ls:List Ln}{sz:List (List Stp)}{l:Ln}{s:List Stp},ls[sz.length]?=some l->(zt f ls (sz++[s])).sum=(zt f ls sz).sum+f l s
 |[],sz,l,s,h=>by simp at h
 |x::ls,[],l,s,h=>by
  cases h;show(f x s::zt f ls []).sum=_;rw[List.zipWith_nil_right,List.zipWith_nil_right];show f x s+0=0+f x s;omega
 |x::ls,y::sz,l,s,h=>by
  have:=aAy (f:=f) (ls:=ls) (sz:=sz) (l:=l) (s:=s) (by simpa using h);show(f x y::zt f ls (sz++[s])).sum=(f x y::zt f ls sz).sum+f l s;rw[Ba,Ba,this];omega
theorem aSs{S:List Shp}{k:Kd}{l:Ln}{ss:List Stp}(hF:LnF l)(h:qV S k l=some ss):ss.length<=160:=by
 unfold qV at h;cases e:zJ l with
 |none=>rw[e]at h;cases h;exact yq _
 |some p =>
  rw[e]at h;have hp:p∈l.ws:=by
   unfold zJ at e;obtain⟨u,_,hu⟩ : ∃u:Str,True/\(u,p)∈l.ps.zip l.ws:=⟨"PATH",trivial,by
    have:∀{xs:List (Str×Str)},xs.lookup ("PATH" : Str)=some p->(("PATH" : Str),p)∈xs:=fun {xs} h=>by
     induction xs with
     |nil=>cases h
     |cons y ys ih =>
      obtain⟨a,b⟩:=y;rw[Ci]at h
      by_cases z:("PATH" : Str)=a
      ·subst z;rw[show((ε "PATH") == (ε "PATH"))=true from by decide]at h;cases h;exact Ψ ..
      ·rw[show(ε "PATH" == a)=false from beq_false_of_ne z]at h;exact yc _ (ih h)
    exact this e⟩
   exact(List.of_mem_zip hu).2
  have h':qJ S k l.d p=some ss:=h;unfold qJ at h';cases hq:qQ S k (zv p zP) with
  |none=>rw[hq]at h';cases h'
  |some q =>
   rw[hq]at h';have h2:(if zV q.2=aT l.d then some q.1 else none)=some ss:=h'
   split at h2
   ·cases h2;have h3:=mL (ss:=q.1) (k':=q.2) hq;have h4:=nG p;have h5:=(hF.w p hp).1;omega
   ·cases h2
theorem pK{c d:Nat}(hcd:c≠d):∀{ys:List Str},(∀y∈ys,c∉y.cps.toList)->c∉(yd ⟨#[d]⟩ ys).cps.toList
 |[],_,h=>by cases h
 |[y],hy,h=>hy y (Ψ ..) h
 |y::z::ys,hy,h=>by
  have e:(yd ⟨#[d]⟩ (y::z::ys)).cps.toList=y.cps.toList++([d]++(yd ⟨#[d]⟩ (z::ys)).cps.toList):=by
   show(y++⟨#[d]⟩++yd ⟨#[d]⟩ (z::ys)).cps.toList=_;rw[Bd,Bd,AQ,AQ,zx]
  rw[e]at h;rcases za.mp h with h|h
  ·exact hy y (Ψ ..) h
  ·rcases za.mp h with h|h
   ·exact hcd (τ.mp h)
   ·exact pK hcd (fun w hw=>hy w (yc _ hw)) h
theorem aKe(hF:LnF l): 10∉l.x.cps.toList/\l.x.length<=240/\l.x.length≠0:=by
 refine⟨pK (by decide) fun y hy=>(hF.w y hy).2.2,hF.x240,?_⟩;cases e:l.ws with
 |nil=>exact absurd e hF.ne
 |cons y ys =>
  have h1:=rC (sep:=spS) (ys:=l.ws) (y:=y) (by rw[e];exact Ψ ..);have h2:=hF.w0 y (by rw[e];exact Ψ ..);show(yd spS l.ws).length≠0;omega
theorem aKs(hF:LnF l):zv l.x (ε " ")=l.ws:=yZ (c:=32) hF.ne (fun w hw=>(hF.w w hw).2.1)
end K29
namespace K29
open PySem L2
def ltr (s:Nat):Nat:=97+s % 26
def yL (ns:List Nat) (a k:Nat):List Nat:=ns.set a (ns.getD a 0+k)
def fJ (ns:List Nat):Nat:=ns.getD (ns.length-1) 0
def aAm (en:Str) (s:Nat):Nat:=en.cps.toList.getD (s % en.length) 0
def drC (ns:List Nat) (a:Nat) (en:Str) (k:Nat):List Nat:=(yL ns a k).dropLast.map ltr++[aAm en (fJ (yL ns a k))]
def drS (ns:List Nat) (a:Nat) (en:Str) (k:Nat):Str:=⟨(drC ns a en k).toArray⟩
def en1:Str:=ε "abcdefghijklmnopqrstuvwxyz"
def en2:Str:=ε "abcijlopqruvxz"
theorem aHs{en:Str}(h:en=en1\/en=en2):en.cps.toList.Nodup/\(∀c∈en.cps.toList,97<=c/\c<=122)/\14<=en.length/\en.length<=26/\en.cps.toList.length=en.length:=by
 rcases h with rfl|rfl <;> ac_rfl
theorem lF{en:Str}(h:en=en1\/en=en2)(s:Nat):en.cps.toList[s % en.length]?=some (aAm en s)/\aAm en s∈en.cps.toList:=by
 obtain⟨_,_,h14,_,hl⟩:=aHs h;have hlt:s % en.length<en.cps.toList.length:=by rw[hl];exact Nat.mod_lt _ (by omega)
 have e:en.cps.toList[s % en.length]?=some (aAm en s):=by unfold aAm;rw[Φ,η hlt];rfl
 exact⟨e,ο e⟩
theorem cM : (yL ns a k).length=ns.length:=List.length_set
theorem aKk{s n i j:Nat}(hn : 14<=n)(hi:i<4)(hj:j<4)(e:(s+i) % n=(s+j) % n):i=j:=by
 rcases Nat.lt_trichotomy i j with h|h|h
 ·have h1:=Cj e.symm;rw[show s+j-(s+i)=j-i by omega,Nat.mod_eq_of_lt (by omega)]at h1;omega
 ·exact h
 ·have h1:=Cj e;rw[show s+i-(s+j)=i-j by omega,Nat.mod_eq_of_lt (by omega)]at h1;omega
theorem aQr{ns:List Nat}(hn:ns≠[]):(drC ns a en k).length=ns.length:=by
 unfold drC;rw[ι,δ,AZ,cM];have:=Aq.mpr hn;show ns.length-1+1=_;omega
theorem aRi{ns:List Nat}{a i j:Nat}{en:Str}(he:en=en1\/en=en2)(ha:a<ns.length)(hi:i<4)(hj:j<4)(e:drC ns a en i=drC ns a en j):i=j:=by
 obtain⟨hnd,_,h14,_,hl⟩:=aHs he;have hlen:((yL ns a i).dropLast.map ltr).length=((yL ns a j).dropLast.map ltr).length:=by rw[δ,δ,AZ,AZ,cM,cM]
 obtain⟨e1,e2⟩:=List.append_inj e hlen;have atv:∀k,(yL ns a k)[a]?=some (ns.getD a 0+k):=fun k=>by unfold yL;rw[Ck ha]
 by_cases hl':a<ns.length-1
 ·have h1:=congrArg (fun l=>l[a]?) e1;have h2:∀k,((yL ns a k).dropLast.map ltr)[a]?=some (ltr (ns.getD a 0+k)):=fun k=>by
   rw[yv,List.dropLast_eq_take,cM,Bp hl',atv];rfl
  simp only[h2]at h1;have h3:=zc h1;unfold ltr at h3;exact aKk (s:=ns.getD a 0) (n:=26) (by decide) hi hj (by omega)
 ·have hlast:∀k,fJ (yL ns a k)=ns.getD a 0+k:=fun k=>by
   unfold fJ;rw[cM,Φ,show ns.length-1=a by omega,atv];rfl
  rw[hlast,hlast]at e2;have h3:=(Dk e2).1;have p1:=(lF he (ns.getD a 0+i)).1;have p2:=(lF he (ns.getD a 0+j)).1;rw[h3]at p1;have q1:(ns.getD a 0+i) % en.length<en.cps.toList.length:=(θ.mp p1).1;have:(ns.getD a 0+i) % en.length=(ns.getD a 0+j) % en.length:=(List.getElem?_inj q1 hnd).mp (p1.trans p2.symm);exact aKk h14 hi hj this
def drL (ns:List Nat) (a:Nat) (en:Str):List Str:=(zw 4).map (drS ns a en)
def Nm4 (xs:List Str):Prop:=xs.length=4/\xs.Nodup/\∀x∈xs,kP x=true
theorem aPr{ns:List Nat}{a:Nat}{en:Str}(he:en=en1\/en=en2)(ha:a<ns.length)(h6:ns.length<=6)(hno:∀x∈drL ns a en,x∉dW):Nm4 (drL ns a en):=by
 have hne:ns≠[]:=fun z=>by rw[z]at ha;cases ha
 refine⟨by unfold drL;rw[δ,AR],?_,fun x hx=>?_⟩
 ·unfold drL;show Eb (·≠·) _;rw[List.pairwise_map];refine List.pairwise_lt_range.imp_of_mem fun {i j} hi hj hlt e=>?_;have:=congrArg (fun s:Str=>s.cps.toList) e;have:=aRi he ha (Bs.mp hi) (Bs.mp hj) this;omega
 ·have hno':=hno x hx;obtain⟨k,hk,rfl⟩:=yj.mp hx;have hl:(drS ns a en k).length=ns.length:=by rw[←aQr (a:=a) (k:=k) (en:=en) hne];rfl
  unfold kP within uQ;simp only[zj,decide_eq_true_eq,Bool.not_eq_true',decide_eq_false_iff_not,ze];refine⟨⟨⟨by rw[hl];omega,by rw[hl];omega⟩,fun c hc=>?_⟩,hno'⟩;rw[bK];have hc':c∈(yL ns a k).dropLast.map ltr++[aAm en (fJ (yL ns a k))]:=hc;rcases za.mp hc' with hc|hc
  ·obtain⟨s,_,rfl⟩:=yj.mp hc;unfold ltr;have:=Nat.mod_lt s (show 0<26 by decide);omega
  ·rw[τ.mp hc];exact(aHs he).2.1 _ (lF he _).2
theorem aRd : ∀x∈drL ns a en2,x∉dW:=fun x hx z=>by
 obtain⟨k,hk,rfl⟩:=yj.mp hx;have:∀w∈dW,∀c∈en2.cps.toList,w.cps.toList.getLast?≠some c:=by ac_rfl
 refine this _ z _ (lF (.inr rfl) (fJ (yL ns a k))).2 ?_;show((yL ns a k).dropLast.map ltr++[aAm en2 (fJ (yL ns a k))]).getLast?=_;rw[List.getLast?_append];rfl
def spDw (K:ω):Sp:=fun vs H Q _=>∃(s:Addr) (ns:List Nat) (a:Nat) (en:Str),vs=[.ref s,.int (a:Nat),.str en,.int 4]/\SqL K H s (ns.map fun n:Nat=>V.int n)/\(en=en1\/en=en2)/\a<ns.length/\ns.length<=6/\∀l H',jF H H'->H l=none->H' l=some (.lst ((drL ns a en).map V.str))->Q (.ref l) H'
def smL:List Str:=["a","ab","b","outer","puts","looka","endo","iff","rows","picky","numa","taga","z","zz"]
def sm4 (a:Nat):List Str:=(zw 4).map fun k=>smL.getD ((a+5*k) % 14) Str.empty
theorem sm_ok{a:Nat}(h:a<14):Nm4 (sm4 a):=by
 have:∀a:Fin 14,(sm4 a.val).length=4/\(sm4 a.val).Nodup/\∀x∈sm4 a.val,kP x=true:=by ac_rfl
 exact this ⟨a,h⟩
def wrdS:Str:=ε "shape num row pick tag room things part tags put take many look which store choose copy each span"
theorem aGw:zv (wrdS++ε " if else end out") (ε " ")=dW:=by
 have e:wrdS++ε " if else end out" = yd spS dW:=by ac_rfl
 rw[e];exact yZ (c:=32) (by decide) (by ac_rfl)
def spNm (K:ω):Sp:=fun vs H Q _=>∃p:Addr,vs=[.ref p,.int 4]/\St3 H p/\∀l ns H',Drawn p H H'->H l=none->H' l=some (.lst (ns.map V.str))->Nm4 ns->Q (.ref l) H'
def aQc:Sp:=fun vs H Q _=>∃w:Str,vs=[.str w]/\w.length<=1000/\∀H',jF H H'->Q (.bl (kP w)) H'
theorem aRu{n a:Nat}(h:a<n):ixN n ((a:Nat):Int)=some a:=by
 unfold ixN;rw[if_pos (by omega),if_pos (by omega)];rfl
theorem cutD(xs:List V):zW xs none (some (-1))=xs.dropLast:=by
 unfold zW;rw[show HT.sIx xs.length 0 none=0 from rfl,List.drop_zero,Nat.sub_zero,List.dropLast_eq_take]
 congr 1
 show(if (-1:Int)<0 then ((-1:Int)+xs.length).toNat else min (-1:Int).toNat xs.length)=xs.length-1;rw[if_pos (by decide)];omega
theorem aKq{ns:List Nat}(h:ns≠[]):atI (ns.map fun n:Nat=>V.int n) (-1)=some (V.int (fJ ns:Nat)):=by
 have hp:=Aq.mpr h;unfold atI ixN;rw[δ,if_neg (by omega),if_pos (by omega)];show(ns.map fun n:Nat=>V.int n)[((-1:Int)+ns.length).toNat]?=_;rw[show((-1:Int)+ns.length).toNat=ns.length-1 by omega,yv];unfold fJ;rw[Φ,η (by omega)];rfl
theorem aRv(s:Nat):en1.cps.toList[s % 26]?=some (ltr s):=by
 have h:∀i:Fin 26,en1.cps.toList[i.val]?=some (97+i.val):=by ac_rfl
 exact h ⟨s % 26,Nat.mod_lt _ (by decide)⟩
theorem modN(s n:Nat):(((s:Nat):Int)) % ((n:Nat):Int)=((s % n:Nat):Int):=by
 first|exact(Int.natCast_emod _ _).symm|exact(Int.ofNat_emod _ _).symm|rfl
theorem aQu(ns:List Nat)(a:Nat)(en:Str)(k:Nat):yd (ε "") (((yL ns a k).dropLast.map ltr).map fun c=>(⟨#[c]⟩ : Str))++(⟨#[aAm en (fJ (yL ns a k))]⟩ : Str)=drS ns a en k:=by
 refine Str.ext' (Array.toList_inj.mp ?_);rw[Bd,AQ,rR];rfl
theorem filtA{α : Type}{f : α->Bool}{l:List α}{i:Nat}{a : α}(h:l[i]?=some a):(l.take (i+1)).filter f=(l.take i).filter f++(if f a=true then [a] else []):=by
 rw[zu,h,List.filter_append]
 congr 1
 show[a].filter f=_
 by_cases z:f a=true
 ·rw[if_pos z,Cg z];rfl
 ·rw[if_neg z,Av z];rfl
theorem aBq{α β : Type}(p : α->Bool)(g : α->β):∀l:List α,((l.filter fun c=>!p c).map g).isEmpty=l.all p
 |[]=>rfl
 |a::l=>by
  cases h:p a with
  |true=>rw[Av (by rw[h];decide),List.all_cons,h,Dm];exact aBq p g l
  |false=>rw[Cg (by rw[h];rfl),List.all_cons,h,AE];rfl
theorem aMf(h1:within w 6=true)(h2:w∉dW):kP w=w.cps.toList.all fun c=>decide (c∈xR.cps.toList):=by
 unfold kP;rw[h1,decide_eq_false h2,Dm];show(uQ w xR&&true)=_;rw[Bool.and_true];rfl
def aGj (K:ω) (val:Kd->Tab->Nat):Nat->Sp
 |0=>fun _ _ _ _=>False
 |r+1=>fun vs H Q _=>∃(a sl:Addr) (kd:Kd) (S:List Shp),vs=[.ref sl,.ref a]/\kd.Rk r/\kd.lv<=r/\kd.Fit S.length/\LK K H a kd/\LX K H sl S/\Good S/\∀H',jF H H'->Q (.int (val kd (tabs S))) H'
def aQk (K:ω):Sp:=fun vs H Q _=>∃(p sl:Addr) (n:Nat) (us:List V) (xs:List Addr),vs=[.ref p,.ref sl]/\n<=4/\us.length=n/\St3 H p/\p∈xs/\sl≠p/\SqL K (offs [p] H) sl us/\Al xs H/\∀a kd H',Drawn p H H'->kd.Fit n->LK K (offs xs H') a kd->Q (.ref a) H'
inductive aHj (K:ω) (n:Nat) (vs:List V) (H:Hp) (Q:VK):Prop|mk:∀(a sl:Addr) (kd:Kd) (S:List Shp),vs=[.ref sl,.ref a]->kd.lv<n->kd.Fit S.length->NOk (kO S) S.length->LK K H a kd->LX K H sl S->(∀H',jF H H'->Q (.str (yd spS (kd.words (kO S)))) H')->aHj K n vs H Q
def aFt (K:ω) (n:Nat):Sp:=fun vs H Q _=>aHj K n vs H Q
theorem aFs:∀{xs:List Nat},(∀x∈xs,1<=x)->xs.length<=xs.sum
 |[],_=>μ _
 |x::xs,h=>by
  rw[Δ,Ba];have:=h x (Ψ ..);have:=aFs fun y hy=>h y (yc _ hy);omega
structure Sml (t:Tab) (n:Nat):Prop where
 sz:∀i,i<n->1<=t.sz.getD i 0
 ut:∀i,i<n->∀p,((t.ut.getD i fun _=>[]) p).length<=t.sz.getD i 0
 dp:∀i,i<n->t.dp.getD i 0<=i+1
theorem Sml.one(h:Sml t n):∀{k:Kd},((∃w,k=.num w/\1<=w/\w<=4)\/∃i,k=.nest i/\i<n)->1<=k.size t.sz/\(∀p,(k.units t.sz t.ut p).length<=k.size t.sz)/\k.depth t.dp<=n:=by
 rintro k (⟨w,rfl,h1,h2⟩|⟨i,rfl,hi⟩)
 ·exact⟨h1,fun p=>h1,yq _⟩
 ·exact⟨h.sz i hi,h.ut i hi,by have:=h.dp i hi;show t.dp.getD i 0<=n;omega⟩
theorem Sml.kd(h:Sml t n):∀{k:Kd},k.Fit n->1<=k.size t.sz/\(∀p,(k.units t.sz t.ut p).length<=k.size t.sz)/\k.depth t.dp<=n
 |.num w,hk=>h.one (.inl ⟨w,rfl,hk⟩)
 |.nest i,hk=>h.one (.inr ⟨i,rfl,hk⟩)
 |.many m k,hk=>by
  obtain⟨a,b,c⟩:=h.one (k:=k) hk.2.2;have hm:=hk.1;refine⟨?_,fun p=>?_,c⟩
  ·show 1<=m*k.size t.sz;exact yo (by omega : 1<=1*1) (Nat.mul_le_mul hm a)
  ·show((zw m).flatMap fun j=>k.units t.sz t.ut (pj p (ε (toString j)))).length<=m*k.size t.sz;rw[List.length_flatMap];have:((zw m).map fun j=>(k.units t.sz t.ut (pj p (ε (toString j)))).length).sum<=(zw m).length*k.size t.sz:=cD fun j _=>b _;rw[AR]at this;exact this
 |.pick is,hk=>by
  obtain⟨h2,h4,_,hb⟩:=hk;have hne:is≠[]:=fun z=>by rw[z]at h2;exact absurd h2 (by decide)
  have hmap:(is.map fun i=>t.sz.getD i 0)≠[]:=by simpa using hne
  obtain⟨i,hi,he⟩:=yj.mp (rM hmap);have h1:=h.sz i (hb i hi);refine⟨?_,fun p=>?_,?_⟩
  ·show 1<=1+_;omega
  ·show 2<=1+yG (is.map fun i=>t.sz.getD i 0);omega
  ·show yG (is.map fun i=>t.dp.getD i 0)<=n;exact lP fun x hx=>by
    obtain⟨j,hj,rfl⟩:=yj.mp hx;have:=h.dp j (hb j hj);have:=hb j hj;omega
theorem aMh{s:Shp}(h:Sml (tabs S1) S1.length)(hne:s.2≠[])(hf:∀f∈s.2,f.2.Fit S1.length): 1<=(tabs (S1++[s])).sz.getD S1.length 0/\(∀p,(((tabs (S1++[s])).ut.getD S1.length fun _=>[]) p).length<=(tabs (S1++[s])).sz.getD S1.length 0)/\(tabs (S1++[s])).dp.getD S1.length 0<=S1.length+1:=by
 obtain⟨t1,t2,t3⟩:=bN S1 s [];refine⟨?_,fun p=>?_,?_⟩
 ·rw[t1];have:=aFs (xs:=s.2.map fun f=>f.2.size (tabs S1).sz) fun x hx=>by
   obtain⟨f,hf',rfl⟩:=yj.mp hx;exact(h.kd (hf f hf')).1
  rw[δ]at this;have:=Aq.mpr hne;omega
 ·rw[t1,t3 p,List.length_flatMap];have:∀fs:List (Str×Kd),(∀f∈fs,f.2.Fit S1.length)->(fs.map fun f=>(f.2.units (tabs S1).sz (tabs S1).ut (pj p f.1)).length).sum<=(fs.map fun f=>f.2.size (tabs S1).sz).sum:=fun fs=>by
   induction fs with
   |nil=>intro _;exact μ _
   |cons f fs ih =>
    intro hh;rw[zm,zm,Ba,Ba];have a:=(h.kd (hh f (Ψ ..))).2.1 (pj p f.1);have b:=ih fun g hg=>hh g (yc _ hg);omega
  exact this s.2 hf
 ·rw[t2];have:yG (s.2.map fun f=>f.2.depth (tabs S1).dp)<=S1.length:=lP fun x hx=>by
   obtain⟨f,hf',rfl⟩:=yj.mp hx;exact(h.kd (hf f hf')).2.2
  omega
theorem aKx:∀(n:Nat) {S:List Shp},S.length=n->Good S->Sml (tabs S) S.length
 |0,S,hl,_=>by
  rw[AX.mp hl];exact⟨fun i h=>absurd h (Ar _),fun i h=>absurd h (Ar _),fun i h=>absurd h (Ar _)⟩
 |n+1,S,hl,hg=>by
  rcases BO S with rfl|⟨S1,s,rfl⟩
  ·cases hl
  ·rw[BP]at hl hg ⊢;have hl1:S1.length=n:=by rw[ι,zk]at hl;omega
   have ih:=aKx n hl1 (Good.pre hg);have hs:(S1++[s])[S1.length]?=some s:=by rw[yb (μ _),AA];rfl
   obtain⟨a,b,c⟩:=aMh ih (hg.ne _ _ hs) fun f hf=>(hg.fit _ _ hs f hf).1;have lo:∀i,i<(S1++[s]).length->i<S1.length\/i=S1.length:=fun i hi=>by rw[ι,zk]at hi;omega
   refine⟨fun i hi=>?_,fun i hi p=>?_,fun i hi=>?_⟩
   ·rcases lo i hi with h|rfl
    ·rw[(bR h).1];exact ih.sz i h
    ·exact a
   ·rcases lo i hi with h|rfl
    ·rw[(bR h).1,(bR h).2.2];exact ih.ut i h p
    ·exact b p
   ·rcases lo i hi with h|rfl
    ·rw[(bR h).2.1];exact ih.dp i h
    ·exact c
theorem aPg{nm:Str}{fs:List (Str×Kd)}(hg:Good S)(h3:S.length<=3)(hne:fs≠[])(hf:∀f∈fs,f.2.Fit S.length)(hs:(fs.map fun f=>f.2.size (tabs S).sz).sum<=28):aLs (S++[(nm,fs)]) S.length:=by
 obtain⟨a,b,c⟩:=aMh (s:=(nm,fs)) (aKx _ rfl hg) hne hf;rw[(bN S (nm,fs) []).1]at b;have b':=b Str.empty;refine⟨?_,?_,by omega⟩
 ·rw[(bN S (nm,fs) []).1];show(fs.map _).sum<=64;omega
 ·show(((tabs (S++[(nm,fs)])).ut.getD S.length fun _=>[]) Str.empty).length<=40;have hs':(((nm,fs):Shp).2.map fun f=>f.2.size (tabs S).sz).sum<=28:=hs;omega
def aLp (K:ω) (r:Nat):Sp:=fun vs H Q _=>∃p:Addr,vs=[.ref p]/\St3 H p/\12<=r/\∀l S H',Drawn p H H'->H l=none->LX K H' l S->Wel S->S≠[]->S.length<=4->Q (.ref l) H'
theorem name_num{w:Str}(h:kP w=true):yJ w=none:=by
 unfold yJ;rw[if_neg];intro z;simp only[zj]at z;obtain⟨⟨h1,h2⟩,_⟩:=z;obtain⟨h3,_⟩:=vV h;obtain⟨c,hc⟩ : ∃c,c∈w.cps.toList:=by
  have:w.cps.toList.length=w.length:=len_list w;cases e:w.cps.toList with
  |nil=>rw[e]at this;rw[←this]at h3;exact absurd h3 (by decide)
  |cons c _=>exact⟨c,Ψ ..⟩
 have a:=(fE c).mp (of_decide_eq_true (ze.mp h2 c hc));unfold kP at h;simp only[zj]at h;have b:=(bK c).mp (of_decide_eq_true (ze.mp h.1.2 c hc));omega
def digL (n:Nat):List Str:=(zw n).map fun k=>ε (toString ((k:Nat):Int))
theorem aIm{n:Nat}(hn:n<=6):stepK S (.many n k) w=if kP w=true then some (.nm w,k) else if w∈digL n then some (.no ((yJ w).getD 0),k) else none:=by
 have e0:stepK S (.many n k) w=match vO (yJ w) 0 ((n:Int)-1) with|some j=>some (.no j,k)|none=>if kP w=true then some (.nm w,k) else none:=rfl
 rw[e0]
 by_cases h:kP w=true
 ·rw[name_num h];show(if kP w=true then some (Stp.nm w,k) else none)=_;rw[if_pos h,if_pos h]
 ·rw[show(if kP w=true then some (Stp.nm w,k) else none)=none from if_neg h,if_neg h]
  by_cases hd:w∈digL n
  ·rw[if_pos hd];obtain⟨j,hj,rfl⟩:=yj.mp hd;have hj':=Bs.mp hj;rw[(dig (w:=j) (by omega)).1];show(match (if (0:Int)<=(j:Int)/\(j:Int)<=(n:Int)-1 then some ((j:Nat):Int) else none) with|some j=>some (Stp.no j,k)|none=>none)=_;rw[if_pos ⟨by omega,by omega⟩];rfl
  ·rw[if_neg hd];cases hb:vO (yJ w) 0 ((n:Int)-1) with
   |none=>rfl
   |some j =>
    exfalso;cases hnb:yJ w with
    |none=>rw[hnb]at hb;cases hb
    |some i =>
     rw[hnb]at hb;have hb':(if 0<=i/\i<=(n:Int)-1 then some i else none)=some j:=hb
     split at hb'
     ·rename_i hc;obtain⟨m,e,hm,ew⟩:=aNf hnb (by omega);exact hd (yj.mpr ⟨m,Bs.mpr (by omega),by rw[ew];rfl⟩)
     ·cases hb'
def aPx (K:ω):Sp:=fun vs H Q _=>∃(a sl:Addr) (w:Str) (kd:Kd) (S:List Shp) (xs:List Addr),vs=[.ref sl,.ref a,.str w]/\w.length<=1000/\kd.Fit S.length/\Good S/\Al xs H/\LK K (offs xs H) a kd/\LX K (offs xs H) sl S ∧
 (stepK S kd w=none->∀H',jF H H'->Q .non H')/\(∀s k',stepK S kd w=some (s,k')->∀l v b H',jF H H'->SqL K (offs xs H') l [v,.ref b]->lO K (offs xs H') v s->LK K (offs xs H') b k'->Q (.ref l) H')
theorem aLv{S:List Shp}{i:Nat}(hi:i<S.length)(w:Str):ledK S (.nest i) w=(S[i].2.find? fun f=>decide (f.1=w)).map (·.2):=by
 unfold ledK;show Option.map _ (((S.getD i (Str.empty,[])).2).find? _)=_;rw[Φ,η hi];rfl
theorem lk_hd{K:ω}(h:LK K H d k):∃rest,SqT K H d (.str (zV k)::rest):=by
 cases h with
 |num h=>exact⟨_,h⟩
 |nest h=>exact⟨_,h⟩
 |many h _=>exact⟨_,h⟩
 |pick h _=>exact⟨_,h⟩
def aJw (K:ω):Sp:=fun vs H Q _=>∃(sl:Addr) (p d:Str) (n:Nat) (S:List Shp),vs=[.ref sl,.str p,.str (aT d)]/\p.length<=1000/\S.length=n+1/\n<=100/\Good S/\NOk (kO S) S.length/\LX K H sl S ∧
 (qJ S (.nest n) d p=none->∀H',jF H H'->Q .non H')/\(∀ss,qJ S (.nest n) d p=some ss->∀l us H',jF H H'->SqL K H' l us->xM K H' us ss->Q (.ref l) H')
end K29
namespace K29
open PySem L2
def StW (u:V):Prop:=(∃w,u=.str w/\kP w=true)\/∃n:Nat,u=.int n/\n<=9
def SpW (K:ω) (H:Hp) (a:Addr):Prop:=∃us:List V,SqL K H a us/\us≠[]/\us.length<=8/\∀u∈us,StW u
def SpL (K:ω) (H:Hp) (ts:List Addr):Prop:=∀t∈ts,∃a k,SqT K H t [.ref a,.ref k]/\SpW K H a
theorem SpW.same{K:ω}(h:SpW K H a)(g:jF H H'):SpW K H' a:=by
 obtain⟨us,h1,h2⟩:=h;exact⟨us,g.seq h1,h2⟩
theorem SpL.same{K:ω}(h:SpL K H ts)(g:jF H H'):SpL K H' ts:=fun t ht=>by
 obtain⟨a,k,h1,h2⟩:=h t ht;exact⟨a,k,g.tp h1,h2.same g⟩
theorem SpL.app{K:ω}(h:SpL K H ts)(h':SpL K H us):SpL K H (ts++us):=fun t ht=>by
 rcases za.mp ht with z|z
 ·exact h t z
 ·exact h' t z
def aGo (K:ω):Nat->Sp
 |0=>fun _ _ _ _=>False
 |r+1=>fun vs H Q _=>∃(sl a l:Addr) (kd:Kd) (S:List Shp) (us:List V),vs=[.ref sl,.ref a,.ref l]/\kd.Rk r/\kd.Fit S.length/\Wel S/\LK K H a kd/\LX K H sl S/\SqL K H l us/\us.length+r<=8/\(∀u∈us,StW u)/\(us≠[]\/∃i,kd=.nest i)/\∀p ts H',jF H H'->SqL K H' p (ts.map V.ref)->SpL K H' ts->ts≠[]->ts.length<=6 ^ r->Q (.ref p) H'
theorem sY{us:List V}{u:V}(h:∀u∈us,StW u)(h2:StW u):∀x∈us++[u],StW x:=fun x hx=>by
 rcases za.mp hx with z|z
 ·exact h x z
 ·rw[τ.mp z];exact h2
theorem aMn{r:Nat}(h:r<=8): 6 ^ r<=1679616:=yo (Nat.pow_le_pow_right (by decide) h) (by decide)
theorem aGf(r:Nat): 1<=6 ^ r:=Nat.one_le_pow _ _ (by decide)
theorem aFq{r j t u:Nat}(hr:r<=8)(hj:j<6)(ht:t<=j*6 ^ r)(hu:u<=6 ^ r):t+u<=ψ/\t+u<=(j+1)*6 ^ r:=by
 have h:=aMn hr;have h1:j*6 ^ r<=5*6 ^ r:=Nat.mul_le_mul_right _ (by omega);rw[ym,DC];omega
theorem aBk{r n t:Nat}(hn:n<=6)(ht:t<=n*6 ^ r):t<=6 ^ (r+1):=by
 rw[Nat.pow_succ,Nat.mul_comm];exact yo ht (Nat.mul_le_mul_right _ hn)
theorem SpL.one{K:ω}(h1:SqT K H t [.ref l,.ref a])(h2:SqL K H l us)(h3:us≠[])(h4:us.length<=8)(h5:∀u∈us,StW u):SpL K H [t]:=fun t' h=>by
 rw[τ.mp h];exact⟨l,a,h1,us,h2,h3,h4,h5⟩
theorem aRa{K:ω}(h:lO K H v s)(h':lO K H u s):EqS K H 8 v u:=by
 cases s with
 |wd s=>rw[show v=_ from h,show u=_ from h'];exact .same (.inl rfl)
 |no n=>rw[show v=_ from h,show u=_ from h'];exact .same (.inl rfl)
 |nm s =>
  obtain⟨t,rfl,h⟩:=h;obtain⟨t',rfl,h'⟩:=h';refine .tup h h' rfl fun i x y hx hy=>?_;rw[hx]at hy;cases hy;rcases ς.mp (ο hx) with rfl|hx
  ·exact .same (.inl rfl)
  ·rw[τ.mp hx];exact .same (.inl rfl)
theorem aPo{K:ω}(h:xM K H us ss)(h':xM K H vs ss):us.length=vs.length/\∀(i:Nat) x y,us[i]?=some x->vs[i]?=some y->EqS K H 8 x y:=by
 refine⟨h.1.trans h'.1.symm,fun i x y hx hy=>?_⟩;have hi:i<ss.length:=by rw[←h.1];exact(θ.mp hx).1
 exact aRa (h.2 i x _ hx (η hi)) (h'.2 i y _ hy (η hi))
theorem aDg : ∀{ls:List Ln}{m:Nat},(∀l∈ls,∃s,qV S k l=some s)->aCv S k ls m=none
 |[],_,_=>rfl
 |l::ls,m,h=>by
  obtain⟨s,hs⟩:=h l (Ψ ..);show(match qV S k l with|none=>some (m,(zJ l).getD "")|some _=>aCv S k ls (m+1))=none;rw[hs];exact aDg fun x hx=>h x (yc _ hx)
def NmB (S:List Shp) (k:Kd) (ls:List Ln):Prop:=∀sz:List (List Stp),sz.length<=ls.length->(∀(i:Nat) (l:Ln) (s:List Stp),ls[i]?=some l->sz[i]?=some s->qV S k l=some s)->(zt (fun l s=>(nmG s (l.ps.zip l.ws)).length) ls sz).sum<=12
def spLR (c:Cl5) (CS:Addr) (K:ω):Sp:=fun vs H Q _=>∃(ra ll z:Addr) (sa:List Addr) (S:List Shp) (ls:List Ln) (v:V) (i:Nat) (l:Ln) (p:Str),vs=[.ref ra,.ref ll,v,.int i,.str p]/\RO c CS K H ra (sa++[z]) S/\Good S/\NOk (kO S) S.length/\SqL K H ll ((ls.map Ln.x).map V.str)/\(∀l∈ls,LnF l)/\ls≠[]/\ls.length<=4/\NmB S (.nest sa.length) ls/\ls[i]?=some l/\zJ l=some p/\(∀(j:Nat) (l':Ln),j<i->ls[j]?=some l'->∃s,qV S (.nest sa.length) l'=some s)/\((qJ S (.nest sa.length) l.d p=none/\v=.non)\/∃ss a us,qJ S (.nest sa.length) l.d p=some ss/\v=.ref a/\SqL K H a us/\xM K H us ss/\∀l'∈ls,∃s,qV S (.nest sa.length) l'=some s)/\∀H',jF H H'->Q (.bl true) H'
theorem aNz{X:Cx}{K:ω}(hK:X.K=K)(hu:X.A.units+64<Cs):OpR X (Ah .Eq) (fun x y H Q=>∃(a b:Addr) (xs ys:List V),x=.ref a/\y=.ref b/\SqT K H a xs/\SqT K H b ys/\xs.length=ys.length/\(∀(i:Nat) x y,xs[i]?=some x->ys[i]?=some y->EqS K H 8 x y)/\Q (.bl true) H):=hK ▸ aRg hu
end K29
namespace K29
open PySem L2
def ln5 (d p:Str):Ln:=⟨["a","=",d,"b",p],d,["A","=",d,"I","PATH"]⟩
def ln4 (d p:Str):Ln:=⟨[d,"a",p,"b"],d,[d,"I","PATH","B"]⟩
def lnO:Ln:=⟨["out","a"],"out",["out","A"]⟩
def lnN:Ln:=⟨["a","=","look","a","nowhere"],"look",["A","=","look","I","PATH"]⟩
structure aF (p:Str):Prop where
 l:p.length<=150
 e:p.length≠0
 b : 32∉p.cps.toList
 n : 10∉p.cps.toList
 w:(zv p zP).length<=9
theorem dQ{x:Str}: ∀{ps:List Str},ps≠[]->yd sep (ps++[x])=yd sep ps++sep++x
 |[],h=>absurd rfl h
 |[a],_=>rfl
 |a::b::ps,_=>by
  have ih:=dQ (sep:=sep) (x:=x) (ps:=b::ps) (by simp);rw[DW,aL (sep:=sep) (y:=a) (ys:=b::ps++[x]) (by simp),ih,aL (sep:=sep) (y:=a) (ys:=b::ps) (by simp)];simp only[BG]
theorem x5{d p pre:Str}(h:pre=yd spS ["a","=",d,"b"]++spS):pre++p=(ln5 d p).x:=by
 rw[h];exact(dQ (sep:=spS) (x:=p) (ps:=["a","=",d,"b"]) (by simp)).symm
theorem x4{d p pre:Str}(h:pre=yd spS [d,"a"]++spS):pre++p++ε " b" = (ln4 d p).x:=by
 have e:(ln4 d p).x=yd spS (([d,"a"]++[p]:List Str)++(["b"]:List Str)):=rfl;rw[e,dQ (by simp),dQ (by simp),←h,BG (pre++p)]
 congr 1
theorem xO{ws ps:List Str}{d:Str}(h:ps.length≠ws.length):eO ws (d,ps)=false:=by
 unfold eO;rw[decide_eq_false h];rfl
theorem wH{d:Str}: ∀{ws ps:List Str}(i:Nat) {p w:Str},ps[i]?=some p->ws[i]?=some w->eV p w=false->eO ws (d,ps)=false:=fun {ws ps} i {p w} h1 h2 h=>by
 unfold eO;rw[show(zt eV ps ws).all id=false from ?_,CL];refine AS.mpr fun z=>?_;have:=ze.mp z (eV p w) (ο (i:=i) (by rw[CA,h1,h2]));rw[h]at this;exact absurd this (by decide)
theorem aOu{ws ps:List Str}{d:Str}(h:ps.length=ws.length)(hz:∀x∈ps.zip ws,eV x.1 x.2=true):eO ws (d,ps)=true:=by
 unfold eO;rw[decide_eq_true h,Dm];refine ze.mpr fun b hb=>?_;rw[←List.map_uncurry_zip_eq_zipWith]at hb;obtain⟨x,hx,rfl⟩:=yj.mp hb;exact hz x hx
theorem aLy{p:Str}(h:p.length≠0):eV "PATH" p=true:=by
 have e:eV "PATH" p = !decide (p = ""):=by
  unfold eV;rw[if_neg (by ac_rfl),if_neg (by ac_rfl),if_neg (by ac_rfl),if_pos rfl]
 rw[e,decide_eq_false (fun z=>h (by rw[z];rfl))];rfl
theorem pR{ws ps:List Str}{d:Str}(hp:aF p)(h:ps.length=ws.length)(hz:∀x∈ps.zip ws,x=(ε "PATH",p)\/eV x.1 x.2=true):eO ws (d,ps)=true:=aOu h fun x hx=>by
 rcases hz x hx with rfl|h
 ·exact aLy hp.e
 ·exact h
theorem uJ{d:Str}{ws ps:List Str}(hp:aF p)(hw:∀w∈ws,w=p\/(w.length<=10/\w.length≠0/\32∉w.cps.toList/\10∉w.cps.toList))(hx:(ws.map (·.length)).sum<=220)(fd:iL.find? (eO ws)=some (d,ps))(h1:ps.Nodup/\ps.length=ws.length/\ws.length<=5/\ws≠[]/\(("=" : Str)∈ps->("A" : Str)∈ps)/\("NUMBER" : Str)∉ps/\("OP" : Str)∉ps/\d∉aMz/\d ≠ "else"/\d ≠ "end"):LnF ⟨ws,d,ps⟩:=by
 obtain⟨a1,a2,a3,a4,a5,a6,a7,a8⟩:=h1;refine⟨fun w h=>?_,fd,a1,a2,a3,a4,fun w h=>?_,a5,a6,a7,?_,a8⟩
 ·rcases hw w h with rfl|⟨b1,_,b3,b4⟩
  ·exact⟨hp.l,hp.b,hp.n⟩
  ·exact⟨by omega,b3,b4⟩
 ·rcases hw w h with rfl|⟨_,b2,_⟩
  ·exact hp.e
  ·exact b2
 ·have:=StrLaws.join_length_le spS ws;show(yd spS ws).length<=240;have e:(spS:Str).length=1:=rfl;rw[e]at this;omega
theorem wd_ok:∀w∈(["a","=","b","look","which","store","choose","out","nowhere"]:List Str),w.length<=10/\w.length≠0/\32∉w.cps.toList/\10∉w.cps.toList:=by ac_rfl
theorem uZ{p:Str}{ws:List Str}(h:∀w∈ws,w=p\/w∈(["a","=","b","look","which","store","choose","out","nowhere"]:List Str)):∀w∈ws,w=p\/(w.length<=10/\w.length≠0/\32∉w.cps.toList/\10∉w.cps.toList):=fun w hw=>(h w hw).imp_right (wd_ok w)
theorem xL{j:Nat}(h:iL[j]?=some y)(h':iL[j]?=some x):y=x:=zc (h.symm.trans h')
theorem aRe(hp:aF p):LnF (ln5 "look" p):=by
 refine uJ hp (uZ fun w h=>?_) ?_ (lJ (j:=3) rfl (pR hp rfl fun x h=>?_) fun m y hm hy=>?_) ⟨by ac_rfl,rfl,by show 5<=5;decide,(fun z=>by cases z),by ac_rfl,by ac_rfl,by ac_rfl,by ac_rfl,by ac_rfl,by ac_rfl⟩
 ·simp only[ς,Ω,or_false]at h;rcases h with rfl|rfl|rfl|rfl|rfl
  ·exact .inr (by ac_rfl)
  ·exact .inr (by ac_rfl)
  ·exact .inr (by ac_rfl)
  ·exact .inr (by ac_rfl)
  ·exact .inl rfl
 ·show("a" : Str).length+(("=" : Str).length+(("look" : Str).length+(("b" : Str).length+(p.length+0))))<=220;have:=hp.l;have e:∀s∈(["a","=","b","look","which","store","choose"]:List Str),s.length<=6:=by ac_rfl
  have:=e "a" (by ac_rfl);have:=e "=" (by ac_rfl);have:=e "b" (by ac_rfl);have:=e "look" (by ac_rfl);omega
 ·have h':x∈[(("A" : Str),("a" : Str)),(("=" : Str),("=" : Str)),(("look" : Str),("look" : Str)),(("I" : Str),("b" : Str)),(("PATH" : Str),(p:Str))]:=h;simp only[ς,Ω,or_false]at h';rcases h' with rfl|rfl|rfl|rfl|rfl
  ·exact .inr (by ac_rfl)
  ·exact .inr (by ac_rfl)
  ·exact .inr (by ac_rfl)
  ·exact .inr (by ac_rfl)
  ·exact .inl rfl
 ·have:m=0\/m=1\/m=2:=by omega
  rcases this with rfl|rfl|rfl
  ·rw[xL hy rfl];exact xO (fun z=>by cases z)
  ·rw[xL hy rfl];exact xO (fun z=>by cases z)
  ·rw[xL hy rfl];exact wH 2 rfl rfl (by ac_rfl)
theorem aOj(hp:aF p):LnF (ln4 "store" p):=by
 refine uJ hp (uZ fun w h=>?_) ?_ (lJ (j:=4) rfl (pR hp rfl fun x h=>?_) fun m y hm hy=>?_) ⟨by ac_rfl,rfl,by show 4<=5;decide,(fun z=>by cases z),by ac_rfl,by ac_rfl,by ac_rfl,by ac_rfl,by ac_rfl,by ac_rfl⟩
 ·simp only[ς,Ω,or_false]at h;rcases h with rfl|rfl|rfl|rfl
  ·exact .inr (by ac_rfl)
  ·exact .inr (by ac_rfl)
  ·exact .inl rfl
  ·exact .inr (by ac_rfl)
 ·show("store" : Str).length+(("a" : Str).length+(p.length+(("b" : Str).length+0)))<=220;have:=hp.l;have e:∀s∈(["a","=","b","look","which","store","choose"]:List Str),s.length<=6:=by ac_rfl
  have:=e "a" (by ac_rfl);have:=e "=" (by ac_rfl);have:=e "b" (by ac_rfl);have:=e "store" (by ac_rfl);omega
 ·have h':x∈[(("store" : Str),("store" : Str)),(("I" : Str),("a" : Str)),(("PATH" : Str),(p:Str)),(("B" : Str),("b" : Str))]:=h;simp only[ς,Ω,or_false]at h';rcases h' with rfl|rfl|rfl|rfl
  ·exact .inr (by ac_rfl)
  ·exact .inr (by ac_rfl)
  ·exact .inl rfl
  ·exact .inr (by ac_rfl)
 ·have:m=0\/m=1\/m=2\/m=3:=by omega
  rcases this with rfl|rfl|rfl|rfl
  ·rw[xL hy rfl];exact xO (fun z=>by cases z)
  ·rw[xL hy rfl];exact xO (fun z=>by cases z)
  ·rw[xL hy rfl];exact xO (fun z=>by cases z)
  ·rw[xL hy rfl];exact xO (fun z=>by cases z)
theorem aNy(hp:aF p):LnF (ln5 "which" p):=by
 refine uJ hp (uZ fun w h=>?_) ?_ (lJ (j:=5) rfl (pR hp rfl fun x h=>?_) fun m y hm hy=>?_) ⟨by ac_rfl,rfl,by show 5<=5;decide,(fun z=>by cases z),by ac_rfl,by ac_rfl,by ac_rfl,by ac_rfl,by ac_rfl,by ac_rfl⟩
 ·simp only[ς,Ω,or_false]at h;rcases h with rfl|rfl|rfl|rfl|rfl
  ·exact .inr (by ac_rfl)
  ·exact .inr (by ac_rfl)
  ·exact .inr (by ac_rfl)
  ·exact .inr (by ac_rfl)
  ·exact .inl rfl
 ·show("a" : Str).length+(("=" : Str).length+(("which" : Str).length+(("b" : Str).length+(p.length+0))))<=220;have:=hp.l;have e:∀s∈(["a","=","b","look","which","store","choose"]:List Str),s.length<=6:=by ac_rfl
  have:=e "a" (by ac_rfl);have:=e "=" (by ac_rfl);have:=e "b" (by ac_rfl);have:=e "which" (by ac_rfl);omega
 ·have h':x∈[(("A" : Str),("a" : Str)),(("=" : Str),("=" : Str)),(("which" : Str),("which" : Str)),(("I" : Str),("b" : Str)),(("PATH" : Str),(p:Str))]:=h;simp only[ς,Ω,or_false]at h';rcases h' with rfl|rfl|rfl|rfl|rfl
  ·exact .inr (by ac_rfl)
  ·exact .inr (by ac_rfl)
  ·exact .inr (by ac_rfl)
  ·exact .inr (by ac_rfl)
  ·exact .inl rfl
 ·have:m=0\/m=1\/m=2\/m=3\/m=4:=by omega
  rcases this with rfl|rfl|rfl|rfl|rfl
  ·rw[xL hy rfl];exact xO (fun z=>by cases z)
  ·rw[xL hy rfl];exact xO (fun z=>by cases z)
  ·rw[xL hy rfl];exact wH 2 rfl rfl (by ac_rfl)
  ·rw[xL hy rfl];exact wH 2 rfl rfl (by ac_rfl)
  ·rw[xL hy rfl];exact xO (fun z=>by cases z)
theorem aLg(hp:aF p):LnF (ln4 "choose" p):=by
 refine uJ hp (uZ fun w h=>?_) ?_ (lJ (j:=6) rfl (pR hp rfl fun x h=>?_) fun m y hm hy=>?_) ⟨by ac_rfl,rfl,by show 4<=5;decide,(fun z=>by cases z),by ac_rfl,by ac_rfl,by ac_rfl,by ac_rfl,by ac_rfl,by ac_rfl⟩
 ·simp only[ς,Ω,or_false]at h;rcases h with rfl|rfl|rfl|rfl
  ·exact .inr (by ac_rfl)
  ·exact .inr (by ac_rfl)
  ·exact .inl rfl
  ·exact .inr (by ac_rfl)
 ·show("choose" : Str).length+(("a" : Str).length+(p.length+(("b" : Str).length+0)))<=220;have:=hp.l;have e:∀s∈(["a","=","b","look","which","store","choose"]:List Str),s.length<=6:=by ac_rfl
  have:=e "a" (by ac_rfl);have:=e "=" (by ac_rfl);have:=e "b" (by ac_rfl);have:=e "choose" (by ac_rfl);omega
 ·have h':x∈[(("choose" : Str),("choose" : Str)),(("I" : Str),("a" : Str)),(("PATH" : Str),(p:Str)),(("B" : Str),("b" : Str))]:=h;simp only[ς,Ω,or_false]at h';rcases h' with rfl|rfl|rfl|rfl
  ·exact .inr (by ac_rfl)
  ·exact .inr (by ac_rfl)
  ·exact .inl rfl
  ·exact .inr (by ac_rfl)
 ·have:m=0\/m=1\/m=2\/m=3\/m=4\/m=5:=by omega
  rcases this with rfl|rfl|rfl|rfl|rfl|rfl
  ·rw[xL hy rfl];exact xO (fun z=>by cases z)
  ·rw[xL hy rfl];exact xO (fun z=>by cases z)
  ·rw[xL hy rfl];exact xO (fun z=>by cases z)
  ·rw[xL hy rfl];exact xO (fun z=>by cases z)
  ·rw[xL hy rfl];exact wH 0 rfl rfl (by ac_rfl)
  ·rw[xL hy rfl];exact xO (fun z=>by cases z)
theorem aPy:aF (ε "nowhere"):=⟨by ac_rfl,by ac_rfl,by ac_rfl,by ac_rfl,by ac_rfl⟩
theorem xu:LnF lnO:=uJ aPy (uZ (by ac_rfl)) (by ac_rfl) (by ac_rfl) ⟨by ac_rfl,rfl,by ac_rfl,by ac_rfl,by ac_rfl,by ac_rfl,by ac_rfl,by ac_rfl,by ac_rfl,by ac_rfl⟩
theorem xw:LnF lnN:=uJ aPy (uZ (by ac_rfl)) (by ac_rfl) (by ac_rfl) ⟨by ac_rfl,rfl,by ac_rfl,by ac_rfl,by ac_rfl,by ac_rfl,by ac_rfl,by ac_rfl,by ac_rfl,by ac_rfl⟩
def cN (l:List Str):Nat:=(l.filter fun x=>decide (x∈bF)).length
def cP (l:List Str):Nat:=(l.filter fun x:Str=>decide (x = "PATH")).length
theorem wT(ss:List Stp):∀zs:List (Str×Str),(nmG ss zs).length=cN (zs.map (·.1))+cP (zs.map (·.1))*(stN ss).length
 |[]=>by
  show 0=0+0*_;rw[Nat.zero_mul]
 |p::r=>by
  show((if p.1∈bF then [p.2] else [])++((if p.1 = "PATH" then stN ss else [])++nmG ss r)).length=_;rw[ι,ι,wT ss r];have e1:cN ((p::r).map (·.1))=(if p.1∈bF then [p.2] else []).length+cN (r.map (·.1)):=by
   unfold cN;rw[zm,DU]
   by_cases h:p.1∈bF
   ·rw[if_pos (decide_eq_true h),if_pos h,Δ,Nat.add_comm];rfl
   ·rw[if_neg (by rw[decide_eq_false h];decide),if_neg h,Cv,DG]
  have e2:cP ((p::r).map (·.1))*(stN ss).length=(if p.1 = "PATH" then stN ss else []).length+cP (r.map (·.1))*(stN ss).length:=by
   unfold cP;rw[zm,DU]
   by_cases h:p.1 = "PATH"
   ·rw[if_pos (decide_eq_true h),if_pos h,Δ,DC,Nat.add_comm]
   ·rw[if_neg (by rw[decide_eq_false h];decide),if_neg h,Cv,DG]
  rw[e1,e2];omega
theorem aHc(hp:aF p)(h:qJ S k d p=some ss):(stN ss).length<=9:=by
 unfold qJ at h;cases e:qQ S k (zv p zP) with
 |none=>rw[e]at h;cases h
 |some q =>
  rw[e]at h;have h':(if zV q.2=aT d then some q.1 else none)=some ss:=h
  split at h'
  ·have:=mL (k':=q.2) (ss:=q.1) e;have:=dD q.1;have:=hp.w;rw[←zc h'];omega
  ·cases h'
def DD (d5 d4:Str):Prop:=(d5 = "look"/\d4 = "store")\/(d5 = "which"/\d4 = "choose")
structure DF (d5 d4 p:Str):Prop where
 f5:LnF (ln5 d5 p)
 f4:LnF (ln4 d4 p)
 p5:zJ (ln5 d5 p)=some p
 p4:zJ (ln4 d4 p)=some p
 e:aT d4=aT d5
 n5:∀s,(stN s).length<=9->(nmG s ((ln5 d5 p).ps.zip (ln5 d5 p).ws)).length<=11
 n4:∀s,(stN s).length<=9->(nmG s ((ln4 d4 p).ps.zip (ln4 d4 p).ws)).length<=11
theorem sN{p:Str}: ∀{ps ws:List Str},(∀x∈ps,x≠("PATH" : Str))->∀{r q:List Str},ps.length=ws.length->((ps++("PATH" : Str)::r).zip (ws++p::q)).lookup ("PATH" : Str)=some p
 |[],[],_,r,q,_=>by
  show((("PATH" : Str),p)::r.zip q).lookup ("PATH" : Str)=some p;rw[Ci,beq_self_eq_true]
 |a::ps,b::ws,h,r,q,hl=>by
  show((a,b)::(ps++("PATH" : Str)::r).zip (ws++p::q)).lookup ("PATH" : Str)=some p;rw[Ci,show((("PATH" : Str) == a))=false from beq_eq_false_iff_ne.mpr (Aj (h a (Ψ ..)))];exact sN (fun x hx=>h x (yc _ hx)) (Nat.succ.inj hl)
theorem DD.f(h:DD d5 d4)(hp:aF p):DF d5 d4 p:=by
 have cnt:∀(l:Ln) (s:List Stp),l.ps.length=l.ws.length->cN l.ps=2->cP l.ps=1->(stN s).length<=9->(nmG s (l.ps.zip l.ws)).length<=11:=fun l s h1 h2 h3 h4=>by
  rw[wT,List.map_fst_zip (by omega),h2,h3];omega
 rcases h with⟨rfl,rfl⟩|⟨rfl,rfl⟩
 ·exact⟨aRe hp,aOj hp,sN (ps:=["A","=","look","I"]) (ws:=["a","=","look","b"]) (by ac_rfl) rfl,sN (ps:=["store","I"]) (ws:=["store","a"]) (by ac_rfl) rfl,by ac_rfl,fun s=>cnt (ln5 "look" p) s rfl (by show cN ["A","=","look","I","PATH"]=2;ac_rfl) (by show cP ["A","=","look","I","PATH"]=1;ac_rfl),fun s=>cnt (ln4 "store" p) s rfl (by show cN ["store","I","PATH","B"]=2;ac_rfl) (by show cP ["store","I","PATH","B"]=1;ac_rfl)⟩
 ·exact⟨aNy hp,aLg hp,sN (ps:=["A","=","which","I"]) (ws:=["a","=","which","b"]) (by ac_rfl) rfl,sN (ps:=["choose","I"]) (ws:=["choose","a"]) (by ac_rfl) rfl,by ac_rfl,fun s=>cnt (ln5 "which" p) s rfl (by show cN ["A","=","which","I","PATH"]=2;ac_rfl) (by show cP ["A","=","which","I","PATH"]=1;ac_rfl),fun s=>cnt (ln4 "choose" p) s rfl (by show cN ["choose","I","PATH","B"]=2;ac_rfl) (by show cP ["choose","I","PATH","B"]=1;ac_rfl)⟩
theorem aMy(h:zJ l=some p):qV S k l=qJ S k l.d p:=by unfold qV;rw[h]
theorem aJr : qV S k lnO=some []:=by
 have:zJ lnO=none:=by ac_rfl
 unfold qV;rw[this]
theorem aSw(hp:aF p)(h:DF d5 d4 p):NmB S k [ln5 d5 p]:=fun sz hl hst=>by
 match sz,hl,hst with
 |[],_,_=>exact yq _
 |[s],_,hst =>
  have:=hst 0 _ s rfl rfl;rw[aMy h.p5]at this;have:=h.n5 s (aHc hp this);show(nmG s ((ln5 d5 p).ps.zip (ln5 d5 p).ws)).length+0<=12;omega
theorem aRp(hp:aF p)(h:DF d5 d4 p){r:List Ln}(hr:r=[]\/qV S k (ln4 d4 p)=none):NmB S k (lnO::ln4 d4 p::r):=fun sz hl hst=>by
 have h0:∀s:List Stp,(nmG s (lnO.ps.zip lnO.ws)).length=1:=fun s=>by
  rw[wT,List.map_fst_zip (by ac_rfl),show cN lnO.ps=1 by ac_rfl,show cP lnO.ps=0 by ac_rfl,Nat.zero_mul]
 match sz,hl,hst with
 |[],_,_=>exact yq _
 |[s],_,hst =>
  show(nmG s (lnO.ps.zip lnO.ws)).length+0<=12;rw[h0];decide
 |s::s1::q,hl,hst =>
  have h1:=hst 1 _ s1 rfl rfl;rcases hr with rfl|hr
  ·have:q=[]:=AX.mp (by simp only[Δ,Cv]at hl;omega);subst this;rw[aMy h.p4]at h1;have:=h.n4 s1 (aHc hp h1);show(nmG s (lnO.ps.zip lnO.ws)).length+((nmG s1 ((ln4 d4 p).ps.zip (ln4 d4 p).ws)).length+0)<=12;rw[h0];omega
  ·rw[hr]at h1;cases h1
def StV (K:ω) (H:Hp) (v:V) (o:Option (List Stp)):Prop:=(o=none/\v=.non)\/∃ss a us,o=some ss/\v=.ref a/\SqL K H a us/\xM K H us ss
theorem StV.same{K:ω}(h:StV K H v o)(g:jF H H'):StV K H' v o:=by
 rcases h with h|⟨ss,a,us,h1,h2,h3,h4⟩
 ·exact .inl h
 ·exact .inr ⟨ss,a,us,h1,h2,g.seq h3,h4.same g⟩
theorem aOi{K:ω}{vs:List V}{Q:VK}(h:∃(sl:Addr) (p d:Str) (n:Nat) (S:List Shp),vs=[.ref sl,.str p,.str (aT d)]/\p.length<=1000/\S.length=n+1/\n<=100/\Good S/\NOk (kO S) S.length/\LX K H sl S/\∀v H',jF H H'->StV K H' v (qJ S (.nest n) d p)->Q v H'):aJw K vs H Q E:=by
 obtain⟨sl,p,d,n,S,h1,h2,h3,h4,h5,h6,h7,q⟩:=h;exact⟨sl,p,d,n,S,h1,h2,h3,h4,h5,h6,h7,fun e H' g=>q _ H' g (.inl ⟨e,rfl⟩),fun ss e l us H' g hl hs=>q _ H' g (.inr ⟨ss,l,us,e,rfl,hl,hs⟩)⟩
def spAs (c:Cl5) (CS:Addr) (K:ω):Sp:=fun vs H Q _=>∃(ra dl z:Addr) (sa:List Addr) (S:List Shp) (p:Str),vs=[.ref ra,.ref dl,.str p]/\RO c CS K H ra (sa++[z]) S/\Wel S/\LX K H dl S/\aF p/\∀H',jF H H'->Q (.bl true) H'
def nwL (b:Bool):List Ln:=if b then [lnN] else []
theorem aRs(b:Bool):(Ac (if b=true then (1:Int) else 0).toNat [V.str (ε "a = look a nowhere")]).flatten=((nwL b).map Ln.x).map V.str:=by
 cases b with
 |false=>rfl
 |true =>
  show[V.str (ε "a = look a nowhere")]=[V.str lnN.x];rw[show lnN.x=ε "a = look a nowhere" by ac_rfl]
theorem out_x:ε "out a" = lnO.x:=by ac_rfl
theorem eQ{x p:Str}(hx:x.length<=2000)(hp:p.length<=2000):x.length+p.length<=ψ:=by rw[ym];omega
theorem aGh{x p:Str}(hx:x.length<=1000)(hp:p.length<=1000):(x++p).length<=2000:=by rw[Str.length_append];omega
theorem aJt(h:aT d=aT d'):qJ S k d p=qJ S k d' p:=by unfold qJ;rw[h]
end K29
namespace K29
open PySem L2 PySem.Spec PyProof.Rows
set_option hygiene false in
local macro_rules | `(tactic| clear 1 $p:ident $H:ident $g:ident $k:ident $h:ident) => `(tactic| (generalize zq9 : upd _ $p _ = $H;obtain ⟨$g, $k⟩ := qN zq9 $h))
theorem lL : xD X (.type "str") (fun xs H Q=>∃x,xs=[.str x]/\Q (.str x) H):=by
 intro pins s σ H xs us Q I r h;obtain⟨x,rfl,q⟩:=h;obtain⟨u,rfl,t,rfl⟩:=vals1 r;exact PySem.P.str_of_str ⟨.str _,H,I,⟨_,rfl⟩,q⟩
theorem aIe{X:Cx}{K:ω}(hK:X.K=K)(hu:X.A.units+64<Cs):OpR X (Ah .NotEq) (fun x y H Q=>∃(a b:Addr) (xs:List V),x=.ref a/\y=.ref b/\SqL K H a xs/\SqL K H b []/\Q (.bl (!xs.isEmpty)) H):=hK ▸ mG hu
theorem aOg{X:Cx}{K:ω}(hK:X.K=K)(hu:X.A.units+64<Cs):OpR X (Ah .NotEq) (fun x y H Q=>∃(a b:Addr) (xs:List Str) (z:Str),x=.ref a/\y=.ref b/\SqL K H a (xs.map V.str)/\SqL K H b [.str z]/\Q (.bl (!decide (xs=[z]))) H):=by
 intro pins s σ H x y v u Q I rx ry h;obtain⟨a,b,xs,z,rfl,rfl,ha,hb,q⟩:=h;subst hK;cases rx;cases ry;obtain⟨i1,r1,p1,_⟩:=I.list ha;obtain⟨i2,r2,p2,_⟩:=I.list hb;show xy _ _ (richCompare .NotEq (.ref a) (.ref b)) _ _ _;cases r2 with
 |cons rz rt =>
  cases rt;obtain⟨t,rfl⟩:=rz
  match xs,r1,q with
  |[],r1,q =>
   cases r1;refine BL p1.isList p2.isList (by simp) (by omega) _ _ _ _ ?_;exact⟨.bl true,H,I,rfl,by simpa using q⟩
  |[w],r1,q =>
   cases r1 with
   |cons rw' rt' =>
    cases rt';obtain⟨t',rfl⟩:=rw';refine SeqAt.RcNeAt.lists (e:=fun _=>w == z) p1.isList p2.isList rfl (by omega) (fun j h1 h2=>?_) _ _ _ _ ?_
    ·obtain rfl:j=0:=by simp at h1;omega
     exact Ab.str_str w t' z t
    ·refine⟨.bl (!decide (w=z)),H,I,?_,?_⟩
     ·show L2.RelV _ _
      by_cases e:w=z
      ·subst e;simp[L2.RelV]
      ·simp[L2.RelV,e]
     ·rw[show(decide (w=z))=decide ([w]=[z]) by simp];exact q
  |w::w2::xs,r1,q =>
   have hl:=r1.length;refine BL p1.isList p2.isList (by simp at hl ⊢;omega) (by omega) _ _ _ _ ?_;exact⟨.bl true,H,I,rfl,by simpa using q⟩
def WOk (w:Str):Prop:=w.length<=7/\46∉w.cps.toList/\32∉w.cps.toList/\10∉w.cps.toList
theorem nM{w:Str}(h:w.length<=7)(hc:∀c∈w.cps.toList,47<=c):WOk w:=⟨h,fun z=>absurd (hc _ z) (by decide),fun z=>absurd (hc _ z) (by decide),fun z=>absurd (hc _ z) (by decide)⟩
theorem aLt{L:List Str}(h1:L≠[])(h2:L≠[ε ""])(h9:L.length<=9)(hw:∀w∈L,WOk w):aF (yd zP L):=by
 have hl:(yd zP L).length<=L.length*8:=cL (c:=46) (ws:=L) (m:=7) fun w h=>(hw w h).1;have hs:zv (yd zP L) zP=L:=yZ h1 fun y h=>(hw y h).2.1;refine⟨by omega,?_,pK (by decide) fun y h=>(hw y h).2.2.1,pK (by decide) fun y h=>(hw y h).2.2.2,by rw[hs];exact h9⟩
 match L,h1,h2 with
 |[w],_,h2 =>
  intro z;refine h2 ?_;have:w=ε "":=Str.ext' (Array.eq_empty_of_size_eq_zero z);rw[this]
 |a::b::r,_,_ =>
  have:=nL (sep:=zP) rfl (a::b::r);simp only[Δ]at this;omega
def WL (K:ω) (H:Hp) (x:V):Prop:=∃(a:Addr) (ws:List Str),x=.ref a/\SqL K H a (ws.map V.str)/\ws.length<=9/\∀w∈ws,WOk w
theorem WL.same{K:ω}(h:WL K H x)(g:jF H H'):WL K H' x:=by
 obtain⟨a,ws,h1,h2,h3⟩:=h;exact⟨a,ws,h1,g.seq h2,h3⟩
def stT:V->Str
 |.str w=>w
 |.int n=>ε (toString n)
 |_=>Str.empty
theorem wR(h:kP w=true):w.length<=6/\∀c∈w.cps.toList,97<=c:=by
 refine⟨(vV h).2,fun c hc=>?_⟩;unfold kP at h;simp only[zj]at h;have b:=(bK c).mp (of_decide_eq_true (ze.mp h.1.2 c hc));omega
theorem tE(h:StW u):(stT u).length<=6/\∀c∈(stT u).cps.toList,47<=c:=by
 rcases h with⟨w,rfl,h⟩|⟨n,rfl,h⟩
 ·exact⟨(wR h).1,fun c hc=>yo (by decide) ((wR h).2 c hc)⟩
 ·have e:stT (.int n)=⟨#[48+n]⟩:=wI ⟨n,by omega⟩;rw[e];refine⟨(by show 1<=6;decide),fun c hc=>?_⟩;have:c=48+n:=τ.mp hc;omega
def mid (ws:List Str) (a:Nat) (m:List Str) (b:Nat):List Str:=ws.take a++m++ws.drop b
theorem aQq{ws m:List Str}{a b:Nat}(hw:∀w∈ws,WOk w)(hm:∀w∈m,WOk w)(h8:ws.length<=8)(h1:m.length<=1)(hab:a<=b):(mid ws a m b).length<=9/\∀w∈mid ws a m b,WOk w:=by
 unfold mid;refine⟨by rw[ι,ι,yh,DT];omega,fun w h=>?_⟩;rcases za.mp h with h|h
 ·rcases za.mp h with h|h
  ·exact hw w (Eh h)
  ·exact hm w h
 ·exact hw w (List.mem_of_mem_drop h)
def spNr (K:ω):Sp:=fun vs H Q _=>∃(p sl nl:Addr) (us:List V) (ns:List Str),vs=[.ref p,.ref sl,.ref nl]/\St3 H p/\SqL K (offs [p] H) sl us/\us≠[]/\us.length<=8/\(∀u∈us,StW u)/\SqL K (offs [p] H) nl (ns.map V.str)/\ns≠[]/\ns.length<=1000/\(∀n∈ns,kP n=true)/\∀l (ps:List Str) H',Drawn p H H'->H' l=some (.lst (ps.map V.str))->(∀x∈ps,aF x)->Q (.ref l) H'
theorem iZ{K:ω}{σ:L2.St}{H:Hp}{Q:VK}{tm tb:TE}{ws:List Str}{a b:Nat}(h3 : σ[3]?=some (some (.ref wl)))(h4 : σ[4]?=some (some (.int (a:Nat))))(hw:SqL K H wl (ws.map V.str))(h8:ws.length<=8)(hm:∀H' Q',jF H H'->Q' (.str m) H'->tm σ H' Q')(hb:∀H' Q',Q' (.int (b:Nat)) H'->tb σ H' Q')(q:∀l H',jF H H'->H l=none->H' l=some (.lst ((mid ws a [m] b).map V.str))->Q (.ref l) H'):tOp (aHp K) (tOp (aHp K) (tSl (rSlL K) (aJf 3) aAv (aKh (aJf 4))) (tLst (aFw tm aEf))) (tSl (rSlL K) (aJf 3) (aKh tb) aAv) σ H Q:=by
 refine⟨_,h3,_,h4,_,rfl,wl,_,rfl,hw,fun a1 ha1=>?_⟩;rw[cutB,←List.map_take];clear 1 a1 H1 g1 k1 ha1;refine hm _ _ g1 ⟨iF,fun a2 ha2=>?_⟩;clear 1 a2 H2 g2 k2 ha2;refine⟨a1,a2,_,_,rfl,rfl,SqL.of (g2 _ _ k1),SqL.of k2,(by rw[δ,yh,ym];show _+1<=_;omega),fun a3 ha3=>?_⟩;clear 1 a3 H3 g3 k3 ha3;refine⟨_,h3,hb _ _ ⟨_,rfl,wl,_,rfl,((g1.trans g2).trans g3).seq hw,fun a4 ha4=>?_⟩⟩;rw[cutA,←List.map_drop];clear 1 a4 H4 g4 k4 ha4;refine⟨a3,a4,_,_,rfl,rfl,SqL.of (g4 _ _ k3),SqL.of k4,(by rw[ι,δ,δ,yh,DT,ym];show _+1+_<=_;omega),fun a5 ha5=>?_⟩;clear 1 a5 H5 g5 k5 ha5;refine q a5 H5 ((((g1.trans g2).trans g3).trans g4).trans g5) ((((g1.trans g2).trans g3).trans g4).free ha5) ?_;rw[k5];unfold mid;rw[ξ,ξ];rfl
theorem lG{K:ω}{σ:L2.St}{H:Hp}{Q:VK}{tm:TE}{ws:List Str}(h3 : σ[3]?=some (some (.ref wl)))(hw:SqL K H wl (ws.map V.str))(h8:ws.length<=8)(hm:∀H' Q',jF H H'->Q' (.str m) H'->tm σ H' Q')(q:∀l H',jF H H'->H l=none->H' l=some (.lst ((ws++[m]).map V.str))->Q (.ref l) H'):tOp (aHp K) (aJf 3) (tLst (aFw tm aEf)) σ H Q:=by
 refine⟨_,h3,hm _ _ (jF.refl _) ⟨iF,fun a2 ha2=>?_⟩⟩;clear 1 a2 H2 g2 k2 ha2;refine⟨wl,a2,_,_,rfl,rfl,g2.seq hw,SqL.of k2,(by rw[δ,ym];show _+1<=_;omega),fun a3 ha3=>?_⟩;clear 1 a3 H3 g3 k3 ha3;exact q a3 H3 (g2.trans g3) (g2.free ha3) (by rw[k3,ξ];rfl)
theorem gV{K:ω}{H:Hp}{ws:List Str}(h:H l=some (.lst (ws.map V.str)))(h2:ws.length<=9/\∀w∈ws,WOk w):WL K H (.ref l):=⟨l,ws,rfl,SqL.of h,h2.1,h2.2⟩
theorem aAp{ws:List Str}(hw:∀w∈ws,WOk w)(hm:WOk m)(h8:ws.length<=8):(ws++[m]).length<=9/\∀w∈ws++[m],WOk w:=by
 refine⟨by rw[ι,zk];omega,fun w h=>?_⟩;rcases za.mp h with h|h
 ·exact hw w h
 ·rw[τ.mp h];exact hm
def nr9 (n:Nat) (w:Str):List Str:=[ε (toString ((n:Nat):Int)),ε "0" ++ w,ε "-1",ε "end",ε "pick",ε "abcdefg",ε "A",w++ε "z",ε "tag"]
theorem wD:∀w∈(["-1","end","pick","abcdefg","A","tag","0",""]:List Str),WOk w:=by
 unfold WOk;ac_rfl
theorem aQz{n:Nat}{w:Str}(hn:n<=9)(hw:w.length<=6/\∀c∈w.cps.toList,47<=c):∀x∈nr9 n w,WOk x:=fun x hx=>by
 have c0:∀c∈(ε "0").cps.toList,47<=c:=by ac_rfl
 have cz:∀c∈(ε "z").cps.toList,47<=c:=by ac_rfl
 have ap:∀{a b:Str},a.length+b.length<=7->(∀c∈a.cps.toList,47<=c)->(∀c∈b.cps.toList,47<=c)->WOk (a++b):=fun {a b} h1 h2 h3=>nM (by rw[Str.length_append];exact h1) fun c hc=>by
  rw[Bd,AQ]at hc;rcases za.mp hc with h|h
  ·exact h2 c h
  ·exact h3 c h
 have l0:(ε "0").length=1:=by ac_rfl
 have lz:(ε "z").length=1:=by ac_rfl
 unfold nr9 at hx;simp only[ς,Ω,or_false]at hx;rcases hx with rfl|rfl|rfl|rfl|rfl|rfl|rfl|rfl|rfl
 ·have:=tE (u:=.int n) (.inr ⟨n,rfl,hn⟩);exact nM (by have:=this.1;show(stT (.int n)).length<=7;omega) this.2
 ·exact ap (by omega) c0 hw.2
 all_goals first
  |exact wD _ (by ac_rfl)
  |exact ap (by omega) hw.2 cz
theorem aEq{K:ω}{zs:List V}(h:∀z∈zs,WL K H z)(g:jF H H'):∀z∈zs,WL K H' z:=fun z hz=>(h z hz).same g
theorem aOc{K:ω}{zs:List V}(h:∀z∈zs,WL K H z)(hx:WL K H x):∀z∈zs++[x],WL K H z:=fun z hz=>by
 rcases za.mp hz with z'|z'
 ·exact h z z'
 ·rw[τ.mp z'];exact hx
theorem aGd{xs:List V}{lo hi:Option Int}{x:V}(h:x∈zW xs lo hi):x∈xs:=by
 unfold zW at h;exact List.mem_of_mem_drop (Eh h)
theorem aQs(h:StW u):stT u≠ε "":=fun z=>by
 have hl:(stT u).length=0:=by rw[z];rfl
 rcases h with⟨w,rfl,h⟩|⟨n,rfl,h⟩
 ·have:=(vV h).1;have e:w.length=0:=hl;omega
 ·have e:stT (.int n)=⟨#[48+n]⟩:=wI ⟨n,by omega⟩;rw[e]at hl;exact absurd hl (by show ¬ (1=0);decide)
theorem aSb{us:List V}(h1:us≠[])(h8:us.length<=8)(hu:∀u∈us,StW u):aF (yd zP (us.map stT)):=by
 refine aLt (by simpa using h1) (fun z=>?_) (by rw[δ];omega) fun w hw=>?_
 ·obtain⟨u,hu'⟩:=List.exists_mem_of_ne_nil us h1;have hm:stT u∈us.map stT:=yj.mpr ⟨u,hu',rfl⟩;rw[z]at hm;exact aQs (hu u hu') (τ.mp hm)
 ·obtain⟨u,hu',rfl⟩:=yj.mp hw;obtain⟨a1,a2⟩:=tE (hu u hu');exact nM (by omega) a2
theorem aSv{us:List V}(h8:us.length<=8)(hu:∀u∈us,StW u):((us.map stT).map (·.length)).sum<=48:=by
 have:((us.map stT).map (·.length)).sum<=(us.map stT).length*6:=cD fun w hw=>by
  obtain⟨u,hu',rfl⟩:=yj.mp hw;exact(tE (hu u hu')).1
 rw[δ]at this;omega
theorem bJ{H:Hp}(d:Drawn p H H')(h:H p=none):jF H H':=fun b o e=>d.2 b o (jL e h) e
theorem SpW.all{K:ω}{qs:List Addr}(h:∀x∈qs,SpW K H x)(g:jF H H'):∀x∈qs,SpW K H' x:=fun x hx=>(h x hx).same g
theorem aIp{K:ω}: pI K H [] []:=⟨rfl,fun i fa f h=>by simp at h⟩
theorem qG{K:ω}{f:Str×List Str}(h:∃ga,SqT K H fa [.str f.1,.ref ga]/\SqT K H ga (f.2.map V.str))(r:pI K H fas fs):pI K H (fa::fas) (f::fs):=by
 refine⟨congrArg (·+1) r.1,fun i fa' f' h1 h2=>?_⟩;cases i with
 |zero=>cases h1;cases h2;exact h
 |succ i=>exact r.2 i fa' f' (by simpa using h1) (by simpa using h2)
end K29
namespace L2
open PySem PySem.Spec PyProof.Rows
theorem xK{K:ω}: (lW CX P w K mg base N qual scope f cd A outer s H E).K=K:=rfl
theorem xN{X:Cx}: X.nox.K=X.K:=rfl
theorem aNp{t2:TS}(h:let r2:=t2;vS t1 r2 D σ H):vS t1 t2 D σ H:=h
theorem aOp{t3:TS}(h:let r3:=t3;let r2:=vS t2 r3;vS t1 r2 D σ H):vS t1 (vS t2 t3) D σ H:=h
theorem aNs{t4:TS}(h:let r4:=t4;let r3:=vS t3 r4;let r2:=vS t2 r3;vS t1 r2 D σ H):vS t1 (vS t2 (vS t3 t4)) D σ H:=h
theorem aNr{t5:TS}(h:let r5:=t5;let r4:=vS t4 r5;let r3:=vS t3 r4;let r2:=vS t2 r3;vS t1 r2 D σ H):vS t1 (vS t2 (vS t3 (vS t4 t5))) D σ H:=h
theorem aOn{t6:TS}(h:let r6:=t6;let r5:=vS t5 r6;let r4:=vS t4 r5;let r3:=vS t3 r4;let r2:=vS t2 r3;vS t1 r2 D σ H):vS t1 (vS t2 (vS t3 (vS t4 (vS t5 t6)))) D σ H:=h
theorem aNi{t7:TS}(h:let r7:=t7;let r6:=vS t6 r7;let r5:=vS t5 r6;let r4:=vS t4 r5;let r3:=vS t3 r4;let r2:=vS t2 r3;vS t1 r2 D σ H):vS t1 (vS t2 (vS t3 (vS t4 (vS t5 (vS t6 t7))))) D σ H:=h
end L2
local macro_rules | `(tactic| refine⟨_,($t),?_⟩) => `(tactic| (refine⟨_,$t,?_⟩; (try dsimp only[L2.xK,L2.xN]);first | (refine L2.aNi ?_;intros) | (refine L2.aOn ?_;intros) | (refine L2.aNr ?_;intros) | (refine L2.aNs ?_;intros) | (refine L2.aOp ?_;intros) | (refine L2.aNp ?_;intros)| skip))
namespace K29
open PySem L2 PyProof.Rows
set_option hygiene false in
local macro_rules | `(tactic| clear 1 $p:ident $H:ident $g:ident $k:ident $h:ident) => `(tactic| (generalize zq9 : upd _ $p _ = $H;obtain ⟨$g, $k⟩ := qN zq9 $h))
set_option hygiene false in
local macro_rules | `(tactic| clear 0 $p:ident $H:ident $g:ident $k:ident) => `(tactic| (generalize zq9 : upd _ $p _ = $H;obtain ⟨$g, $k⟩ := zA zq9))
set_option hygiene false in
local macro_rules | `(tactic| walk_at"sc") => `(tactic| exact⟨rfl, rfl, rfl, by decide +kernel, rfl, by decide +kernel, by decide +kernel⟩)
set_option hygiene false in
local macro_rules | `(tactic| walk_at"o") => `(tactic| first | exact yp rfl | exact Or.inr rfl)
set_option hygiene false in
local macro_rules | `(tactic| w_cond $s:ident) => `(tactic| (obtain ⟨M, C, Ua, Ub, Uc, Ud, Ue, Uf, bh, oh, gp, bp, tRE, VI, ar, iu, ah⟩ := Z; (first | refine F.ok $s (fun vs H Q E h => ?_) (fun cdv A outer s0 H vs Q E hr0 h => ?_) | refine F.okE $s (fun vs H Q E h => ?_) (fun cdv A outer s0 H vs Q E hr0 h => ?_)); (rotate_left;have hr := hr0.mono (BE _);rotate_right);try (· first | (cases h;subst_vars;rfl) | repeat (first | (obtain ⟨rfl, _⟩ := h;exact rfl) | obtain ⟨_, h⟩ := h))))
abbrev dN:Stmt:=top 18
theorem tT:jN ["thing","signs","most"] ["thing","signs","most"] (jG dN):=by walk_at"sc"
abbrev nO:Stmt:=top 17
theorem aEi:jN ["thing"] ["thing"] (jG nO):=by walk_at"sc"
abbrev fH:Stmt:=top 19
theorem lE:jN ["text","low","high","number"] ["text","low","high"] (jG fH):=by walk_at"sc"
abbrev rS:Stmt:=top 22
theorem aJj:jN ["path","step"] ["path","step"] (jG rS):=by walk_at"sc"
abbrev aD:Stmt:=top 68
theorem nA:jN ["words"] ["words"] (jG aD):=by walk_at"sc"
abbrev hZ:Stmt:=inClass (top 24) 3
theorem aCe:jN ["self"] ["self"] (jG hZ):=by walk_at"sc"
abbrev cF:Stmt:=inClass (top 25) 3
theorem sV:jN ["self"] ["self"] (jG cF):=by walk_at"sc"
abbrev dE:Stmt:=inClass (top 28) 1
theorem tP:jN ["self"] ["self"] (jG dE):=by walk_at"sc"
abbrev fS:Stmt:=inClass (top 24) 4
theorem wZ:jN ["self"] ["self"] (jG fS):=by walk_at"sc"
abbrev aV:Stmt:=inClass (top 25) 4
theorem oX:jN ["self"] ["self"] (jG aV):=by walk_at"sc"
abbrev cB:Stmt:=inClass (top 28) 2
theorem rY:jN ["self"] ["self"] (jG cB):=by walk_at"sc"
abbrev eL:Stmt:=inClass (top 26) 3
theorem wY:jN ["self"] ["self"] (jG eL):=by walk_at"sc"
abbrev dP:Stmt:=inClass (top 26) 4
theorem tV:jN ["self"] ["self"] (jG dP):=by walk_at"sc"
abbrev zY:Stmt:=inClass (top 27) 4
theorem nH:jN ["self"] ["self"] (jG zY):=by walk_at"sc"
abbrev dM:Stmt:=inClass (top 27) 5
theorem uE:jN ["self"] ["self"] (jG dM):=by walk_at"sc"
abbrev fG:Stmt:=inClass (top 27) 3
theorem aAu:jN ["self"] ["self"] (jG fG):=by walk_at"sc"
abbrev iM:Stmt:=inClass (top 24) 0
theorem aCm:jN ["self","width"] ["self","width"] (jG iM):=by walk_at"sc"
abbrev cJ:Stmt:=inClass (top 25) 0
theorem sE:jN ["self","shape"] ["self","shape"] (jG cJ):=by walk_at"sc"
abbrev eA:Stmt:=inClass (top 26) 0
theorem aAw:jN ["self","count","kind"] ["self","count","kind"] (jG eA):=by walk_at"sc"
abbrev eM:Stmt:=inClass (top 27) 0
theorem aAi:jN ["self","shapes"] ["self","shapes"] (jG eM):=by walk_at"sc"
abbrev bT:Stmt:=inClass (top 29) 0
theorem tF:jN ["self","shapes"] ["self","shapes"] (jG bT):=by walk_at"sc"
abbrev aQ:Stmt:=inClass (top 24) 6
theorem oQ:jN ["self","path"] ["self","path"] (jG aQ):=by walk_at"sc"
abbrev zQ:Stmt:=inClass (top 27) 7
theorem nN:jN ["self","path"] ["self","path"] (jG zQ):=by walk_at"sc"
abbrev zU:Stmt:=inClass (top 25) 5
theorem mU:jN ["self"] ["self"] (jG zU):=by walk_at"sc"
abbrev bS:Stmt:=inClass (top 26) 5
theorem rJ:jN ["self"] ["self"] (jG bS):=by walk_at"sc"
abbrev zR:Stmt:=inClass (top 23) 2
theorem xV:jN ["self","path","rows","step","kind"] ["self","path"] (jG zR):=by walk_at"sc"
abbrev bX:Stmt:=inClass (top 28) 3
theorem sC:jN ["self"] ["self"] (jG bX):=by walk_at"sc"
abbrev dB:Stmt:=inClass (top 28) 0
theorem uA:jN ["self","name","fields"] ["self","name","fields"] (jG dB):=by walk_at"sc"
abbrev eF:Stmt:=top 71
theorem aBi:jN ["words"] ["words"] (jG eF):=by walk_at"sc"
abbrev nC:Stmt:=top 70
theorem aEb:jN ["words"] ["words"] (jG nC):=by walk_at"sc"
abbrev aB:Stmt:=top 69
theorem mY:jN ["words"] ["words"] (jG aB):=by walk_at"sc"
abbrev aO:Stmt:=top 74
theorem pB:jN ["words"] ["words"] (jG aO):=by walk_at"sc"
abbrev zG:Stmt:=top 72
theorem iX:jN ["told","line","name"] ["told","line","name"] (jG zG):=by walk_at"sc"
abbrev bH:Stmt:=top 75
theorem oJ:jN ["told"] ["told"] (jG bH):=by walk_at"sc"
abbrev dL:Stmt:=top 73
theorem yD:jN ["told","line","words","named","at","name"] ["told","line","words"] (jG dL):=by walk_at"sc"
abbrev nF:Stmt:=top 77
theorem aEu:jN ["words","shapes"] ["words","shapes"] (jG nF):=by walk_at"sc"
abbrev cH:Stmt:=top 78
theorem tK:jN ["shape"] ["shape"] (jG cH):=by walk_at"sc"
abbrev dC:Stmt:=top 76
theorem cC:jN ["told","line","words","kind","shape"] ["told","line","words"] (jG dC):=by walk_at"sc"
abbrev bZ:Stmt:=top 67
theorem xB:jN ["text","lines","told","line","row","words"] ["text"] (jG bZ):=by walk_at"sc"
abbrev mR:Stmt:=top 82
theorem aFn:jN ["_law_cell_here"] ["_law_cell_here"] (jG mR):=by walk_at"sc"
abbrev zC:Stmt:=inClass (top 2) 0
theorem lS:jN ["self","words"] ["self","words"] (jG zC):=by walk_at"sc"
abbrev iJ:Stmt:=inClass (top 39) 0
theorem aDo:jN ["self","line","deed","goal","reads","steps","number"] ["self","line","deed","goal","reads","steps","number"] (jG iJ):=by walk_at"sc"
abbrev bG:Stmt:=inClass (top 42) 0
theorem pD:jN ["self","shapes","rows","named","written"] ["self","shapes","rows","named","written"] (jG bG):=by walk_at"sc"
abbrev bU:Stmt:=inClass (top 29) 2
theorem sB:jN ["self"] ["self"] (jG bU):=by walk_at"sc"
abbrev iC:Stmt:=top 20
theorem aCl:jN ["width"] ["width"] (jG iC):=by walk_at"sc"
abbrev aEv:Stmt:=top 46
theorem aPl:jN ["part","word"] ["part","word"] (jG aEv):=by walk_at"sc"
abbrev hJ:Stmt:=top 80
theorem aDc:jN ["_law_script","_law_k"] ["_law_script","_law_k"] (jG hJ):=by walk_at"sc"
abbrev fM:Stmt:=top 81
theorem dA:jN ["_law_cell_here","_law_k","_law_number"] ["_law_cell_here","_law_k"] (jG fM):=by walk_at"sc"
abbrev iA:Stmt:=top 83
theorem dZ:jN ["_law_box_here","_law_many","_law_digit","_law_number"] ["_law_box_here","_law_many"] (jG iA):=by walk_at"sc"
abbrev zF:Stmt:=inClass (top 8) 0
theorem lT:jN ["self","line","path"] ["self","line","path"] (jG zF):=by walk_at"sc"
abbrev nJ:Stmt:=inClass (top 24) 5
theorem aFa:jN ["self","step"] ["self","step"] (jG nJ):=by walk_at"sc"
abbrev cZ:Stmt:=inClass (top 25) 6
theorem bW:jN ["self","step","name","kind"] ["self","step"] (jG cZ):=by walk_at"sc"
abbrev hU:Stmt:=inClass (top 27) 6
theorem oG:jN ["self","step","shape"] ["self","step"] (jG hU):=by walk_at"sc"
abbrev aZ:Stmt:=inClass (top 23) 1
theorem oZ:jN ["self","word"] ["self","word"] (jG aZ):=by walk_at"sc"
abbrev bA:Stmt:=inClass (top 26) 6
theorem oM:jN ["self","word"] ["self","word"] (jG bA):=by walk_at"sc"
abbrev iG:Stmt:=inClass (top 24) 1
theorem aCj:jN ["self"] ["self"] (jG iG):=by walk_at"sc"
abbrev cG:Stmt:=inClass (top 25) 1
theorem tL:jN ["self"] ["self"] (jG cG):=by walk_at"sc"
abbrev eY:Stmt:=inClass (top 26) 1
theorem aAc:jN ["self"] ["self"] (jG eY):=by walk_at"sc"
abbrev fP:Stmt:=inClass (top 27) 1
theorem wM:jN ["self"] ["self"] (jG fP):=by walk_at"sc"
abbrev iB:Stmt:=top 44
theorem aBs:jN ["text"] ["text"] (jG iB):=by walk_at"sc"
abbrev nR:Stmt:=top 45
theorem hG:jN ["line","words","deed","form"] ["line","words"] (jG nR):=by walk_at"sc"
abbrev cU:Stmt:=inClass (top 7) 0
abbrev fO:Stmt:=inClass (top 6) 0
abbrev zX:Stmt:=top 47
theorem nP:jN ["begun","line","deed"] ["begun","line","deed"] (jG zX):=by walk_at"sc"
abbrev aR:Stmt:=top 48
theorem pG:jN ["begun","deed"] ["begun","deed"] (jG aR):=by walk_at"sc"
abbrev rO:Stmt:=top 53
theorem mZ:jN ["names","ahead","found","name"] ["names","ahead"] (jG rO):=by walk_at"sc"
abbrev cI:Stmt:=top 55
theorem sW:jN ["row"] ["row"] (jG cI):=by walk_at"sc"
abbrev oA:Stmt:=inClass (top 40) 0
abbrev gW:Stmt:=inClass (top 41) 0
abbrev fU:Stmt:=top 56
theorem xY:jN ["told","at","row","rows","behind","others","last"] ["told","at"] (jG fU):=by walk_at"sc"
abbrev eG:Stmt:=top 54
theorem yP:jN ["told","first","rows","at","row"] ["told","first"] (jG eG):=by walk_at"sc"
abbrev mQ:Stmt:=top 51
theorem sT:jN ["kind","word","step"] ["kind","word"] (jG mQ):=by walk_at"sc"
abbrev iO:Stmt:=top 50
theorem yM:jN ["shape","line","deed","path","kind","steps","word","step"] ["shape","line","deed","path"] (jG iO):=by walk_at"sc"
abbrev sR:Stmt:=top 49
theorem cK:jN ["shape","line","deed","filled","goal","reads","steps","number"] ["shape","line","deed","filled"] (jG sR):=by walk_at"sc"
abbrev iT:Stmt:=top 52
theorem bQ:jN ["form","words","steps","names","part","word"] ["form","words","steps"] (jG iT):=by walk_at"sc"
abbrev bD:Stmt:=top 43
theorem kT:jN ["shapes","text","lines","told","begun","named","line","words","deed","form","row","rows","behind"] ["shapes","text"] (jG bD):=by walk_at"sc"
abbrev fK:Stmt:=top 84
theorem xX:jN ["_law_signs","_law_at","_law_ends","_law_many","_law_letters","_law_found","_law_k","_law_own","_law_name"] ["_law_signs","_law_at","_law_ends","_law_many"] (jG fK):=by walk_at"sc"
abbrev fR:Stmt:=top 85
theorem vH:jN ["_law_box_here","_law_many","_law_words","_law_some","_law_at","_law_signs","_law_found"] ["_law_box_here","_law_many"] (jG fR):=by walk_at"sc"
abbrev cE:Stmt:=top 92
theorem fN:jN ["_law_word","_law_words"] ["_law_word"] (jG cE):=by walk_at"sc"
abbrev iP:Stmt:=top 86
theorem aCz:jN ["_law_shapes_here","_law_kind_here"] ["_law_shapes_here","_law_kind_here"] (jG iP):=by walk_at"sc"
abbrev zH:Stmt:=top 89
theorem iU:jN ["_law_shapes_here","_law_kind_here"] ["_law_shapes_here","_law_kind_here"] (jG zH):=by walk_at"sc"
abbrev zD:Stmt:=top 90
theorem xP:jN ["_law_shapes_here","_law_lines","_law_name","_law_fields"] ["_law_shapes_here"] (jG zD):=by walk_at"sc"
abbrev iS:Stmt:=top 87
theorem zN:jN ["_law_box_here","_law_shapes_here","_law_way","_law_one","_law_count","_law_many"] ["_law_box_here","_law_shapes_here"] (jG iS):=by walk_at"sc"
abbrev dH:Stmt:=top 88
theorem qW:jN ["_law_box_here","_law_names_here","_law_shapes_here","_law_k","_law_own","_law_fields","_law_j","_law_kind_here","_law_size_here"] ["_law_box_here"] (jG dH):=by walk_at"sc"
abbrev iI:Stmt:=top 93
theorem bP:jN ["_law_shapes_here","_law_kind_here","_law_word","_law_name","_law_inner","_law_k"] ["_law_shapes_here","_law_kind_here","_law_word"] (jG iI):=by walk_at"sc"
abbrev fA:Stmt:=top 94
theorem xS:jN ["_law_shapes_here","_law_path","_law_sort","_law_kind_here","_law_steps_here","_law_word","_law_found"] ["_law_shapes_here","_law_path","_law_sort"] (jG fA):=by walk_at"sc"
abbrev eR:Stmt:=top 91
theorem vG:jN ["_law_shapes_here","_law_kind_here","_law_steps_here","_law_found","_law_name","_law_inner","_law_k"] ["_law_shapes_here","_law_kind_here","_law_steps_here"] (jG eR):=by walk_at"sc"
abbrev iE:Stmt:=top 96
theorem eK:jN ["_law_shapes_here","_law_lines","_law_steps_here","_law_at","_law_path","_law_program","e"] ["_law_shapes_here","_law_lines","_law_steps_here","_law_at","_law_path"] (jG iE):=by walk_at"sc"
abbrev eU:Stmt:=top 97
theorem xU:jN ["_law_shapes_here","_law_drawn_here","_law_path","_law_sort","_law_steps_here","_law_lines","_law_behind"] ["_law_shapes_here","_law_drawn_here","_law_path"] (jG eU):=by walk_at"sc"
abbrev iK:Stmt:=top 95
theorem xG:jN ["_law_box_here","_law_steps_here","_law_names_here","_law_words","_law_at","_law_other","_law_number","_law_some","_law_word"] ["_law_box_here","_law_steps_here","_law_names_here"] (jG iK):=by walk_at"sc"
abbrev aMp:Stmt:=top 98
theorem yR:jN ["_law_script","_law_drawn_here","_law_shapes_here","_law_names_here","_law_name","_law_fields","_law_spots_here","_law_start","_law_steps_here","_law_cell_here","_law_box_here","_law_path"] ["_law_script"] (jG aMp):=by walk_at"sc"
structure ZZ (K:ω) (mg:Str->Option Value) (t1 t2 t3 t4 t5 t6 t7 t8 t9 t10 t11 t12 t13 t14 t15 t16 t17:Tok) (ts tNa tSi tBe tFo:Addr) (Va cIu:Addr) (Vb cIv:Addr) (Vc cIx:Addr) (Vd cIy:Addr) (Ve cIz:Addr) (Vf cIw:Addr) (ao jh:Addr) (lc iq:Addr) (ij gm:Addr) (bq ft:Addr) (cRE fRE:Addr) (az cm:Addr) (bv fu:Addr) (ac bc:Addr):Prop where
 M:Blt mg
 C:Cst K mg t1 t2 t3 t4 t5 t6 t7 t8 t9 t10 t11 t12 t13 t14 t15 t16 t17 ts tNa tSi tBe tFo
 Ua:tH K mg "Num" Va cIu ["width"]
 Ub:tH K mg "Nested" Vb cIv ["shape"]
 Uc:tH K mg "Many" Vc cIx ["count","kind"]
 Ud:tH K mg "Pick" Vd cIy ["shapes"]
 Ue:tH K mg "Shape" Ve cIz ["name","fields"]
 Uf:tH K mg "Shapes" Vf cIw ["shapes"]
 bh:tH K mg "Row" ao jh ["line","deed","goal","reads","steps","number"]
 oh:tH K mg "Loop" lc iq ["line","last","deed","goal","reads","rows"]
 gp:tH K mg "Choice" ij gm ["line","last","middle","reads","rows","others"]
 bp:tH K mg "Program" bq ft ["shapes","rows","named","written"]
 tRE:TXB K mg cRE fRE
 VI:aLi K
 ar:TX K mg "NoProgram" az cRE cm ["line"]
 iu:TX K mg "TooMuch" bv cRE fu ["line"]
 ah:TX K mg "WrongPath" ac cRE bc ["line","path"]
section
variable (P:Ao) (w:AD) {K:ω}{mg:Str->Option Value}(base:Ag) {t1 t2 t3 t4 t5 t6 t7 t8 t9 t10 t11 t12 t13 t14 t15 t16 t17:Tok}{ts tNa tSi tBe tFo:Addr}{Va cIu:Addr}{Vb cIv:Addr}{Vc cIx:Addr}{Vd cIy:Addr}{Ve cIz:Addr}{Vf cIw:Addr}{ao jh:Addr}{lc iq:Addr}{ij gm:Addr}{bq ft:Addr}{cRE fRE:Addr}{az cm:Addr}{bv fu:Addr}{ac bc:Addr}(Z:ZZ K mg t1 t2 t3 t4 t5 t6 t7 t8 t9 t10 t11 t12 t13 t14 t15 t16 t17 ts tNa tSi tBe tFo Va cIu Vb cIv Vc cIx Vd cIy Ve cIz Vf cIw ao jh lc iq ij gm bq ft cRE fRE az cm bv fu ac bc)
variable {f:Addr}{fd:zb}
include Z
set_option hygiene false in
local macro_rules|`(jJ $a $b $c $d $e)=>`(jI P w K mg base CX0 $a $b $c $d $e)
set_option hygiene false in
local macro_rules|`(jK 0)=>`(Cl5.mk Va Vb Vc Vd Ve)
theorem tU{k:Nat}(F:Fun K "is_text_of" "is_text_of" dN f fd):jJ (k+2) f fd ["thing","signs","most"] (rH K):=by
 w_cond tT;obtain⟨x,signs,most,rfl,h⟩:=h;refine⟨_,(jC (kM (PW.pt (sP (yK (xJ (jZ (xD.or mI uI) rfl M.isinstance Cw (jA (pv 0) (jA (lD (v:=.ty "str") rfl M.str boot_str rfl) jB))))) (iD (yK (rP oB oB jE (jZ lV rfl M.len yn (jA (pv 0) jB)) (pv 2)))))) (jD (jJ lU)) jR) (jD (jJ (jZ (rG rfl) rfl M.all boot_all (jA (qF ["sign"] ["signs"] [1] rfl (aMc (pv 0)) rfl ⟨rfl,trivial⟩ ⟨⟨rfl,rfl,rfl,_,rfl⟩,trivial⟩ (fun _ _ _ _=>(jM (i:=0) (show yt (["sign","signs"]:List Str) from by ac_rfl) rfl (yp rfl))) (fun _ _ _ _=>qB) (fun _ _ _ _=>(vA aHz (pv 0) (pv 1) (by with_unfolding_all rfl)))) jB))))),?_⟩;rcases h with⟨z,rfl,hz,q⟩|⟨t,ht,hns,q⟩
 ·have hl:=len_list z;refine⟨_,rfl,.inl ⟨_,_,"str",rfl,by decide,rfl,_,rfl,kS (by decide) ?_⟩⟩;refine⟨_,rfl,.str z,z.length,rfl,⟨small hz,rfl⟩,_,_,rfl,rfl,_,rfl,vE (fun c1=>?_) (fun c1=>?_)⟩
  ·refine⟨_,rfl,_,_,rfl,rfl,_,rfl,vE (fun c2=>?_) (fun c2=>?_)⟩
   ·have e:within z most=false:=by
     unfold within;have:decide ((z.length:Int)<=most)=false:=by simpa using c2
     rw[this,CL]
    have:=q H (jF.refl H);rw[e,AE]at this;exact this
   ·have e:within z most=true:=by
     unfold within;have c2':decide ((z.length:Int)<=most)=true:=by simpa using c2
     rw[c2',c1];rfl
    refine⟨_,rfl,z,rfl,aCs (fun i ys H'=>H'=H/\ys=((z.cps.toList.take i).map fun c=>decide (c∈signs.cps.toList)).map V.bl) ⟨rfl,rfl⟩ (fun i ys H' _ w=>by rw[w.2,δ,δ];exact Bz ..) (kN hz) (fun i c ys H' hc w=>?_) (fun ys H' w p hp=>?_)⟩
    ·obtain⟨rfl,rfl⟩:=w;refine⟨_,rfl,_,rfl,⟨#[c]⟩,signs,rfl,rfl,⟨rfl,?_⟩,_,rfl⟩;rw[aNb (fun c=>decide (c∈signs.cps.toList)) _ i hc,ξ,aKy];rfl
    ·obtain⟨rfl,rfl⟩:=w;refine⟨p,(z.cps.toList.map fun c=>decide (c∈signs.cps.toList)),rfl,SqL.of ?_,?_⟩
     ·rw[jO,←hl,An]
     ·have:=q _ (xQ hp (.lst (((z.cps.toList.take z.length).map fun c=>decide (c∈signs.cps.toList)).map V.bl)));rw[e,Dm]at this;rw[all_map];exact this
  ·refine⟨_,rfl,?_⟩;have e:within z most=false:=by
    unfold within;have:decide (1<=(z.length:Int))=false:=by simpa using c1
    rw[this,AE]
   have:=q H (jF.refl H);rw[e,AE]at this;exact vJ (by decide) this
 ·rcases ht with ht|⟨rfl,p,kvs,rfl,hp⟩
  ·exact⟨_,rfl,.inl ⟨x,_,t,rfl,by decide,ht,_,rfl,vJ (by rw[isa3 hns];rfl) (aId q)⟩⟩
  ·exact⟨_,rfl,.inr ⟨p,_,kvs,rfl,by decide,hp,_,rfl,vJ (by decide) (aId q)⟩⟩
theorem aEe(F:Fun K "is_name" "is_name" nO f fd)(de:Df K mg "is_text_of" fc dr ["thing","signs","most"])(ji:jJ k fc dr ["thing","signs","most"] (rH K)):jJ (k+2) f fd ["thing"] (zM K):=by
 w_cond aEi;obtain⟨x,rfl,h⟩:=h;refine⟨_,(jD (jJ (aC (jK ji hr rfl de.m de.k de.b .nil jQ (jA (pv 0) (jA (qC (v:=.str "abcdefghijklmnopqrstuvwxyz") rfl C.SMALL_LETTERS ⟨_,rfl⟩) (jA (qC (v:=.int 6) rfl C.MOST_LETTERS ⟨_,rfl⟩) jB)))) (bV (vA yU (pv 0) (qC (v:=.ref ts) rfl C.OWN_WORDS rfl) (by with_unfolding_all rfl)))))),?_⟩;rcases h with⟨z,rfl,hz,q⟩|⟨t,ht,hns,q⟩
 ·refine⟨_,rfl,.str z,xR,6,rfl,.inl ⟨z,rfl,hz,fun H1 g1=>⟨_,rfl,vE (fun c=>?_) (fun c=>?_)⟩⟩⟩
  ·refine⟨_,rfl,ts,_,rfl,.inr (C.words _),rfl,qY _,?_⟩;show Q (.bl (!inV (.str z) (dW.map V.str))) H1;rw[vB];have:=q H1 g1;unfold kP at this;rw[c,Dm]at this;exact this
  ·have:=q H1 g1;unfold kP at this;rw[AS.mpr c,AE]at this;exact this
 ·exact⟨_,rfl,x,xR,6,rfl,.inr ⟨t,ht,hns,⟨_,rfl,dX (q H (jF.refl H))⟩⟩⟩
theorem aBb{k:Nat}(F:Fun K "number_in" "number_in" fH f fd){fc:Addr}{dr:zb}(de:Df K mg "is_text_of" fc dr ["thing","signs","most"])(ji:jJ k fc dr ["thing","signs","most"] (rH K)):jJ (k+2) f fd ["text","low","high"] (aU K):=by
 w_cond lE;obtain⟨x,lo,hi,rfl,h⟩:=h;refine⟨_,(jC (kM (yK (xJ (jK ji hr rfl de.m de.k de.b .nil jQ (jA (pv 0) (jA (qC (v:=.str "0123456789") rfl C.FIGURES ⟨_,rfl⟩) (jA (qC (v:=.int 10) rfl C.MOST_FIGURES ⟨_,rfl⟩) jB)))))) (jD (jJ xC)) jR) (jC (kM (PW.pt (yA (jP qI (jX aEx (pv 0) jE (fun _ _=>rfl)) jH (jT _)) (vX (jP dU (jZ lV rfl M.len yn (jA (pv 0) jB)) jE (jT _))))) (jD (jJ xC)) jR) (jC (jU (i:=3) lE.nd rfl (by walk_at"o") (qR yS rfl M.int boot_int (jA (pv 0) jB))) (jD (jJ (yC (rP oB oB (pv 1) (pv 3) (pv 2)) (pv 3) xC)))))),?_⟩;rcases h with⟨z,rfl,hz,q⟩|⟨t,ht,hns,q⟩
 ·have hl:=len_list z;refine⟨_,rfl,.str z,cX,10,rfl,.inl ⟨z,rfl,hz,fun H1 g1=>⟨_,rfl,vE (fun c=>?_) (fun c=>?_)⟩⟩⟩
  ·have e:yJ z=none:=by
    unfold yJ;rw[if_neg];intro w;rw[zj]at w;rw[w.1]at c;exact absurd c (by decide)
   have:=q H1 g1;rw[e]at this;exact this
  ·have c':(within z 10&&uQ z cX)=true:=by simpa using c
   have hw : 1<=(z.length:Int):=by
    rw[zj]at c';unfold within at c';have:=c'.1;rw[zj]at this;exact of_decide_eq_true this.1
   have hw2:(z.length:Int)<=10:=by
    rw[zj]at c';unfold within at c';have:=c'.1;rw[zj]at this;exact of_decide_eq_true this.2
   have hd:PySem.NumText.AllDigits z.cps.toList:=fun d hd=>by
    rw[zj]at c';have:=ze.mp c'.2 d hd;exact(fE d).mp (of_decide_eq_true this)
   obtain⟨c0,hc0⟩ : ∃c0,z.cps.toList[0]?=some c0:=⟨_,η (by omega)⟩;have at0:atI z.cps.toList 0=some c0:=by
    have:=zI (j:=0) hc0;simpa using this
   have lead:sH z=(decide (c0=48)&&decide (1<(z.length:Int))):=by
    unfold sH;rw[hc0]
    congr 1
    rw[Bw];simp
   have no:sH z=true->Q .non H1:=fun w=>by
    have e:yJ z=none:=by
     unfold yJ;rw[if_neg];intro v;rw[zj,w]at v;exact absurd v.2 (by decide)
    have:=q H1 g1;rw[e]at this;exact this
   have yes:sH z=false->yJ z=some ((PySem.NumText.digitsVal z.cps.toList:Nat):Int):=fun w=>by
    unfold yJ;rw[if_pos];rw[c',w];rfl
   have hnum:=PySem.intText_digits (x:=z) hd (by intro w;rw[w]at hc0;cases hc0) (by omega);refine⟨_,rfl,z,_,c0,rfl,rfl,small hz,at0,rfl,_,rfl,?_⟩;rw[is_0];refine vE (fun c1=>?_) (fun c1=>?_)
   ·refine⟨_,rfl,.str z,z.length,rfl,⟨small hz,rfl⟩,_,_,rfl,rfl,_,rfl,vE (fun c2=>?_) (fun c2=>?_)⟩
    ·exact no (by rw[lead,c1];simpa using c2)
    ·have ey:=yes (by rw[lead,AS.mpr c2,CL]);refine⟨_,rfl,z,_,rfl,hnum,by omega,?_⟩;refine⟨_,rfl,_,rfl,_,_,rfl,rfl,_,rfl,vE (fun d1=>⟨_,rfl,_,_,rfl,rfl,_,rfl,vE (fun d2=>⟨_,rfl,?_⟩) (fun d2=>?_)⟩) (fun d1=>⟨_,rfl,dX ?_⟩)⟩
     ·have:=q H1 g1;rw[ey,vO,if_pos ⟨of_decide_eq_true d1,of_decide_eq_true d2⟩]at this;exact this
     ·have:=q H1 g1;rw[ey,vO,if_neg (fun w=>d2 (decide_eq_true w.2))]at this;exact this
     ·have:=q H1 g1;rw[ey,vO,if_neg (fun w=>d1 (decide_eq_true w.1))]at this;exact this
   ·have ey:=yes (by rw[lead,AS.mpr c1,AE]);refine dX ⟨_,rfl,z,_,rfl,hnum,by omega,?_⟩;refine⟨_,rfl,_,rfl,_,_,rfl,rfl,_,rfl,vE (fun d1=>⟨_,rfl,_,_,rfl,rfl,_,rfl,vE (fun d2=>⟨_,rfl,?_⟩) (fun d2=>?_)⟩) (fun d1=>⟨_,rfl,dX ?_⟩)⟩
    ·have:=q H1 g1;rw[ey,vO,if_pos ⟨of_decide_eq_true d1,of_decide_eq_true d2⟩]at this;exact this
    ·have:=q H1 g1;rw[ey,vO,if_neg (fun w=>d2 (decide_eq_true w.2))]at this;exact this
    ·have:=q H1 g1;rw[ey,vO,if_neg (fun w=>d1 (decide_eq_true w.1))]at this;exact this
 ·exact⟨_,rfl,x,cX,10,rfl,.inr ⟨t,ht,hns,⟨_,rfl,vJ (by decide) (q H (jF.refl H))⟩⟩⟩
theorem aHw{k:Nat}(F:Fun K "joined" "joined" rS f fd):jJ (k+2) f fd ["path","step"] sX:=by
 w_cond aJj;obtain⟨p,x,y,rfl,hy,hp,hl,q⟩:=h;refine⟨_,(jD (jJ (yC (zK (pv 0) (fun _=>rfl)) (aNu (aJv (pv 0) (aRj (aJv (pv 1) aQy)))) (aJn (pv 1))))),?_⟩;refine⟨_,rfl,_,⟨small hp,rfl⟩,vE (fun c=>?_) (fun c=>?_)⟩
 ·have hne:¬ p.length=0:=fun z=>by rw[z]at c;exact absurd c (by decide)
  have l1:(Str.empty++p).length<=ψ:=by rw[pM];exact small hp
  have l2:(Str.empty++p++ε ".").length<=ψ:=by rw[pM,Ax];exact aNa (by have:(ε ".").length=1:=rfl;omega)
  have l3:(Str.empty++p++ε "." ++ y).length<=ψ:=by rw[pM,Ax,Ax];exact aNa (by have:(ε ".").length=1:=rfl;omega)
  refine⟨_,rfl,p,rfl,small hp,l1,l2,_,rfl,y,hy,small hl,l3,l3,?_⟩;rw[pM];unfold pj at q;rw[if_neg hne]at q;exact q
 ·have hne:p.length=0:=by
   by_cases z:p.length=0
   ·exact z
   ·exact absurd (show((p.length:Int) != 0)=true from bne_iff_ne.mpr (by omega)) c
  unfold pj at q;rw[if_pos hne]at q;exact⟨_,rfl,y,hy,small hl,q⟩
theorem nK{k:Nat}(F:Fun K "is_shape_line" "is_shape_line" aD f fd){aq:Addr}{am:zb}(af:Df K mg "is_name" aq am ["thing"])(bz:jJ k aq am ["thing"] (zM K)):jJ (k+2) f fd ["words"] (aPw K):=by
 w_cond nA;obtain⟨a,ws,rfl,hw,q⟩:=h;refine⟨_,(jD (jJ (aC (vA qI (jZ kG rfl M.len yn (jA (pv 0) jB)) jE (jT _)) (aC (vA qI (jX kF (pv 0) jE (fun _ _=>rfl)) jH (jT _)) (bV (jK bz hr rfl af.m af.k af.b .nil jQ (jA (jX kF (pv 0) jE (fun _ _=>rfl)) jB))))))),?_⟩;refine⟨_,rfl,a,_,rfl,.inl hw.l,rfl,_,rfl,?_⟩
 match ws,hw,q with
 |[],hw,q=>exact kS (by decide) (q _ (jF.refl _))
 |[x],hw,q=>exact kS (by simp) (q _ (jF.refl _))
 |x::y::z::r,hw,q=>exact kS (by simp;omega) (q _ (jF.refl _))
 |[x,y],hw,q =>
  refine vJ (by simp) ⟨_,rfl,a,_,_,_,rfl,rfl,hw.l,rfl,rfl,_,rfl,vE (fun c=>?_) (fun c=>?_)⟩
  ·refine⟨_,rfl,a,_,_,_,rfl,rfl,hw.l,rfl,.str y,rfl,.inl ⟨y,rfl,hw.s y (by simp),fun H1 g1=>?_⟩⟩;have e:aCf [x,y]=kP y:=by
    show(decide (x=ε "shape")&&kP y)=_;rw[decide_eq_true (show x=ε "shape" from by simpa using c),Dm]
   have:=q H1 g1;rw[e]at this;exact this
  ·have e:aCf [x,y]=false:=by
    show(decide (x=ε "shape")&&kP y)=_;rw[decide_eq_false (show ¬ x=ε "shape" from by simpa using c),AE]
   have:=q _ (jF.refl _);rw[e]at this;exact this
theorem nX{k:Nat}(F:Fun K "size" "Num.size" hZ f fd):jJ (k+2) f fd ["self"] (spV (jK 0) K r Kd.isNum vSz):=by
 w_cond aCe;obtain⟨a,kd,sa,S,rfl,hF,hk,hf,ho,hw,hg,q⟩:=h;refine⟨_,(jD (jJ (kW (pv 0) rfl))),?_⟩;cases id ho with
 |num h1 =>
  exact⟨_,rfl,a,Va,_,_,_,rfl,h1,Ua.cl,Ua.na _ (by decide),rfl,q _ (jF.refl _)⟩
 |_=>cases hF
theorem sU(F:Fun K "size" "Nested.size" cF f fd)(cr:DfM K Ve "size" cq cg ["self"])(fh:jJ k cq cg ["self"] (nW (jK 0) K r sSz)):jJ (k+2) f fd ["self"] (spV (jK 0) K (r+1) Kd.isNest vSz):=by
 w_cond sV;obtain⟨a,kd,sa,S,rfl,hF,hk,hf,ho,hw,hg,q⟩:=h;refine⟨_,(jD (jJ (yB (kW (pv 0) rfl) Ue.cl cr.me fh hr cr.b .nil jQ))),?_⟩;cases id ho with
 | @nest a dx s i e h1 =>
  obtain⟨sh,hs,dx2,t,ps,h2,_⟩:=hw.at e;exact⟨_,rfl,a,Vb,_,_,_,rfl,h1,Ub.cl,Ub.na _ (by decide),rfl,s,dx2,_,rfl,h2,rfl,s,i,sa,S,rfl,e,(by have : 2*i+2<=r+1:=hk;omega),hw,hg,q⟩
 |_=>cases hF
theorem gU{k r:Nat}(F:Fun K "size" "Shape.size" dE f fd)(ue:∀C sp,TV (jK 0) K r vSz C sp->zB P w K mg base CX0 k "size" C sp):jJ (k+2) f fd ["self"] (nW (jK 0) K r sSz):=by
 w_cond tP;obtain⟨a,i,sa,S,rfl,e,hi,hw,hg,q⟩:=h;refine⟨_,(jD (jJ (jZ (sS rfl) rfl M.sum (show AV "sum" = some (.builtin "sum") from by ac_rfl) (jA (qF ["name","kind"] [] [] rfl (fL (kW (pv 0) rfl)) rfl trivial trivial (fun _ _ _ _=>(yX (K:=K) (n:=2) rfl rfl (jW (jM (i:=0) (show yt (["name","kind"]:List Str) from by ac_rfl) rfl (yp rfl)) (jW (jM (i:=1) (show yt (["name","kind"]:List Str) from by ac_rfl) rfl (yp rfl)) qL)))) (fun _ _ _ _=>qB) (fun _ _ _ _=>(aK (pv 1) ue hr jQ))) jB)))),?_⟩;obtain⟨s,hS,so⟩:=hw.at e;obtain⟨dx,t,ps,k1,k2,k3⟩:=so.fields;have zl:(ps.map V.ref).length=s.2.length:=by rw[δ];exact k3.len
 have hfit:=hg.fit i s hS;have htab:=sG hS fun f hf=>(hfit f hf).1.below;have hil:i<S.length:=(θ.mp hS).1;refine⟨_,rfl,a,Ve,_,_,_,rfl,k1,Ue.cl,Ue.na _ (by decide),rfl,t,rfl,⟨_,k2⟩,fZ (xs:=ps.map V.ref) (fun j ys H'=>jF H H'/\ys=((s.2.take j).map fun f=>V.int (vSz f.2 (tabs S)))) ⟨jF.refl _,rfl⟩ (fun j ys H' _ z=>⟨z.1.tp k2,by rw[z.2,δ,yh];exact Aa _ _⟩) (kN (by have:=hg.few i s hS;omega)) (fun j x ys H' os ho hx z=>?_) (fun ys H' z p hp=>?_)⟩
 ·obtain⟨g,rfl⟩:=z;obtain⟨o1,o2,rfl⟩:=oV ho;obtain⟨u,hu,rfl⟩:=qH hx;obtain⟨x,y,kd,k,hf,ht,_,hko⟩:=k3.get hu;have hm:=hfit _ (ο hf);exact⟨u,_,rfl,g.tp ht,rfl,_,_,rfl,_,_,rfl,rfl,_,rfl,aHm (aFr (by simp)) (hm.1.rk.mono hi) (hm.1.mono (Bn hil)) (hko.same g) (hw.same g) hg fun H2 g2=>⟨⟨g.trans g2,(vM hf).symm⟩,[_,_],rfl,rfl⟩⟩
 ·obtain⟨g,rfl⟩:=z;have g2:=xQ hp (.lst ((s.2.take (ps.map V.ref).length).map fun f=>V.int (vSz f.2 (tabs S))));have kp:upd H' p (.lst ((s.2.take (ps.map V.ref).length).map fun f=>V.int (vSz f.2 (tabs S)))) p=some (.lst (((s.2.map fun f=>vSz f.2 (tabs S)).map fun n:Nat=>(n:Int)).map V.int)):=by
   rw[jO,zl,vC,zf,zf];rfl
  have q':=q _ (g.trans g2);refine⟨p,(s.2.map fun f=>vSz f.2 (tabs S)).map fun n:Nat=>(n:Int),rfl,SqL.of kp,?_⟩;rw[sumI];rw[show sSz i (tabs S)=(s.2.map fun f=>vSz f.2 (tabs S)).sum from htab.1]at q';exact q'
theorem mB{k:Nat}(F:Fun K "depth" "Num.depth" fS f fd):jJ (k+2) f fd ["self"] (spV (jK 0) K r Kd.isNum vDp):=by
 w_cond wZ;obtain⟨a,kd,sa,S,rfl,hF,hk,hf,ho,hw,hg,q⟩:=h;refine⟨_,(jD (jJ jE)),?_⟩;cases id ho with
 |num h1 =>
  exact q _ (jF.refl _)
 |_=>cases hF
theorem oK(F:Fun K "depth" "Nested.depth" aV f fd)(ck:DfM K Ve "depth" ci ce ["self"])(du:jJ k ci ce ["self"] (nW (jK 0) K r sDp)):jJ (k+2) f fd ["self"] (spV (jK 0) K (r+1) Kd.isNest vDp):=by
 w_cond oX;obtain⟨a,kd,sa,S,rfl,hF,hk,hf,ho,hw,hg,q⟩:=h;refine⟨_,(jD (jJ (yB (kW (pv 0) rfl) Ue.cl ck.me du hr ck.b .nil jQ))),?_⟩;cases id ho with
 | @nest a dx s i e h1 =>
  obtain⟨sh,hs,dx2,t,ps,h2,_⟩:=hw.at e;exact⟨_,rfl,a,Vb,_,_,_,rfl,h1,Ub.cl,Ub.na _ (by decide),rfl,s,dx2,_,rfl,h2,rfl,s,i,sa,S,rfl,e,(by have : 2*i+2<=r+1:=hk;omega),hw,hg,q⟩
 |_=>cases hF
theorem eJ{k r:Nat}(F:Fun K "depth" "Shape.depth" cB f fd)(rj:∀C sp,TV (jK 0) K r vDp C sp->zB P w K mg base CX0 k "depth" C sp):jJ (k+2) f fd ["self"] (nW (jK 0) K r sDp):=by
 w_cond rY;obtain⟨a,i,sa,S,rfl,e,hi,hw,hg,q⟩:=h;refine⟨_,(jD (jJ (jS qO jE (jZ (fW rfl) rfl M.max boot_max (jA (qF ["name","kind"] [] [] rfl (fL (kW (pv 0) rfl)) rfl trivial trivial (fun _ _ _ _=>(yX (K:=K) (n:=2) rfl rfl (jW (jM (i:=0) (show yt (["name","kind"]:List Str) from by ac_rfl) rfl (yp rfl)) (jW (jM (i:=1) (show yt (["name","kind"]:List Str) from by ac_rfl) rfl (yp rfl)) qL)))) (fun _ _ _ _=>qB) (fun _ _ _ _=>(aK (pv 1) rj hr jQ))) jB))))),?_⟩;obtain⟨s,hS,so⟩:=hw.at e;obtain⟨dx,t,ps,k1,k2,k3⟩:=so.fields;have zl:(ps.map V.ref).length=s.2.length:=by rw[δ];exact k3.len
 have hfit:=hg.fit i s hS;have htab:=sG hS fun f hf=>(hfit f hf).1.below;have hil:i<S.length:=(θ.mp hS).1;refine⟨_,rfl,a,Ve,_,_,_,rfl,k1,Ue.cl,Ue.na _ (by decide),rfl,t,rfl,⟨_,k2⟩,fZ (xs:=ps.map V.ref) (fun j ys H'=>jF H H'/\ys=((s.2.take j).map fun f=>V.int (vDp f.2 (tabs S)))) ⟨jF.refl _,rfl⟩ (fun j ys H' _ z=>⟨z.1.tp k2,by rw[z.2,δ,yh];exact Aa _ _⟩) (kN (by have:=hg.few i s hS;omega)) (fun j x ys H' os ho hx z=>?_) (fun ys H' z p hp=>?_)⟩
 ·obtain⟨g,rfl⟩:=z;obtain⟨o1,o2,rfl⟩:=oV ho;obtain⟨u,hu,rfl⟩:=qH hx;obtain⟨x,y,kd,k,hf,ht,_,hko⟩:=k3.get hu;have hm:=hfit _ (ο hf);exact⟨u,_,rfl,g.tp ht,rfl,_,_,rfl,_,_,rfl,rfl,_,rfl,aHm (aFr (by simp)) (hm.1.rk.mono hi) (hm.1.mono (Bn hil)) (hko.same g) (hw.same g) hg fun H2 g2=>⟨⟨g.trans g2,(vM hf).symm⟩,[_,_],rfl,rfl⟩⟩
 ·obtain⟨g,rfl⟩:=z;have g2:=xQ hp (.lst ((s.2.take (ps.map V.ref).length).map fun f=>V.int (vDp f.2 (tabs S))));have kp:upd H' p (.lst ((s.2.take (ps.map V.ref).length).map fun f=>V.int (vDp f.2 (tabs S)))) p=some (.lst (((s.2.map fun f=>vDp f.2 (tabs S)).map fun n:Nat=>(n:Int)).map V.int)):=by
   rw[jO,zl,vC,zf,zf];rfl
  have q':=q _ (g.trans g2);refine⟨p,(s.2.map fun f=>vDp f.2 (tabs S)).map fun n:Nat=>(n:Int),rfl,SqL.of kp,(by simpa using hg.ne i s hS),fun m h1 h2=>?_⟩;rw[maxI h1 h2];refine⟨_,_,rfl,rfl,?_⟩;rw[show sDp i (tabs S)=1+yG (s.2.map fun f=>vDp f.2 (tabs S)) from htab.2.1,Int.natCast_add]at q';exact q'
theorem aBm(F:Fun K "size" "Many.size" eL f fd)(ue:∀C sp,TV (jK 0) K r vSz C sp->zB P w K mg base CX0 k "size" C sp):jJ (k+2) f fd ["self"] (spV (jK 0) K (r+1) Kd.isMany vSz):=by
 w_cond wY;obtain⟨a,kd,sa,S,rfl,hF,hk,hf,ho,hw,hg,q⟩:=h;refine⟨_,(jD (jJ (jS yW (kW (pv 0) rfl) (aK (kW (pv 0) rfl) ue hr jQ)))),?_⟩;cases id ho with
 | @many a dx b n k h1 h2 =>
  refine⟨_,rfl,a,Vc,_,_,_,rfl,h1,Uc.cl,Uc.na _ (by decide),rfl,_,rfl,a,Vc,_,_,_,rfl,h1,Uc.cl,Uc.na _ (by decide),rfl,aHm (aFr (by simp)) hk.sub hf.sub h2 hw hg fun H' g=>⟨_,_,rfl,rfl,.inl ⟨by have:=hf.2.1;omega,by have:=hf.2.1;omega⟩,?_⟩⟩;have q':=q H' g;rw[show vSz (Kd.many n k) (tabs S)=n*vSz k (tabs S) from rfl,Int.natCast_mul]at q';exact q'
 |_=>cases hF
theorem tQ(F:Fun K "depth" "Many.depth" dP f fd)(rj:∀C sp,TV (jK 0) K r vDp C sp->zB P w K mg base CX0 k "depth" C sp):jJ (k+2) f fd ["self"] (spV (jK 0) K (r+1) Kd.isMany vDp):=by
 w_cond tV;obtain⟨a,kd,sa,S,rfl,hF,hk,hf,ho,hw,hg,q⟩:=h;refine⟨_,(jD (jJ (aK (kW (pv 0) rfl) rj hr jQ))),?_⟩;cases id ho with
 | @many a dx b n k h1 h2 =>
  exact⟨_,rfl,a,Vc,_,_,_,rfl,h1,Uc.cl,Uc.na _ (by decide),rfl,aHm (aFr (by simp)) hk.sub hf.sub h2 hw hg q⟩
 |_=>cases hF
theorem cO{k r:Nat}(F:Fun K "greatest" "Pick.greatest" zY f fd){cq:Addr}{cg:zb}(cr:DfM K Ve "size" cq cg ["self"])(fh:jJ k cq cg ["self"] (nW (jK 0) K r sSz)):jJ (k+2) f fd ["self"] (spGr (jK 0) K (r+1)):=by
 w_cond nH;obtain⟨a,is,sa,S,rfl,hk,hf,ho,hw,hg,q⟩:=h;refine⟨_,(jD (jJ (jZ (fW rfl) rfl M.max boot_max (jA (qF ["shape"] [] [] rfl (fL (kW (pv 0) rfl)) rfl trivial trivial (fun _ _ _ _=>(jM (i:=0) (show yt (["shape"]:List Str) from by ac_rfl) rfl (yp rfl))) (fun _ _ _ _=>qB) (fun _ _ _ _=>(yB (pv 0) Ue.cl cr.me fh hr cr.b .nil jQ))) jB)))),?_⟩;obtain⟨dx,t,ss,h1,h2,h3,h4⟩ : ∃(dx t:Addr) (ss:List Addr),H a=some (.ins Vd dx [("shapes",.ref t)])/\SqT K H t (ss.map V.ref)/\ss.length=is.length/\∀(j i:Nat) (s:Addr),is[j]?=some i->ss[j]?=some s->sa[i]?=some s:=by
  cases ho with
  |pick h1 h2 h3 h4=>exact⟨_,_,_,h1,h2,h3,h4⟩
 have zl:(ss.map V.ref).length=is.length:=by rw[δ];exact h3
 refine⟨_,rfl,a,Vd,_,_,_,rfl,h1,Ud.cl,Ud.na _ (by decide),rfl,t,rfl,⟨_,h2⟩,aBz (xs:=ss.map V.ref) (fun j ys H'=>jF H H'/\ys=((is.take j).map fun i=>V.int (sSz i (tabs S)))) ⟨jF.refl _,rfl⟩ (fun j ys H' _ z=>⟨z.1.tp h2,by rw[z.2,δ,yh];exact Aa _ _⟩) (kN (by have:=hf.2.1;omega)) (fun j x ys H' hx z=>?_) (fun ys H' z p hp=>?_)⟩
 ·obtain⟨g,rfl⟩:=z;obtain⟨s,hs,rfl⟩:=qH hx;have hj:j<is.length:=by rw[←h3];exact(θ.mp hs).1
  have hi:is[j]?=some is[j]:=η hj;have e:=h4 j _ s hi hs;obtain⟨sh,hS,dx2,t2,ps,k2,_⟩:=hw.at e;exact⟨_,rfl,s,dx2,_,rfl,g _ _ k2,rfl,s,is[j],sa,S,rfl,e,(by have:=hk _ (BF hj);omega),hw.same g,hg,fun H2 g2=>⟨⟨g.trans g2,(vM hi).symm⟩,_,rfl⟩⟩
 ·obtain⟨g,rfl⟩:=z;have g2:=xQ hp (.lst ((is.take (ss.map V.ref).length).map fun i=>V.int (sSz i (tabs S))));have kp:upd H' p (.lst ((is.take (ss.map V.ref).length).map fun i=>V.int (sSz i (tabs S)))) p=some (.lst (((is.map fun i=>sSz i (tabs S)).map fun n:Nat=>(n:Int)).map V.int)):=by
   rw[jO,zl,vC,zf,zf];rfl
  have q':=q _ (g.trans g2);refine⟨p,(is.map fun i=>sSz i (tabs S)).map fun n:Nat=>(n:Int),rfl,SqL.of kp,(by have:=hf.1;intro z;rw[zf,Ce]at z;rw[z]at this;exact absurd this (by decide)),fun m h5 h6=>?_⟩;rw[maxI h5 h6];exact q'
theorem tZ{k r:Nat}(F:Fun K "depth" "Pick.depth" dM f fd){ci:Addr}{ce:zb}(ck:DfM K Ve "depth" ci ce ["self"])(du:jJ k ci ce ["self"] (nW (jK 0) K r sDp)):jJ (k+2) f fd ["self"] (spV (jK 0) K (r+1) Kd.isPick vDp):=by
 w_cond uE;obtain⟨a,kd,sa,S,rfl,hF,hk,hf,ho,hw,hg,q⟩:=h;refine⟨_,(jD (jJ (jZ (fW rfl) rfl M.max boot_max (jA (qF ["shape"] [] [] rfl (fL (kW (pv 0) rfl)) rfl trivial trivial (fun _ _ _ _=>(jM (i:=0) (show yt (["shape"]:List Str) from by ac_rfl) rfl (yp rfl))) (fun _ _ _ _=>qB) (fun _ _ _ _=>(yB (pv 0) Ue.cl ck.me du hr ck.b .nil jQ))) jB)))),?_⟩;obtain⟨is,dx,t,ss,rfl,h1,h2,h3,h4⟩ : ∃(is:List Nat) (dx t:Addr) (ss:List Addr),kd=.pick is/\H a=some (.ins Vd dx [("shapes",.ref t)])/\SqT K H t (ss.map V.ref)/\ss.length=is.length/\∀(j i:Nat) (s:Addr),is[j]?=some i->ss[j]?=some s->sa[i]?=some s:=by
  cases ho with
  |pick h1 h2 h3 h4=>exact⟨_,_,_,_,rfl,h1,h2,h3,h4⟩
  |_=>cases hF
 have zl:(ss.map V.ref).length=is.length:=by rw[δ];exact h3
 refine⟨_,rfl,a,Vd,_,_,_,rfl,h1,Ud.cl,Ud.na _ (by decide),rfl,t,rfl,⟨_,h2⟩,aBz (xs:=ss.map V.ref) (fun j ys H'=>jF H H'/\ys=((is.take j).map fun i=>V.int (sDp i (tabs S)))) ⟨jF.refl _,rfl⟩ (fun j ys H' _ z=>⟨z.1.tp h2,by rw[z.2,δ,yh];exact Aa _ _⟩) (kN (by have:=hf.2.1;omega)) (fun j x ys H' hx z=>?_) (fun ys H' z p hp=>?_)⟩
 ·obtain⟨g,rfl⟩:=z;obtain⟨s,hs,rfl⟩:=qH hx;have hj:j<is.length:=by rw[←h3];exact(θ.mp hs).1
  have hi:is[j]?=some is[j]:=η hj;have e:=h4 j _ s hi hs;obtain⟨sh,hS,dx2,t2,ps,k2,_⟩:=hw.at e;exact⟨_,rfl,s,dx2,_,rfl,g _ _ k2,rfl,s,is[j],sa,S,rfl,e,(by have:=hk _ (BF hj);omega),hw.same g,hg,fun H2 g2=>⟨⟨g.trans g2,(vM hi).symm⟩,_,rfl⟩⟩
 ·obtain⟨g,rfl⟩:=z;have g2:=xQ hp (.lst ((is.take (ss.map V.ref).length).map fun i=>V.int (sDp i (tabs S))));have kp:upd H' p (.lst ((is.take (ss.map V.ref).length).map fun i=>V.int (sDp i (tabs S)))) p=some (.lst (((is.map fun i=>sDp i (tabs S)).map fun n:Nat=>(n:Int)).map V.int)):=by
   rw[jO,zl,vC,zf,zf];rfl
  have q':=q _ (g.trans g2);refine⟨p,(is.map fun i=>sDp i (tabs S)).map fun n:Nat=>(n:Int),rfl,SqL.of kp,(by have:=hf.1;intro z;rw[zf,Ce]at z;rw[z]at this;exact absurd this (by decide)),fun m h5 h6=>?_⟩;rw[maxI h5 h6];exact q'
theorem aBj{r:Nat}(F:Fun K "size" "Pick.size" fG f fd)(di:DfM K Vd "greatest" dh df ["self"])(ia:jJ k dh df ["self"] (spGr (jK 0) K (r+1))):jJ (k+2) f fd ["self"] (spV (jK 0) K (r+1) Kd.isPick vSz):=by
 w_cond aAu;obtain⟨a,kd,sa,S,rfl,hF,hk,hf,ho,hw,hg,q⟩:=h;refine⟨_,(jD (jJ (jS qO jE (yB (pv 0) Ud.cl di.me ia hr di.b .nil jQ)))),?_⟩;cases id ho with
 | @pick a dx t is ss h1 h2 h3 h4 =>
  refine⟨_,rfl,a,dx,_,rfl,h1,rfl,a,is,sa,S,rfl,hk,hf,ho,hw,hg,fun H' g=>⟨_,_,rfl,rfl,?_⟩⟩;have q':=q H' g;rw[show vSz (Kd.pick is) (tabs S)=1+yG (is.map fun i=>(tabs S).sz.getD i 0) from rfl,Int.natCast_add]at q';exact q'
 |_=>cases hF
theorem aDi{k:Nat}(F:Fun K "__init__" "Num.__init__" iM f fd):jJ (k+2) f fd ["self","width"] (aEw Va "width"):=by
 w_cond aCm;obtain⟨a,dx,v,H1,rfl,hA,g,h0,q⟩:=h;refine⟨_,(jD (xI (pv 0) (pv 1) rfl)),?_⟩;exact⟨_,rfl,_,rfl,a,Va,dx,[],rfl,hA,Ua.cl,Ua.na _ (by decide),by decide,q _ (g.putn h0) jO⟩
theorem sI{k:Nat}(F:Fun K "__init__" "Nested.__init__" cJ f fd):jJ (k+2) f fd ["self","shape"] (aEw Vb "shape"):=by
 w_cond sE;obtain⟨a,dx,v,H1,rfl,hA,g,h0,q⟩:=h;refine⟨_,(jD (xI (pv 0) (pv 1) rfl)),?_⟩;exact⟨_,rfl,_,rfl,a,Vb,dx,[],rfl,hA,Ub.cl,Ub.na _ (by decide),by decide,q _ (g.putn h0) jO⟩
theorem aAo{k:Nat}(F:Fun K "__init__" "Many.__init__" eA f fd):jJ (k+2) f fd ["self","count","kind"] (spI2 Vc "count" "kind"):=by
 w_cond aAw;obtain⟨a,dx,v,u,H1,rfl,hA,g,h0,q⟩:=h;refine⟨_,(jC (xI (pv 0) (pv 1) rfl) (jD (xI (pv 0) (pv 2) rfl))),?_⟩;exact⟨_,rfl,_,rfl,a,Vc,dx,[],rfl,hA,Uc.cl,Uc.na _ (by decide),by decide,_,rfl,_,rfl,a,Vc,dx,_,rfl,jO,Uc.cl,Uc.na _ (by decide),(by show 1<1000;decide),q _ ((g.putn h0).putn h0) jO⟩
theorem wN{k:Nat}(F:Fun K "__init__" "Pick.__init__" eM f fd):jJ (k+2) f fd ["self","shapes"] (spIT K Vd "shapes"):=by
 w_cond aAi;obtain⟨a,dx,l,ys,H1,rfl,hA,g,h0,hl,q⟩:=h;refine⟨_,(jD (xI (pv 0) (qR cA rfl M.tuple boot_tuple (jA (pv 1) jB)) rfl)),?_⟩;refine⟨_,rfl,l,ys,rfl,.inl ⟨g.seq hl,fun t ht=>?_⟩⟩;clear 1 t H2 g2 k2 ht;exact⟨_,rfl,a,Vd,dx,[],rfl,g2 _ _ hA,Ud.cl,Ud.na _ (by decide),by decide,q t _ ((g.trans g2).putn h0) jO (SqT.of (by rw[jY (Aj (jL hA ht))];exact k2))⟩
theorem sM{k:Nat}(F:Fun K "__init__" "Shapes.__init__" bT f fd):jJ (k+2) f fd ["self","shapes"] (spIT K Vf "shapes"):=by
 w_cond tF;obtain⟨a,dx,l,ys,H1,rfl,hA,g,h0,hl,q⟩:=h;refine⟨_,(jD (xI (pv 0) (qR cA rfl M.tuple boot_tuple (jA (pv 1) jB)) rfl)),?_⟩;refine⟨_,rfl,l,ys,rfl,.inl ⟨g.seq hl,fun t ht=>?_⟩⟩;clear 1 t H2 g2 k2 ht;exact⟨_,rfl,a,Vf,dx,[],rfl,g2 _ _ hA,Uf.cl,Uf.na _ (by decide),by decide,q t _ ((g.trans g2).putn h0) jO (SqT.of (by rw[jY (Aj (jL hA ht))];exact k2))⟩
theorem dR{k:Nat}(F:Fun K "units_at" "Num.units_at" aQ f fd):jJ (k+2) f fd ["self","path"] (spU (jK 0) K r Kd.isNum):=by
 w_cond oQ;obtain⟨a,p,kd,sa,S,rfl,hp,hF,hk,hf,ho,hw,hg,q⟩:=h;refine⟨_,(jD (jJ (kK (jA (qP (jA (pv 1) (jA (kW (pv 0) rfl) (jA jH jB)))) jB)))),?_⟩;cases id ho with
 |num h1 =>
  refine⟨_,rfl,_,rfl,a,Va,_,_,_,rfl,h1,Ua.cl,Ua.na _ (by decide),rfl,oU,fun t ht=>?_⟩;clear 1 t H1 g1 k1 ht;refine⟨iF,fun l hl=>?_⟩;clear 1 l H2 g2 k2 hl;exact q l H2 (g1.trans g2) (g1.free hl) ⟨[t],k2,.cons (g2.tp (SqT.of k1)) .nil⟩
 |_=>cases hF
theorem mT{r:Nat}(F:Fun K "units_at" "Pick.units_at" zQ f fd)(gq:Df K mg "joined" jj iw ["path","step"])(rl:jJ k jj iw ["path","step"] sX)(di:DfM K Vd "greatest" dh df ["self"])(ia:jJ k dh df ["self"] (spGr (jK 0) K (r+1))):jJ (k+2) f fd ["self","path"] (spU (jK 0) K (r+1) Kd.isPick):=by
 w_cond nN;obtain⟨a,p,kd,sa,S,rfl,hp,hF,hk,hf,ho,hw,hg,q⟩:=h;refine⟨_,(jD (jJ (kK (jA (qP (jA (jK rl hr rfl gq.m gq.k gq.b .nil jQ (jA (pv 1) (jA jH jB))) (jA jE (jA jH jB)))) (jA (qP (jA (pv 1) (jA (yB (pv 0) Ud.cl di.me ia hr di.b .nil jQ) (jA jH jB)))) jB))))),?_⟩;cases id ho with
 | @pick a dx t is ss h1 h2 h3 h4 =>
  refine⟨_,rfl,p,_,_,rfl,rfl,(by omega),(by decide),oU,fun t1 ht1=>?_⟩;clear 1 t1 H1 g1 k1 ht1;refine⟨_,rfl,_,rfl,a,dx,_,rfl,g1 _ _ h1,rfl,a,is,sa,S,rfl,hk,hf,ho.same g1,hw.same g1,hg,fun H2 g2=>⟨oU,fun t2 ht2=>?_⟩⟩;clear 1 t2 H3 g3 k3 ht2;refine⟨vD,fun l hl=>?_⟩;clear 1 l H4 g4 k4 hl;exact q l H4 (((g1.trans g2).trans g3).trans g4) (((g1.trans g2).trans g3).free hl) ⟨[t1,t2],k4,.cons (((g2.trans g3).trans g4).tp (SqT.of k1)) (.cons (g4.tp (SqT.of k3)) .nil)⟩
 |_=>cases hF
theorem mW{k:Nat}(F:Fun K "parted" "Nested.parted" zU f fd):jJ (k+2) f fd ["self"] (spP (jK 0) K Kd.isNest):=by
 w_cond mU;obtain⟨a,kd,sa,S,rfl,hF,hf,ho,hw,hg,q⟩:=h;refine⟨_,(jD (jJ (qR lH rfl M.list boot_list (jA (kW (kW (pv 0) rfl) rfl) jB)))),?_⟩;cases id ho with
 | @nest a dx s i e h1 =>
  obtain⟨sh,hs,so⟩:=hw.at e;obtain⟨dx2,t,ps,k1,k2,k3⟩:=so.fields;refine⟨_,rfl,a,Vb,_,_,_,rfl,h1,Ub.cl,Ub.na _ (by decide),rfl,s,Ve,_,_,_,rfl,k1,Ue.cl,Ue.na _ (by decide),rfl,t,_,rfl,.inr k2,fun l hl=>?_⟩;clear 1 l H1 g1 kl hl;refine q l H1 g1 hl ⟨ps,kl,?_⟩;rw[show(Kd.nest i).parts S=sh.2 by show(S.getD i _).2=_;rw[Φ,hs];rfl];exact k3.same g1
 |_=>cases hF
theorem rL{k:Nat}(F:Fun K "parted" "Many.parted" bS f fd):jJ (k+2) f fd ["self"] (spP (jK 0) K Kd.isMany):=by
 w_cond rJ;obtain⟨a,kd,sa,S,rfl,hF,hf,ho,hw,hg,q⟩:=h;refine⟨_,(jD (jJ (qF ["number"] ["self"] [0] rfl (xT rfl M.range (jA (kW (pv 0) rfl) jB)) rfl ⟨rfl,trivial⟩ ⟨⟨rfl,rfl,rfl,_,rfl⟩,trivial⟩ (fun _ _ _ _=>(jM (i:=0) (show yt (["number","self"]:List Str) from by ac_rfl) rfl (yp rfl))) (fun _ _ _ _=>qB) (fun _ _ _ _=>(qP (jA (pv 0) (jA (aBf (K:=K) rfl (pv 1) rfl) jB))))))),?_⟩;cases id ho with
 | @many a dx b n k h1 h2 =>
  have hn:n<=6:=hf.2.1;refine⟨_,rfl,a,Vc,_,_,_,rfl,h1,Uc.cl,Uc.na _ (by decide),rfl,n,rfl,by omega,by omega,bE (n:=n) (fun j ys H'=>jF H H'/\∃tt:List Addr,ys=tt.map V.ref/\tt.length=j/\PR (jK 0) K H' sa tt ((zw j).map fun j=>(ε (toString j),k))) ⟨jF.refl _,[],rfl,rfl,.nil⟩ (fun j ys H' _ z=>?_) (kN (by omega)) (fun j ys H' hj z=>?_) (fun ys H' z p hp=>?_)⟩
  ·obtain⟨_,tt,rfl,hl,_⟩:=z;rw[δ];omega
  ·obtain⟨g,tt,rfl,hl,hP⟩:=z;refine⟨_,rfl,_,rfl,a,Vc,_,_,_,rfl,g _ _ h1,Uc.cl,Uc.na _ (by decide),rfl,vD,fun t ht=>?_⟩;clear 1 t H1 g1 k1 ht;refine⟨⟨g.trans g1,tt++[t],by rw[ξ];rfl,by rw[ι,hl];rfl,?_⟩,_,rfl⟩;rw[BU,ξ];refine(hP.same g1).snoc (x:=.int ((0:Int)+(j:Nat))) (SqT.of k1) ?_ (h2.same (g.trans g1));rw[DJ];exact if_pos (by show(j:Nat)<2 ^ 100;exact χ hj (by omega))
  ·obtain⟨g,tt,rfl,hl,hP⟩:=z;clear 1 p H1 g1 k1 hp;exact q p H1 (g.trans g1) (g.free hp) ⟨tt,k1,hP.same g1⟩
 |_=>cases hF
theorem cS{k r:Nat}{FF:Kd->Bool}(hFF:∀k,FF k=true->(∃i,k=.nest i)\/∃n q,k=.many n q)(F:Fun K "units_at" "Kind.units_at" zR f fd)(wy:∀C sp,TPt (jK 0) K C sp->zB P w K mg base CX0 k "parted" C sp)(kq:∀C sp,TU (jK 0) K r C sp->zB P w K mg base CX0 k "units_at" C sp){jj:Addr}{iw:zb}(gq:Df K mg "joined" jj iw ["path","step"])(rl:jJ k jj iw ["path","step"] sX):jJ (k+2) f fd ["self","path"] (spU (jK 0) K (r+1) FF):=by
 w_cond xV;obtain⟨a,p,kd,sa,S,rfl,hp,hF,hk,hf,ho,hw,hg,q⟩:=h;refine⟨_,(jC (jU (i:=2) xV.nd rfl (by walk_at"o") (kK jB)) (jC (vF yw rfl (kU (aK (pv 0) wy hr jQ)) (xZ rfl (jW (jM (i:=3) xV.nd rfl (yp rfl)) (jW (jM (i:=4) xV.nd rfl (yp rfl)) qL))) (jD (vL (xA yy Dn Do mX (pv 2) (jA (lA (pv 4) kq hr jQ (jA (jK rl hr rfl gq.m gq.k gq.b .nil jQ (jA (pv 1) (jA (pv 3) jB))) jB)) jB))))) (jD (jJ (pv 2))))),?_⟩;refine⟨zL,fun l hl=>?_⟩;generalize e1:upd H l _=H1;obtain⟨g1,k1⟩:=qN e1 hl;refine⟨_,rfl,callP (aFr (by simp)) (hFF kd hF) hf (ho.same g1) (hw.same g1) hg fun l2 H2 g2 hl2 zq=>?_⟩;obtain⟨tt,k2,pr⟩:=zq;have kl2:=g2 _ _ k1;have n2:l2≠l:=Aj (jL k1 hl2);have hw2:=hw.same (g1.trans g2);have zl:tt.length=(kd.parts S).length:=pr.len;have bd:=Kd.size_bd hg.sz (by decide) hf;have lens:∀j,(((kd.parts S).take j).flatMap fun f=>un f.2 S (pj p f.1)).length<=6000:=fun j=>by
  have h1:(un kd S p).length<=_:=(hg.kd hf).2 p;rw[Kd.parts_un hg hf (hFF kd hF)]at h1
  conv at h1=>lhs;rw[←BN j (kd.parts S)]
  rw[By,ι]at h1;omega
 refine⟨l2,rfl,⟨_,SqL.of k2⟩,vN (xs:=tt.map V.ref) (fun j σ H'=>∃o3 o4,σ = [some (.ref a),some (.str p),some (.ref l),o3,o4]/\But l H2 H'/\UL K H' l (((kd.parts S).take j).flatMap fun f=>un f.2 S (pj p f.1))) ⟨_,_,rfl,But.refl,[],kl2,.nil⟩ (fun j σ H' _ z=>?_) (fun j x σ H' hx z=>?_) (fun σ H' z=>?_)⟩
 ·obtain⟨o3,o4,rfl,g,_⟩:=z;exact SqL.of (g _ _ n2 k2)
 ·obtain⟨o3,o4,rfl,g,us,ku,ur⟩:=z;obtain⟨t,ht,rfl⟩:=qH hx;obtain⟨x,y,kd',kk,hps,hq,hx',hko⟩:=pr.get ht;obtain⟨p1,p2,p3,p4⟩:=Kd.parts_ok hg hf hk (ο hps);obtain⟨C',dx',fs',sp',m1,m2,m3,m4⟩:=kdU (aFr (m:="units_at") (by simp)) p1 p2 (hko.but g kl2) (hw2.but g kl2) hg;have hyl:(pj p y).length<=p.length+7:=by
   have e1:(ε ".").length=1:=rfl;have p4':y.length<=6:=p4;unfold pj
   split
   ·omega
   ·rw[Ax,Ax];omega
  refine⟨t,_,rfl,g.tup kl2 hq,rfl,_,_,rfl,_,_,rfl,rfl,_,rfl,.inl ⟨rfl,_,SqL.of ku⟩,_,rfl,kk,C',dx',fs',sp',rfl,m1,m2,m3,_,rfl,_,rfl,p,x,y,rfl,hx',(by omega),(by have p4':y.length<=6:=p4;omega),m4 _ _ _ (by omega) fun l3 H3 g3 hl3 zq=>?_⟩;obtain⟨us3,k3,ur3⟩:=zq;have ku3:=g3 _ _ ku;have h6:=lens (j+1);rw[aFy hps,ι,←ur.len,←ur3.len]at h6;refine⟨l,l3,_,_,rfl,rfl,ku3,k3,(by rw[ym,δ,δ];omega),?_⟩;clear 0 l H4 g4 k4;refine⟨_,_,rfl,(g.trans (But.of g3)).trans g4,us++us3,by rw[ξ];exact k4,?_⟩;rw[aFy hps];exact((ur.same g3).but g4 ku3).app (ur3.but g4 ku3)
 ·obtain⟨o3,o4,rfl,g,u⟩:=z;rw[δ,zl,vC]at u;refine⟨_,rfl,q l H' (But.from (g1.trans g2) hl g) hl ?_⟩;rw[Kd.parts_un hg hf (hFF kd hF)];exact u
theorem pY(F:Fun K "units" "Shape.units" bX f fd)(cu:DfI K ay ["self","shape"])(cw:jJ k cIv ay ["self","shape"] (aEw Vb "shape"))(kq:∀C sp,TU (jK 0) K r C sp->zB P w K mg base CX0 k "units_at" C sp):jJ (k+2) f fd ["self"] (aQn (jK 0) K r):=by
 w_cond sC;obtain⟨a,i,sa,S,rfl,e,hi,h8,hw,hg,q⟩:=h;refine⟨_,(jD (jJ (lA (xH Ub.ma cw hr0 rfl Ub.m cu.b .nil jQ (jA (pv 0) jB)) kq hr jQ (jA jH jB)))),?_⟩;refine⟨_,rfl,fun x dx hx hdx _=>⟨x,dx,.ref a,H,rfl,jO,cV hx hdx,hx,fun H1 g1 k1=>⟨rfl,?_⟩⟩⟩;have hil:i<S.length:=by rw[←hw.1];exact(θ.mp e).1
 obtain⟨C',dx',fs',sp',m1,m2,m3,m4⟩:=kdU (kd:=.nest i) (r:=r) (aFr (m:="units_at") (by simp)) hi hil (.nest e k1) (hw.same g1) hg;exact⟨x,C',dx',fs',sp',rfl,m1,m2,m3,m4 _ _ _ (by show 0+8*r<=200;omega) fun l H2 g2 hl u=>q l H2 (g1.trans g2) (g1.free hl) u⟩
theorem tY{k:Nat}(F:Fun K "__init__" "Shape.__init__" dB f fd):jJ (k+2) f fd ["self","name","fields"] (aMt (jK 0) K):=by
 w_cond uA;obtain⟨a,dx,fl,nm,ps,fs,sa,H1,rfl,hA,g,h0,hl,hP,hn,q⟩:=h;refine⟨_,(jC (xI (pv 0) (pv 1) rfl) (jD (xI (pv 0) (qR cA rfl M.tuple boot_tuple (jA (qF ["field","kind"] [] [] rfl (aSk (pv 2)) rfl trivial trivial (fun _ _ _ _=>(yX (K:=K) (n:=2) rfl rfl (jW (jM (i:=0) (show yt (["field","kind"]:List Str) from by ac_rfl) rfl (yp rfl)) (jW (jM (i:=1) (show yt (["field","kind"]:List Str) from by ac_rfl) rfl (yp rfl)) qL)))) (fun _ _ _ _=>qB) (fun _ _ _ _=>(qP (jA (pv 0) (jA (pv 1) jB))))) jB)) rfl))),?_⟩;refine⟨_,rfl,_,rfl,a,Ve,dx,[],rfl,hA,Ue.cl,Ue.na _ (by decide),by decide,?_⟩;have ga:jF H1 (upd H a (.ins Ve dx (aN "name" (.str nm) []))):=g.putn h0;have ka:upd H a (.ins Ve dx (aN "name" (.str nm) [])) a=some (.ins Ve dx [("name",.str nm)]):=jO;generalize upd H a (.ins Ve dx (aN "name" (.str nm) []))=H2 at ga ka;have zl:(ps.map V.ref).length=fs.length:=by rw[δ];exact hP.len
 have turn:∀(j:Nat) (x:V) (ys:List V) (H':Hp) (Pv:Nat->List V->Hp->Prop),Pv=(fun j ys H'=>jF H2 H'/\∃tt:List Addr,ys=tt.map V.ref/\tt.length=j/\FO (jK 0) K H' sa tt (fs.take j))->(ps.map V.ref)[j]?=some x->Pv j ys H'->∃t nm kk,x=.ref t/\SqT K H' t [.str nm,.ref kk]/\∀u,H' u=none->Pv (j+1) (ys++[.ref u]) (upd H' u (.tup [.str nm,.ref kk])):=by
  intro j x ys H' Pv eP hx z;subst eP;obtain⟨g2,tt,rfl,htl,hF⟩:=z;obtain⟨t,ht,rfl⟩:=qH hx;obtain⟨nm',kd,kk,hfs,hq,hko⟩:=hP.get ht;refine⟨t,nm',kk,rfl,g2.tp (ga.tp hq),fun u hu=>?_⟩;generalize e3:upd H' u _=H3;obtain⟨g3,k3⟩:=qN e3 hu;refine⟨g2.trans g3,tt++[u],by rw[ξ];rfl,by rw[ι,htl];rfl,?_⟩;have:=(hF.same g3).snoc (SqT.of k3) (hko.same ((ga.trans g2).trans g3));rw[zu,hfs];exact this
 have fin:∀(ys:List V) (H':Hp),(jF H2 H'/\∃tt:List Addr,ys=tt.map V.ref/\tt.length=(ps.map V.ref).length/\FO (jK 0) K H' sa tt (fs.take (ps.map V.ref).length))->∀p,H' p=none->∀t,upd H' p (.lst ys) t=none->Q .non (upd (upd (upd H' p (.lst ys)) t (.tup ys)) a (.ins Ve dx [("name",.str nm),("fields",.ref t)])):=by
  intro ys H' z p hp t ht;obtain⟨g2,tt,rfl,htl,hF⟩:=z;generalize e3:upd H' p _=H3 at ht;obtain⟨g3,k3⟩:=qN e3 hp;clear 1 t H4 g4 k4 ht;have ka4:H4 a=_:=(g2.trans g3 |>.trans g4) _ _ ka;rw[zl,vC]at hF;have G:jF H1 (upd H4 a (.ins Ve dx [("name",.str nm),("fields",.ref t)])):=(((ga.trans g2).trans g3).trans g4).putn h0;have nta:t≠a:=Aj (jL ((g2.trans g3) _ _ ka) ht);refine q t tt _ G jO (SqT.of (by rw[jY nta];exact k4)) ?_;exact FO.insD (hF.same (g3.trans g4)) ka4
 have st:jF H2 H2/\∃tt:List Addr,([]:List V)=tt.map V.ref/\tt.length=0/\FO (jK 0) K H2 sa tt (fs.take 0):=⟨jF.refl _,[],rfl,rfl,by rw[List.take_zero];exact .nil⟩;have lst:∀(H':Hp) (p t:Addr) (ys:List V),(jF H2 H'/\∃tt:List Addr,ys=tt.map V.ref/\tt.length=(ps.map V.ref).length/\FO (jK 0) K H' sa tt (fs.take (ps.map V.ref).length))->H' p=none->upd H' p (.lst ys) t=none->upd (upd H' p (.lst ys)) t (.tup ys) a=some (.ins Ve dx [("name",.str nm)]):=fun H' p t ys z hp ht=>(xQ ht _) _ _ ((xQ hp _) _ _ (z.1 _ _ ka));refine⟨_,rfl,fl,rfl,?_⟩;rcases hl with hl|hl
 ·refine .inl ⟨⟨_,ga.seq hl⟩,yI (xs:=ps.map V.ref) (fun j ys H'=>jF H2 H'/\∃tt:List Addr,ys=tt.map V.ref/\tt.length=j/\FO (jK 0) K H' sa tt (fs.take j)) st (fun j ys H' _ z=>⟨z.1.seq (ga.seq hl),by obtain⟨_,tt,rfl,hl,_⟩:=z;rw[δ];omega⟩) (kN (by omega)) (fun j x ys H' os ho hx z=>?_) (fun ys H' z p hp=>⟨p,ys,rfl,.inl ⟨SqL.of jO,fun t ht=>⟨_,rfl,a,Ve,dx,_,rfl,lst H' p t ys z hp ht,Ue.cl,Ue.na _ (by decide),(by show 1<1000;decide),fin ys H' z p hp t ht⟩⟩⟩)⟩;obtain⟨o1,o2,rfl⟩:=oV ho;obtain⟨t,nm',kk,rfl,hq,nxt⟩:=turn j x ys H' _ rfl hx z;exact⟨t,_,rfl,hq,rfl,_,_,rfl,_,_,rfl,rfl,_,rfl,_,rfl,vD,fun u hu=>⟨nxt u hu,[_,_],rfl,rfl⟩⟩
 ·refine .inr ⟨⟨_,ga.tp hl⟩,fZ (xs:=ps.map V.ref) (fun j ys H'=>jF H2 H'/\∃tt:List Addr,ys=tt.map V.ref/\tt.length=j/\FO (jK 0) K H' sa tt (fs.take j)) st (fun j ys H' _ z=>⟨z.1.tp (ga.tp hl),by obtain⟨_,tt,rfl,hl,_⟩:=z;rw[δ];omega⟩) (kN (by omega)) (fun j x ys H' os ho hx z=>?_) (fun ys H' z p hp=>⟨p,ys,rfl,.inl ⟨SqL.of jO,fun t ht=>⟨_,rfl,a,Ve,dx,_,rfl,lst H' p t ys z hp ht,Ue.cl,Ue.na _ (by decide),(by show 1<1000;decide),fin ys H' z p hp t ht⟩⟩⟩)⟩;obtain⟨o1,o2,rfl⟩:=oV ho;obtain⟨t,nm',kk,rfl,hq,nxt⟩:=turn j x ys H' _ rfl hx z;exact⟨t,_,rfl,hq,rfl,_,_,rfl,_,_,rfl,rfl,_,rfl,_,rfl,vD,fun u hu=>⟨nxt u hu,[_,_],rfl,rfl⟩⟩
theorem aBe(F:Fun K "is_single" "is_single" eF f fd)(au:Df K mg "number_in" bw br ["text","low","high"])(dn:jJ k bw br ["text","low","high"] (aU K))(af:Df K mg "is_name" aq am ["thing"])(bz:jJ k aq am ["thing"] (zM K)):jJ (k+2) f fd ["words"] (spSg K):=by
 w_cond aBi;obtain⟨a,ws,rfl,hl,hs,q⟩:=h;refine⟨_,(jC (kM (jP qI (jX kF (pv 0) jE (fun _ _=>rfl)) jH (jT _)) (jD (jJ (aC (vA qI (jZ kG rfl M.len yn (jA (pv 0) jB)) jE (jT _)) (bV (vA pJ (jK dn hr rfl au.m au.k au.b .nil jQ (jA (jX kF (pv 0) jE (fun _ _=>rfl)) (jA jE (jA (qC (v:=.int 4) rfl C.MOST_WIDTH ⟨_,rfl⟩) jB)))) xC (jT _)))))) jR) (jD (jJ (aC (vA qI (jZ kG rfl M.len yn (jA (pv 0) jB)) jE (jT _)) (bV (jK bz hr rfl af.m af.k af.b .nil jQ (jA (jX kF (pv 0) jE (fun _ _=>rfl)) jB))))))),?_⟩;rcases hs with⟨w,w1,w4,rfl⟩|⟨x,hx,rfl⟩
 ·obtain⟨d1,d2,d3,_⟩:=dig (w:=w) (by omega);refine⟨_,rfl,a,_,_,_,rfl,rfl,hl,rfl,rfl,_,rfl,vJ (by decide) ⟨_,rfl,a,_,rfl,.inl hl,rfl,_,rfl,vJ (by simp) ⟨_,rfl,a,_,_,_,rfl,rfl,hl,rfl,.str _,1,4,rfl,.inl ⟨_,rfl,by omega,fun H1 g1=>⟨rfl,?_⟩⟩⟩⟩⟩;rw[d1,show vO (some (w:Int)) 1 4=some (w:Int) from if_pos ⟨by omega,by omega⟩];exact q H1 g1
 ·have hne:=cY hx (y:="num") (by decide);refine⟨_,rfl,a,_,_,_,rfl,rfl,hl,rfl,rfl,_,rfl,kS (by simpa using hne) ⟨_,rfl,a,_,rfl,.inl hl,rfl,_,rfl,vJ (by simp) ⟨_,rfl,a,_,_,_,rfl,rfl,hl,rfl,.str x,rfl,.inl ⟨x,rfl,by have:=(vV hx).2;omega,fun H1 g1=>?_⟩⟩⟩⟩;rw[hx];exact q H1 g1
theorem aFi(F:Fun K "is_kind" "is_kind" nC f fd)(au:Df K mg "number_in" bw br ["text","low","high"])(dn:jJ k bw br ["text","low","high"] (aU K))(dw:Df K mg "is_single" qe om ["words"])(qf:jJ k qe om ["words"] (spSg K))(af:Df K mg "is_name" aq am ["thing"])(bz:jJ k aq am ["thing"] (zM K)):jJ (k+2) f fd ["words"] (spKd K):=by
 w_cond aEb;obtain⟨a,nm,n,kd,rfl,hl,hf,hn,q⟩:=h;refine⟨_,(jC (kM (jP qI (jX kF (pv 0) jE (fun _ _=>rfl)) jH (jT _)) (jD (jJ (aC (vA dU (jZ kG rfl M.len yn (jA (pv 0) jB)) jE (jT _)) (aC (vA pJ (jK dn hr rfl au.m au.k au.b .nil jQ (jA (jX kF (pv 0) jE (fun _ _=>rfl)) (jA jE (jA (qC (v:=.int 6) rfl C.MOST_COUNT ⟨_,rfl⟩) jB)))) xC (jT _)) (bV (jK qf hr rfl dw.m dw.k dw.b .nil jQ (jA (kZ qM (pv 0) (qE jE) qU) jB))))))) jR) (jC (kM (jP qI (jX kF (pv 0) jE (fun _ _=>rfl)) jH (jT _)) (jD (jJ (aC (aJp oB oB (qC (v:=.int 2) rfl C.LEAST_PICKED ⟨_,rfl⟩) (jS iR (jZ kG rfl M.len yn (jA (pv 0) jB)) jE) (qC (v:=.int 4) rfl C.MOST_PICKED ⟨_,rfl⟩)) (bV (jZ (rG rfl) rfl M.all boot_all (jA (qF ["word"] [] [] rfl (kU (kZ qM (pv 0) (qE jE) qU)) rfl trivial trivial (fun _ _ _ _=>(jM (i:=0) (show yt (["word"]:List Str) from by ac_rfl) rfl (yp rfl))) (fun _ _ _ _=>qB) (fun _ _ _ _=>(jK bz hr rfl af.m af.k af.b .nil jQ (jA (pv 0) jB)))) jB)))))) jR) (jD (jJ (jK qf hr rfl dw.m dw.k dw.b .nil jQ (jA (pv 0) jB)))))),?_⟩;cases kd with
 |num w=>exact⟨_,rfl,a,_,_,_,rfl,rfl,hl,rfl,rfl,_,rfl,kS (by decide) ⟨_,rfl,a,_,_,_,rfl,rfl,hl,rfl,rfl,_,rfl,kS (by decide) ⟨_,rfl,a,_,rfl,hl,.inl ⟨w,hf.1,hf.2,rfl⟩,q⟩⟩⟩
 |nest i =>
  have hx:=hn i hf;have h1:=cY hx (y:="row") (by decide);have h2:=cY hx (y:="pick") (by decide);exact⟨_,rfl,a,_,_,_,rfl,rfl,hl,rfl,rfl,_,rfl,kS (by simpa using h1) ⟨_,rfl,a,_,_,_,rfl,rfl,hl,rfl,rfl,_,rfl,kS (by simpa using h2) ⟨_,rfl,a,_,rfl,hl,.inr ⟨_,hx,rfl⟩,q⟩⟩⟩
 |many m k =>
  have hm:=hf.2.1;have hm1:=hf.1;obtain⟨d1,d2,d3,_⟩:=dig (w:=m) (by omega);have hne:=Kd.words_ne nm k;have h0 : 0<(k.words nm).length:=Aq.mpr hne;have hl':SqL K H a (V.str (ε "row")::V.str (ε (toString (m:Int)))::(k.words nm).map V.str):=hl;refine⟨_,rfl,a,_,_,_,rfl,rfl,hl',at0,rfl,_,rfl,vJ (by decide) ⟨_,rfl,a,_,rfl,.inl hl',_,_,rfl,rfl,_,rfl,vJ (by simp;omega) ⟨_,rfl,a,_,_,_,rfl,rfl,hl',at1,.str _,1,6,rfl,.inl ⟨_,rfl,by omega,fun H1 g1=>⟨rfl,_,rfl,?_⟩⟩⟩⟩⟩;rw[d1,show vO (some (m:Int)) 1 6=some (m:Int) from if_pos ⟨by omega,by omega⟩];refine vJ (by rfl) ⟨_,rfl,_,rfl,a,_,rfl,g1.seq hl,fun p hp=>?_⟩;rw[show zW ((Kd.words nm (.many m k)).map V.str) (some 2) none=(k.words nm).map V.str from aQh _ _ _];clear 1 p H2 g2 k2 hp;refine⟨p,k.words nm,rfl,SqL.of k2,?_,fun H3 g3=>q H3 ((g1.trans g2).trans g3)⟩;rcases hf.2.2 with⟨w,rfl,hw⟩|⟨i,rfl,hi⟩
  ·exact .inl ⟨w,hw.1,hw.2,rfl⟩
  ·exact .inr ⟨_,hn i hi,rfl⟩
 |pick is =>
  have h1:=hf.1;have h2:=hf.2.1;have hl':SqL K H a (V.str (ε "pick")::(is.map nm).map V.str):=hl;have zl:((is.map nm).map V.str).length=is.length:=by rw[δ,δ]
  refine⟨_,rfl,a,_,_,_,rfl,rfl,hl',at0,rfl,_,rfl,kS (by decide) ⟨_,rfl,a,_,_,_,rfl,rfl,hl',at0,rfl,_,rfl,vJ (by decide) ⟨_,rfl,a,_,rfl,.inl hl',_,_,rfl,rfl,_,_,rfl,rfl,_,rfl,vJ (by simp;omega) ⟨_,_,rfl,rfl,_,rfl,vJ (by simp;omega) ⟨_,rfl,_,rfl,a,_,rfl,hl',fun p hp=>?_⟩⟩⟩⟩⟩;rw[aDf];clear 1 p H2 g2 k2 hp;refine⟨p,rfl,⟨_,SqL.of k2⟩,vQ (xs:=(is.map nm).map V.str) (fun j ys H'=>jF H2 H'/\ys=((is.take j).map fun _=>true).map V.bl) ⟨jF.refl _,rfl⟩ (fun j ys H' _ z=>⟨z.1.seq (SqL.of k2),by rw[z.2,δ,δ,yh];exact Aa _ _⟩) (kN (by omega)) (fun j x ys H' hx z=>?_) (fun ys H' z p hp=>?_)⟩
  ·obtain⟨g,rfl⟩:=z;obtain⟨y,hy,rfl⟩:=vK hx;rw[yv]at hy;cases e:is[j]? with
   |none=>rw[e]at hy;cases hy
   |some i =>
    rw[e]at hy;cases hy;have hx:=hn i (hf.2.2.2 i (ο e));refine⟨_,rfl,.str (nm i),rfl,.inl ⟨_,rfl,by have:=(vV hx).2;omega,fun H3 g3=>⟨⟨g.trans g3,?_⟩,_,rfl⟩⟩⟩;rw[vM e,hx,ξ];rfl
  ·obtain⟨g,rfl⟩:=z;have g3:=xQ hp (.lst (((is.take ((is.map nm).map V.str).length).map fun _=>true).map V.bl));refine⟨p,_,rfl,SqL.of jO,?_⟩;rw[show((is.take ((is.map nm).map V.str).length).map fun _=>true).all id=true from ze.mpr fun b hb=>by obtain⟨_,_,rfl⟩:=yj.mp hb;rfl];exact q _ ((g2.trans g).trans g3)
theorem mJ(F:Fun K "is_field_line" "is_field_line" aB f fd)(af:Df K mg "is_name" aq am ["thing"])(bz:jJ k aq am ["thing"] (zM K))(oo:Df K mg "is_kind" uo sg ["words"])(xa:jJ k uo sg ["words"] (spKd K)):jJ (k+2) f fd ["words"] (spFl K):=by
 w_cond mY;obtain⟨a,nm,n,kd,fn,rfl,hl,hfn,hf,hn,q⟩:=h;refine⟨_,(jD (jJ (aC (vA dU (jZ kG rfl M.len yn (jA (pv 0) jB)) jE (jT _)) (aC (jK bz hr rfl af.m af.k af.b .nil jQ (jA (jX kF (pv 0) jE (fun _ _=>rfl)) jB)) (bV (jK xa hr rfl oo.m oo.k oo.b .nil jQ (jA (kZ qM (pv 0) (qE jE) qU) jB))))))),?_⟩;have h0 : 0<(kd.words nm).length:=Aq.mpr (Kd.words_ne nm kd);refine⟨_,rfl,a,_,rfl,.inl hl,_,_,rfl,rfl,_,rfl,vJ (by simp;omega) ⟨_,rfl,a,_,_,_,rfl,rfl,hl,at0,.str fn,rfl,.inl ⟨fn,rfl,by have:=(vV hfn).2;omega,fun H1 g1=>⟨_,rfl,vJ hfn ⟨_,rfl,_,rfl,a,_,rfl,g1.seq hl,fun p hp=>?_⟩⟩⟩⟩⟩;rw[show zW ((fn::kd.words nm).map V.str) (some 1) none=(kd.words nm).map V.str from aDf _ _];clear 1 p H2 g2 k2 hp;exact⟨p,nm,n,kd,rfl,SqL.of k2,hf,hn,fun H3 g3=>q H3 ((g1.trans g2).trans g3)⟩
theorem oP(F:Fun K "shapes_named" "shapes_named" aO f fd)(af:Df K mg "is_name" aq am ["thing"])(bz:jJ k aq am ["thing"] (zM K)):jJ (k+2) f fd ["words"] (aGe K):=by
 w_cond pB;obtain⟨a,nm,n,kd,fn,rfl,hl,hf,hn,q⟩:=h;refine⟨_,(jD (jJ (qF ["word"] [] [] rfl (kU (kZ qM (pv 0) (qE jE) qU)) rfl trivial trivial (fun _ _ _ _=>(jM (i:=0) (show yt (["word"]:List Str) from by ac_rfl) rfl (yp rfl))) (fun _ _ _ _=>(fV (xJ (jK bz hr rfl af.m af.k af.b .nil jQ (jA (pv 0) jB))))) (fun _ _ _ _=>(pv 0))))),?_⟩;obtain⟨w6,w5⟩:=gM hn hf;refine⟨_,rfl,_,rfl,a,_,rfl,hl,fun p hp=>?_⟩;rw[show zW ((fn::kd.words nm).map V.str) (some 1) none=(kd.words nm).map V.str from aDf _ _];clear 1 p H2 g2 k2 hp;refine⟨p,rfl,⟨_,SqL.of k2⟩,vQ (xs:=(kd.words nm).map V.str) (fun j ys H'=>jF H2 H'/\ys=(((kd.words nm).take j).filter kP).map V.str) ⟨jF.refl _,rfl⟩ (fun j ys H' hj z=>⟨z.1.seq (SqL.of k2),?_⟩) (kN (by rw[δ];omega)) (fun j x ys H' hx z=>?_) (fun ys H' z l hl=>?_)⟩
 ·rw[z.2,δ];refine yo (DQ ..) ?_;rw[yh];exact Aa _ _
 ·obtain⟨g,rfl⟩:=z;obtain⟨y,hy,rfl⟩:=vK hx;have hy6:=w6 y (ο hy);refine⟨_,rfl,.str y,rfl,.inl ⟨_,rfl,by omega,fun H3 g3=>⟨_,rfl,vE (fun c=>⟨_,rfl,⟨g.trans g3,?_⟩,_,rfl⟩) (fun c=>⟨⟨g.trans g3,?_⟩,_,rfl⟩)⟩⟩⟩
  ·rw[mS hy,if_pos c,ξ];rfl
  ·rw[mS hy,if_neg c,zh]
 ·obtain⟨g,rfl⟩:=z;clear 1 l H3 g3 k3 hl;rw[δ,vC,aAd hn hf]at k3;exact q l H3 ((g2.trans g).trans g3) ((g2.trans g).free hl) k3
theorem lC{k:Nat}(F:Fun K "need_new_shape" "need_new_shape" zG f fd):jJ (k+2) f fd ["told","line","name"] (aQb (jK 0) K):=by
 w_cond iX;obtain⟨tl,x,nm,sa,T,rfl,hl,hw,hne,hnm,hlen,q⟩:=h;refine⟨_,(jC (kM (PW.pt (yA (zK (pv 0) (fun _=>rfl)) (vX (yK (zK (kW (jX kF (pv 0) (bO yQ jE) (fun _ _=>rfl)) rfl) (fun _=>rfl)))))) (jD yF) jR) (jC (kM (jP vU (pv 2) (qF ["shape"] [] [] rfl (kU (pv 0)) rfl trivial trivial (fun _ _ _ _=>(jM (i:=0) (show yt (["shape"]:List Str) from by ac_rfl) rfl (yp rfl))) (fun _ _ _ _=>qB) (fun _ _ _ _=>(aBf (K:=K) rfl (pv 0) rfl))) (by with_unfolding_all rfl)) (jD yF) jR) (jD (kM (jP qI (jZ kG rfl M.len yn (jA (pv 0) jB)) (qC (v:=.int 8) rfl C.MOST_SHAPES ⟨_,rfl⟩) (jT _)) (jD yF) jR)))),?_⟩;have zl:(sa.map V.ref).length=T.length:=by rw[δ];exact hw.1
 refine wB (fun σ' H'=>σ'=[some (.ref tl),some x,some (.str nm)]/\H'=H) (fun σ' H' z=>?_) (fun nx hnx=>?_)
 ·obtain⟨rfl,rfl⟩:=z;refine⟨_,rfl,_,rfl,tl,rfl,⟨_,SqL.of hl⟩,vQ (xs:=sa.map V.ref) (fun j ys H2=>H2=H'/\ys=((T.take j).map (·.1)).map V.str) ⟨rfl,rfl⟩ (fun j ys H2 _ z=>⟨by rw[z.1];exact SqL.of hl,by rw[z.2,δ,δ,yh];exact Aa _ _⟩) (kN (by omega)) (fun j x ys H2 hx z=>?_) (fun ys H2 z p hp=>?_)⟩
  ·obtain⟨rfl,rfl⟩:=z;obtain⟨s,hs,rfl⟩:=qH hx;obtain⟨sh,hS,dx,t,ps,k1,_⟩:=hw.at hs;refine⟨_,rfl,s,Ve,_,_,_,rfl,k1,Ue.cl,Ue.na _ (by decide),rfl,⟨rfl,?_⟩,_,rfl⟩;rw[vM hS,ξ];rfl
  ·obtain⟨rfl,rfl⟩:=z;clear 1 p H3 g3 k3 hp;refine⟨p,_,rfl,.inl (SqL.of k3),rfl,qY _,_,rfl,?_⟩;rw[if_neg π,vB,zl,vC];refine kS (by rw[decide_eq_false hnm];decide) ⟨_,rfl,tl,_,rfl,.inl (SqL.of (g3 _ _ hl)),rfl,_,rfl,kS (by rw[zl];simp;omega) (q H3 g3)⟩
 ·rcases BO sa with rfl|⟨sa0,z,rfl⟩
  ·exact⟨_,rfl,false,.inl ⟨_,SqL.of hl,rfl⟩,kS (by decide) (kS (by decide) (hnx _ _ ⟨rfl,rfl⟩))⟩
  ·rw[BP]at *;obtain⟨s,hS,so⟩:=hw.at (i:=sa0.length) (a:=z) (by rw[yb (μ _),AA];rfl);obtain⟨dx,t,ps,k1,k2,k3⟩:=so;have hp:ps≠[]:=fun e=>hne s (ο hS) (AX.mp (by rw[←k3.len,e];rfl));exact⟨_,rfl,true,.inl ⟨_,SqL.of hl,by simp⟩,vJ rfl ⟨_,rfl,_,rfl,tl,_,_,_,rfl,rfl,SqL.of hl,aM _ _,z,Ve,_,_,_,rfl,k1,Ue.cl,Ue.na _ (by decide),rfl,true,.inr (.inl ⟨_,k2,by cases ps with|nil=>exact absurd rfl hp|cons _ _=>rfl⟩),kS (by decide) (hnx _ _ ⟨rfl,rfl⟩)⟩⟩
theorem oR{k:Nat}(F:Fun K "whole_shapes" "whole_shapes" bH f fd):jJ (k+2) f fd ["told"] (spWh (jK 0) K):=by
 w_cond oJ;obtain⟨tl,z,sa,T,s,rfl,hl,hw,hnd,hlen,q⟩:=h;refine⟨_,(jD (jJ (aLa ["shape"] [] [] rfl (kU (kZ qM (pv 0) qU (qE (bO yQ jE)))) rfl trivial trivial (fun _ _ _ _=>(jM (i:=0) (show yt (["shape"]:List Str) from by ac_rfl) rfl (yp rfl))) (fun _ _ _ _=>qB) (fun _ _ _ _=>(aBf (K:=K) rfl (pv 0) rfl)) (fun _ _ _ _=>(pv 0))))),?_⟩;obtain⟨hw0,_⟩:=hw.init;have zl:(sa.map V.ref).length=T.length:=by rw[δ];exact hw0.1
 refine⟨_,rfl,_,rfl,_,rfl,tl,_,rfl,SqL.of hl,fun p hp=>?_⟩;rw[cutC];generalize e2:upd H p _=H2;obtain⟨g2,k2⟩:=qN e2 hp;refine⟨p,rfl,⟨_,SqL.of k2⟩,aFh (xs:=sa.map V.ref) (fun D j ys H'=>jF H2 H'/\H2 D=none/\H' D=some (.dK ys)/\ys=dk (T.take j) (sa.take j)) (fun D hD=>⟨(jF.refl H2).putn hD,hD,jO,rfl⟩) (fun D j ys H' _ z=>z.1.seq (SqL.of k2)) (fun D j x ys H' hx z=>?_) (fun D ys H' z=>?_)⟩
 ·obtain⟨g,hD,kD,rfl⟩:=z;obtain⟨a,ha,rfl⟩:=qH hx;obtain⟨sh,hS,dx,t,ps,k1,_⟩:=hw0.at ha;have hj:=(θ.mp hS).1;have hnk:∀x∈dk (T.take j) (sa.take j),x.1≠(.inr sh.1:Key):=fun x hx e=>by
   obtain⟨u,hu,eu⟩:=aOv x hx;obtain⟨i,hi⟩:=Ai.mp hu;have hij:i<j:=by have:=(θ.mp hi).1;rw[yh]at this;omega
   rw[Bp hij]at hi;have e2:kO T i=kO T j:=by rw[vY hi,vY hS];exact AO.inj (eu.symm.trans e)
   have:=aKt hnd (θ.mp hi).1 hj e2;omega
  refine⟨_,rfl,a,Ve,_,_,_,rfl,g _ _ (g2 _ _ k1),Ue.cl,Ue.na _ (by decide),rfl,_,rfl,.inr sh.1,rfl,kD,?_,?_⟩
  ·have:(dk (T.take j) (sa.take j)).length<=100:=by unfold dk;rw[De,yh];omega
   exact zy this (by decide)
  ·rw[aJe hnk];exact⟨⟨g.putn hD,hD,jO,(aPh hS ha).symm⟩,_,rfl⟩
 ·obtain⟨g,hD,kD,rfl⟩:=z;rw[zl,vC,←hw0.1,vC]at kD;exact q D H' (g2.trans g) (g2.free hD) kD
theorem tR(F:Fun K "need_field" "need_field" dL f fd)(ib:Df K mg "is_field_line" jy jk ["words"])(si:jJ k jy jk ["words"] (spFl K))(ik:Df K mg "shapes_named" lf jz ["words"])(uf:jJ k lf jz ["words"] (aGe K))(cp:Df K mg "whole_shapes" dq dm ["told"])(il:jJ k dq dm ["told"] (spWh (jK 0) K)):jJ (k+2) f fd ["told","line","words"] (spNF (jK 0) K):=by
 w_cond yD;obtain⟨tl,a,z,x,sa,T,s,fn,kd,rfl,hl,hw,hws,hfn,hnew,hs100,hf,hn,hnd,hlen,q⟩:=h;refine⟨_,(jC (kM (PW.pt (sP (yK (zK (pv 0) (fun _=>rfl))) (iD (yK (xJ (jK si hr rfl ib.m ib.k ib.b .nil jQ (jA (pv 2) jB))))))) (jD yF) jR) (jC (kM (jP vU (jX kF (pv 2) jE (fun _ _=>rfl)) (qF ["name","kind"] [] [] rfl (fL (kW (jX kF (pv 0) (bO yQ jE) (fun _ _=>rfl)) rfl)) rfl trivial trivial (fun _ _ _ _=>(yX (K:=K) (n:=2) rfl rfl (jW (jM (i:=0) (show yt (["name","kind"]:List Str) from by ac_rfl) rfl (yp rfl)) (jW (jM (i:=1) (show yt (["name","kind"]:List Str) from by ac_rfl) rfl (yp rfl)) qL)))) (fun _ _ _ _=>qB) (fun _ _ _ _=>(pv 0))) (by with_unfolding_all rfl)) (jD yF) jR) (jC (jU (i:=3) yD.nd rfl (by walk_at"o") (jK uf hr rfl ik.m ik.k ik.b .nil jQ (jA (pv 2) jB))) (jC (vF yw rfl (aAx rfl M.enumerate (jA (pv 3) jB)) (xZ rfl (jW (jM (i:=4) yD.nd rfl (yp rfl)) (jW (jM (i:=5) yD.nd rfl (yp rfl)) qL))) (jD (kM (jP vU (pv 5) (kZ qM (pv 3) qU (qE (pv 4))) (by with_unfolding_all rfl)) (jD yF) jR))) (jD (vF yw rfl (kU (pv 3)) (jM (i:=5) yD.nd rfl (yp rfl)) (jD (kM (aAl (aIk hr.units1 (pv 5) (jK il hr rfl cp.m cp.k cp.b .nil jQ (jA (pv 0) jB)))) (jD yF) jR)))))))),?_⟩;obtain⟨hw0,dx,t,ps,k1,k2,k3⟩:=hw.init;obtain⟨n1,n4,n2⟩:=aCy hnd hf;have zl:(ps.map V.ref).length=s.2.length:=by rw[δ];exact k3.len
 refine⟨_,rfl,true,.inl ⟨_,SqL.of hl,by simp⟩,kS (by decide) ⟨_,rfl,a,kO T,T.length,kd,fn,rfl,hws,hfn,hf,hn,fun H1 g1=>⟨_,rfl,kS (by decide) ?_⟩⟩⟩;refine⟨_,rfl,a,_,_,_,rfl,rfl,g1.seq hws,at0,_,rfl,_,rfl,tl,_,_,_,rfl,rfl,SqL.of (g1 _ _ hl),aM _ _,z,Ve,_,_,_,rfl,(g1 _ _ k1),Ue.cl,Ue.na _ (by decide),rfl,t,rfl,⟨_,g1.tp k2⟩,fZ (xs:=ps.map V.ref) (fun j ys H2=>H2=H1/\ys=((s.2.take j).map (·.1)).map V.str) ⟨rfl,rfl⟩ (fun j ys H2 _ z=>⟨by rw[z.1];exact g1.tp k2,by rw[z.2,δ,δ,yh];exact Aa _ _⟩) (kN (by omega)) (fun j x ys H2 os ho hx z=>?_) (fun ys H2 z p hp=>?_)⟩
 ·obtain⟨rfl,rfl⟩:=z;obtain⟨o1,o2,rfl⟩:=oV ho;obtain⟨u,hu,rfl⟩:=qH hx;obtain⟨nm',kd',kk,hfs,hq,hko⟩:=k3.get hu;refine⟨u,_,rfl,g1.tp hq,rfl,_,_,rfl,_,_,rfl,rfl,_,rfl,⟨rfl,?_⟩,[_,_],rfl,rfl⟩;rw[vM hfs,ξ];rfl
 ·obtain⟨rfl,rfl⟩:=z;clear 1 p H3 g3 k4 hp;refine⟨p,_,rfl,.inl (SqL.of k4),rfl,qY _,_,rfl,?_⟩;rw[if_neg π,vB,zl,vC];refine kS (by rw[decide_eq_false hnew];decide) ⟨_,rfl,a,kO T,T.length,kd,fn,rfl,g3.seq (g1.seq hws),hf,hn,fun l H4 g4 hl4 k5=>?_⟩;have g14:=(g1.trans g3).trans g4;have zn:((Kd.named (kO T) kd).map V.str).length=(Kd.named (kO T) kd).length:=δ _;refine⟨_,rfl,l,_,rfl,SqL.of k5,tI (xs:=(Kd.named (kO T) kd).map V.str) (fun i σ H'=>∃o4 o5,σ = [some (.ref tl),some x,some (.ref a),some (.ref l),o4,o5]/\jF H4 H') ⟨_,_,rfl,jF.refl _⟩ (fun i σ H' _ z=>?_) (fun i x σ H' p hx z hp=>?_) (fun σ H' z=>?_)⟩
  ·obtain⟨o4,o5,rfl,g⟩:=z;exact g.seq (SqL.of k5)
  ·obtain⟨o4,o5,rfl,g⟩:=z;obtain⟨y,hy,rfl⟩:=vK hx;have g5:=xQ hp (.tup [.int (i:Int),.str y]);have k6:upd H' p (.tup [.int (i:Int),.str y]) p=_:=jO;generalize upd H' p (.tup [.int (i:Int),.str y])=H5 at g5 k6;refine⟨p,_,rfl,SqT.of k6,rfl,_,_,rfl,_,_,rfl,rfl,_,rfl,_,rfl,_,rfl,_,rfl,l,_,rfl,(g.trans g5).seq (SqL.of k5),fun p2 hp2=>?_⟩;rw[cutB];clear 1 p2 H6 g6 k7 hp2;rw[←List.map_take]at k7;refine⟨p2,_,rfl,.inl (SqL.of k7),rfl,qY _,_,rfl,?_⟩;rw[if_neg π,vB];refine kS (fun z=>?_) ⟨_,_,rfl,(g.trans g5).trans g6⟩;have hm:y∈(Kd.named (kO T) kd).take i:=of_decide_eq_true z;obtain⟨j,hj⟩:=Ai.mp hm;have hji:j<i:=by have:=(θ.mp hj).1;rw[yh]at this;omega
   rw[Bp hji]at hj;obtain⟨a1,b1⟩:=θ.mp hj;obtain⟨a2,b2⟩:=θ.mp hy;exact CY.mp n1 j i a1 a2 hji (b1.trans b2.symm)
  ·obtain⟨o4,o5,rfl,g⟩:=z;refine⟨_,rfl,l,rfl,⟨_,g.seq (SqL.of k5)⟩,vN (xs:=(Kd.named (kO T) kd).map V.str) (fun i σ H'=>∃o4 o5,σ = [some (.ref tl),some x,some (.ref a),some (.ref l),o4,o5]/\jF H4 H') ⟨_,_,rfl,g⟩ (fun i σ H' _ z=>?_) (fun i x σ H' hx z=>?_) (fun σ H' z=>?_)⟩
   ·obtain⟨o4,o5,rfl,g⟩:=z;exact g.seq (SqL.of k5)
   ·obtain⟨o4,o5,rfl,g⟩:=z;obtain⟨y,hy,rfl⟩:=vK hx;obtain⟨j,hj,rfl⟩:=n2 y (ο hy);have hT:T[j]?=some T[j]:=η hj;have hsa:sa[j]?=some (sa[j]'(by rw[hw0.1];exact hj)):=η _;have hv:=aKa hnd hT hsa;rw[←vY hT]at hv;refine⟨_,rfl,_,rfl,tl,z,sa,T,s,rfl,(g14.trans g) _ _ hl,hw.same (g14.trans g),hnd,hlen,fun d H5 g5 hd k6=>⟨d,_,rfl,bY.k (k:=AO (kO T j)) k6,_,rfl,?_⟩⟩;rw[hv];exact kS (by simp) ⟨_,_,rfl,g.trans g5⟩
   ·obtain⟨o4,o5,rfl,g⟩:=z;exact q H' (g14.trans g)
theorem aFb(F:Fun K "kind_in" "kind_in" nF f fd)(fj:Df K mg "kind_in" ix ic ["words","shapes"])(oq:jJ k ix ic ["words","shapes"] (aHo (jK 0) K r))(wf:DfI K qg ["self","width"])(wg:jJ k cIu qg ["self","width"] (aEw Va "width"))(cu:DfI K ay ["self","shape"])(cw:jJ k cIv ay ["self","shape"] (aEw Vb "shape"))(vo:DfI K ou ["self","count","kind"])(vp:jJ k cIx ou ["self","count","kind"] (spI2 Vc "count" "kind"))(vq:DfI K ow ["self","shapes"])(vt:jJ k cIy ow ["self","shapes"] (spIT K Vd "shapes")):jJ (k+2) f fd ["words","shapes"] (aHo (jK 0) K (r+1)):=by
 w_cond aEu;obtain⟨a,d,kd,sa,T,rfl,hlv,hl,hd,hf,hn,hnd,hsl,q⟩:=h;refine⟨_,(jC (kM (jP qI (jX kF (pv 0) jE (fun _ _=>rfl)) jH (jT _)) (jD (jJ (xH Ua.ma wg hr0 rfl Ua.m wf.b .nil jQ (jA (qR yS rfl M.int boot_int (jA (jX kF (pv 0) jE (fun _ _=>rfl)) jB)) jB)))) jR) (jC (kM (jP qI (jX kF (pv 0) jE (fun _ _=>rfl)) jH (jT _)) (jD (jJ (xH Uc.ma vp hr0 rfl Uc.m vo.b .nil jQ (jA (qR yS rfl M.int boot_int (jA (jX kF (pv 0) jE (fun _ _=>rfl)) jB)) (jA (jK oq hr rfl fj.m fj.k fj.b .nil jQ (jA (kZ qM (pv 0) (qE jE) qU) (jA (pv 1) jB))) jB))))) jR) (jC (kM (jP qI (jX kF (pv 0) jE (fun _ _=>rfl)) jH (jT _)) (jD (jJ (xH Ud.ma vt hr0 rfl Ud.m vq.b .nil jQ (jA (qF ["name"] ["shapes"] [1] rfl (kU (kZ qM (pv 0) (qE jE) qU)) rfl ⟨rfl,trivial⟩ ⟨⟨rfl,rfl,rfl,_,rfl⟩,trivial⟩ (fun _ _ _ _=>(jM (i:=0) (show yt (["name","shapes"]:List Str) from by ac_rfl) rfl (yp rfl))) (fun _ _ _ _=>qB) (fun _ _ _ _=>(fX hr.units1 (pv 1) (pv 0) (fun _ _=>rfl)))) jB)))) jR) (jD (jJ (xH Ub.ma cw hr0 rfl Ub.m cu.b .nil jQ (jA (fX hr.units1 (pv 1) (jX kF (pv 0) jE (fun _ _=>rfl)) (fun _ _=>rfl)) jB))))))),?_⟩;have look:∀i,i<T.length->∃s,sa[i]?=some s/\zT (dk T sa) (.inr (kO T i))=some (.ref s):=fun i hi=>by
  have hT:T[i]?=some T[i]:=η hi;have hs:sa[i]?=some (sa[i]'(by omega)):=η _;exact⟨_,hs,by rw[vY hT];exact aKa hnd hT hs⟩
 cases kd with
 |num w =>
  obtain⟨_,d2,_,d4⟩:=dig (w:=w) (by have:=hf.2;omega);exact⟨_,rfl,a,_,_,_,rfl,rfl,hl,rfl,rfl,_,rfl,vJ (by decide) ⟨_,rfl,a,_,_,_,rfl,rfl,hl,rfl,_,_,rfl,d4,by omega,fun x dx hx hdx _=>⟨x,dx,.int w,H,rfl,jO,cV hx hdx,hx,fun H1 g1 k1=>⟨rfl,q x H1 g1 (.num k1)⟩⟩⟩⟩
 |nest i =>
  have hx:=hn i hf;obtain⟨s,hs,hv⟩:=look i hf;exact⟨_,rfl,a,_,_,_,rfl,rfl,hl,rfl,rfl,_,rfl,kS (by simpa using cY hx (y:="num") (by decide)) ⟨_,rfl,a,_,_,_,rfl,rfl,hl,rfl,rfl,_,rfl,kS (by simpa using cY hx (y:="row") (by decide)) ⟨_,rfl,a,_,_,_,rfl,rfl,hl,rfl,rfl,_,rfl,kS (by simpa using cY hx (y:="pick") (by decide)) ⟨_,rfl,_,rfl,a,_,_,_,rfl,rfl,hl,rfl,d,.ref s,rfl,(by rw[←hv];exact bY.k (k:=AO (kO T i)) hd),fun x dx hx hdx _=>⟨x,dx,.ref s,H,rfl,jO,cV hx hdx,hx,fun H1 g1 k1=>⟨rfl,q x H1 g1 (.nest hs k1)⟩⟩⟩⟩⟩⟩
 |many m k =>
  obtain⟨_,d2,_,d4⟩:=dig (w:=m) (by have:=hf.2.1;omega);have hl':SqL K H a (V.str (ε "row")::V.str (ε (toString (m:Int)))::(k.words (kO T)).map V.str):=hl;refine⟨_,rfl,a,_,_,_,rfl,rfl,hl',at0,rfl,_,rfl,kS (by decide) ⟨_,rfl,a,_,_,_,rfl,rfl,hl',at0,rfl,_,rfl,vJ (by decide) ⟨_,rfl,a,_,_,_,rfl,rfl,hl',at1,_,_,rfl,d4,by omega,_,rfl,_,rfl,a,_,rfl,hl',fun p hp=>?_⟩⟩⟩;rw[aQh];clear 1 p H1 g1 k1 hp;have hlk:k.lv=0:=by rcases hf.2.2 with⟨w,rfl,_⟩|⟨i,rfl,_⟩ <;> rfl
  refine⟨_,rfl,p,d,k,sa,T,rfl,(by rw[hlk];have : 1<r+1:=hlv;omega),SqL.of k1,g1 _ _ hd,hf.sub,hn,hnd,hsl,fun b H2 g2 ko=>?_⟩;exact fun x dx hx hdx _=>⟨x,dx,.int m,.ref b,H2,rfl,jO,cV hx hdx,hx,fun H3 g3 k3=>⟨rfl,q x H3 ((g1.trans g2).trans g3) (.many k3 (ko.same g3))⟩⟩
 |pick is =>
  have hl':SqL K H a (V.str (ε "pick")::(is.map (kO T)).map V.str):=hl;have h2:=hf.2.1;have zl:((is.map (kO T)).map V.str).length=is.length:=by rw[δ,δ]
  refine⟨_,rfl,a,_,_,_,rfl,rfl,hl',at0,rfl,_,rfl,kS (by decide) ⟨_,rfl,a,_,_,_,rfl,rfl,hl',at0,rfl,_,rfl,kS (by decide) ⟨_,rfl,a,_,_,_,rfl,rfl,hl',at0,rfl,_,rfl,vJ (by decide) ⟨_,rfl,_,rfl,a,_,rfl,hl',fun p hp=>?_⟩⟩⟩⟩;rw[aDf];clear 1 p H1 g1 k1 hp;refine⟨p,rfl,⟨_,SqL.of k1⟩,vQ (xs:=(is.map (kO T)).map V.str) (fun j ys H'=>H'=H1/\∃ss:List Addr,ys=ss.map V.ref/\ss.length=j/\∀(b i:Nat) (s:Addr),is[b]?=some i->ss[b]?=some s->sa[i]?=some s) ⟨rfl,[],rfl,rfl,fun b i s _ z=>by simp at z⟩ (fun j ys H' _ z=>?_) (kN (by omega)) (fun j x ys H' hx z=>?_) (fun ys H' z p2 hp2=>?_)⟩
  ·obtain⟨rfl,ss,rfl,hss,_⟩:=z;exact⟨SqL.of k1,by rw[δ];omega⟩
  ·obtain⟨rfl,ss,rfl,hss,hall⟩:=z;obtain⟨y,hy,rfl⟩:=vK hx;rw[yv]at hy;cases e:is[j]? with
   |none=>rw[e]at hy;cases hy
   |some i =>
    rw[e]at hy;cases hy;obtain⟨s,hs,hv⟩:=look i (hf.2.2.2 i (ο e));refine⟨_,rfl,_,rfl,d,.ref s,rfl,(by rw[←hv];exact bY.k (k:=AO (kO T i)) (g1 _ _ hd)),⟨rfl,ss++[s],by rw[ξ];rfl,by rw[ι,hss];rfl,fun b i' s' hb1 hb2=>?_⟩,_,rfl⟩;rcases vZ hb2 with hb2|⟨eb,es⟩
    ·exact hall b i' s' hb1 hb2
    ·rw[eb,hss,e]at hb1;cases hb1;rw[es];exact hs
  ·obtain⟨rfl,ss,rfl,hss,hall⟩:=z;clear 1 p2 H2 g2 k2 hp2;exact fun x dx hx hdx _=>⟨x,dx,p2,_,H2,rfl,jO,cV hx hdx,hx,SqL.of k2,fun t H3 g3 k3 k4=>⟨rfl,q x H3 ((g1.trans g2).trans g3) (.pick k3 k4 (by rw[hss,zl]) hall)⟩⟩
theorem rK(F:Fun K "is_too_much" "is_too_much" cH f fd)(cr:DfM K Ve "size" cq cg ["self"])(fh:jJ k cq cg ["self"] (nW (jK 0) K r sSz))(mx:DfM K Ve "units" mw lh ["self"])(uz:jJ k mw lh ["self"] (aQn (jK 0) K r))(ck:DfM K Ve "depth" ci ce ["self"])(du:jJ k ci ce ["self"] (nW (jK 0) K r sDp)):jJ (k+2) f fd ["shape"] (spTM (jK 0) K r):=by
 w_cond tK;obtain⟨a,i,sa,S,rfl,e,hi,h8,hw,hg,⟨b1,b2,b3⟩,q⟩:=h;refine⟨_,(jC (kM (PW.pt (sP (jP dU (jZ kG rfl M.len yn (jA (kW (pv 0) rfl) jB)) (qC (v:=.int 6) rfl C.MOST_FIELDS ⟨_,rfl⟩) (jT _)) (iD (jP dU (yB (pv 0) Ue.cl cr.me fh hr cr.b .nil jQ) (qC (v:=.int 64) rfl C.MOST_CELLS ⟨_,rfl⟩) (jT _))))) (jD (jJ lU)) jR) (jD (jJ (pe_or (vA dU (jZ kG rfl M.len yn (jA (yB (pv 0) Ue.cl mx.me uz hr mx.b .nil jQ) jB)) (qC (v:=.int 40) rfl C.MOST_UNITS ⟨_,rfl⟩) (jT _)) (bV (vA dU (yB (pv 0) Ue.cl ck.me du hr ck.b .nil jQ) (qC (v:=.int 4) rfl C.MOST_DEPTH ⟨_,rfl⟩) (jT _))))))),?_⟩;obtain⟨s,hS,dx,t,ps,k1,k2,k3⟩:=hw.at e;have h6:=hg.few i s hS;have zl:(ps.map V.ref).length=s.2.length:=by rw[δ];exact k3.len
 refine⟨_,rfl,a,Ve,_,_,_,rfl,k1,Ue.cl,Ue.na _ (by decide),rfl,t,_,rfl,.inr k2,_,_,rfl,rfl,_,rfl,kS (by rw[zl];simp;omega) ⟨_,rfl,a,dx,_,rfl,k1,rfl,a,i,sa,S,rfl,e,(by omega),hw,hg,fun H1 g1=>⟨_,_,rfl,rfl,_,rfl,kS (by have:sSz i (tabs S)<=64:=b1;simp;omega) ?_⟩⟩⟩;refine⟨_,rfl,a,dx,_,rfl,g1 _ _ k1,rfl,a,i,sa,S,rfl,e,hi,h8,hw.same g1,hg,fun l H2 g2 hl ⟨us,ku,ur⟩=>⟨l,_,rfl,.inl (SqL.of ku),_,_,rfl,rfl,_,rfl,kS (by rw[δ,ur.len];simp;omega) ?_⟩⟩;refine⟨_,rfl,a,dx,_,rfl,g2 _ _ (g1 _ _ k1),rfl,a,i,sa,S,rfl,e,(by omega),hw.same (g1.trans g2),hg,fun H3 g3=>⟨_,_,rfl,rfl,?_⟩⟩
 (try dsimp only)
 rw[decide_eq_false (by have:sDp i (tabs S)<=4:=b3;omega)];exact q H3 ((g1.trans g2).trans g3)
theorem uF(F:Fun K "with_field" "with_field" dC f fd)(fj:Df K mg "kind_in" ix ic ["words","shapes"])(oq:jJ k ix ic ["words","shapes"] (aHo (jK 0) K 2))(cp:Df K mg "whole_shapes" dq dm ["told"])(il:jJ k dq dm ["told"] (spWh (jK 0) K))(jl:DfI K dv ["self","name","fields"])(jm:jJ k cIz dv ["self","name","fields"] (aMt (jK 0) K))(iy:Df K mg "is_too_much" my lm ["shape"])(va:jJ k my lm ["shape"] (spTM (jK 0) K r)):jJ (k+2) f fd ["told","line","words"] (spWF (jK 0) K r):=by
 w_cond cC;obtain⟨tl,a,z,x,sa,T,s,fn,kd,rfl,hl,hw,hws,hf,hn,hnd,hlen,hr1,h8,hs50,hg,hb,q⟩:=h;refine⟨_,(jC (jU (i:=3) cC.nd rfl (by walk_at"o") (jK oq hr rfl fj.m fj.k fj.b .nil jQ (jA (kZ qM (pv 2) (qE jE) qU) (jA (jK il hr rfl cp.m cp.k cp.b .nil jQ (jA (pv 0) jB)) jB)))) (jC (jU (i:=4) cC.nd rfl (by walk_at"o") (xH Ue.ma jm hr0 rfl Ue.m jl.b .nil jQ (jA (kW (jX kF (pv 0) (bO yQ jE) (fun _ _=>rfl)) rfl) (jA (jS aJq (kW (jX kF (pv 0) (bO yQ jE) (fun _ _=>rfl)) rfl) (qP (jA (qP (jA (jX kF (pv 2) jE (fun _ _=>rfl)) (jA (pv 3) jB))) jB))) jB)))) (jC (kM (xJ (jK va hr rfl iy.m iy.k iy.b .nil jQ (jA (pv 4) jB))) (jD yF) jR) (jD (jJ (pv 4)))))),?_⟩;obtain⟨hw0,dx,t,ps,k1,k2,k3⟩:=hw.init;refine⟨_,rfl,_,rfl,a,_,rfl,hws,fun p hp=>?_⟩;rw[show zW ((fn::kd.words (kO T)).map V.str) (some 1) none=(kd.words (kO T)).map V.str from aDf _ _];clear 1 p H1 g1 kp hp;refine⟨_,rfl,tl,z,sa,T,s,rfl,g1 _ _ hl,hw.same g1,hnd,hlen,fun d H2 g2 hd kd2=>?_⟩;refine⟨p,d,kd,sa,T,rfl,(by cases kd <;> simp[Kd.lv]),g2.seq (SqL.of kp),kd2,hf,hn,hnd,hw0.1,fun k H3 g3 ko=>?_⟩;have g13:=(g1.trans g2).trans g3;refine⟨_,rfl,_,rfl,tl,_,_,_,rfl,rfl,SqL.of (g13 _ _ hl),aM _ _,z,Ve,_,_,_,rfl,(g13 _ _ k1),Ue.cl,Ue.na _ (by decide),rfl,_,rfl,_,rfl,tl,_,_,_,rfl,rfl,SqL.of (g13 _ _ hl),aM _ _,z,Ve,_,_,_,rfl,(g13 _ _ k1),Ue.cl,Ue.na _ (by decide),rfl,_,rfl,a,_,_,_,rfl,rfl,g13.seq hws,at0,_,rfl,vD,fun u hu=>?_⟩;clear 1 u H4 g4 k4 hu;refine⟨iF,fun v hv=>?_⟩;clear 1 v H5 g5 k5 hv;have hps:ps.length=s.2.length:=k3.len;refine⟨t,v,ps.map V.ref,[.ref u],rfl,rfl,(g4.trans g5).tp (g13.tp k2),SqT.of k5,(by simp),(by rw[ym,δ];simp;omega),fun fl H6 g6 hfl=>?_⟩;have g36:=(g4.trans g5).trans g6;refine fun y dy hy hdy _=>⟨y,dy,fl,s.1,ps++[u],s.2++[(fn,kd)],sa,H6,rfl,jO,cV hy hdy,hy,.inr (by rw[ξ];exact hfl),(k3.same (g13.trans g36)).snoc ((g5.trans g6).tp (SqT.of k4)) (ko.same g36),(by rw[ι];show s.2.length+1<=100;omega),fun t' ps' H7 g7 k7 st fo=>⟨rfl,?_⟩⟩;have gA:=(g13.trans g36).trans g7;have so:SO (jK 0) K H7 sa y (s.1,s.2++[(fn,kd)]):=⟨dy,t',ps',k7,st,fo⟩;have hsw:=(hw0.same gA).snoc so;have hsl:sa.length=T.length:=hw0.1;exact⟨_,rfl,y,T.length,sa++[y],_,rfl,(by rw[←hsl,yb (μ _),AA];rfl),hr1,h8,hsw,hg,hb,fun H8 g8=>⟨_,rfl,kS (by decide) ⟨_,rfl,q y H8 (gA.trans g8) (so.same g8)⟩⟩⟩
theorem pW{k r:Nat}(F:Fun K "read_shapes" "read_shapes" bZ f fd){ke:Addr}{jo:zb}(ie:Df K mg "is_shape_line" ke jo ["words"])(sj:jJ k ke jo ["words"] (aPw K)){jp:Addr}{jd:zb}(gr:Df K mg "need_new_shape" jp jd ["told","line","name"])(rm:jJ k jp jd ["told","line","name"] (aQb (jK 0) K)){dv:zb}(jl:DfI K dv ["self","name","fields"])(jm:jJ k cIz dv ["self","name","fields"] (aMt (jK 0) K)){oy:Addr}{mz:zb}(jq:Df K mg "need_field" oy mz ["told","line","words"])(vh:jJ k oy mz ["told","line","words"] (spNF (jK 0) K)){oz:Addr}{ng:zb}(jr:Df K mg "with_field" oz ng ["told","line","words"])(vi:jJ k oz ng ["told","line","words"] (spWF (jK 0) K r)){lq:zb}(vb:DfI K lq ["self","shapes"])(vc:jJ k cIw lq ["self","shapes"] (spIT K Vf "shapes")):jJ (k+2) f fd ["text"] (spRd (jK 0) Vf K r):=by
 w_cond xB;obtain⟨S,rfl,hW,hne,hr12,h8,q⟩:=h;refine⟨_,(jC (kM (yK (xJ (jZ mI rfl M.isinstance Cw (jA (pv 0) (jA (lD (v:=.ty "str") rfl M.str boot_str rfl) jB))))) (jD yF) jR) (jC (jU (i:=1) xB.nd rfl (by walk_at"o") (xA zg AB AC yN (pv 0) (jA jH jB))) (jC (jU (i:=2) xB.nd rfl (by walk_at"o") (kK jB)) (jC (vF yw rfl (aAx rfl M.enumerate (jA (pv 1) jB)) (xZ rfl (jW (jM (i:=3) xB.nd rfl (yp rfl)) (jW (jM (i:=4) xB.nd rfl (yp rfl)) qL))) (jC (jU (i:=5) xB.nd rfl (by walk_at"o") (xA zg AB AC yN (pv 4) (jA jH jB))) (jD (kM (xJ (jK sj hr rfl ie.m ie.k ie.b .nil jQ (jA (pv 5) jB))) (jC (vL (jK rm hr rfl gr.m gr.k gr.b .nil jQ (jA (pv 2) (jA (pv 3) (jA (jX kF (pv 5) jE (fun _ _=>rfl)) jB))))) (jD (vL (xA yy zp zr vT (pv 2) (jA (xH Ue.ma jm hr0 rfl Ue.m jl.b .nil jQ (jA (jX kF (pv 5) jE (fun _ _=>rfl)) (jA (kK jB) jB))) jB))))) (jC (vL (jK vh hr rfl jq.m jq.k jq.b .nil jQ (jA (pv 2) (jA (pv 3) (jA (pv 5) jB))))) (jD (eI (jK vi hr rfl jr.m jr.k jr.b .nil jQ (jA (pv 2) (jA (pv 3) (jA (pv 5) jB)))) (aAt (pv 2) (bO yQ jE) set_list)))))))) (jC (kM (yK (zK (kW (jX kF (pv 2) (bO yQ jE) (fun _ _=>rfl)) rfl) (fun _=>rfl))) (jD yF) jR) (jD (jJ (xH Uf.ma vc hr0 rfl Uf.m vb.b .nil jQ (jA (pv 2) jB))))))))),?_⟩;obtain⟨h30,hrow,htl,hsp⟩:=aKc hW hne;have hok:=aHn hW;refine⟨_,rfl,_,_,"str",rfl,by decide,rfl,_,rfl,kS (by decide) ⟨_,rfl,rfl,_,_,rfl,rfl,rfl,(by rw[ym];omega),fun p hp=>?_⟩⟩;rw[show zv (txt S) (ε "\n")=_ from hsp];clear 1 p H1 g1 k1 hp;refine⟨zL,fun tl hq=>?_⟩;clear 1 tl H2 g2 k2 hq;have hq0:H tl=none:=g1.free hq;have npt:p≠tl:=jL k1 hq;have k12:=g2 _ _ k1;have zl:(((vR S).map fun it=>yd spS (it.line (kO S))).map V.str).length=(vR S).length:=by rw[δ,δ]
 refine⟨_,rfl,p,_,rfl,SqL.of k12,tI (xs:=((vR S).map fun it=>yd spS (it.line (kO S))).map V.str) (fun i σ H'=>∃(o3 o4 o5:Option V) (sa:List Addr) (T:List Shp),σ = [some (.str (txt S)),some (.ref p),some (.ref tl),o3,o4,o5]/\But tl H2 H'/\H' tl=some (.lst (sa.map V.ref))/\SW (jK 0) K H' sa T/\oS S i T) ⟨_,_,_,[],[],rfl,But.refl,k2,SW.nil,oS.start S⟩ (fun i σ H' _ z=>?_) (fun i x σ H' p2 hx z hp2=>?_) (fun σ H' z=>?_)⟩
 ·obtain⟨o3,o4,o5,sa,T,rfl,g,_⟩:=z;exact SqL.of (g _ _ npt k12)
 ·obtain⟨o3,o4,o5,sa,T,rfl,g,kl,hw,hst⟩:=z;obtain⟨row,hrw,rfl⟩:=vK hx;rw[yv]at hrw;cases eit:(vR S)[i]? with
  |none=>rw[eit]at hrw;cases hrw
  |some it =>
  rw[eit]at hrw;cases hrw;have hit:=ο eit;obtain⟨r100,rsp⟩:=hrow it hit;obtain⟨ok1,ok2,ok3⟩:=hok it hit;obtain⟨S1,s,S2,eS,hnx⟩:=hst.next (θ.mp eit).1;clear 1 p2 H3 g3 k3 hp2;refine⟨p2,_,rfl,SqT.of k3,rfl,_,_,rfl,_,_,rfl,rfl,_,rfl,rfl,_,_,rfl,rfl,rfl,(by rw[ym];show(yd L2.spS (it.line (kO S))).length+2<=_;omega),fun wa hwa=>?_⟩;rw[show zv (yd spS (it.line (kO S))) (ε " ")=_ from rsp];clear 1 wa H4 g4 k4 hwa;have g34:=g3.trans g4;refine⟨_,rfl,wa,it.line (kO S),rfl,⟨SqL.of k4,fun w hw=>by have:=(ok1 w hw).2;omega,by omega⟩,fun H5 g5=>⟨_,rfl,?_⟩⟩;have g35:=g34.trans g5;have kl5:=g35 _ _ kl;have hw5:=hw.same g35;have kw5:=g5 _ _ k4;have hsS:s∈S:=by rw[eS];exact yu _ (Ψ ..)
  have hS1:∀t∈S1,t∈S:=fun t ht=>by rw[eS];exact AL _ ht
  have hlen:=hW.len;have hnd1:(S1.map (·.1)).Nodup/\s.1∉S1.map (·.1):=by
   have:=hW.nd;rw[eS,ξ,List.nodup_append]at this;exact⟨this.1,fun z=>this.2.2 _ z _ (Ψ ..) rfl⟩
  have hl1:S1.length<5:=by rw[eS,ι,Δ]at hlen;omega
  rcases hnx with⟨ei,rfl,hst2⟩|⟨f1,n,kd,f2,ef,ei,rfl,hst2⟩
  ·rw[eit]at ei;cases ei;have hnm:=hW.nm s hsS;have hws:SqL K H5 wa [V.str (ε "shape"),V.str s.1]:=SqL.of kw5;refine vJ (by show(decide (ε "shape" = ε "shape")&&kP s.1)=true;rw[hnm];decide) ⟨_,rfl,_,rfl,_,rfl,wa,_,_,_,rfl,rfl,hws,rfl,tl,_,s.1,sa,T,rfl,kl5,hw5,(fun t ht=>?_),hnd1.2,by omega,fun H6 g6=>?_⟩
   ·obtain⟨j,hj⟩:=Ai.mp ht;exact hW.good.ne j t (by rw[eS,yr (θ.mp hj).1];exact hj)
   have kl6:=g6 _ _ kl5;refine⟨_,rfl,.inl ⟨rfl,_,SqL.of kl6⟩,_,rfl,wa,_,_,_,rfl,rfl,g6.seq hws,rfl,zL,fun el hel=>?_⟩;clear 1 el H7 g7 k7 hel;refine fun y dy hy hdy _=>⟨y,dy,el,s.1,[],[],sa,H7,rfl,jO,cV hy hdy,hy,.inl (SqL.of k7),.nil,by decide,fun t ps' H8 g8 k8 st fo=>⟨rfl,?_⟩⟩;have g58:=(g6.trans g7).trans g8;have kl8:=g58 _ _ kl5;have hsl:=hw.1;refine⟨tl,_,_,rfl,rfl,kl8,(by rw[δ];exact zy (show sa.length<=5 by omega) (by decide)),?_⟩;clear 0 tl H9 g9 k9;exact⟨_,_,_,sa++[y],_,rfl,(g.trans (But.of (g35.trans g58))).trans g9,by rw[ξ];exact k9,((hw5.same g58).snoc (s:=(s.1,[])) ⟨dy,t,ps',k8,st,fo⟩).but g9 kl8,hst2⟩
  ·rw[eit]at ei;cases ei;obtain⟨sa0,z,rfl⟩:=aGg hw.1;have hfm:(n,kd)∈s.2:=by rw[ef];exact yu _ (Ψ ..)
   have hnm:=hW.fnm s hsS _ hfm;have hi1:S[S1.length]?=some s:=by rw[eS,yb (μ _),AA];rfl
   have hfit:=(hW.good.fit _ _ hi1 _ hfm).1;have hns:NOk (kO S1) S1.length:=aAb fun t ht=>hW.nm t (hS1 t ht);have ew:kd.words (kO S)=kd.words (kO S1):=nV (fun j hj=>by rw[eS];exact aMm hj) hfit.below;have hws:SqL K H5 wa ((n::kd.words (kO S1)).map V.str):=by rw[←ew];exact SqL.of kw5
   obtain⟨pg,pb,p5⟩:=hW.pre (f1:=f1++[(n,kd)]) (f2:=f2) eS (by rw[ef,zx];rfl) (by simp);rw[ι,zk]at p5;have hfn:n∉f1.map (·.1):=fun z=>by
    have:=hW.fnd s hsS;rw[ef,ξ,List.nodup_append]at this;exact this.2.2 _ z _ (Ψ ..) rfl
   refine kS (by rw[show aCf ((Itm.fd n kd).line (kO S))=false from aNj hnm];decide) ⟨_,rfl,_,rfl,_,rfl,tl,wa,z,_,sa0,S1,(s.1,f1),n,kd,rfl,kl5,hw5,hws,hnm,hfn,(by show f1.length<=100;omega),hfit,hns,hnd1.1,by omega,fun H6 g6=>?_⟩;refine⟨_,rfl,_,rfl,_,rfl,tl,wa,z,_,sa0,S1,(s.1,f1),n,kd,rfl,g6 _ _ kl5,hw5.same g6,g6.seq hws,hfit,hns,hnd1.1,by omega,by omega,h8,(by show f1.length<=50;omega),pg,pb,fun y H7 g7 so=>?_⟩;have g57:=g6.trans g7;have kl7:=g57 _ _ kl5;refine⟨_,rfl,_,rfl,tl,_,_,_,rfl,rfl,kl7,aKr _ _,?_⟩;rw[aKb];clear 0 tl H9 g9 k9;exact⟨_,_,_,sa0++[y],_,rfl,(g.trans (But.of (g35.trans g57))).trans g9,k9,((hw5.init.1.same g57).snoc so).but g9 kl7,hst2⟩
 ·obtain⟨o3,o4,o5,sa,T,rfl,g,kl,hw,hst⟩:=z;rw[zl]at hst;have eT:=hst.done;subst eT;have gH:jF H H':=But.from (g1.trans g2) hq0 g;rcases BO T with rfl|⟨T0,s,rfl⟩
  ·exact absurd rfl hne
  ·rw[BP]at *;obtain⟨sa0,z,rfl⟩:=aGg hw.1;obtain⟨hw0,dx,t,ps,m1,m2,m3⟩:=hw.init;have hs:=hW.good.ne T0.length s (by rw[yb (μ _),AA];rfl);have hps:ps≠[]:=fun e=>hs (AX.mp (by rw[←m3.len,e];rfl));refine⟨_,rfl,_,rfl,tl,_,_,_,rfl,rfl,SqL.of kl,aM _ _,z,Ve,_,_,_,rfl,m1,Ue.cl,Ue.na _ (by decide),rfl,true,.inr (.inl ⟨_,m2,by cases ps with|nil=>exact absurd rfl hps|cons _ _=>rfl⟩),kS (by decide) ⟨_,rfl,?_⟩⟩;exact fun y dy hy hdy _=>⟨y,dy,tl,_,H',rfl,jO,cV hy hdy,hy,SqL.of kl,fun t H3 g3 k3 k4=>⟨rfl,q y dy t _ H3 (gH.trans g3) k3 k4 (hw.same g3)⟩⟩
theorem aEr{k:Nat}(F:Fun K "_law_box" "_law_box" mR f fd):jJ (k+2) f fd ["_law_cell_here"] aQi:=by
 w_cond aFn;obtain⟨c,rfl,q⟩:=h;refine⟨_,(jD (jJ (kK (jA (jZ (uN rfl) rfl M.max boot_max (jA jE (jA (jS iR (pv 0) (jS aTf jE jE)) jB))) (jA (jS zS (pv 0) jE) (jA jE jB)))))),?_⟩;exact⟨_,rfl,_,_,rfl,rfl,⟨by decide,by decide,by decide⟩,_,_,rfl,rfl,_,_,rfl,_,rfl,_,_,rfl,rfl,(by show(0:Int)<_;decide),oU,fun p hp=>q p _ hp ⟨⟨_,_,_,jO⟩,fun b o n e=>by rw[jY n];exact e⟩⟩
theorem lQ{k:Nat}(F:Fun K "__init__" "RoomError.__init__" zC f fd):jJ (k+2) f fd ["self","words"] (spRE K):=by
 w_cond lS;obtain⟨e,v,C',R,fI,dx,rfl,he,cx,q⟩:=h;refine⟨_,(jD (vL (aJo VI (lD (v:=.ty "ValueError") rfl M.ValueError (show AV "ValueError" = some (.type "ValueError") from by ac_rfl) rfl) (jA (pv 0) (jA (pv 1) jB))))),?_⟩;exact⟨_,rfl,_,rfl,e,v,C',R,fI,dx,rfl,he,cx,q⟩
theorem aDn{k:Nat}(F:Fun K "__init__" "Row.__init__" iJ f fd):jJ (k+2) f fd ["self","line","deed","goal","reads","steps","number"] (spI6 ao "line" "deed" "goal" "reads" "steps" "number"):=by
 w_cond aDo;obtain⟨a,dx,v1,v2,v3,v4,v5,v6,H1,rfl,hA,g,h0,q⟩:=h;refine⟨_,(jC (xI (pv 0) (pv 1) rfl) (jC (xI (pv 0) (pv 2) rfl) (jC (xI (pv 0) (pv 3) rfl) (jC (xI (pv 0) (pv 4) rfl) (jC (xI (pv 0) (pv 5) rfl) (jD (xI (pv 0) (pv 6) rfl))))))),?_⟩;exact⟨_,rfl,_,rfl,a,ao,dx,[],rfl,hA,bh.cl,bh.na _ (by decide),by decide,_,rfl,_,rfl,a,ao,dx,_,rfl,jO,bh.cl,bh.na _ (by decide),(by show 1<1000;decide),_,rfl,_,rfl,a,ao,dx,_,rfl,jO,bh.cl,bh.na _ (by decide),(by show 2<1000;decide),_,rfl,_,rfl,a,ao,dx,_,rfl,jO,bh.cl,bh.na _ (by decide),(by show 3<1000;decide),_,rfl,_,rfl,a,ao,dx,_,rfl,jO,bh.cl,bh.na _ (by decide),(by show 4<1000;decide),_,rfl,_,rfl,a,ao,dx,_,rfl,jO,bh.cl,bh.na _ (by decide),(by show 5<1000;decide),q _ ((((((g.putn h0).putn h0).putn h0).putn h0).putn h0).putn h0) jO⟩
theorem pF{k:Nat}(F:Fun K "__init__" "Program.__init__" bG f fd):jJ (k+2) f fd ["self","shapes","rows","named","written"] (spI4 bq "shapes" "rows" "named" "written"):=by
 w_cond pD;obtain⟨a,dx,v1,v2,v3,v4,H1,rfl,hA,g,h0,q⟩:=h;refine⟨_,(jC (xI (pv 0) (pv 1) rfl) (jC (xI (pv 0) (pv 2) rfl) (jC (xI (pv 0) (pv 3) rfl) (jD (xI (pv 0) (pv 4) rfl))))),?_⟩;exact⟨_,rfl,_,rfl,a,bq,dx,[],rfl,hA,bp.cl,bp.na _ (by decide),by decide,_,rfl,_,rfl,a,bq,dx,_,rfl,jO,bp.cl,bp.na _ (by decide),(by show 1<1000;decide),_,rfl,_,rfl,a,bq,dx,_,rfl,jO,bp.cl,bp.na _ (by decide),(by show 2<1000;decide),_,rfl,_,rfl,a,bq,dx,_,rfl,jO,bp.cl,bp.na _ (by decide),(by show 3<1000;decide),q _ ((((g.putn h0).putn h0).putn h0).putn h0) jO⟩
theorem tD{k:Nat}(F:Fun K "main" "Shapes.main" bU f fd):jJ (k+2) f fd ["self"] (spMn (jK 0) Vf K):=by
 w_cond sB;obtain⟨ra,z,sa,S,rfl,⟨dx,t,k1,k2,hw⟩,q⟩:=h;refine⟨_,(jD (jJ (jX kY (kW (pv 0) rfl) (bO yQ jE) (fun _ _=>rfl)))),?_⟩;exact⟨_,rfl,ra,Vf,_,_,_,rfl,k1,Uf.cl,Uf.na _ (by decide),rfl,_,rfl,t,_,_,_,rfl,rfl,k2,aM _ _,q⟩
theorem aBy{k:Nat}(F:Fun K "bound_of" "bound_of" iC f fd):jJ (k+2) f fd ["width"] spBo:=by
 w_cond aCl;obtain⟨rfl,q⟩:=h;refine⟨_,(jD (jJ (jS aTd jE (jS yW jE (pv 0))))),?_⟩;exact⟨_,rfl,_,_,rfl,rfl,(by unfold CMul;decide),_,_,rfl,rfl,⟨by decide,by decide,by decide⟩,q⟩
theorem aPj(F:Fun K "fits" "fits" aEv f fd)(af:Df K mg "is_name" aq am ["thing"])(bz:jJ k aq am ["thing"] (zM K))(au:Df K mg "number_in" bw br ["text","low","high"])(dn:jJ k bw br ["text","low","high"] (aU K))(mi:Df K mg "bound_of" sq qh ["width"])(wj:jJ k sq qh ["width"] spBo):jJ (k+2) f fd ["part","word"] spFi:=by
 w_cond aPl;obtain⟨p,x,rfl,hx,q⟩:=h;refine⟨_,(jC (kM (jP vU (pv 0) (qC (v:=.ref tNa) rfl C.NAMES rfl) (by with_unfolding_all rfl)) (jD (jJ (jK bz hr rfl af.m af.k af.b .nil jQ (jA (pv 1) jB)))) jR) (jC (kM (jP qI (pv 0) jH (jT _)) (jD (jJ (vA pJ (jK dn hr rfl au.m au.k au.b .nil jQ (jA (pv 1) (jA jE (jA (jS iR (jK wj hr rfl mi.m mi.k mi.b .nil jQ (jA (qC (v:=.int 4) rfl C.WORD_CELLS ⟨_,rfl⟩) jB)) jE) jB)))) xC (jT _)))) jR) (jC (kM (jP qI (pv 0) jH (jT _)) (jD (jJ (vA vU (pv 1) (qC (v:=.ref tSi) rfl C.SIGNS rfl) (by with_unfolding_all rfl)))) jR) (jC (kM (jP qI (pv 0) jH (jT _)) (jD (jJ (vA aDy (pv 1) jH (jT _)))) jR) (jD (jJ (vA qI (pv 1) (pv 0) (jT _)))))))),?_⟩;refine⟨_,rfl,tNa,_,rfl,.inr (C.nams H),rfl,qY _,_,rfl,?_⟩;rw[if_neg π,vB];refine vE (fun c=>?_) (fun c=>?_)
 ·have c':=of_decide_eq_true c;refine⟨_,rfl,.str x,rfl,.inl ⟨x,rfl,hx,fun H1 g1=>?_⟩⟩;have:=q H1 g1;unfold eV at this;rw[if_pos c']at this;exact this
 have c':=of_decide_eq_false (AS.mpr c);refine⟨_,rfl,rfl,_,rfl,vE (fun d=>?_) (fun d=>?_)⟩
 ·have d':=V.str.inj (of_decide_eq_true d);refine⟨_,rfl,rfl,_,_,rfl,rfl,.str x,0,4294967295,rfl,.inl ⟨x,rfl,hx,fun H1 g1=>⟨rfl,?_⟩⟩⟩;have:=q H1 g1;unfold eV at this;rw[if_neg c',if_pos d']at this;cases e:vO (yJ x) 0 4294967295 with
  |none=>rw[e]at this;exact this
  |some i=>rw[e]at this;exact this
 have d':=fun z=>d (decide_eq_true (congrArg V.str z));refine⟨_,rfl,rfl,_,rfl,vE (fun e=>?_) (fun e=>?_)⟩
 ·have e':=V.str.inj (of_decide_eq_true e);refine⟨_,rfl,tSi,_,rfl,.inr (C.sgns H),rfl,qY _,?_⟩;rw[if_neg π,vB];have:=q H (jF.refl _);unfold eV at this;rw[if_neg c',if_neg d',if_pos e']at this;exact this
 have e':=fun z=>e (decide_eq_true (congrArg V.str z));refine⟨_,rfl,rfl,_,rfl,vE (fun f'=>?_) (fun f'=>?_)⟩
 ·have f2:=V.str.inj (of_decide_eq_true f');refine⟨_,rfl,rfl,?_⟩;have:=q H (jF.refl _);unfold eV at this;rw[if_neg c',if_neg d',if_neg e',if_pos f2]at this;exact(show(!decide (V.str x=V.str (ε ""))) = !decide (x=ε "") by simp) ▸ this
 have f2:=fun z=>f' (decide_eq_true (congrArg V.str z));refine⟨_,rfl,_,rfl,rfl,?_⟩;have:=q H (jF.refl _);unfold eV at this;rw[if_neg c',if_neg d',if_neg e',if_neg f2]at this;exact(show(decide (V.str x=V.str p))=decide (x=p) by simp) ▸ this
theorem aCu{k:Nat}(F:Fun K "_law_cell" "_law_cell" hJ f fd):jJ (k+2) f fd ["_law_script","_law_k"] (spLc K):=by
 w_cond aDc;obtain⟨a,ns,k,rfl,hS,hk0,hk1,q⟩:=h;refine⟨_,(jC (kM (jP (aDv hr.units) (pv 0) (kK jB) (jT _)) (jD (jJ (jS qO (jS yW jE (pv 1)) jE))) jR) (jC (kM (jP aPz (pv 1) (jZ kG rfl M.len yn (jA (pv 0) jB)) (jT _)) (jD (jJ (jX kF (pv 0) (pv 1) (fun _ _=>rfl)))) jR) (jD (jJ (jS qO (jS aBh (jX kF (pv 0) (jS zS (pv 1) (jZ kG rfl M.len yn (jA (pv 0) jB))) (fun _ _=>rfl)) (jS qO (pv 1) jE)) (jS yW jE (pv 1))))))),?_⟩;have hl:(ns.map V.int).length=ns.length:=δ _;refine⟨_,rfl,zL,fun l0 hl0=>?_⟩;clear 1 l0 H1 g1 k1 hl0;have hS1:=g1.seq hS;refine⟨a,l0,_,rfl,rfl,hS1,SqL.of k1,_,rfl,vE (fun c=>?_) (fun c=>?_)⟩
 ·exact⟨_,rfl,_,_,rfl,rfl,.inl ⟨by omega,by omega⟩,_,_,rfl,rfl,q _ H1 g1⟩
 have hne : 0<ns.length:=by
  cases ns with
  |nil=>exact absurd rfl c
  |cons _ _=>exact Nat.succ_pos _
 refine⟨_,rfl,_,rfl,a,_,rfl,.inl hS1,_,_,rfl,rfl,_,rfl,?_⟩;refine vE (fun c=>?_) (fun c=>?_)
 ·have c':k<(((ns.map V.int).length:Nat):Int):=of_decide_eq_true c;rw[hl]at c';obtain⟨v,hv⟩:=aDt ns hk0 c';exact⟨_,rfl,_,rfl,a,_,_,_,rfl,rfl,hS1,hv,q _ H1 g1⟩
 ·have hp:(0:Int)<(((ns.map V.int).length:Nat):Int):=by rw[hl];omega
  obtain⟨v,hv⟩:=aDt ns (i:=k % (((ns.map V.int).length:Nat):Int)) (Int.emod_nonneg _ (by rw[hl];omega)) (by have:=Int.emod_lt_of_pos k hp;rw[hl]at this ⊢;exact this);exact⟨_,rfl,_,rfl,_,rfl,a,_,rfl,.inl hS1,_,_,rfl,rfl,hp,a,_,_,_,rfl,rfl,hS1,hv,_,rfl,_,_,rfl,rfl,_,_,rfl,rfl,⟨by omega,by omega⟩,_,rfl,_,_,rfl,rfl,.inl ⟨by omega,by omega⟩,_,_,rfl,rfl,q _ H1 g1⟩
theorem wV{k:Nat}(F:Fun K "_law_mixed" "_law_mixed" fM f fd):jJ (k+2) f fd ["_law_cell_here","_law_k"] spMx:=by
 w_cond dA;obtain⟨c,k,rfl,q⟩:=h;refine⟨_,(jC (jU (i:=2) dA.nd rfl (by walk_at"o") (jS zS (jS qO (jS qO (jS yW (pv 0) jE) (jS yW jE (pv 1))) jE) jE)) (jC (jU (i:=2) dA.nd rfl (by walk_at"o") (jS zS (jS qO (jS qO (jS yW (pv 2) (pv 2)) (jS yW jE (pv 1))) jE) jE)) (jD (jJ (jS aBh (jS zS (jS yW (pv 2) (pv 2)) jE) jE))))),?_⟩;refine⟨_,rfl,_,_,rfl,rfl,.inr ⟨by omega,by omega⟩,_,rfl,_,_,rfl,rfl,.inl ⟨by omega,by omega⟩,_,_,rfl,rfl,_,_,rfl,rfl,_,_,rfl,rfl,(by show(0:Int)<_;decide),?_⟩;refine⟨_,rfl,_,rfl,_,_,rfl,rfl,.inl ⟨by omega,by omega⟩,_,rfl,_,_,rfl,rfl,.inl ⟨by omega,by omega⟩,_,_,rfl,rfl,_,_,rfl,rfl,_,_,rfl,rfl,(by show(0:Int)<_;decide),?_⟩;exact⟨_,rfl,_,rfl,_,_,rfl,rfl,.inl ⟨by omega,by omega⟩,_,_,rfl,rfl,(by show(0:Int)<_;decide),_,_,rfl,rfl,⟨by decide,by decide⟩,q _⟩
theorem aCr(F:Fun K "_law_take" "_law_take" iA f fd)(dz:Df K mg "_law_mixed" qi pd ["_law_cell_here","_law_k"])(qj:jJ k qi pd ["_law_cell_here","_law_k"] spMx):jJ (k+2) f fd ["_law_box_here","_law_many"] nB:=by
 w_cond dZ;obtain⟨p,m,rfl,hm,hm2,⟨a,b,c,h⟩,q⟩:=h;refine⟨_,(jC (kM (jP dU (jX kF (pv 0) jE (fun _ _=>rfl)) jE (jT _)) (jC (jU (i:=2) dZ.nd rfl (by walk_at"o") (jS zS (jX kF (pv 0) jE (fun _ _=>rfl)) (pv 1))) (jC (eI (jS aBh (jX kF (pv 0) jE (fun _ _=>rfl)) (pv 1)) (aAt (pv 0) jE set_list)) (jD (jJ (pv 2))))) jR) (jC (eI (jS qO (jX kF (pv 0) jE (fun _ _=>rfl)) jE) (aAt (pv 0) jE set_list)) (jC (jU (i:=3) dZ.nd rfl (by walk_at"o") (jS qO (jS yW (jK qj hr rfl dz.m dz.k dz.b .nil jQ (jA (jX kF (pv 0) jE (fun _ _=>rfl)) (jA (jS yW jE (jX kF (pv 0) jE (fun _ _=>rfl))) jB))) jE) (jK qj hr rfl dz.m dz.k dz.b .nil jQ (jA (jS qO (jX kF (pv 0) jE (fun _ _=>rfl)) jE) (jA (jS qO (jS yW jE (jX kF (pv 0) jE (fun _ _=>rfl))) jE) jB))))) (jD (jJ (jS zS (pv 3) (pv 1))))))),?_⟩;have nat:∀x:Int,∃v:Nat,x % m=(v:Int)/\(v:Int)<m:=fun x=>by
  have h0:=Int.emod_nonneg x (show m≠0 by omega);have h1:=Int.emod_lt_of_pos x hm;exact⟨(x % m).toNat,by omega,by omega⟩
 refine⟨_,rfl,p,_,_,_,rfl,rfl,SqL.of h,rfl,_,_,rfl,rfl,_,rfl,vE (fun cc=>?_) (fun cc=>?_)⟩
 ·refine⟨_,rfl,p,_,_,_,rfl,rfl,SqL.of h,rfl,_,rfl,_,_,rfl,rfl,hm,?_⟩;refine⟨_,rfl,p,_,_,_,rfl,rfl,SqL.of h,rfl,_,rfl,_,_,rfl,rfl,⟨hm,hm2⟩,_,rfl,p,_,_,0,rfl,rfl,h,rfl,?_⟩;obtain⟨v,hv,hl⟩:=nat a;refine⟨_,rfl,?_⟩;show Q (.int (a % m)) _;rw[hv];exact q v _ hl ⟨⟨_,_,_,jO⟩,fun b' o n e=>by rw[jY n];exact e⟩
 ·refine⟨_,rfl,p,_,_,_,rfl,rfl,SqL.of h,rfl,_,_,rfl,rfl,_,rfl,p,_,_,2,rfl,rfl,h,rfl,?_⟩;have h1:upd H p (.lst [.int a,.int b,.int (c+1)]) p=some (.lst [.int a,.int b,.int (c+1)]):=jO;refine⟨_,rfl,p,_,_,_,rfl,rfl,SqL.of h1,rfl,_,rfl,p,_,_,_,rfl,rfl,SqL.of h1,rfl,_,_,rfl,rfl,.inl ⟨by omega,by omega⟩,_,_,rfl,fun v1=>?_⟩;refine⟨_,_,rfl,rfl,.inr ⟨by omega,by omega⟩,_,rfl,p,_,_,_,rfl,rfl,SqL.of h1,rfl,_,_,rfl,rfl,_,rfl,p,_,_,_,rfl,rfl,SqL.of h1,rfl,_,_,rfl,rfl,.inl ⟨by omega,by omega⟩,_,_,rfl,rfl,_,_,rfl,fun v2=>?_⟩;refine⟨_,_,rfl,rfl,_,rfl,_,rfl,_,_,rfl,rfl,hm,?_⟩;obtain⟨v,hv,hl⟩:=nat (v1*268435399+v2);show Q (.int ((v1*268435399+v2) % m)) _;rw[hv];exact q v _ hl ⟨⟨_,_,_,jO⟩,fun b' o n e=>by rw[jY n];exact e⟩
theorem iV(F:Fun K "__init__" "WrongPath.__init__" zF f fd)(rn:DfI K je ["self","words"])(rq:jJ k fRE je ["self","words"] (spRE K)):jI P w K mg base (CXE P w) (k+2) f fd ["self","line","path"] (spXn ac ["line","path"]):=by
 w_cond lT
 ·obtain⟨e,xs,rfl,hl,_⟩:=h;exact congrArg (·+1) hl
 obtain⟨e,xs,rfl,hl,he,q⟩:=h;refine⟨_,(jC (vL (aKl tRE.i (qC (v:=.ref cRE) rfl tRE.m rfl) rq hr rn.b .nil jQ (jA (pv 0) (jA jH jB)))) (jC (aGb (pv 0) (pv 1) rfl) (jD (aGb (pv 0) (pv 2) rfl)))),?_⟩
 match xs,hl,q with
 |[x0,x1],_,q =>
  refine⟨_,rfl,e,_,ac,cRE,bc,none,rfl,he,ah.c,?_⟩;refine⟨_,rfl,_,rfl,e,ac,cRE,bc,rfl,ah.c,ah.n _ (by simp),.inl ⟨he,fun dx hd=>?_⟩⟩;have F1:=Fl.first (CN:=ac) (f:="line") (y:=x0) he hd;refine⟨_,rfl,_,rfl,e,ac,cRE,bc,rfl,ah.c,ah.n _ (by simp),.inr ⟨dx,_,F1.ae,F1.ad,(by simp),?_⟩⟩;have F2:=F1.next (fs':=[("line",x0),("path",x1)]);exact q dx _ F2
theorem aEh{k r:Nat}(F:Fun K "led" "Num.led" nJ f fd):jJ (k+2) f fd ["self","step"] (uU (jK 0) K Kd.isNum):=by
 w_cond aFa;obtain⟨a,w,kd,sa,S,rfl,hF,hf,ho,hw,hg,q⟩:=h;refine⟨_,(jD (jJ xC)),?_⟩;cases kd with
 |num n =>
  rcases q with⟨_,q⟩|⟨k',e,_⟩
  ·exact q H (jF.refl _)
  ·cases e
 |_=>cases hF
theorem uC{k r:Nat}(F:Fun K "led" "Nested.led" cZ f fd):jJ (k+2) f fd ["self","step"] (uU (jK 0) K Kd.isNest):=by
 w_cond bW;obtain⟨a,w,kd,sa,S,rfl,hF,hf,ho,hw,hg,q⟩:=h;refine⟨_,(jC (vF yw rfl (fL (kW (kW (pv 0) rfl) rfl)) (xZ rfl (jW (jM (i:=2) bW.nd rfl (yp rfl)) (jW (jM (i:=3) bW.nd rfl (yp rfl)) qL))) (jD (kM (jP qI (pv 2) (pv 1) (jT _)) (jD (jJ (pv 3))) jR))) (jD (jJ xC))),?_⟩;cases id ho with
 | @nest a dx s i e h1 =>
  obtain⟨sh,hS,dx2,t,ps,k1,k2,k3⟩:=hw.at e;have hled:ledK S (.nest i) w=(sh.2.find? fun f=>decide (f.1=w)).map (·.2):=by
   unfold ledK;show Option.map _ (((S.getD i (Str.empty,[])).2).find? _)=_;rw[Φ,hS];rfl
  rw[hled]at q;refine⟨_,rfl,a,Vb,_,_,_,rfl,h1,Ub.cl,Ub.na _ (by decide),rfl,s,Ve,_,_,_,rfl,k1,Ue.cl,Ue.na _ (by decide),rfl,t,rfl,⟨_,k2⟩,aBa (xs:=ps.map V.ref) (fun j σ H'=>H'=H/\(∃o2 o3,σ = [some (.ref a),some (.str w),o2,o3])/\∀m g,m<j->sh.2[m]?=some g->g.1≠w) ⟨rfl,⟨_,_,rfl⟩,fun m g z=>absurd z (Ar _)⟩ (fun j σ H' _ z=>?_) (fun j x σ H' hx z=>?_) (fun σ H' z=>?_)⟩
  ·obtain⟨e',_⟩:=z;rw[e'];exact k2
  ·obtain⟨e',⟨o2,o3,rfl⟩,hn⟩:=z;subst e';obtain⟨p,hp,rfl⟩:=qH hx;obtain⟨nm,kd,kk,hfs,kt,hko⟩:=k3.get hp;refine⟨p,_,rfl,kt,rfl,_,_,rfl,_,_,rfl,rfl,_,rfl,_,rfl,rfl,_,rfl,vE (fun c=>?_) (fun c=>?_)⟩
   ·have ew:nm=w:=by simpa using c
    rw[aY hfs ew hn]at q;rcases q with⟨e2,_⟩|⟨k',e2,q⟩
    ·cases e2
    ·cases e2;exact⟨_,rfl,q kk H' (jF.refl _) (by have:=hko.more (sa.drop i);rwa [BN]at this)⟩
   ·have ew:¬ nm=w:=by simpa using c
    exact⟨rfl,⟨_,_,rfl⟩,pH hfs ew hn⟩
  ·obtain⟨e',⟨o2,o3,rfl⟩,hn⟩:=z;subst e';rw[pN (fun m g hm hg=>hn m g (by rw[δ,k3.len];exact hm) hg)]at q;rcases q with⟨_,q⟩|⟨k',e2,_⟩
   ·exact q H' (jF.refl _)
   ·cases e2
 |_=>cases hF
theorem aDh{r:Nat}(F:Fun K "led" "Pick.led" hU f fd)(cu:DfI K ay ["self","shape"])(cw:jJ k cIv ay ["self","shape"] (aEw Vb "shape")):jJ (k+2) f fd ["self","step"] (uU (jK 0) K Kd.isPick):=by
 w_cond oG;obtain⟨a,w,kd,sa,S,rfl,hF,hf,ho,hw,hg,q⟩:=h;refine⟨_,(jC (vF yw rfl (fL (kW (pv 0) rfl)) (jM (i:=2) oG.nd rfl (yp rfl)) (jD (kM (jP qI (kW (pv 2) rfl) (pv 1) (jT _)) (jD (jJ (xH Ub.ma cw hr0 rfl Ub.m cu.b .nil jQ (jA (pv 2) jB)))) jR))) (jD (jJ xC))),?_⟩;cases id ho with
 | @pick a dx t is ss h1 k2 hl hall =>
  have hled:ledK S (.pick is) w=((is.map fun i=>(kO S i,Kd.nest i)).find? fun f=>decide (f.1=w)).map (·.2):=rfl;rw[hled]at q;refine⟨_,rfl,a,Vd,_,_,_,rfl,h1,Ud.cl,Ud.na _ (by decide),rfl,t,rfl,⟨_,k2⟩,aBa (xs:=ss.map V.ref) (fun j σ H'=>H'=H/\(∃o2,σ = [some (.ref a),some (.str w),o2])/\∀m g,m<j->(is.map fun i=>(kO S i,Kd.nest i))[m]?=some g->g.1≠w) ⟨rfl,⟨_,rfl⟩,fun m g z=>absurd z (Ar _)⟩ (fun j σ H' _ z=>?_) (fun j x σ H' hx z=>?_) (fun σ H' z=>?_)⟩
  ·obtain⟨e',_⟩:=z;rw[e'];exact k2
  ·obtain⟨e',⟨o2,rfl⟩,hn⟩:=z;subst e';obtain⟨s,hs,rfl⟩:=qH hx;have hj:j<is.length:=by rw[←hl];exact(θ.mp hs).1
   have hi:is[j]?=some is[j]:=η hj;generalize is[j]=i at hi;have hsa:=hall j i s hi hs;obtain⟨sh,hS,dx2,t2,ps,k1,_⟩:=hw.at hsa;have hfs:(is.map fun i=>(kO S i,Kd.nest i))[j]?=some (sh.1,Kd.nest i):=by rw[yv,hi,←vY hS];rfl
   refine⟨_,rfl,s,Ve,_,_,_,rfl,k1,Ue.cl,Ue.na _ (by decide),rfl,_,rfl,rfl,_,rfl,vE (fun c=>?_) (fun c=>?_)⟩
   ·have ew:sh.1=w:=by simpa using c
    rw[aY hfs ew hn]at q;rcases q with⟨e2,_⟩|⟨k',e2,q⟩
    ·cases e2
    ·cases e2;exact⟨_,rfl,fun x dx hx hdx _=>⟨x,dx,.ref s,H',rfl,jO,cV hx hdx,hx,fun H1 g1 k1=>⟨rfl,q x H1 g1 (.nest hsa k1)⟩⟩⟩
   ·have ew:¬ sh.1=w:=by simpa using c
    exact⟨rfl,⟨_,rfl⟩,pH hfs ew hn⟩
  ·obtain⟨e',⟨o2,rfl⟩,hn⟩:=z;subst e';rw[pN (fun m g hm hg=>hn m g (by rw[δ,hl];simpa using hm) hg)]at q;rcases q with⟨_,q⟩|⟨k',e2,_⟩
   ·exact q H' (jF.refl _)
   ·cases e2
 |_=>cases hF
theorem aE{k r:Nat}{FF:Kd->Bool}(hFF:∀n k,FF (.many n k)=true->False)(F:Fun K "step_of" "Kind.step_of" aZ f fd):jJ (k+2) f fd ["self","word"] (aJm (jK 0) K FF):=by
 w_cond oZ;obtain⟨a,w,kd,sa,S,rfl,hwl,hF,hf,ho,hw,q⟩:=h;refine⟨_,(jD (jJ (pv 1))),?_⟩;cases kd with
 |many n k=>exact(hFF _ _ hF).elim
 |_=>exact⟨_,rfl,q H (jF.refl _)⟩
theorem oW{r:Nat}(F:Fun K "step_of" "Many.step_of" bA f fd)(au:Df K mg "number_in" bw br ["text","low","high"])(dn:jJ k bw br ["text","low","high"] (aU K)):jJ (k+2) f fd ["self","word"] (aJm (jK 0) K Kd.isMany):=by
 w_cond oM;obtain⟨a,w,kd,sa,S,rfl,hwl,hF,hf,ho,hw,q⟩:=h;refine⟨_,(jD (jJ (jK dn hr rfl au.m au.k au.b .nil jQ (jA (pv 1) (jA jE (jA (jS iR (kW (pv 0) rfl) jE) jB)))))),?_⟩;cases id ho with
 | @many a dx b n k h1 h2 =>
  exact⟨_,rfl,_,rfl,a,Vc,_,_,_,rfl,h1,Uc.cl,Uc.na _ (by decide),rfl,_,_,rfl,rfl,.str w,0,_,rfl,.inl ⟨w,rfl,hwl,fun H1 g1=>q H1 g1⟩⟩
 |_=>cases hF
theorem aBo{k r:Nat}(F:Fun K "word" "Num.word" iG f fd):jJ (k+2) f fd ["self"] (aFp (jK 0) K Kd.isNum):=by
 w_cond aCj;obtain⟨a,kd,sa,rfl,hF,ho,q⟩:=h;refine⟨_,(jD (jJ jH)),?_⟩;cases kd <;> first
  |exact absurd hF π
  |exact q
theorem sJ{k r:Nat}(F:Fun K "word" "Nested.word" cG f fd):jJ (k+2) f fd ["self"] (aFp (jK 0) K Kd.isNest):=by
 w_cond tL;obtain⟨a,kd,sa,rfl,hF,ho,q⟩:=h;refine⟨_,(jD (jJ jH)),?_⟩;cases kd <;> first
  |exact absurd hF π
  |exact q
theorem wQ{k r:Nat}(F:Fun K "word" "Many.word" eY f fd):jJ (k+2) f fd ["self"] (aFp (jK 0) K Kd.isMany):=by
 w_cond aAc;obtain⟨a,kd,sa,rfl,hF,ho,q⟩:=h;refine⟨_,(jD (jJ jH)),?_⟩;cases kd <;> first
  |exact absurd hF π
  |exact q
theorem aBc{k r:Nat}(F:Fun K "word" "Pick.word" fP f fd):jJ (k+2) f fd ["self"] (aFp (jK 0) K Kd.isPick):=by
 w_cond wM;obtain⟨a,kd,sa,rfl,hF,ho,q⟩:=h;refine⟨_,(jD (jJ jH)),?_⟩;cases kd <;> first
  |exact absurd hF π
  |exact q
theorem aDa{k:Nat}(F:Fun K "lines_in" "lines_in" iB f fd):jJ (k+2) f fd ["text"] spLi:=by
 w_cond aBs;obtain⟨xs,rfl,hne,hx,hl,q⟩:=h;refine⟨_,(jD (jJ (yC (zK (pv 0) (fun _=>rfl)) (xA zg AB AC yN (pv 0) (jA jH jB)) (kK jB)))),?_⟩;have h1:(yd nlS xs).length<=xs.length*241:=cL (c:=10) (m:=240) fun w hw=>(hx w hw).2.1;have h0:(yd nlS xs).length≠0:=by
  cases xs with
  |nil=>exact absurd rfl hne
  |cons x xs =>
   have hx0:=(hx x (Ψ ..)).2.2
   by_cases z:xs=[]
   ·subst z;rw[join_one];exact hx0
   ·rw[aL z,len_app,len_app];omega
 refine⟨_,rfl,_,⟨small (by omega),rfl⟩,vJ (bne_iff_ne.mpr (by omega)) ⟨_,rfl,rfl,_,_,rfl,rfl,rfl,(by rw[ym];omega),fun p hp=>?_⟩⟩;rw[show zv (yd nlS xs) (ε "\n")=xs from yZ (c:=10) hne fun x hx'=>(hx x hx').1];exact q p hp
theorem aEk{k:Nat}(F:Fun K "form_of" "form_of" nR f fd){xb:Addr}{we:zb}(vj:Df K mg "fits" xb we ["part","word"])(xo:jJ k xb we ["part","word"] spFi){bf:zb}(bt:DfI K bf ["self","line"])(bu:jI P w K mg base (CXE P w) k cm bf ["self","line"] pT):jI P w K mg base (CXE P w) (k+2) f fd ["line","words"] (spFm K):=by
 w_cond hG;obtain⟨i,a,l,rfl,hF,ha,q⟩:=h;refine⟨_,(jC (vF ownE rfl (fL (qC (v:=.ref tFo) rfl C.FORMS rfl)) (xZ rfl (jW (jM (i:=2) hG.nd rfl (yp rfl)) (jW (jM (i:=3) hG.nd rfl (yp rfl)) qL))) (jD (kM (PW.pt (yA (jP qI (jZ kG rfl M.len yn (jA (pv 3) jB)) (jZ kG rfl M.len yn (jA (pv 1) jB)) (jT _)) (vX (xJ (jZ (rG rfl) rfl M.all boot_all (jA (qF ["part","word"] [] [] rfl (aGl rfl M.zip (jA (pv 3) (jA (pv 1) jB))) rfl trivial trivial (fun _ _ _ _=>(yX (K:=K) (n:=2) rfl rfl (jW (jM (i:=0) (show yt (["part","word"]:List Str) from by ac_rfl) rfl (yp rfl)) (jW (jM (i:=1) (show yt (["part","word"]:List Str) from by ac_rfl) rfl (yp rfl)) qL)))) (fun _ _ _ _=>qB) (fun _ _ _ _=>(jK xo hr rfl vj.m vj.k vj.b .nil jQ (jA (pv 0) (jA (pv 1) jB))))) jB)))))) (jD (jJ (qP (jA (pv 2) (jA (pv 3) jB))))) jR))) (jD (yO ar.c bu hr0 rfl ar.m bt.b .nil aG (jA (pv 0) jB)))),?_⟩;obtain⟨fas,hfo,hfl,hfs⟩:=C.frms H;have hw1000:∀w∈l.ws,w.length<=1000:=fun w hw=>by have:=(hF.w w hw).1;omega
 refine⟨tFo,rfl,⟨_,hfo⟩,aBa (xs:=fas.map V.ref) (fun j σ H'=>(∃o2 o3,σ = [some i,some (.ref a),o2,o3])/\jF H H'/\∀m f',m<j->iL[m]?=some f'->eO l.ws f'=false) ⟨⟨_,_,rfl⟩,jF.refl _,fun m f' z=>absurd z (Ar _)⟩ (fun j σ H' _ z=>z.2.1.tp hfo) (fun j x σ H' hx z=>?_) (fun σ H' z=>?_)⟩
 ·obtain⟨⟨o2,o3,rfl⟩,g,hno⟩:=z;obtain⟨fa,hfa,rfl⟩:=qH hx;have hj:j<iL.length:=by rw[←hfl];exact(θ.mp hfa).1
  obtain⟨f',hf'⟩ : ∃f',iL[j]?=some f':=⟨_,η hj⟩;obtain⟨ga,s1,s2⟩:=hfs j fa f' hfa hf';have s1':=g.tp s1;have s2':=g.tp s2;have ha':=g.seq ha;refine⟨fa,_,rfl,s1',rfl,_,_,rfl,_,_,rfl,rfl,_,rfl,ga,_,rfl,.inr s2',_,rfl,a,_,rfl,.inl ha',rfl,_,rfl,vE (fun c=>?_) (fun c=>dX ?_)⟩
  ·have c':f'.2.length=l.ws.length:=by have:=V.int.inj (of_decide_eq_true c);rw[δ,δ]at this;omega
   have zl:(f'.2.map V.str).length=f'.2.length:=δ _;have zz:(zt eV f'.2 l.ws).length=f'.2.length:=by rw[De];omega
   have hf5:f'.2.length<=5:=by rw[c'];exact hF.w5
   refine⟨true,false,_,rfl,_,rfl,ga,a,f'.2.map V.str,l.ws.map V.str,rfl,s2',ha',aIx (fun j zs H2=>jF H' H2/\zs=((zt eV f'.2 l.ws).take j).map V.bl) (by rw[δ,δ];omega) ⟨jF.refl _,rfl⟩ (fun j zs H2 _ z=>⟨z.1.tp s2',z.1.seq ha',by rw[z.2,δ,yh];exact Aa _ _⟩) (kN (by omega)) (fun j x y zs H2 p os ho hx hy z hp=>?_) (fun zs H2 z p hp=>?_)⟩
   ·obtain⟨g2,rfl⟩:=z;obtain⟨o1,o2,rfl⟩:=oV ho;obtain⟨u,hu,rfl⟩:=vK hx;obtain⟨v,hv,rfl⟩:=vK hy;clear 1 p H3 g3 k3 hp;refine⟨p,_,rfl,SqT.of k3,rfl,_,_,rfl,_,_,rfl,rfl,_,rfl,_,rfl,u,v,rfl,hw1000 v (ο hv),fun H4 g4=>⟨⟨g2.trans (g3.trans g4),?_⟩,[_,_],rfl,rfl⟩⟩;rw[zu,CA,hu,hv,ξ];rfl
   ·obtain⟨g2,rfl⟩:=z;clear 1 p H3 g3 k3 hp;rw[zl,←zz,vC]at k3;have g4:=g.trans (g2.trans g3);refine⟨p,_,rfl,SqL.of k3,_,rfl,vE (fun d=>?_) (fun d=>?_)⟩
    ·have hB:eO l.ws f'=true:=by unfold eO;rw[decide_eq_true c',d];rfl
     have ef:f'=(l.d,l.ps):=by
      have:=lJ hf' hB hno;rw[hF.fd]at this;exact(zc this).symm
     subst ef;refine⟨_,rfl,_,rfl,vD,fun t ht=>?_⟩;clear 1 t H5 g5 k5 ht;exact q t ga H5 (g4.trans g5) (SqT.of k5) ((g4.trans g5).tp s2)
    ·have hB:eO l.ws f'=false:=by unfold eO;rw[AS.mpr d,CL]
     exact⟨⟨_,_,rfl⟩,g4,aGp hf' hB hno⟩
  ·have c':¬ f'.2.length=l.ws.length:=fun z=>c (decide_eq_true (by rw[δ,δ,z]));have hB:eO l.ws f'=false:=by unfold eO;rw[decide_eq_false c',AE]
   exact⟨⟨_,_,rfl⟩,g,aGp hf' hB hno⟩
 ·obtain⟨⟨o2,o3,rfl⟩,g,hno⟩:=z;exfalso;have hz:iL.find? (eO l.ws)=none:=List.find?_eq_none.mpr fun f' hf'=>by
   obtain⟨j,hj⟩:=Ai.mp hf';rw[hno j f' (by rw[δ,hfl];exact(θ.mp hj).1) hj];exact π
  rw[hF.fd]at hz;cases hz
theorem lX{k:Nat}(F:Fun K "__init__" "NoProgram.__init__" cU f fd):jI P w K mg base (CXE P w) (k+2) f fd ["self","line"] pT:=⟨fun _ _ _ _ h=>h.elim,fun _ _ _ _ _ _ _ _ _ _ _ _ _ h=>h.elim⟩
theorem oO{k:Nat}(F:Fun K "__init__" "TooMuch.__init__" fO f fd):jI P w K mg base (CXE P w) (k+2) f fd ["self","line"] pT:=⟨fun _ _ _ _ h=>h.elim,fun _ _ _ _ _ _ _ _ _ _ _ _ _ h=>h.elim⟩
theorem nE(F:Fun K "need_standing" "need_standing" zX f fd)(bt:DfI K bf ["self","line"])(bu:jI P w K mg base (CXE P w) k cm bf ["self","line"] pT):jI P w K mg base (CXE P w) (k+2) f fd ["begun","line","deed"] spNs:=by
 w_cond nP;obtain⟨a,i,d,rfl,⟨h1,h2,h3⟩,q⟩:=h;refine⟨_,(jC (kM (PW.pt (yA (jP qI (pv 2) jH (jT _)) (vX (jP (aOw hr.units) (kZ qM (pv 0) (qE (bO yQ jE)) qU) (kK (jA jH jB)) (jT _))))) (jD (yO ar.c bu hr0 rfl ar.m bt.b .nil aG (jA (pv 1) jB))) jR) (jC (kM (PW.pt (yA (jP qI (pv 2) jH (jT _)) (vX (yK (zK (pv 0) (fun _=>rfl)))))) (jD (yO ar.c bu hr0 rfl ar.m bt.b .nil aG (jA (pv 1) jB))) jR) (jD (kM (PW.pt (yA (jP vU (pv 2) (qC (v:=.ref tBe) rfl C.BEGINNINGS rfl) (by with_unfolding_all rfl)) (vX (jP qI (jZ kG rfl M.len yn (jA (pv 0) jB)) (qC (v:=.int 3) rfl C.MOST_BEGUN ⟨_,rfl⟩) (jT _))))) (jD (yO ar.c bu hr0 rfl ar.m bt.b .nil aG (jA (pv 1) jB))) jR)))),?_⟩;refine⟨_,rfl,rfl,_,rfl,kS (fun z=>h2 (V.str.inj (of_decide_eq_true z))) ?_⟩;refine⟨_,rfl,rfl,_,rfl,kS (fun z=>h3 (V.str.inj (of_decide_eq_true z))) ?_⟩;refine⟨_,rfl,tBe,_,rfl,.inr (C.begs H),rfl,qY _,_,rfl,?_⟩;rw[if_neg π,vB];exact kS (by rw[decide_eq_false h1];decide) q
theorem pE{k:Nat}(F:Fun K "begun_behind" "begun_behind" aR f fd):jJ (k+2) f fd ["begun","deed"] spBg:=by
 w_cond pG;obtain⟨a,d,rfl,⟨h1,h2,h3⟩,q⟩:=h;refine⟨_,(jC (kM (jP vU (pv 1) (qC (v:=.ref tBe) rfl C.BEGINNINGS rfl) (by with_unfolding_all rfl)) (jD (jJ (jS qD (pv 0) (kK (jA (pv 1) jB))))) jR) (jC (kM (jP qI (pv 1) jH (jT _)) (jD (jJ (jS qD (kZ qM (pv 0) qU (qE (bO yQ jE))) (kK (jA (pv 1) jB))))) jR) (jD (jJ (yC (jP qI (pv 1) jH (jT _)) (kZ qM (pv 0) qU (qE (bO yQ jE))) (pv 0)))))),?_⟩;refine⟨_,rfl,tBe,_,rfl,.inr (C.begs H),rfl,qY _,_,rfl,?_⟩;rw[if_neg π,vB];exact kS (by rw[decide_eq_false h1];decide) ⟨_,rfl,rfl,_,rfl,kS (fun z=>h2 (V.str.inj (of_decide_eq_true z))) ⟨_,rfl,rfl,_,rfl,kS (fun z=>h3 (V.str.inj (of_decide_eq_true z))) ⟨_,rfl,q⟩⟩⟩
theorem aIv{k:Nat}(F:Fun K "unlike" "unlike" rO f fd):jJ (k+2) f fd ["names","ahead"] (spUn K):=by
 w_cond mZ;obtain⟨a,b,xs,ys,rfl,ha,hb,hx,q⟩:=h;refine⟨_,(jC (jU (i:=2) mZ.nd rfl (by walk_at"o") (kK jB)) (jC (vF yw rfl (kU (pv 0)) (jM (i:=3) mZ.nd rfl (yp rfl)) (jD (kM (PW.pt (yA (jP yU (pv 3) (pv 1) (by with_unfolding_all rfl)) (vX (jP yU (pv 3) (pv 2) (by with_unfolding_all rfl))))) (jD (vL (xA yy zp zr vT (pv 2) (jA (pv 3) jB)))) jR))) (jD (jJ (pv 2))))),?_⟩;refine⟨zL,fun l hl=>?_⟩;clear 1 l H2 g2 k2 hl;refine⟨_,rfl,a,rfl,⟨_,g2.seq ha⟩,vN (xs:=xs.map V.str) (fun j σ H'=>∃(zs:List Str) (o3:Option V),σ = [some (.ref a),some (.ref b),some (.ref l),o3]/\But l H2 H'/\H' l=some (.lst (zs.map V.str))/\zs.length<=j) ⟨[],_,rfl,But.refl,k2,μ _⟩ (fun j σ H' _ z=>?_) (fun j x σ H' hxj z=>?_) (fun σ H' z=>?_)⟩
 ·obtain⟨zs,o3,rfl,g,_⟩:=z;exact(But.from g2 hl g).seq ha
 ·obtain⟨zs,o3,rfl,g,kz,hz⟩:=z;obtain⟨y,hy',rfl⟩:=vK hxj;have gH:=But.from g2 hl g;have hj:=(θ.mp hy').1;refine⟨_,rfl,_,rfl,b,_,rfl,.inl (gH.seq hb),rfl,qY _,_,rfl,?_⟩;rw[if_pos rfl,vB];refine vE (fun c=>?_) (fun c=>dX ⟨zs,_,rfl,g,kz,DK hz⟩);refine⟨_,rfl,_,rfl,l,_,rfl,.inl (SqL.of kz),rfl,qY _,_,rfl,?_⟩;rw[if_pos rfl,vB];refine vE (fun d=>?_) (fun d=>⟨zs,_,rfl,g,kz,DK hz⟩);refine⟨_,rfl,.inl ⟨rfl,_,SqL.of kz⟩,_,rfl,l,_,_,rfl,rfl,kz,(by rw[δ];exact zy (show zs.length<=2000 by omega) (by decide)),?_⟩;clear 0 l H3 g3 k3;exact⟨zs++[y],_,rfl,g.trans g3,by rw[ξ];exact k3,by rw[ι];exact CU hz⟩
 ·obtain⟨zs,o3,rfl,g,kz,hz⟩:=z;rw[δ]at hz;exact⟨_,rfl,q l zs H' (But.from g2 hl g) kz hz⟩
theorem rE{k:Nat}(F:Fun K "line_behind" "line_behind" cI f fd)(RC:RwC K ao):jJ (k+2) f fd ["row"] (spLb ao K):=by
 w_cond sW;obtain⟨a,i,l,s,rfl,⟨dx,ra,sa,us,h1,_⟩,q⟩:=h;refine⟨_,(jD (jJ (yC (xJ (jZ (aDm (K:=K) rfl) rfl M.isinstance Cw (jA (pv 0) (jA (qC (v:=.ref ao) rfl bh.m rfl) jB)))) (jS qO (kW (pv 0) rfl) jE) (jS qO (kW (pv 0) rfl) jE)))),?_⟩;exact⟨_,rfl,.ref a,ao,_,_,rfl,RC.i.ty h1,RC.r,_,rfl,vJ rfl ⟨_,rfl,a,ao,_,_,_,rfl,h1,bh.cl,bh.na _ (by decide),rfl,_,_,rfl,rfl,q⟩⟩
theorem aBl{k:Nat}(F:Fun K "__init__" "Loop.__init__" oA f fd):jJ (k+2) f fd ["self","line","last","deed","goal","reads","rows"] pT:=⟨fun _ _ _ _ h=>h.elim,fun _ _ _ _ _ _ _ _ _ _ _ _ _ h=>h.elim⟩
theorem rN{k:Nat}(F:Fun K "__init__" "Choice.__init__" gW f fd):jJ (k+2) f fd ["self","line","last","middle","reads","rows","others"] pT:=⟨fun _ _ _ _ h=>h.elim,fun _ _ _ _ _ _ _ _ _ _ _ _ _ h=>h.elim⟩
theorem aAn(F:Fun K "whole_row" "whole_row" fU f fd)(cf:Df K mg "rows_from" gc fk ["told","first"])(ir:jJ k gc fk ["told","first"] pT)(vw:DfI K pe ["self","line","last","deed","goal","reads","rows"])(vy:jJ k iq pe ["self","line","last","deed","goal","reads","rows"] pT)(nh:DfI K lr ["self","line","last","middle","reads","rows","others"])(nj:jJ k gm lr ["self","line","last","middle","reads","rows","others"] pT):jJ (k+2) f fd ["told","at"] (spWR ao K):=by
 w_cond xY;obtain⟨tl,a,n,rs,ls,sz,rfl,hT,ha,q⟩:=h;refine⟨_,(jC (jU (i:=2) xY.nd rfl (by walk_at"o") (jX kF (pv 0) (pv 1) (fun _ _=>rfl))) (jC (kM (jP yU (kW (pv 2) rfl) (qC (v:=.ref tBe) rfl C.BEGINNINGS rfl) (by with_unfolding_all rfl)) (jD (jJ (pv 2))) jR) (jC (eI (jK ir hr rfl cf.m cf.k cf.b .nil jQ (jA (pv 0) (jA (jS qO (pv 1) jE) jB))) (xZ rfl (jW (jM (i:=3) xY.nd rfl (yp rfl)) (jW (jM (i:=4) xY.nd rfl (yp rfl)) qL)))) (jC (kM (jP aDy (kW (pv 2) rfl) jH (jT _)) (jD (jJ (xH oh.ma vy hr0 rfl oh.m vw.b .nil jQ (jA (pv 1) (jA (pv 4) (jA (kW (pv 2) rfl) (jA (jX kF (kW (pv 2) rfl) jE (fun _ _=>rfl)) (jA (kZ qM (kW (pv 2) rfl) (qE jE) qU) (jA (pv 3) jB qZ) aEs) aEs)) qZ) qZ)))) jR) (jC (kM (jP qI (kW (jX kF (pv 0) (pv 4) (fun _ _=>rfl)) rfl) jH (jT _)) (jD (jJ (xH gp.ma nj hr0 rfl gp.m nh.b .nil jQ (jA (pv 1) (jA (pv 4) (jA xC (jA (kW (pv 2) rfl) (jA (pv 3) (jA (kK jB) jB aOh) qZ)) qX) qZ) qZ)))) jR) (jC (eI (jK ir hr rfl cf.m cf.k cf.b .nil jQ (jA (pv 0) (jA (jS qO (pv 4) jE) jB))) (xZ rfl (jW (jM (i:=5) xY.nd rfl (yp rfl)) (jW (jM (i:=6) xY.nd rfl (yp rfl)) qL)))) (jD (jJ (xH gp.ma nj hr0 rfl gp.m nh.b .nil jQ (jA (pv 1) (jA (pv 6) (jA (pv 4) (jA (kW (pv 2) rfl) (jA (pv 3) (jA (pv 5) jB qZ) qZ)) qZ) qZ) qZ)))))))))),?_⟩;obtain⟨a',l,s,h1,h2,h3,hF,dx,ra,sa,us,h4,_⟩:=hT.at (n:=n) (by rw[←hT.n];exact(θ.mp ha).1);rw[ha]at h1;cases h1;refine⟨_,rfl,_,rfl,tl,_,_,_,rfl,rfl,hT.l,aHa ha,_,rfl,a,ao,_,_,_,rfl,h4,bh.cl,bh.na _ (by decide),rfl,tBe,_,rfl,.inr (C.begs H),rfl,qY _,_,rfl,?_⟩;rw[if_pos rfl,vB];exact vJ (by rw[decide_eq_false hF.fl.1];rfl) ⟨_,rfl,q⟩
theorem wW(F:Fun K "rows_from" "rows_from" eG f fd)(ky:Df K mg "whole_row" qk ph ["told","at"])(vz:jJ k qk ph ["told","at"] (spWR ao K))(iz:Df K mg "line_behind" nk lu ["row"])(vd:jJ k nk lu ["row"] (spLb ao K)):jJ (k+2) f fd ["told","first"] (spRF ao K):=by
 w_cond yP;obtain⟨tl,rs,ls,sz,rfl,hT,h60,q⟩:=h;refine⟨_,(jC (jU (i:=2) yP.nd rfl (by walk_at"o") (kK jB)) (jC (jU (i:=3) yP.nd rfl (by walk_at"o") (pv 1)) (jC (aMr yw (PW.pt (yA (jP aPz (pv 3) (jZ kG rfl M.len yn (jA (pv 0) jB)) (jT _)) (vX (jP yU (kW (jX kF (pv 0) (pv 3) (fun _ _=>rfl)) rfl) (qP (jA jH (jA jH jB))) (by with_unfolding_all rfl))))) (jC (jU (i:=4) yP.nd rfl (by walk_at"o") (jK vz hr rfl ky.m ky.k ky.b .nil jQ (jA (pv 0) (jA (pv 3) jB)))) (jC (vL (xA yy zp zr vT (pv 2) (jA (pv 4) jB))) (jD (jU (i:=3) yP.nd rfl (by walk_at"o") (jK vd hr rfl iz.m iz.k iz.b .nil jQ (jA (pv 4) jB))))))) (jD (jJ (qP (jA (pv 2) (jA (pv 3) jB)))))))),?_⟩;have hlen:=hT.n;refine⟨zL,fun l hl=>?_⟩;clear 1 l H2 g2 k2 hl;refine⟨_,rfl,fun m σ H'=>∃(n':Nat) (o4:Option V),m=100-n'/\n'<=rs.length/\σ = [some (.ref tl),some (.int 0),some (.ref l),some (.int (n':Int)),o4]/\But l H2 H'/\H' l=some (.lst ((rs.take n').map V.ref)),⟨_,0,_,rfl,yq _,rfl,But.refl,k2⟩,fun m σ H' z=>?_⟩;obtain⟨n',o4,rfl,hn',rfl,g,kl⟩:=z;have gH:=But.from g2 hl g;have hT':=hT.same gH;refine⟨_,rfl,_,rfl,tl,_,rfl,.inl hT'.l,_,_,rfl,rfl,_,rfl,vE (fun c=>?_) (fun c=>?_)⟩
 ·have c':n'<ls.length:=by have:=of_decide_eq_true c;rw[δ]at this;omega
  obtain⟨a,ln,s,har,hln,hs,hF,hrow⟩:=hT'.at c';obtain⟨dx,ra,sa,us,h1,h2⟩:=id hrow;refine⟨_,rfl,_,rfl,tl,_,_,_,rfl,rfl,hT'.l,aHa har,a,ao,_,_,_,rfl,h1,bh.cl,bh.na _ (by decide),rfl,vD,fun pt hpt=>?_⟩;clear 1 pt H3 g3 k3 hpt;have ein:inV (V.str ln.d) [V.str (ε "else"),V.str (ε "end")]=decide (ln.d∈([ε "else",ε "end"]:List Str)):=vB (x:=ln.d) (ys:=[ε "else",ε "end"]);refine⟨pt,_,rfl,.inr (SqT.of k3),rfl,rfl,_,rfl,?_⟩;rw[if_pos rfl,ein];have hmem:ln.d∉([ε "else",ε "end"]:List Str):=fun z=>by
   rcases ς.mp z with z|z
   ·exact hF.fl.2.1 z
   ·exact hF.fl.2.2 (τ.mp z)
  refine vJ (by rw[decide_eq_false hmem];rfl) ⟨_,fun _ _ h=>h,?_⟩;have hT3:=hT'.same g3;have kl3:=g3 _ _ kl;refine⟨_,rfl,_,rfl,tl,a,n',rs,ls,sz,rfl,hT3,har,?_⟩;refine⟨_,rfl,.inl ⟨rfl,_,SqL.of kl3⟩,_,rfl,l,_,_,rfl,rfl,kl3,(by rw[δ];exact zy (yo (Bz ..) (show n'<=60 by omega)) (by decide)),?_⟩;clear 0 l H5 g5 k5;have gH5:=But.from g2 hl ((g.trans (But.of g3)).trans g5);refine⟨_,rfl,a,n',ln,s,rfl,(hT.same gH5).r _ _ _ _ har hln hs,100-(n'+1),?_,n'+1,_,rfl,(by omega),rfl,(g.trans (But.of g3)).trans g5,?_⟩
  ·omega
  ·rw[zu,har,ξ];exact k5
 ·have c':¬ n'<ls.length:=fun z=>c (decide_eq_true (by rw[δ];omega));refine dX ⟨_,rfl,_,rfl,vD,fun p hp=>?_⟩;clear 1 p H5 g5 k5 hp;obtain rfl:n'=ls.length:=by omega
  rw[←hlen,An]at kl;exact q p l H5 (gH.trans g5) (SqT.of k5) (SqL.of (g5 _ _ kl))
theorem aEp(F:Fun K "step_in" "step_in" mQ f fd)(wk:∀C sp,T4 (jK 0) (aJm (jK 0) K) C sp->zB P w K mg base CX0 k "step_of" C sp)(af:Df K mg "is_name" aq am ["thing"])(bz:jJ k aq am ["thing"] (zM K)):jJ (k+2) f fd ["kind","word"] (spSi (jK 0) K):=by
 w_cond sT;obtain⟨a,w,kd,sa,S,rfl,hw1,hf,ho,hw,q1,q2,q3⟩:=h;refine⟨_,(jC (jU (i:=2) sT.nd rfl (by walk_at"o") (lA (pv 0) wk hr jQ (jA (pv 1) jB))) (jC (kM (PW.pt (yA (jP mV (pv 2) xC (jT _)) (vX (xJ (jK bz hr rfl af.m af.k af.b .nil jQ (jA (pv 1) jB)))))) (jD (jJ (qP (jA jH (jA (pv 1) jB))))) jR) (jD (jJ (pv 2))))),?_⟩;obtain⟨C',dx,fs,sp',k1,k2,k3,F',hF',rfl⟩:=aPp (sp4:=aJm (jK 0) K) (m:="step_of") (fun _ _=>⟨rfl,rfl,rfl,rfl⟩) ho;refine⟨_,rfl,a,C',dx,fs,_,rfl,k1,k2,k3,_,rfl,a,w,kd,sa,S,rfl,hw1,hF',hf,ho,hw,fun H1 g1=>?_⟩
 by_cases hv:iW kd w=.non
 ·rw[hv];refine⟨_,rfl,rfl,_,rfl,vJ rfl ⟨_,rfl,.str w,rfl,.inl ⟨w,rfl,hw1,fun H2 g2=>⟨_,rfl,?_⟩⟩⟩⟩;cases hn:kP w with
  |true =>
   refine vJ rfl ⟨_,rfl,vD,fun t ht=>?_⟩;generalize e3:upd H2 t _=H3;obtain⟨g3,k3'⟩:=qN e3 ht;exact q2 hv hn t H3 ((g1.trans g2).trans g3) ((g1.trans g2).free ht) k3'
  |false=>exact kS (by decide) ⟨_,rfl,q3 hv hn H2 (g1.trans g2)⟩
 ·exact⟨_,rfl,rfl,_,rfl,kS (by rw[decide_eq_false hv];decide) ⟨_,rfl,q1 hv H1 g1⟩⟩
theorem aDk{k:Nat}(F:Fun K "steps_in" "steps_in" iO f fd){ay:zb}(cu:DfI K ay ["self","shape"])(cw:jJ k cIv ay ["self","shape"] (aEw Vb "shape")){uq:Addr}{sr:zb}(pk:Df K mg "step_in" uq sr ["kind","word"])(xg:jJ k uq sr ["kind","word"] (spSi (jK 0) K))(xq:∀C sp,T3 (jK 0) (uU (jK 0) K) C sp->zB P w K mg base CX0 k "led" C sp)(KM:KdM K (jK 0))(xl:∀C sp,T4 (jK 0) (aFp (jK 0) K) C sp->zB P w K mg base CX0 k "word" C sp){jf:zb}(jt:DfI K jf ["self","line","path"])(ju:jI P w K mg base (CXE P w) k bc jf ["self","line","path"] (spXn ac ["line","path"])):jI P w K mg base (CXE P w) (k+2) f fd ["shape","line","deed","path"] (aQj (jK 0) ac K):=by
 w_cond yM;obtain⟨z,li,d,p,n,sa,S,xs,rfl,hz,hw,hg,hn,hp,hA,q,qx⟩:=h;refine⟨_,(jC (jU (i:=4) yM.nd rfl (by walk_at"o") (xH Ub.ma cw hr0 rfl Ub.m cu.b .nil jQ (jA (pv 0) jB))) (jC (jU (i:=5) yM.nd rfl (by walk_at"o") (kK jB)) (jC (vF ownE rfl (kU (xA zg AB AC yN (pv 3) (jA jH jB))) (jM (i:=6) yM.nd rfl (yp rfl)) (jC (jU (i:=7) yM.nd rfl (by walk_at"o") (jK xg hr rfl pk.m pk.k pk.b .nil jQ (jA (pv 4) (jA (pv 6) jB)))) (jC (jU (i:=4) yM.nd rfl (by walk_at"o") (yC (xJ (jZ (aDm (K:=K) rfl) rfl M.isinstance Cw (jA (pv 4) (jA (qC (v:=.ref Vc) rfl Uc.m rfl) jB)))) (kW (pv 4) rfl) (lA (pv 4) xq hr jQ (jA (pv 7) jB)))) (jC (kM (PW.pt (sP (jP mV (pv 7) xC (jT _)) (iD (jP mV (pv 4) xC (jT _))))) (jD (yO ah.c ju hr0 rfl ah.m jt.b .nil aG (jA (pv 1) (jA (pv 3) jB)))) jR) (jD (vL (xA yy zp zr vT (pv 5) (jA (pv 7) jB)))))))) (jC (kM (jP aDy (aK (pv 4) xl hr jQ) (yC (jP vU (pv 2) (qP (jA jH (jA jH jB))) (by with_unfolding_all rfl)) jH jH) (jT _)) (jD (yO ah.c ju hr0 rfl ah.m jt.b .nil aG (jA (pv 1) (jA (pv 3) jB)))) jR) (jD (jJ (pv 5))))))),?_⟩;have fin:∀{H1:Hp},jF H H1->qJ S (.nest n) d p=none->∀e,H1 e=none->∀dx H2,Fl ac e dx (upd H1 e (Ex0 e ac none)) H2 [("line",li),("path",.str p)]->E (.ref e) none (upd H2 e (ExF e ac (some dx))):=fun {H1} g hno e he dx H2 F=>by
  obtain⟨g2,k1,k2⟩:=F.fly he;exact qx hno e _ (g.trans g2) (g.free he) ⟨dx,k1,k2⟩
 have hi:n<S.length:=by have:=(θ.mp hz).1;rw[hw.1]at this;exact this
 refine⟨_,rfl,fun x dx hx hdx _=>⟨x,dx,.ref z,H,rfl,jO,cV hx hdx,hx,fun H1 g1 k1=>⟨rfl,?_⟩⟩⟩;refine⟨zL,fun l hl=>?_⟩;clear 1 l H2 g2 k2 hl;refine⟨_,rfl,rfl,_,_,rfl,rfl,rfl,(by rw[ym];omega),fun wl hwl=>?_⟩;clear 1 wl H3 g3 k3 hwl;have kl3:=g3 _ _ k2;have hA3:Al (l::xs) H3:=aGq (((hA.same g1).same g2).same g3) kl3;have nwl:wl≠l:=fun z=>by rw[z,k2]at hwl;cases hwl
 have lx:l∉xs:=(hA.same g1).new hl;have hno:∀j,qQ S (.nest n) ((zv p zP).take j)=none->qJ S (.nest n) d p=none:=fun j h=>by unfold qJ;rw[tN h]
 refine⟨wl,rfl,⟨_,SqL.of k3⟩,vN (xs:=(zv p zP).map V.str) (fun j σ H'=>∃(kc:Addr) (kd:Kd) (us:List V) (ss:List Stp) (o6 o7:Option V),σ = [some (.ref z),some li,some (.str d),some (.str p),some (.ref kc),some (.ref l),o6,o7]/\But l H3 H'/\H' l=some (.lst us)/\jF (offs (l::xs) H3) (offs (l::xs) H')/\xM K (offs (l::xs) H') us ss/\KO (jK 0) K H' sa kc kd/\kd.Fit S.length/\us.length=j/\qQ S (.nest n) ((zv p zP).take j)=some (ss,kd)) ⟨x,.nest n,[],[],_,_,rfl,But.refl,kl3,jF.refl _,⟨rfl,fun i v s h=>by simp at h⟩,(KO.nest hz k1).same (g2.trans g3),hi,rfl,rfl⟩ (fun j σ H' _ z=>?_) (fun j y σ H' hy z=>?_) (fun σ H' z=>?_)⟩
 ·obtain⟨kc,kd,us,ss,o6,o7,rfl,g,_⟩:=z;exact SqL.of (g _ _ nwl k3)
 ·obtain⟨kc,kd,us,ss,o6,o7,rfl,g,kl,go,hst,ho,hf,hj,hwk⟩:=z;obtain⟨w',hw',rfl⟩:=vK hy;have hwl':w'.length<=1000:=yo (nY (ο hw')) hp;have hjl:us.length<=1001:=by
   have:=(θ.mp hw').1;have:=nG p;omega
  have gH:jF H H':=But.from (g1.trans (g2.trans (jF.refl _))) (g1.free hl) (But.trans (But.of g3) g);have hAl:=hA.same gH;have hnx:=tJ hw' hwk;have hwH:=hw.same gH;have hAx:Al (l::xs) H':=aGq hAl kl;have put:∀{H5:Hp}{v:V}{s:Stp}{kc':Addr}{kd':Kd},jF H' H5->lO K (offs (l::xs) H5) v s->KO (jK 0) K H5 sa kc' kd'->stepK S kd w'=some (s,kd')->H5 l=some (.lst us)/\us.length<ψ/\∃H6,upd H5 l (.lst (us++[v]))=H6/\But l H3 H6/\H6 l=some (.lst (us++[v]))/\jF (offs (l::xs) H3) (offs (l::xs) H6)/\xM K (offs (l::xs) H6) (us++[v]) (ss++[s])/\KO (jK 0) K H6 sa kc' kd'/\kd'.Fit S.length/\(us++[v]).length=j+1/\qQ S (.nest n) ((zv p zP).take (j+1))=some (ss++[s],kd'):=fun {H5 v s kc' kd'} g5 hs ho5 e=>by
   have kl5:=g5 _ _ kl;refine⟨kl5,zy hjl (by decide),_,rfl,(g.trans (But.of g5)).trans But.upd,jO,?_,?_,?_,aGk hg hn hf e,by rw[ι,hj];rfl,by rw[hnx,e];rfl⟩
   ·rw[cQ];exact go.trans (kL g5)
   ·rw[cQ];exact(hst.same (kL g5)).snoc hs
   ·have:=KO.off kl5 ho5;rw[←cQ (xs:=[]) (o:=.lst (us++[v]))]at this;exact this.same jV
  have bad:stepK S kd w'=none->qJ S (.nest n) d p=none:=fun e=>hno (j+1) (by rw[hnx,e];rfl)
  by_cases hm:kd.isMany=false
  ·have sv:iW kd w'=.str w':=by cases kd <;> first|rfl|cases hm
   have sk:stepK S kd w'=(ledK S kd w').map fun k'=>(.wd w',k'):=by cases kd <;> first|rfl|cases hm
   refine⟨_,rfl,_,rfl,kc,w',kd,sa,S,rfl,hwl',hf,ho,hwH,fun hv H4 g4=>?_,(fun hv=>by rw[sv]at hv;cases hv),(fun hv=>by rw[sv]at hv;cases hv)⟩;have ho4:=ho.same g4;obtain⟨ty,hty,hkit⟩:=KM.no ho4 hm;obtain⟨C1,d1,f1,sp1,h1,l1,t1,F1,hF1,rfl⟩:=call3 (sp4:=uU (jK 0) K) (m:="led") (fun _ _=>⟨rfl,rfl,rfl,rfl⟩) ho4 hm;refine⟨_,rfl,.ref kc,Vc,ty,_,rfl,hty,hkit,_,rfl,kS (by decide) ⟨_,rfl,kc,C1,d1,f1,_,rfl,h1,l1,t1,_,rfl,kc,w',kd,sa,S,rfl,hF1,hf,ho4,hwH.same g4,hg,?_⟩⟩;rw[sv];cases hled:ledK S kd w' with
   |none =>
    rw[hled]at sk;exact .inl ⟨rfl,fun H5 g5=>⟨_,rfl,rfl,_,rfl,kS (by simp) ⟨_,rfl,rfl,_,rfl,vJ rfl ⟨Ae,_,rfl,_,rfl,(by show 2<=1000;decide),fun e he=>⟨e,[_,_],rfl,rfl,jO,fun dx H1 F=>⟨rfl,e,some dx,rfl,F.ae,fin ((gH.trans g4).trans g5) (bad sk) e he dx H1 F⟩⟩⟩⟩⟩⟩
   |some k' =>
    rw[hled]at sk;refine .inr ⟨k',rfl,fun a' H5 g5 ho5=>?_⟩;obtain⟨kl5,hlt,H6,e6,r1,r2,r3,r4,r5,r6,r7,r8⟩:=put (v:=.str w') (s:=.wd w') (g4.trans g5) rfl ho5 sk;refine⟨_,rfl,rfl,_,rfl,kS (by simp) ⟨_,rfl,rfl,_,rfl,kS (by simp) ⟨_,rfl,.inl ⟨rfl,_,SqL.of kl5⟩,_,rfl,l,_,_,rfl,rfl,kl5,hlt,?_⟩⟩⟩;rw[show upd H5 l (.lst (us++[.str w']))=H6 from e6];exact⟨a',k',_,_,_,_,rfl,r1,r2,r3,r4,r5,r6,r7,r8⟩
  cases kd with
  |many m k' =>
   obtain⟨dx',b,hk1,hk2⟩ : ∃dx' b,H' kc=some (.ins Vc dx' [("count",.int (m:Nat)),("kind",.ref b)])/\KO (jK 0) K H' sa b k':=by
    cases ho with|many h1 h2=>exact⟨_,_,h1,h2⟩
   have sv:iW (.many m k') w'=aNd (vO (yJ w') 0 ((m:Int)-1)):=rfl;have sk:stepK S (.many m k') w'=match vO (yJ w') 0 ((m:Int)-1) with|some j=>some (.no j,k')|none=>if kP w'=true then some (.nm w',k') else none:=rfl
   refine⟨_,rfl,_,rfl,kc,w',.many m k',sa,S,rfl,hwl',hf,ho,hwH,fun hv H4 g4=>?_,fun hv hnm t H4 g4 ht kt=>?_,fun hv hnm H4 g4=>?_⟩
   all_goals
    have hk4:=g4 _ _ hk1;refine⟨_,rfl,.ref kc,Vc,_,_,rfl,KM.i3.ty hk4,KM.k3,_,rfl,vJ rfl ⟨_,rfl,kc,Vc,_,_,_,rfl,hk4,Uc.cl,Uc.na _ (by decide),rfl,?_⟩⟩
   ·cases hb:vO (yJ w') 0 ((m:Int)-1) with
    |none=>rw[sv,hb]at hv;exact absurd rfl hv
    |some i =>
     rw[sv,hb];rw[hb]at sk;obtain⟨kl5,hlt,H6,e6,r1,r2,r3,r4,r5,r6,r7,r8⟩:=put (v:=.int i) (s:=.no i) g4 rfl (hk2.same g4) sk;refine⟨_,rfl,rfl,_,rfl,kS (by simp[aNd]) ⟨_,rfl,rfl,_,rfl,kS (by simp) ⟨_,rfl,.inl ⟨rfl,_,SqL.of kl5⟩,_,rfl,l,_,_,rfl,rfl,kl5,hlt,?_⟩⟩⟩;rw[show upd H4 l (.lst (us++[aNd (some i)]))=H6 from e6];exact⟨b,k',_,_,_,_,rfl,r1,r2,r3,r4,r5,r6,r7,r8⟩
   ·have hb:vO (yJ w') 0 ((m:Int)-1)=none:=by
     cases hb:vO (yJ w') 0 ((m:Int)-1) with
     |none=>rfl
     |some i=>rw[sv,hb]at hv;cases hv
    rw[hb]at sk;have sk':stepK S (.many m k') w'=some (.nm w',k'):=by rw[sk];exact if_pos hnm
    obtain⟨kl5,hlt,H6,e6,r1,r2,r3,r4,r5,r6,r7,r8⟩:=put (v:=.ref t) (s:=.nm w') g4 ⟨t,rfl,SqT.of (qS (hAx.new ht) kt)⟩ (hk2.same g4) sk';refine⟨_,rfl,rfl,_,rfl,kS (by simp) ⟨_,rfl,rfl,_,rfl,kS (by simp) ⟨_,rfl,.inl ⟨rfl,_,SqL.of kl5⟩,_,rfl,l,_,_,rfl,rfl,kl5,hlt,?_⟩⟩⟩;rw[show upd H4 l (.lst (us++[.ref t]))=H6 from e6];exact⟨b,k',_,_,_,_,rfl,r1,r2,r3,r4,r5,r6,r7,r8⟩
   ·have hb:vO (yJ w') 0 ((m:Int)-1)=none:=by
     cases hb:vO (yJ w') 0 ((m:Int)-1) with
     |none=>rfl
     |some i=>rw[sv,hb]at hv;cases hv
    rw[hb]at sk;have sk':stepK S (.many m k') w'=none:=by rw[sk];exact if_neg (by rw[hnm];decide)
    exact⟨_,rfl,rfl,_,rfl,vJ rfl (aId ⟨Ae,_,rfl,_,rfl,(by show 2<=1000;decide),fun e he=>⟨e,[_,_],rfl,rfl,jO,fun dx H1 F=>⟨rfl,e,some dx,rfl,F.ae,fin (gH.trans g4) (bad sk') e he dx H1 F⟩⟩⟩)⟩
  |_=>exact absurd rfl hm
 ·obtain⟨kc,kd,us,ss,o6,o7,rfl,g,kl,go,hst,ho,hf,hj,hwk⟩:=z;have gH:jF H H':=But.from (g1.trans (g2.trans (jF.refl _))) (g1.free hl) (But.trans (But.of g3) g);rw[δ,An]at hwk;have sp:qJ S (.nest n) d p=if zV kd=aT d then some ss else none:=by unfold qJ;rw[hwk]
  obtain⟨C1,d1,f1,sp1,h1,l1,t1,F1,hF1,rfl⟩:=aPp (sp4:=aFp (jK 0) K) (m:="word") (fun _ _=>⟨rfl,rfl,rfl,rfl⟩) ho;refine⟨_,rfl,kc,C1,d1,f1,_,rfl,h1,l1,t1,kc,kd,sa,rfl,hF1,ho,?_⟩;refine⟨_,rfl,vD,fun pt hpt=>?_⟩;clear 1 pt H4 g4 k4 hpt;have ein:inV (V.str d) [V.str (ε "look"),V.str (ε "store")]=decide (d∈([ε "look",ε "store"]:List Str)):=vB (x:=d) (ys:=[ε "look",ε "store"]);refine⟨pt,_,rfl,.inr (SqT.of k4),rfl,rfl,_,rfl,?_⟩;rw[if_neg π,ein];have okk:zV kd=aT d->Q (.ref l) H4:=fun h=>by
   rw[if_pos h]at sp;exact q ss sp l us H4 (gH.trans g4) (SqL.of (qS lx (g4 _ _ kl))) ((hst.same (kL g4)).same (aDq fun b hb=>yc _ hb))
  by_cases hd:d∈([ε "look",ε "store"]:List Str)
  ·have ew:aT d=ε "num":=by
    unfold aT;rw[if_pos (by rcases ς.mp hd with h|h;exact .inl h;exact .inr (τ.mp h))]
   refine vJ (by rw[decide_eq_true hd]) ⟨rfl,_,rfl,vE (fun c=>?_) (fun c=>?_)⟩
   ·have c2:¬ zV kd=aT d:=by rw[ew];simpa using c
    exact⟨Ae,_,rfl,_,rfl,(by show 2<=1000;decide),fun e he=>⟨e,[_,_],rfl,rfl,jO,fun dx H1 F=>⟨rfl,e,some dx,rfl,F.ae,fin (gH.trans g4) (by rw[sp];exact if_neg c2) e he dx H1 F⟩⟩⟩
   ·exact⟨_,rfl,okk (by rw[ew];simpa using c)⟩
  ·have ew:aT d=ε "pick":=by
    unfold aT;rw[if_neg (by rintro (h|h) <;> exact hd (by rw[h];decide))]
   refine kS (by rw[decide_eq_false hd];decide) ⟨rfl,_,rfl,vE (fun c=>?_) (fun c=>?_)⟩
   ·have c2:¬ zV kd=aT d:=by rw[ew];simpa using c
    exact⟨Ae,_,rfl,_,rfl,(by show 2<=1000;decide),fun e he=>⟨e,[_,_],rfl,rfl,jO,fun dx H1 F=>⟨rfl,e,some dx,rfl,F.ae,fin (gH.trans g4) (by rw[sp];exact if_neg c2) e he dx H1 F⟩⟩⟩
   ·exact⟨_,rfl,okk (by rw[ew];simpa using c)⟩
theorem aIh(F:Fun K "row_in" "row_in" sR f fd)(mj:Df K mg "steps_in" su qm ["shape","line","deed","path"])(wm:jI P w K mg base (CXE P w) k su qm ["shape","line","deed","path"] (aQj (jK 0) ac K))(wn:DfI K qo ["self","line","deed","goal","reads","steps","number"])(wo:jJ k jh qo ["self","line","deed","goal","reads","steps","number"] (spI6 ao "line" "deed" "goal" "reads" "steps" "number")):jI P w K mg base (CXE P w) (k+2) f fd ["shape","line","deed","filled"] (spRo (jK 0) ao ac K):=by
 w_cond cK;obtain⟨z,i,d,l,n,sa,S,xs,H0,rfl,hF,hz,g0,hd0,hw,hg,hn,hd,hA,q,qx⟩:=h;refine⟨_,(jC (jU (i:=4) cK.nd rfl (by walk_at"o") (yC (aAl (aEc hr.units1 jH (pv 3))) (fX hr.units1 (pv 3) jH (fun _ _=>rfl)) jH)) (jC (gK (i:=5) ["part"] ["filled","goal"] [3,4] cK.nd rfl rfl rfl (aPm (pv 3)) rfl ⟨rfl,⟨rfl,trivial⟩⟩ ⟨⟨rfl,rfl,rfl,_,rfl⟩,⟨⟨rfl,rfl,rfl,_,rfl⟩,trivial⟩⟩ (fun _ _ _ _=>(jM (i:=0) (show yt (["part","filled","goal"]:List Str) from by ac_rfl) rfl (yp rfl))) (fun _ _ _ _=>(fV (PW.pt (yA (jP (rA (K:=K) rfl) (pv 0) (qC (v:=.ref tNa) rfl C.NAMES rfl) (by with_unfolding_all rfl)) (vX (PW.pt (sP (jP aDy (pv 0) jH (jT _)) (iD (jP qI (pv 2) jH (jT _)))))))))) (fun _ _ _ _=>(fX hr.units1 (pv 1) (pv 0) (fun _ _=>rfl)))) (jC (jU (i:=6) cK.nd rfl (by walk_at"o") (yC (aAl (aEc hr.units1 jH (pv 3))) (jK wm hr rfl mj.m mj.k mj.b .nil (aGn fun _ _ _ z=>z) (jA (pv 0) (jA (pv 1) (jA (pv 2) (jA (fX hr.units1 (pv 3) jH (fun _ _=>rfl)) jB))))) (kK jB))) (jC (jU (i:=7) cK.nd rfl (by walk_at"o") (yC (aAl (aEc hr.units1 jH (pv 3))) (qR yS rfl M.int boot_int (jA (fX hr.units1 (pv 3) jH (fun _ _=>rfl)) jB)) jE)) (jD (jJ (xH bh.ma wo hr0 rfl bh.m wn.b .nil jQ (jA (pv 1) (jA (aMg hr.units1 (pv 3) jH (pv 2) ⟨rfl,rfl,rfl,rfl⟩) (jA (pv 4) (jA (pv 5) (jA (pv 6) (jA (pv 7) jB qZ) qZ) qZ) qZ) aFu) qZ)))))))),?_⟩;have hw5:=hF.w5;have hpl:=hF.pl;have val:∀k,zT (mM l) (.inr k)=((l.ps.zip l.ws).lookup k).map V.str:=fun k=>aMe _ _ k;have no:∀{k:Str},k∉l.ps->zT (mM l) (.inr k)=none:=fun {k} h=>by rw[val,aAa h];rfl
 have kl:(mM l).length=l.ps.length:=by unfold mM;rw[De];omega
 refine ifJ (.str (aP l)) ?_ (fun Q' hq=>?_)
 case' refine_2 =>
  by_cases hn':("=" : Str)∈l.ps
  ·obtain⟨v,hv,_⟩:=rQ hF (hF.ga hn');obtain⟨v2,hv2,_⟩:=rQ hF hn';have e1:aP l=v:=by unfold aP;rw[if_pos hn',hv];rfl
   have e2:zT (mM l) (.inr "A")=some (.str v):=by rw[val,hv];rfl
   have e3:zT (mM l) (.inr "=")=some (.str v2):=by rw[val,hv2];rfl
   exact⟨_,rfl,d,_,rfl,bY.k (k:=AO "=") hd,_,rfl,vJ (by rw[e3];rfl) ⟨_,rfl,d,.str v,rfl,(by rw[←e2];exact bY.k (k:=AO "A") hd),e1 ▸ hq⟩⟩
  ·have e1:aP l = "":=by unfold aP;rw[if_neg hn']
   exact⟨_,rfl,d,_,rfl,bY.k (k:=AO "=") hd,_,rfl,kS (by rw[no hn'];decide) (e1 ▸ hq)⟩
 refine⟨_,rfl,d,_,rfl,hd,fun o=>?_⟩;generalize e1:upd H d _=H1;have hA1:Al xs H1:=by rw[←e1];exact aRn hA
 obtain⟨g1,kd⟩:=zA e1;have g01:jF H0 H1:=But.from g0 hd0 g1;have hwd:=hw.same g01;have dno:∀{k:Str}{H':Hp},k∉l.ps->H' d=some (.frz o (.dK (mM l)))->bY H' d (.str k) none:=fun {k H'} h hk=>by rw[←no h];exact pV (k:=AO k) hk
 refine aIi (fun j ys H'=>H'=H1/\ys=(rdF (aP l) ((l.ps.zip l.ws).take j)).map V.str/\(rdF (aP l) ((l.ps.zip l.ws).take j)).length<=j) ⟨rfl,rfl,μ _⟩ (fun j ys H' _ z=>⟨by rw[z.1];exact kd,by rw[z.2.1,δ];exact z.2.2⟩) (by rw[kl,ym];omega) (fun j kv ys H' hkv z=>?_) (fun ys H' z p hp=>?_)
 ·obtain⟨rfl,rfl,hj⟩:=z;obtain⟨u,v,hu,hv,rfl⟩:=kv_at hkv;have hvv:zT (mM l) (.inr u)=some (.str v):=by rw[val,wK hF.nd hu hv];rfl
  have es:=aLd (g:=aP l) hu hv;have yes:(u∈bF/\(u ≠ "A" ∨ aP l = ""))->rdF (aP l) ((l.ps.zip l.ws).take (j+1))=rdF (aP l) ((l.ps.zip l.ws).take j)++[v]:=fun h=>by rw[es,if_pos h]
  have nay:¬ (u∈bF/\(u ≠ "A" ∨ aP l = ""))->rdF (aP l) ((l.ps.zip l.ws).take (j+1))=rdF (aP l) ((l.ps.zip l.ws).take j):=fun h=>by rw[es,if_neg h,zh]
  refine⟨_,rfl,tNa,_,rfl,.inr (C.nams H'),rfl,qY _,_,rfl,?_⟩;have ein:inV (kV ((AO u:Key),V.str v).fst) (bF.map V.str)=decide (u∈bF):=vB ..;rw[if_neg π,ein];refine vE (fun c=>?_) (fun c=>dX ⟨⟨rfl,?_,?_⟩,_,rfl⟩)
  ·have c':=of_decide_eq_true c;refine⟨_,rfl,rfl,_,rfl,vE (fun c2=>?_) (fun c2=>?_)⟩
   ·have c2':u ≠ "A":=by simpa [kV] using c2
    have en:=yes ⟨c',.inl c2'⟩;exact aId ⟨_,rfl,_,rfl,d,.str v,rfl,(by rw[←hvv];exact pV (k:=AO u) kd),⟨rfl,by rw[en,ξ];rfl,by rw[en,ι];exact CU hj⟩,_,rfl⟩
   ·have c2':u = "A":=by simpa [kV] using c2
    refine⟨_,rfl,rfl,_,rfl,vE (fun c3=>?_) (fun c3=>?_)⟩
    ·have en:=yes ⟨c',.inr (V.str.inj (of_decide_eq_true c3))⟩;exact⟨_,rfl,_,rfl,d,.str v,rfl,(by rw[←hvv];exact pV (k:=AO u) kd),⟨rfl,by rw[en,ξ];rfl,by rw[en,ι];exact CU hj⟩,_,rfl⟩
    ·have en:=nay (fun z=>z.2.elim (fun h=>h c2') (fun h=>c3 (decide_eq_true (congrArg V.str h))));exact⟨⟨rfl,by rw[en],by rw[en];omega⟩,_,rfl⟩
  ·rw[nay (fun z=>c (decide_eq_true z.1))]
  ·rw[nay (fun z=>c (decide_eq_true z.1))];omega
 ·obtain⟨e',rfl,_⟩:=z;subst e';generalize e2:upd H' p _=H2;obtain⟨g2,k2⟩:=qN e2 hp;have kd2:=g2 _ _ kd
  by_cases hP:("PATH" : Str)∈l.ps
  ·obtain⟨pt,hpt,hptm⟩:=rQ hF hP;have e3:zT (mM l) (.inr "PATH")=some (.str pt):=by rw[val,hpt];rfl
   have so:qV S (.nest n) l=qJ S (.nest n) l.d pt:=by unfold qV zJ;rw[hpt]
   refine⟨_,rfl,d,_,rfl,pV (k:=AO "PATH") kd2,_,rfl,vJ (by rw[e3];rfl) ⟨_,rfl,_,rfl,_,rfl,_,rfl,d,.str pt,rfl,(by rw[←e3];exact pV (k:=AO "PATH") kd2),z,_,l.d,pt,n,sa,S,xs,rfl,hz,hwd.same g2,hg,hn,(by have:=(hF.w _ hptm).1;omega),hA1.same g2,fun ss hss sl us H4 g4 s4 st4=>?_,fun hno e H4 g4 he hx=>qx (by rw[so];exact hno) pt (by unfold zJ;exact hpt) e H4 ((g01.trans g2).trans g4) ((g01.trans g2).free he) hx⟩⟩
   ·have kd4:=g4 _ _ kd2;rw[←so]at hss;refine⟨_,rfl,d,_,rfl,dno hF.nu kd4,_,rfl,kS (by decide) ?_⟩;refine⟨_,rfl,_,rfl,d,rfl,.inl ⟨_,.inr ⟨o,kd4⟩⟩,_,rfl,none,dno hF.op kd4,_,rfl,_,rfl,_,rfl,_,rfl,fun y dy hy hdy _=>⟨y,dy,_,_,_,_,_,_,H4,rfl,jO,cV hy hdy,hy,fun H5 g5 k5=>⟨rfl,?_⟩⟩⟩;exact q _ hss y H5 (((g01.trans g2).trans g4).trans g5) ⟨dy,_,_,_,qS (((hA1.same g2).same g4).new hy) k5,(kL g5).seq s4,st4.same (kL g5)⟩
  ·have hss:qV S (.nest n) l=some []:=by unfold qV zJ;rw[aAa hP]
   refine⟨_,rfl,d,_,rfl,dno hP kd2,_,rfl,kS (by decide) ⟨zL,fun p2 hp2=>?_⟩⟩;generalize e3:upd H2 p2 _=H4;obtain⟨g4,k4⟩:=qN e3 hp2;have kd4:=g4 _ _ kd2;have s4:SqL K (offs xs H4) p2 []:=SqL.of (qS ((hA1.same g2).new hp2) k4);have st4:xM K (offs xs H4) [] []:=⟨rfl,fun i v s h=>by simp at h⟩;refine⟨_,rfl,d,_,rfl,dno hF.nu kd4,_,rfl,kS (by decide) ?_⟩;refine⟨_,rfl,_,rfl,d,rfl,.inl ⟨_,.inr ⟨o,kd4⟩⟩,_,rfl,none,dno hF.op kd4,_,rfl,_,rfl,_,rfl,_,rfl,fun y dy hy hdy _=>⟨y,dy,_,_,_,_,_,_,H4,rfl,jO,cV hy hdy,hy,fun H5 g5 k5=>⟨rfl,?_⟩⟩⟩;exact q _ hss y H5 (((g01.trans g2).trans g4).trans g5) ⟨dy,_,_,_,qS (((hA1.same g2).same g4).new hy) k5,(kL g5).seq s4,st4.same (kL g5)⟩
theorem aDw{k:Nat}(F:Fun K "names_in" "names_in" iT f fd):jJ (k+2) f fd ["form","words","steps"] (spNi K):=by
 w_cond bQ;obtain⟨ga,a,sl,l,us,ss,rfl,hF,hg,ha,hs,hst,hss,q⟩:=h;refine⟨_,(jC (jU (i:=3) bQ.nd rfl (by walk_at"o") (kK jB)) (jC (vF yw rfl (aGl rfl M.zip (jA (pv 0) (jA (pv 1) jB))) (xZ rfl (jW (jM (i:=4) bQ.nd rfl (yp rfl)) (jW (jM (i:=5) bQ.nd rfl (yp rfl)) qL))) (jC (kM (jP vU (pv 4) (qC (v:=.ref tNa) rfl C.NAMES rfl) (by with_unfolding_all rfl)) (jD (vL (xA yy zp zr vT (pv 3) (jA (pv 5) jB)))) jR) (jD (kM (jP qI (pv 4) jH (jT _)) (jD (vL (xA yy Dn Do mX (pv 3) (jA (qF ["step"] [] [] rfl (kU (pv 2)) rfl trivial trivial (fun _ _ _ _=>(jM (i:=0) (show yt (["step"]:List Str) from by ac_rfl) rfl (yp rfl))) (fun _ _ _ _=>(fV (xJ (jZ (aIo (K:=K) rfl) rfl M.isinstance Cw (jA (pv 0) (jA (lD (v:=.ty "tuple") rfl M.tuple boot_tuple rfl) jB)))))) (fun _ _ _ _=>(jX (aHi K rfl) (pv 0) jE (fun _ _=>rfl)))) jB)))) jR)))) (jD (jJ (pv 3))))),?_⟩;have hw5:=hF.w5;have hpl:=hF.pl;refine⟨zL,fun n hn=>?_⟩;clear 1 n H2 g2 k2 hn;refine⟨true,false,_,rfl,_,rfl,ga,a,l.ps.map V.str,l.ws.map V.str,rfl,g2.tp hg,g2.seq ha,aLc (xs:=l.ps.map V.str) (ys:=l.ws.map V.str) (fun j σ H'=>∃o4 o5,σ = [some (.ref ga),some (.ref a),some (.ref sl),some (.ref n),o4,o5]/\But n H2 H'/\H' n=some (.lst ((nmG ss ((l.ps.zip l.ws).take j)).map V.str))) (by rw[δ,δ];exact hpl.symm) ⟨_,_,rfl,But.refl,k2⟩ (fun j σ H' _ z=>?_) (fun j u v σ H' p hu0 hv0 z hp=>?_) (fun σ H' z=>?_)⟩
 ·obtain⟨o4,o5,rfl,g,_⟩:=z;exact⟨(But.from g2 hn g).tp hg,(But.from g2 hn g).seq ha⟩
 ·obtain⟨o4,o5,rfl,g,kn⟩:=z;obtain⟨u,hu,rfl⟩:=vK hu0;obtain⟨v,hv,rfl⟩:=vK hv0;clear 1 p H3 g3 k3 hp;have kn3:=g3 _ _ kn;have few:(nmG ss ((l.ps.zip l.ws).take j)).length<=1000:=by
   have:=aBd hss ((l.ps.zip l.ws).take j);have h2:((l.ps.zip l.ws).take j).length<=5:=by rw[yh,List.length_zip];omega
   omega
  have es:=eW hu hv;have en:nmG ss ((l.ps.zip l.ws).take (j+1))=nmG ss ((l.ps.zip l.ws).take j)++((if u∈bF then [v] else [])++(if u = "PATH" then stN ss else [])):=by
   rw[es,aNn];show _++((if u∈bF then [v] else [])++((if u = "PATH" then stN ss else [])++[]))=_;rw[zh]
  refine⟨p,_,rfl,SqT.of k3,rfl,_,_,rfl,_,_,rfl,rfl,wB (fun σ' H4=>σ'=[some (.ref ga),some (.ref a),some (.ref sl),some (.ref n),some (.str u),some (.str v)]/\But n H2 H4/\H4 n=some (.lst ((nmG ss ((l.ps.zip l.ws).take j)++(if u∈bF then [v] else [])).map V.str))) (fun σ' H4 z=>?_) (fun nx hnx=>?_)⟩
  ·obtain⟨rfl,g4,k4⟩:=z;refine⟨_,rfl,rfl,_,rfl,vE (fun c=>?_) (fun c=>?_)⟩
   ·have c':=V.str.inj (of_decide_eq_true c);have gH4:=But.from g2 hn g4;have zl:us.length=ss.length:=hst.1;refine⟨_,rfl,.inl ⟨rfl,_,SqL.of k4⟩,_,rfl,sl,rfl,⟨_,gH4.seq hs⟩,vQ (xs:=us) (fun i ys H5=>H5=H4/\ys=(stN (ss.take i)).map V.str) ⟨rfl,rfl⟩ (fun i ys H5 _ z=>⟨by rw[z.1];exact gH4.seq hs,by rw[z.2,δ];exact yo (dD _) (Bz ..)⟩) (kN (by omega)) (fun i x ys H5 hx z=>?_) (fun ys H5 z l5 hl5=>?_)⟩
    ·obtain⟨rfl,rfl⟩:=z;have hi:i<ss.length:=by rw[←zl];exact(θ.mp hx).1
     obtain⟨st,hst'⟩ : ∃st,ss[i]?=some st:=⟨_,η hi⟩;have hat:=hst.2 i x st hx hst';have et:stN (ss.take (i+1))=stN (ss.take i)++stN [st]:=by rw[zu,hst',pS];rfl
     cases st with
     |wd w =>
      cases hat;exact⟨_,rfl,_,"tuple","str",rfl,by decide,rfl,_,rfl,kS (by decide) ⟨⟨rfl,by rw[et];show _=(stN (ss.take i)++[]).map V.str;rw[zh]⟩,_,rfl⟩⟩
     |no w =>
      cases hat;exact⟨_,rfl,_,"tuple","int",rfl,by decide,rfl,_,rfl,kS (by decide) ⟨⟨rfl,by rw[et];show _=(stN (ss.take i)++[]).map V.str;rw[zh]⟩,_,rfl⟩⟩
     |nm w =>
      obtain⟨t,rfl,ht⟩:=hat;exact⟨_,rfl,_,"tuple","tuple",rfl,by decide,.inr ⟨rfl,_,gH4.tp ht⟩,_,rfl,vJ (by decide) ⟨_,rfl,t,_,_,_,rfl,rfl,gH4.tp ht,rfl,⟨rfl,by rw[et,ξ];rfl⟩,_,rfl⟩⟩
    ·obtain⟨rfl,rfl⟩:=z;rw[zl,An];clear 1 l5 H6 g6 k6 hl5;have k46:=g6 _ _ k4;refine⟨n,l5,_,_,rfl,rfl,k46,k6,?_,?_⟩
     ·rw[δ,δ,ι,ym];have:=dD ss;have:(if u∈bF then [v] else ([]:List Str)).length<=1:=by split <;> simp
      omega
     ·clear 0 n H7 g7 k7;refine⟨_,_,rfl,(g4.trans (But.of g6)).trans g7,?_⟩;rw[en,if_pos c',←zx,ξ];exact k7
   ·have c':¬ u = "PATH":=fun z=>c (decide_eq_true (congrArg V.str z));refine⟨_,_,rfl,g4,?_⟩;rw[en,if_neg c',zh];exact k4
  ·refine⟨_,rfl,tNa,_,rfl,.inr (C.nams H3),rfl,qY _,_,rfl,?_⟩;rw[if_neg π,vB];refine vE (fun c=>?_) (fun c=>?_)
   ·have c':=of_decide_eq_true c;refine⟨_,rfl,.inl ⟨rfl,_,SqL.of kn3⟩,_,rfl,n,_,_,rfl,rfl,kn3,(by rw[δ];exact zy few (by decide)),?_⟩;clear 0 n H5 g5 k5;exact hnx _ _ ⟨rfl,(g.trans (But.of g3)).trans g5,by rw[if_pos c',ξ];exact k5⟩
   ·have c':=of_decide_eq_false (AS.mpr c);exact hnx _ _ ⟨rfl,g.trans (But.of g3),by rw[if_neg c',zh];exact kn3⟩
 ·obtain⟨o4,o5,rfl,g,kn⟩:=z;rw[δ,Cm (by rw[List.length_zip];omega)]at kn;exact⟨_,rfl,q n H' (But.from g2 hn g) kn⟩
theorem pC(F:Fun K "read_program" "read_program" bD f fd)(ml:Df K mg "lines_in" sx qp ["text"])(wq:jJ k sx qp ["text"] spLi)(pw:Df K mg "form_of" uu sy ["line","words"])(xh:jI P w K mg base (CXE P w) k uu sy ["line","words"] (spFm K))(ig:Df K mg "need_standing" kg jv ["begun","line","deed"])(tf:jI P w K mg base (CXE P w) k kg jv ["begun","line","deed"] spNs)(nr:DfM K Vf "main" nq lw ["self"])(ve:jJ k nq lw ["self"] (spMn (jK 0) Vf K))(sd:Df K mg "row_in" vk uv ["shape","line","deed","filled"])(xj:jI P w K mg base (CXE P w) k vk uv ["shape","line","deed","filled"] (spRo (jK 0) ao ac K))(mm:Df K mg "names_in" tj qq ["form","words","steps"])(wt:jJ k tj qq ["form","words","steps"] (spNi K))(se:Df K mg "unlike" vm uw ["names","ahead"])(xk:jJ k vm uw ["names","ahead"] (spUn K))(io:Df K mg "begun_behind" ly kh ["begun","deed"])(ug:jJ k ly kh ["begun","deed"] spBg)(cf:Df K mg "rows_from" gc fk ["told","first"])(ir:jJ k gc fk ["told","first"] (spRF ao K))(uh:DfI K ki ["self","shapes","rows","named","written"])(ui:jJ k ft ki ["self","shapes","rows","named","written"] (spI4 bq "shapes" "rows" "named" "written"))(bt:DfI K bf ["self","line"])(bu:jI P w K mg base (CXE P w) k cm bf ["self","line"] pT)(uj:DfI K kj ["self","line"])(uk:jI P w K mg base (CXE P w) k fu kj ["self","line"] pT):jI P w K mg base (CXE P w) (k+2) f fd ["shapes","text"] (spRP (jK 0) Vf ac bq ao K):=by
 w_cond kT;obtain⟨ra,z,sa,S,ls,rfl,hro,hgS,hnS,hls,hne,hl4,hnb,q,qx⟩:=h;refine⟨_,(jC (kM (yK (xJ (jZ aIu rfl M.isinstance Cw (jA (pv 1) (jA (lD (v:=.ty "str") rfl M.str boot_str rfl) jB))))) (jD (yO ar.c bu hr0 rfl ar.m bt.b .nil aG (jA jE jB))) jR) (jC (jU (i:=2) kT.nd rfl (by walk_at"o") (jK wq hr rfl ml.m ml.k ml.b .nil jQ (jA (pv 1) jB))) (jC (jU (i:=3) kT.nd rfl (by walk_at"o") (kK jB)) (jC (jU (i:=4) kT.nd rfl (by walk_at"o") (kK jB)) (jC (jU (i:=5) kT.nd rfl (by walk_at"o") (kK jB)) (jC (vF ownE rfl (aAx rfl M.enumerate (jA (qF ["row"] [] [] rfl (kU (pv 2)) rfl trivial trivial (fun _ _ _ _=>(jM (i:=0) (show yt (["row"]:List Str) from by ac_rfl) rfl (yp rfl))) (fun _ _ _ _=>qB) (fun _ _ _ _=>(aFj (K:=K) rfl zg AB AC yN (pv 0) (jA jH jB)))) jB)) (xZ rfl (jW (jM (i:=6) kT.nd rfl (yp rfl)) (jW (jM (i:=7) kT.nd rfl (yp rfl)) qL))) (jC (eI (jK xh hr rfl pw.m pw.k pw.b .nil (aGn fun _ _ _ z=>z) (jA (pv 6) (jA (pv 7) jB))) (xZ rfl (jW (jM (i:=8) kT.nd rfl (yp rfl)) (jW (jM (i:=9) kT.nd rfl (yp rfl)) qL)))) (jC (vL (jK tf hr rfl ig.m ig.k ig.b .nil (aGn fun _ _ _ z=>z) (jA (pv 4) (jA (pv 6) (jA (pv 8) jB))))) (jC (jU (i:=10) kT.nd rfl (by walk_at"o") (jK xj hr rfl sd.m sd.k sd.b .nil (aGn fun _ _ _ z=>z) (jA (yB (pv 0) Uf.cl nr.me ve hr nr.b .nil jQ) (jA (pv 6) (jA (pv 8) (jA (aNk rfl M.dict rfl M.zip rfl (jA (pv 9) (jA (pv 7) jB))) jB)))))) (jC (jU (i:=5) kT.nd rfl (by walk_at"o") (jS qD (pv 5) (jK xk hr rfl se.m se.k se.b .nil jQ (jA (jK wt hr rfl mm.m mm.k mm.b .nil jQ (jA (pv 9) (jA (pv 7) (jA (kW (pv 10) rfl) jB)))) (jA (pv 5) jB))))) (jC (kM (PW.pt (sP (jP op_ge (pv 6) (qC (v:=.int 60) rfl C.MOST_LINES ⟨_,rfl⟩) (jT _)) (iD (jP dU (jZ kG rfl M.len yn (jA (pv 5) jB)) (qC (v:=.int 12) rfl C.MOST_NAMES ⟨_,rfl⟩) (jT _))))) (jD (yO iu.c uk hr0 rfl iu.m uj.b .nil aG (jA (pv 6) jB))) jR) (jC (jU (i:=4) kT.nd rfl (by walk_at"o") (jK ug hr rfl io.m io.k io.b .nil jQ (jA (pv 4) (jA (pv 8) jB)))) (jD (vL (xA yy zp zr vT (pv 3) (jA (pv 10) jB))))))))))) (jC (kM (zK (pv 4) (fun _=>rfl)) (jD (yO ar.c bu hr0 rfl ar.m bt.b .nil aG (jA (jZ kG rfl M.len yn (jA (pv 2) jB)) jB))) jR) (jC (eI (jK ir hr rfl cf.m cf.k cf.b .nil jQ (jA (pv 3) (jA jE jB))) (xZ rfl (jW (jM (i:=11) kT.nd rfl (yp rfl)) (jW (jM (i:=12) kT.nd rfl (yp rfl)) qL)))) (jD (jJ (xH bp.ma ui hr0 rfl bp.m uh.b .nil jQ (jA (pv 0) (jA (pv 11) (jA (pv 5) (jA (pv 1) jB))))))))))))))),?_⟩;have hds:(ls.map Ln.x).length=ls.length:=δ _;have hsa:(sa++[z])[sa.length]?=some z:=by rw[yb (μ _),AA];rfl
 refine⟨_,rfl,_,"str","str",rfl,by decide,.inl rfl,_,rfl,kS (by decide) ⟨_,rfl,ls.map Ln.x,rfl,(by simpa using hne),(fun x hx=>by obtain⟨l,hl,rfl⟩:=yj.mp hx;exact aKe (hls l hl)),(by rw[hds];exact hl4),fun lp hlp=>?_⟩⟩;clear 1 lp H1 g1 kp1 hlp;refine⟨zL,fun tl htl=>?_⟩;clear 1 tl H2 g2 kt2 htl;refine⟨zL,fun bg hbg=>?_⟩;clear 1 bg H3 g3 kb3 hbg;refine⟨zL,fun nd hnd=>?_⟩;clear 1 nd H4 g4 kn4 hnd;have kb4:=g4 _ _ kb3;have kt4:=g4 _ _ (g3 _ _ kt2);have g04:jF H H4:=((g1.trans g2).trans g3).trans g4;have ht0:H tl=none:=g1.free htl;have kp4:H4 lp=some (.lst ((ls.map Ln.x).map V.str)):=g4 _ _ (g3 _ _ (g2 _ _ kp1));have nbt:bg≠tl:=fun z=>by rw[z,kt2]at hbg;cases hbg
 have nnt:nd≠tl:=fun z=>by rw[z,g3 _ _ kt2]at hnd;cases hnd
 have hof:∀{b:Addr}{o:HO}{G:Hp},b≠tl->G b=some o->offs [tl] G b=some o:=fun n e=>qS (fun z=>n (τ.mp z)) e;refine⟨_,rfl,lp,rfl,⟨_,SqL.of kp4⟩,vQ (xs:=(ls.map Ln.x).map V.str) (fun j ys H'=>∃was:List Addr,ys=was.map V.ref/\was.length=j/\jF H4 H'/\∀(m:Nat) (wa:Addr) (l:Ln),was[m]?=some wa->ls[m]?=some l->offs [tl] H' wa=some (.lst (l.ws.map V.str))) ⟨[],rfl,rfl,jF.refl _,fun m wa l h=>by simp at h⟩ (fun j ys H' _ z=>?_) (by rw[δ,hds,ym];omega) (fun j x ys H' hx z=>?_) (fun ys H' z wl hwl=>?_)⟩
 ·obtain⟨was,rfl,hj,g,_⟩:=z;exact⟨SqL.of (g _ _ kp4),by rw[δ,hj];exact μ _⟩
 ·obtain⟨was,rfl,hj,g,hws⟩:=z;obtain⟨y,hy,rfl⟩:=vK hx;rw[yv]at hy;cases hl:ls[j]? with
  |none=>rw[hl]at hy;cases hy
  |some l =>
  rw[hl]at hy;cases hy;have hlt:=hls l (ο hl);have hx10:=hlt.x240;refine⟨_,rfl,rfl,_,_,rfl,rfl,rfl,(by rw[ym];show l.x.length+2<=_;omega),fun wa hwa=>?_⟩;rw[aKs hlt];clear 1 wa H5 g5 k5 hwa;refine⟨⟨was++[wa],by rw[ξ];rfl,by rw[ι,hj];rfl,g.trans g5,fun m wb l' hm hl'=>?_⟩,_,rfl⟩;rcases vZ hm with hm|⟨rfl,rfl⟩
  ·exact kL g5 _ _ (hws m wb l' hm hl')
  ·rw[hj,hl]at hl';cases hl';exact hof (fun z=>by rw[z,g _ _ kt4]at hwa;cases hwa) k5
 obtain⟨was,rfl,hwn,g,hws0⟩:=z;rw[δ,hds]at hwn;clear 1 wl H5 g5 kwl hwl;have nwt:wl≠tl:=fun z=>by rw[z,g _ _ kt4]at hwl;cases hwl
 have hws:∀(m:Nat) (wa:Addr) (l:Ln),was[m]?=some wa->ls[m]?=some l->offs [tl] H5 wa=some (.lst (l.ws.map V.str)):=fun m wa l h1 h2=>kL g5 _ _ (hws0 m wa l h1 h2);have g45:=g.trans g5;have gH5:jF H (offs [tl] H5):=mD ht0 (g04.trans g45);obtain⟨dxr,tS,kra,_,hSW⟩:=id hro;refine⟨wl,_,rfl,SqL.of kwl,tI (xs:=was.map V.ref) (fun i σ H'=>∃(nd:Addr) (nm:List Str) (rs:List Addr) (sz:List (List Stp)) (o6 o7 o8 o9 o10 o11 o12:Option V),σ = [some (.ref ra),some (.str (yd nlS (ls.map Ln.x))),some (.ref lp),some (.ref tl),some (.ref bg),some (.ref nd),o6,o7,o8,o9,o10,o11,o12]/\jF (offs [tl] H5) (offs [tl] H')/\H' tl=some (.lst (rs.map V.ref))/\rs.length=i/\sz.length=i/\(∀(j:Nat) (l:Ln) (s:List Stp),ls[j]?=some l->sz[j]?=some s->qV S (.nest sa.length) l=some s)/\(∀(j:Nat) (a:Addr) (l:Ln) (s:List Stp),rs[j]?=some a->ls[j]?=some l->sz[j]?=some s->lZ ao K (offs [tl] H') a j l s)/\SqL K (offs [tl] H') nd (nm.map V.str)/\nm.length<=(zt (fun l s=>(nmG s (l.ps.zip l.ws)).length) ls sz).sum) ⟨nd,[],[],[],_,_,_,_,_,_,_,rfl,jF.refl _,g45 _ _ kt4,rfl,rfl,(fun j l s _ h=>by simp at h),(fun j a l s h=>by simp at h),SqL.of (hof nnt (g45 _ _ kn4)),yq _⟩ (fun i σ H' _ z=>?_) (fun i x σ H' p2 hx z hp2=>?_) (fun σ H' z=>?_)⟩
 ·obtain⟨nd,nm,rs,sz,o6,o7,o8,o9,o10,o11,o12,rfl,go,_⟩:=z;exact SqL.of (jV _ _ (go _ _ (hof nwt kwl)))
 ·obtain⟨nd,nm,rs,sz,o6,o7,o8,o9,o10,o11,o12,rfl,go,kt,hrs,hsz,hso,hrow,sn,hnm⟩:=z;obtain⟨wa,hwa,rfl⟩:=qH hx;have hi:i<ls.length:=by rw[←hwn];exact(θ.mp hwa).1
  obtain⟨l,hl⟩ : ∃l,ls[i]?=some l:=⟨_,η hi⟩;have hF:=hls l (ο hl);have hw5:=hF.w5;have hpl:=hF.pl;have kw:offs [tl] H' wa=some (.lst (l.ws.map V.str)):=go _ _ (hws i wa l hwa hl);have A':Al [tl] H':=fun b hb=>by rw[τ.mp hb];exact⟨_,kt⟩
  clear 1 p2 H6 g6 k6 hp2;refine⟨p2,_,rfl,SqT.of k6,rfl,_,_,rfl,_,_,rfl,rfl,_,rfl,_,rfl,.int (i:Int),wa,l,rfl,hF,SqL.of (g6 _ _ (jV _ _ kw)),fun t fg H7 g7 s7 s7'=>⟨t,_,rfl,s7,rfl,_,_,rfl,_,_,rfl,rfl,?_⟩⟩;have g67:=g6.trans g7;have gx7:jF (offs [tl] H') (offs [tl] H7):=kL g67;have gH7:jF H (offs [tl] H7):=(gH5.trans go).trans gx7;have gH8:jF H H7:=gH7.trans jV;refine⟨_,rfl,_,rfl,_,rfl,bg,.int (i:Int),l.d,rfl,hF.fl,?_⟩;refine⟨_,rfl,ra,dxr,_,rfl,gH8 _ _ kra,rfl,ra,z,sa,S,rfl,dI hro gH8,_,rfl,_,rfl,_,rfl,_,rfl,true,false,fg,wa,l.ps,l.ws,rfl,s7',SqL.of (jV _ _ (gx7 _ _ kw)),hpl,by omega,fun d hd=>?_⟩;rw[show bC [] _=mM l from(oF l.ps l.ws [] hF.nd (fun _ _ _ h=>by cases h)).trans (List.nil_append _)];clear 1 d H9 g9 k9 hd;have A9:Al [tl] H9:=(A'.same g67).same g9;refine⟨z,i,d,l,sa.length,sa++[z],S,[tl],H7,rfl,hF,hsa,g9,hd,hSW.same gH8,hgS,hnS,k9,A9,fun ss hss r H10 g8x hr10=>?_,fun hno p hp e H10 g810 he hx=>?_⟩
  case refine_2 =>
   refine qx i p ?_ e H10 (gH8.trans g810) (gH8.free he) hx;rw[aDz (m:=0) hl (fun j l' hj hl'=>?_) hno,DG,hp]
   ·rfl
   ·obtain⟨s,hs⟩ : ∃s,sz[j]?=some s:=⟨_,η (by omega)⟩;exact⟨s,hso j l' s hl' hs⟩
  have gx10:=gx7.trans (kL (xs:=[tl]) g8x);obtain⟨dx',rra,rsa,us,hr1,hr2,hr3⟩:=id hr10;have hss160:=aSs hF hss;have nml:(nmG ss (l.ps.zip l.ws)).length<=2000:=by
   have h1:=aBd hss160 (l.ps.zip l.ws);have h2:(l.ps.zip l.ws).length<=5:=by rw[List.length_zip];omega
   omega
  refine⟨_,rfl,_,rfl,_,rfl,_,rfl,r,ao,_,_,_,rfl,(jV _ _ hr1),bh.cl,bh.na _ (by decide),rfl,fg,wa,rsa,l,us,ss,rfl,hF,g8x.tp s7',SqL.of (jV _ _ (gx10 _ _ kw)),jV.seq hr2,hr3.same jV,hss160,fun pn H11 g11 kn=>⟨_,rfl,pn,nd,_,nm,rfl,SqL.of kn,jV.seq ((gx10.trans (kL g11)).seq sn),nml,fun pu zs H12 g12 ku hzs=>?_⟩⟩;have hso':∀(j:Nat) (l':Ln) (s:List Stp),ls[j]?=some l'->(sz++[ss])[j]?=some s->qV S (.nest sa.length) l'=some s:=fun j l' s h1 h2=>by
   rcases vZ h2 with h2|⟨rfl,rfl⟩
   ·exact hso j l' s h1 h2
   ·rw[hsz,hl]at h1;cases h1;exact hss
  have hsum:=hnb (sz++[ss]) (by rw[ι,hsz];exact hi) hso';rw[aAy (by rw[hsz];exact hl)]at hsum;have few:nm.length+zs.length<=12:=by omega
  have gx12:=(gx10.trans (kL (xs:=[tl]) g11)).trans (kL (xs:=[tl]) g12);refine⟨nd,pu,_,_,rfl,rfl,jV.seq (gx12.seq sn),SqL.of ku,(by rw[δ,δ,ym];omega),fun pq hpq=>?_⟩;clear 1 pq H13 g13 k13 hpq;have A12:Al [tl] H12:=((((A'.same g67).same g8x).same g11).same g12);have gx13:=gx12.trans (kL (xs:=[tl]) g13);refine⟨_,rfl,_,_,rfl,rfl,_,rfl,kS (by simp;omega) ⟨_,rfl,pq,_,rfl,.inl (SqL.of k13),_,_,rfl,rfl,_,rfl,kS (by simp;omega) ?_⟩⟩;refine⟨_,rfl,_,rfl,bg,l.d,rfl,hF.fl,?_⟩;have g10y:=(g11.trans g12).trans g13;have kt14:H13 tl=some (.lst (rs.map V.ref)):=((g67.trans g8x).trans g10y) _ _ kt;refine⟨_,rfl,.inl ⟨rfl,_,SqL.of kt14⟩,_,rfl,tl,_,_,rfl,rfl,kt14,(by rw[δ];exact zy (show rs.length<=60 by omega) (by decide)),?_⟩;generalize e15:upd H13 tl _=H15;have eo:offs [tl] H15=offs [tl] H13:=by rw[←e15];exact cQ
  obtain⟨g15,k15⟩:=zA e15;refine⟨pq,nm++zs,rs++[r],sz++[ss],_,_,_,_,_,_,_,rfl,by rw[eo];exact go.trans gx13,by rw[ξ];exact k15,by rw[ι,hrs];rfl,by rw[ι,hsz];rfl,hso',fun j a l' s hj hl' hs'=>?_,?_,?_⟩
  ·rw[eo];rcases vZ hj with hj|⟨rfl,rfl⟩
   ·rcases vZ hs' with hs'|⟨e',_⟩
    ·exact(hrow j a l' s hj hl' hs').same gx13
    ·have:=(θ.mp hj).1;omega
   ·rcases vZ hs' with hs'|⟨_,rfl⟩
    ·have:=(θ.mp hs').1;omega
    ·rw[hrs,hl]at hl';cases hl';rw[hrs];exact hr10.same (kL g10y)
  ·rw[eo,ξ];exact SqL.of (qS (A12.new hpq) k13)
  ·rw[aAy (by rw[hsz];exact hl),ι];omega
 ·obtain⟨nd,nm,rs,sz,o6,o7,o8,o9,o10,o11,o12,rfl,go,kt,hrs,hsz,hso,hrow,sn,hnm⟩:=z;rw[δ,hwn]at hrs hsz;have gH':jF H H':=(gH5.trans go).trans jV;have kb:SqL K H' bg []:=SqL.of (jV _ _ (go _ _ (hof nbt (g45 _ _ kb4))));refine⟨_,rfl,_,.inl ⟨_,kb,rfl⟩,?_⟩;have hT:TD ao K H' tl rs ls sz:=⟨SqL.of kt,hrs,hls,fun j a l s h1 h2 h3=>(hrow j a l s h1 h2 h3).same jV,hsz⟩;refine kS (by decide) ⟨_,rfl,tl,rs,ls,sz,rfl,hT,(by omega),fun p' rp H6 g6 s6 l6=>⟨p',_,rfl,s6,rfl,_,_,rfl,_,_,rfl,rfl,_,rfl,_,rfl,_,rfl,_,rfl,fun y dy hy hdy _=>⟨y,dy,_,_,_,_,H6,rfl,jO,cV hy hdy,hy,fun H7 g7 k7=>⟨rfl,?_⟩⟩⟩⟩;exact q sz hsz hso y dy rp _ _ _ rs H7 ((gH'.trans g6).trans g7) k7 (g7.seq l6) hrs (fun j a l s h1 h2 h3=>((hT.same (g6.trans g7)).r j a l s h1 h2 h3))
theorem wO{k:Nat}(F:Fun K "_law_drawn" "_law_drawn" fK f fd):jJ (k+2) f fd ["_law_signs","_law_at","_law_ends","_law_many"] (spDw K):=by
 w_cond xX;obtain⟨s,ns,a,en,rfl,hs,he,ha,h6,q⟩:=h;refine⟨_,(jC (jU (i:=4) xX.nd rfl (by walk_at"o") jH) (jC (jU (i:=5) xX.nd rfl (by walk_at"o") (kK jB)) (jC (vF yw rfl (xT rfl M.range (jA (pv 3) jB)) (jM (i:=6) xX.nd rfl (yp rfl)) (jC (jU (i:=7) xX.nd rfl (by walk_at"o") (qR lH rfl M.list boot_list (jA (pv 0) jB))) (jC (eI (jS qO (jX kF (pv 7) (pv 1) (fun _ _=>rfl)) (pv 6)) (aAt (pv 7) (pv 1) set_list)) (jC (gK (i:=8) ["_law_sign"] ["_law_letters"] [4] xX.nd rfl rfl rfl (kU (kZ qM (pv 7) qU (qE (bO yQ jE)))) rfl ⟨rfl,trivial⟩ ⟨⟨rfl,rfl,rfl,_,rfl⟩,trivial⟩ (fun _ _ _ _=>(jM (i:=0) (show yt (["_law_sign","_law_letters"]:List Str) from by ac_rfl) rfl (yp rfl))) (fun _ _ _ _=>qB) (fun _ _ _ _=>(jX aEx (pv 1) (jS zS (pv 0) jE) (fun _ _=>rfl)))) (jD (vL (xA yy zp zr vT (pv 5) (jA (jS qA (xA zg Bi Bj eZ jH (jA (pv 8) jB)) (jX aEx (pv 2) (jS zS (jX kF (pv 7) (bO yQ jE) (fun _ _=>rfl)) (jZ lV rfl M.len yn (jA (pv 2) jB))) (fun _ _=>rfl))) jB)))))))) (jD (jJ (pv 5)))))),?_⟩;obtain⟨_,hlet,h14,h26,hel⟩:=aHs he;refine⟨zL,fun l hl=>?_⟩;clear 1 l H1 g1 k1 hl;refine⟨_,rfl,4,rfl,by decide,by decide,fY (n:=4) (fun j σ H'=>∃o6 o7 o8,σ = [some (.ref s),some (.int (a:Nat)),some (.str en),some (.int 4),some (.str en1),some (.ref l),o6,o7,o8]/\But l H1 H'/\H' l=some (.lst (((zw j).map (drS ns a en)).map V.str))) ⟨_,_,_,rfl,But.refl,k1⟩ (fun j σ H' hj z=>?_) (fun σ H' z=>?_)⟩
 ·obtain⟨o6,o7,o8,rfl,g,kl⟩:=z;have gH:=But.from g1 hl g;have hs':=gH.seq hs;have hat:(ns.map fun n:Nat=>V.int n)[a]?=some (V.int (ns.getD a 0:Nat)):=by rw[yv,Φ,η ha];rfl
  have hset:(ns.map fun n:Nat=>V.int n).set a (V.int (((ns.getD a 0:Nat):Int)+((0:Int)+(j:Nat))))=(yL ns a j).map fun n:Nat=>V.int n:=by
   unfold yL;rw[List.map_set]
   congr 2
   omega
  refine⟨_,rfl,s,_,rfl,.inl hs',fun o ho=>?_⟩;clear 1 o H2 g2 k2 ho;refine⟨_,rfl,_,rfl,o,_,_,_,rfl,rfl,SqL.of k2,zI hat,_,rfl,_,_,rfl,rfl,_,rfl,_,rfl,o,_,_,a,rfl,rfl,k2,(by rw[δ];exact aRu ha),?_⟩;rw[hset];clear 0 o H3 g3 k3;have g13:But l H1 H3:=fun b o' n e'=>by
   have e2':=g2 _ _ (g _ _ n e');exact g3 _ _ (jL (g _ _ n e') ho) e2'
  have nlo:l≠o:=fun z=>by rw[z]at kl;rw[kl]at ho;cases ho
  have kl3:H3 l=some (.lst (((zw j).map (drS ns a en)).map V.str)):=g3 _ _ nlo (g2 _ _ kl);have on6:(yL ns a j).length=ns.length:=cM;have one:yL ns a j≠[]:=fun z=>by rw[z]at on6;rw[←on6]at ha;cases ha
  refine⟨_,rfl,_,rfl,_,rfl,o,_,rfl,SqL.of k3,fun p hp=>?_⟩;rw[cutD,←List.map_dropLast];clear 1 p H4 g4 k4 hp;refine⟨p,rfl,⟨_,SqL.of k4⟩,vQ (xs:=(yL ns a j).dropLast.map fun n:Nat=>V.int n) (fun i ys H5=>H5=H4/\ys=(((yL ns a j).dropLast.take i).map ltr).map fun c=>V.str ⟨#[c]⟩) ⟨rfl,rfl⟩ (fun i ys H5 _ z=>⟨by rw[z.1];exact SqL.of k4,by rw[z.2,δ,δ];exact Bz ..⟩) (kN (by rw[δ,AZ];omega)) (fun i x ys H5 hx z=>?_) (fun ys H5 z p2 hp2=>?_)⟩
  ·obtain⟨rfl,rfl⟩:=z;obtain⟨c,hc,rfl⟩:=eB hx;refine⟨_,rfl,_,rfl,_,_,rfl,rfl,(by show(0:Int)<26;decide),_,_,ltr c,rfl,rfl,by decide,(by rw[show((c:Nat):Int) % 26=((c % 26:Nat):Int) from modN c 26];exact zI (aRv c)),⟨rfl,?_⟩,_,rfl⟩;rw[zu,hc,ξ,ξ];rfl
  ·obtain⟨rfl,rfl⟩:=z;rw[δ,An];clear 1 p2 H6 g6 k6 hp2;have k6':H6 p2=some (.lst ((((yL ns a j).dropLast.map ltr).map fun c=>(⟨#[c]⟩ : Str)).map V.str)):=by rw[k6,zf (f:=fun c=>(⟨#[c]⟩ : Str))];rfl
   have kl6:=g6 _ _ (g4 _ _ kl3);have k36:=g6 _ _ (g4 _ _ k3);have hjl:(yd (ε "") (((yL ns a j).dropLast.map ltr).map fun c=>(⟨#[c]⟩ : Str))).length<=6:=by
    have tc:=rR ((yL ns a j).dropLast.map ltr);have:(yd (ε "") (((yL ns a j).dropLast.map ltr).map fun c=>(⟨#[c]⟩ : Str))).cps.toList.length=(yd (ε "") (((yL ns a j).dropLast.map ltr).map fun c=>(⟨#[c]⟩ : Str))).length:=Be;rw[←this,tc,δ,AZ];omega
   obtain⟨ec1,_⟩:=lF he (fJ (yL ns a j));refine⟨_,rfl,.inl ⟨rfl,_,SqL.of kl6⟩,rfl,_,rfl,_,p2,_,rfl,rfl,SqL.of k6',?_,_,rfl,_,rfl,_,rfl,o,_,_,_,rfl,rfl,SqL.of k36,aKq one,_,rfl,.str en,en.length,rfl,⟨small (by omega),rfl⟩,_,_,rfl,rfl,(by omega),_,_,aAm en (fJ (yL ns a j)),rfl,rfl,small (by omega),(by rw[modN];exact zI ec1),_,_,rfl,rfl,?_,l,_,_,rfl,rfl,kl6,?_,?_⟩
   ·rw[zf,δ];have h1:(((yL ns a j).dropLast.map ltr).map ((fun x:Str=>x.length)∘fun c=>(⟨#[c]⟩ : Str))).sum<=((yL ns a j).dropLast.map ltr).length*1:=cD fun c hc=>μ _;have h0:(ε "").length=0:=rfl;rw[δ,AZ]at h1;rw[h0];omega
   ·rw[ym];show _+1<=_;omega
   ·rw[δ,δ,AR];exact zy (show j<=4 by omega) (by decide)
   ·rw[aQu];clear 0 l H7 g7 k7;exact⟨_,_,_,rfl,((g13.trans (But.of g4)).trans (But.of g6)).trans g7,by rw[BU,ξ,ξ];exact k7⟩
 ·obtain⟨o6,o7,o8,rfl,g,kl⟩:=z;exact⟨_,rfl,q l H' (But.from g1 hl g) hl kl⟩
theorem aAr(F:Fun K "_law_names" "_law_names" fR f fd)(aa:Df K mg "_law_take" bo bb ["_law_box_here","_law_many"])(ak:jJ k bo bb ["_law_box_here","_law_many"] nB)(eg:Df K mg "_law_drawn" qr px ["_law_signs","_law_at","_law_ends","_law_many"])(qt:jJ k qr px ["_law_signs","_law_at","_law_ends","_law_many"] (spDw K)):jJ (k+2) f fd ["_law_box_here","_law_many"] (spNm K):=by
 w_cond vH;obtain⟨p,rfl,hs,q⟩:=h;refine⟨_,(PSx.h (yE (bL (jU (i:=2) vH.nd rfl (by walk_at"o") jH)) (yE (bL (jU (i:=2) vH.nd rfl (by walk_at"o") (xA zg AB AC yN (jS qA (pv 2) jH) (jA jH jB)))) (yE (aHb (jP qI (jK ak hr rfl aa.m aa.k aa.b .nil jQ (jA (pv 0) (jA jE jB))) jE (jT _)) (yE (aJh (i:=3) vH.nd rfl (Or.inr rfl) (aNw (yH (aA jH) (yH (aA jH) (yH (aA jH) (yH (aA jH) (yH (aA jH) (yH (aA jH) (yH (aA jH) (yH (aA jH) (yH (aA jH) (yH (aA jH) aOs qX) qX) qX) qX) qX) qX) qX) qX) qX) qX))) (yE (bL (jU (i:=3) vH.nd rfl (by walk_at"o") (jS qD (pv 3) (kK (jA jH (jA jH (jA jH (jA jH jB)))))))) (yE (bL (jU (i:=4) vH.nd rfl (by walk_at"o") (jK ak hr rfl aa.m aa.k aa.b .nil jQ (jA (pv 0) (jA jE jB))))) (aAf (aCt (aA (qF ["_law_k"] ["_law_some","_law_at"] [3,4] rfl (xT rfl M.range (jA (pv 1) jB)) rfl ⟨rfl,⟨rfl,trivial⟩⟩ ⟨⟨rfl,rfl,rfl,_,rfl⟩,⟨⟨rfl,rfl,rfl,_,rfl⟩,trivial⟩⟩ (fun _ _ _ _=>(jM (i:=0) (show yt (["_law_k","_law_some","_law_at"]:List Str) from by ac_rfl) rfl (yp rfl))) (fun _ _ _ _=>qB) (fun _ _ _ _=>(jX (aDr K rfl) (pv 1) (jS zS (jS qO (pv 2) (jS yW jE (pv 0))) jE) (fun _ _=>rfl)))))))))) jR) (yE (bL (gK (i:=5) ["_law_k"] ["_law_box_here"] [0] vH.nd rfl rfl rfl (xT rfl M.range (jA (jS qO jE (jK ak hr rfl aa.m aa.k aa.b .nil jQ (jA (pv 0) (jA jE jB)))) jB)) rfl ⟨rfl,trivial⟩ ⟨⟨rfl,rfl,rfl,_,rfl⟩,trivial⟩ (fun _ _ _ _=>(jM (i:=0) (show yt (["_law_k","_law_box_here"]:List Str) from by ac_rfl) rfl (yp rfl))) (fun _ _ _ _=>qB) (fun _ _ _ _=>(jK ak hr rfl aa.m aa.k aa.b .nil jQ (jA (pv 1) (jA jE jB)))))) (yE (bL (jU (i:=4) vH.nd rfl (by walk_at"o") (jK ak hr rfl aa.m aa.k aa.b .nil jQ (jA (pv 0) (jA (jZ kG rfl M.len yn (jA (pv 5) jB)) jB))))) (yE (bL (jU (i:=6) vH.nd rfl (by walk_at"o") (jK qt hr rfl eg.m eg.k eg.b .nil jQ (jA (pv 5) (jA (pv 4) (jA jH (jA (pv 1) jB))))))) (yE (aHb (jP (mG hr.units) (qF ["_law_name"] ["_law_words"] [2] rfl (kU (pv 6)) rfl ⟨rfl,trivial⟩ ⟨⟨rfl,rfl,rfl,_,rfl⟩,trivial⟩ (fun _ _ _ _=>(jM (i:=0) (show yt (["_law_name","_law_words"]:List Str) from by ac_rfl) rfl (yp rfl))) (fun _ _ _ _=>(fV (jP (rA (K:=K) rfl) (pv 0) (pv 1) (by with_unfolding_all rfl)))) (fun _ _ _ _=>(pv 0))) (kK jB) (jT _)) (aAf (bL (jU (i:=6) vH.nd rfl (by walk_at"o") (jK qt hr rfl eg.m eg.k eg.b .nil jQ (jA (pv 5) (jA (pv 4) (jA jH (jA (pv 1) jB)))))))) jR) (aAf (aCt (aA (pv 6)))))))))))),?_⟩;refine⟨_,rfl,_,_,rfl,rfl,(by decide),rfl,_,_,rfl,rfl,rfl,(by rw[ym];decide),fun wl hwl=>?_⟩;rw[show zv (ε "shape num row pick tag room things part tags put take many look which store choose copy each span" ++ ε " if else end out") (ε " ")=dW from aGw];clear 1 wl H1 g1 k1 hwl;have st1:St3 H1 p:=jF.st3 g1 hs;have nwp:wl≠p:=fun z=>by obtain⟨_,_,_,e⟩:=hs;rw[←z,hwl]at e;cases e
 have D0:∀{H2:Hp},Drawn p H1 H2->Drawn p H H2:=fun d=>⟨d.1,fun b o n e=>d.2 b o n (g1 _ _ e)⟩;refine⟨_,rfl,p,4,rfl,by decide,by decide,st1,fun v1 H2 hv1 d1=>⟨rfl,_,rfl,vE (fun c=>?_) (fun c=>?_)⟩⟩
 ·refine⟨(by show 10<=ψ;decide),fun l0 hl0=>?_⟩;clear 1 l0 H3 g3 k3 hl0;refine⟨_,rfl,aLh,fun l1 hl1=>?_⟩;clear 1 l1 H4 g4 k4 hl1;refine⟨l0,l1,_,_,rfl,rfl,SqL.of (g4 _ _ k3),SqL.of k4,(by decide),fun l2 hl2=>?_⟩;clear 1 l2 H5 g5 k5 hl2;have k5':H5 l2=some (.lst (smL.map V.str)):=k5;have d5:Drawn p H H5:=(D0 d1).keep ((g3.trans g4).trans g5);have n2p:l2≠p:=fun z=>by obtain⟨_,_,_,e⟩:=(d1.keep (g3.trans g4)).1;rw[←z,hl2]at e;cases e
  refine⟨_,rfl,p,14,rfl,by decide,by decide,d5.1,fun v2 H6 hv2 d6=>?_⟩;have k6:H6 l2=some (.lst (smL.map V.str)):=d6.2 _ _ n2p k5';have d06:=d5.trans d6;refine⟨_,rfl,4,rfl,by decide,by decide,bE (n:=4) (fun j ys H'=>H'=H6/\ys=((zw j).map fun k=>smL.getD ((v2+5*k) % 14) Str.empty).map V.str) ⟨rfl,rfl⟩ (fun j ys H' _ z=>by rw[z.2,δ,δ,AR];exact μ _) (by decide) (fun j ys H' hj z=>?_) (fun ys H' z l hl=>?_)⟩
  ·obtain⟨rfl,rfl⟩:=z;have hlt:(v2+5*j) % 14<smL.length:=Nat.mod_lt _ (by decide);have hw:smL[(v2+5*j) % 14]?=some (smL.getD ((v2+5*j) % 14) Str.empty):=by rw[Φ,η hlt];rfl
   refine⟨_,rfl,_,rfl,_,rfl,_,_,rfl,rfl,.inl ⟨by omega,by omega⟩,_,_,rfl,rfl,_,_,rfl,rfl,(by show(0:Int)<14;decide),l2,_,_,_,rfl,rfl,SqL.of k6,(by rw[show(((v2:Nat):Int)+5*((0:Int)+(j:Nat))) % 14=(((v2+5*j) % 14:Nat):Int) by rw[←modN];congr 1;omega];exact hV hw),⟨rfl,?_⟩,_,rfl⟩;rw[BU,ξ,ξ];rfl
  ·obtain⟨rfl,rfl⟩:=z;clear 1 l H7 g7 k7 hl;exact q l (sm4 v2) H7 (d06.keep g7) (d06.free hl) k7 (sm_ok (by omega))
 ·refine⟨_,rfl,p,6,rfl,by decide,by decide,d1.1,fun v3 H3 hv3 d3=>⟨_,_,rfl,rfl,?_⟩⟩;have hm:(1:Int)+(v3:Nat)=((1+v3:Nat):Int):=by omega
  refine⟨_,rfl,by omega,by omega,?_⟩;rw[hm];have d13:=d1.trans d3;refine bE (n:=1+v3) (fun j ys H'=>Drawn p H3 H'/\∃ns:List Nat,ys=(ns.map fun n:Nat=>V.int n)/\ns.length=j) ⟨Drawn.refl d3.1,[],rfl,rfl⟩ (fun j ys H' _ z=>?_) (kN (by omega)) (fun j ys H' hj z=>?_) (fun ys H' z s hs'=>?_)
  ·obtain⟨_,ns,rfl,hl⟩:=z;rw[δ];omega
  ·obtain⟨d4,ns,rfl,hl⟩:=z;refine⟨_,rfl,p,26,rfl,by decide,by decide,d4.1,fun v5 H5 hv5 d5=>⟨⟨d4.trans d5,ns++[v5],by rw[ξ];rfl,by rw[ι,hl];rfl⟩,_,rfl⟩⟩
  ·obtain⟨d4,ns,rfl,hl⟩:=z;generalize e5:upd H' s _=H5;obtain⟨g5,k5⟩:=qN e5 hs';have d15:Drawn p H1 H5:=(d13.trans d4).keep g5;have nsp:s≠p:=fun z=>by obtain⟨_,_,_,e⟩:=d4.1;rw[←z,hs']at e;cases e
   have el:(((ns.map fun n:Nat=>V.int n).length:Nat):Int)=((ns.length:Nat):Int):=by rw[δ]
   refine⟨_,rfl,_,rfl,s,_,rfl,.inl (SqL.of k5),p,_,rfl,(by rw[el];omega),(by rw[el];omega),d15.1,fun v6 H6 hv6 d6=>?_⟩;rw[el]at hv6;have k6:=d6.2 _ _ nsp k5;have d16:=d15.trans d6;have kw6:H6 wl=some (.lst (dW.map V.str)):=d16.2 _ _ nwp k1;refine⟨_,rfl,_,rfl,_,rfl,s,ns,v6,en1,rfl,SqL.of k6,.inl rfl,(by omega),(by omega),fun fl H7 g7 hfl kf=>?_⟩;have d17:=d16.keep g7;refine⟨_,rfl,fl,rfl,⟨_,SqL.of kf⟩,vQ (xs:=(drL ns v6 en1).map V.str) (fun i ys H8=>H8=H7/\ys=(((drL ns v6 en1).take i).filter fun x=>decide (x∈dW)).map V.str) ⟨rfl,rfl⟩ (fun i ys H8 _ z=>⟨by rw[z.1];exact SqL.of kf,by rw[z.2,δ];exact yo (DQ ..) (Bz ..)⟩) (by rw[δ];unfold drL;rw[δ,AR];decide) (fun i x ys H8 hx z=>?_) (fun ys H8 z fl2 hfl2=>?_)⟩
   ·obtain⟨rfl,rfl⟩:=z;obtain⟨y,hy,rfl⟩:=vK hx;refine⟨_,rfl,_,rfl,wl,_,rfl,.inl (SqL.of (g7 _ _ kw6)),rfl,qY _,_,rfl,?_⟩;rw[if_neg π,vB];have ef:=mS (f:=fun x=>decide (x∈dW)) hy;refine vE (fun c=>?_) (fun c=>?_)
    ·exact⟨_,rfl,⟨rfl,by rw[ef,if_pos c,ξ];rfl⟩,_,rfl⟩
    ·exact⟨⟨rfl,by rw[ef,if_neg c,zh]⟩,_,rfl⟩
   ·obtain⟨rfl,rfl⟩:=z;rw[δ,An];clear 1 fl2 H9 g9 k9 hfl2;refine⟨zL,fun l0 hl0=>?_⟩;clear 1 l0 H10 g10 k10 hl0;refine⟨fl2,l0,_,rfl,rfl,SqL.of (g10 _ _ k9),SqL.of k10,_,rfl,vE (fun c=>?_) (fun c=>?_)⟩
    ·refine⟨_,rfl,_,rfl,_,rfl,s,ns,v6,en2,rfl,SqL.of ((g7.trans (g9.trans g10)) _ _ k6),.inr rfl,(by omega),(by omega),fun fl3 H11 g11 hfl3 kf3=>?_⟩;exact⟨_,rfl,q fl3 _ H11 (D0 ((d17.keep (g9.trans g10)).keep g11)) ((D0 (d17.keep (g9.trans g10))).free hfl3) kf3 (aPr (.inr rfl) (by omega) (by omega) aRd)⟩
    ·refine⟨_,rfl,q fl _ H10 (D0 (d17.keep (g9.trans g10))) ((D0 d16).free hfl) ((g9.trans g10) _ _ kf) (aPr (.inl rfl) (by omega) (by omega) fun x hx z=>?_)⟩;have hin:x∈(drL ns v6 en1).filter fun x=>decide (x∈dW):=List.mem_filter.mpr ⟨hx,decide_eq_true z⟩;have he:((drL ns v6 en1).filter fun x=>decide (x∈dW)).map V.str=[]:=by simpa using c
     rw[Ce.mp he]at hin;cases hin
theorem rV{k:Nat}(F:Fun K "_law_is_name" "_law_is_name" cE f fd):jJ (k+2) f fd ["_law_word"] aQc:=by
 w_cond fN;obtain⟨w,rfl,hw,q⟩:=h;refine⟨_,(jC (jU (i:=1) fN.nd rfl (by walk_at"o") jH) (jC (kM (PW.pt (sP (yK (rP oB oB jE (jZ lV rfl M.len yn (jA (pv 0) jB)) jE)) (iD (jP vU (pv 0) (xA zg AB AC yN (jS qA (pv 1) jH) (jA jH jB)) (by with_unfolding_all rfl))))) (jD (jJ lU)) jR) (jD (jJ (vA (aDv hr.units) (qF ["_law_sign"] [] [] rfl (aMc (pv 0)) rfl trivial trivial (fun _ _ _ _=>(jM (i:=0) (show yt (["_law_sign"]:List Str) from by ac_rfl) rfl (yp rfl))) (fun _ _ _ _=>(fV (jP aBn (pv 0) jH (by with_unfolding_all rfl)))) (fun _ _ _ _=>(pv 0))) (kK jB) (jT _)))))),?_⟩;have hl:=len_list w;have no:within w 6=false->kP w=false:=fun h=>by unfold kP;rw[h,AE,AE]
 refine⟨_,rfl,.str w,w.length,rfl,⟨small hw,rfl⟩,_,_,rfl,rfl,_,rfl,vE (fun c1=>?_) (fun c1=>?_)⟩
 ·refine⟨_,_,rfl,rfl,_,rfl,vE (fun c2=>?_) (fun c2=>?_)⟩
  ·have hn:within w 6=false:=by
    unfold within;have:decide ((w.length:Int)<=6)=false:=by simpa using c2
    rw[this,CL]
   have:=q H (jF.refl _);rw[no hn]at this;exact aId this
  ·have hy:within w 6=true:=by
    unfold within;have c2':decide ((w.length:Int)<=6)=true:=by simpa using c2
    rw[c2',c1];rfl
   refine⟨_,rfl,_,rfl,_,_,rfl,rfl,(by decide),rfl,_,_,rfl,rfl,rfl,(by rw[ym];decide),fun wl hwl=>?_⟩;rw[show zv (ε "shape num row pick tag room things part tags put take many look which store choose copy each span" ++ ε " if else end out") (ε " ")=dW from aGw];clear 1 wl H1 g1 k1 hwl;refine⟨wl,_,rfl,.inl (SqL.of k1),rfl,qY _,_,rfl,?_⟩;rw[if_neg π,vB];refine vE (fun c3=>?_) (fun c3=>?_)
   ·have:=q H1 g1;rw[show kP w=false by unfold kP;rw[c3];simp]at this;exact this
   ·refine⟨_,rfl,w,rfl,aCs (fun i ys H'=>H'=H1/\ys=((w.cps.toList.take i).filter fun c=>!decide (c∈xR.cps.toList)).map fun c=>V.str ⟨#[c]⟩) ⟨rfl,rfl⟩ (fun i ys H' _ z=>by rw[z.2,δ];exact yo (DQ ..) (Bz ..)) (kN hw) (fun i c ys H' hc z=>?_) (fun ys H' z p hp=>?_)⟩
    ·obtain⟨rfl,rfl⟩:=z;have ef:=filtA (f:=fun c=>!decide (c∈xR.cps.toList)) hc;refine⟨_,rfl,_,_,rfl,rfl,_,rfl,?_⟩;rw[aKy];refine vE (fun c4=>?_) (fun c4=>?_)
     ·exact⟨_,rfl,⟨rfl,by rw[ef,if_pos c4,ξ];rfl⟩,_,rfl⟩
     ·exact⟨⟨rfl,by rw[ef,if_neg c4,zh]⟩,_,rfl⟩
    ·obtain⟨rfl,rfl⟩:=z;clear 1 p H2 g2 k2 hp;refine⟨zL,fun l0 hl0=>?_⟩;clear 1 l0 H3 g3 k3 hl0;refine⟨p,l0,_,rfl,rfl,SqL.of (g3 _ _ k2),SqL.of k3,?_⟩;have h3:w∉dW:=of_decide_eq_false (AS.mpr c3);have q':=q H3 ((g1.trans g2).trans g3);rw[aMf hy h3]at q';rw[aBq (fun c=>decide (c∈xR.cps.toList)),←hl,An];exact q'
 ·have hn:within w 6=false:=by
   unfold within;have:decide (1<=(w.length:Int))=false:=by simpa using c1
   rw[this,AE]
  have:=q H (jF.refl _);rw[no hn]at this;exact⟨_,rfl,vJ (by decide) (aId this)⟩
theorem aBr{k r:Nat}(F:Fun K "_law_size" "_law_size" iP f fd){ii:Addr}{gf:zb}(aw:Df K mg "_law_size" ii gf ["_law_shapes_here","_law_kind_here"])(fw:jJ k ii gf ["_law_shapes_here","_law_kind_here"] (aGj K vSz r)):jJ (k+2) f fd ["_law_shapes_here","_law_kind_here"] (aGj K vSz (r+1)):=by
 w_cond aCz;obtain⟨a,sl,kd,S,rfl,hk,hv,hf,hlk,hlx,hg,q⟩:=h;refine⟨_,(jC (kM (jP qI (jX kY (pv 1) jE (fun _ _=>rfl)) jH (jT _)) (jD (jJ (jX kY (pv 1) jE (fun _ _=>rfl)))) jR) (jC (kM (jP qI (jX kY (pv 1) jE (fun _ _=>rfl)) jH (jT _)) (jD (jJ (jZ (sS rfl) rfl M.sum (show AV "sum" = some (.builtin "sum") from by ac_rfl) (jA (qF ["_law_name","_law_inner"] ["_law_shapes_here"] [0] rfl (kU (jX kY (jX kF (pv 0) (jX kY (pv 1) jE (fun _ _=>rfl)) (fun _ _=>rfl)) jE (fun _ _=>rfl))) rfl ⟨rfl,trivial⟩ ⟨⟨rfl,rfl,rfl,_,rfl⟩,trivial⟩ (fun _ _ _ _=>(yX (K:=K) (n:=2) rfl rfl (jW (jM (i:=0) (show yt (["_law_name","_law_inner","_law_shapes_here"]:List Str) from by ac_rfl) rfl (yp rfl)) (jW (jM (i:=1) (show yt (["_law_name","_law_inner","_law_shapes_here"]:List Str) from by ac_rfl) rfl (yp rfl)) qL)))) (fun _ _ _ _=>qB) (fun _ _ _ _=>(jK fw hr rfl aw.m aw.k aw.b .nil jQ (jA (pv 2) (jA (pv 1) jB))))) jB)))) jR) (jC (kM (jP qI (jX kY (pv 1) jE (fun _ _=>rfl)) jH (jT _)) (jD (jJ (jS yW (jX kY (pv 1) jE (fun _ _=>rfl)) (jK fw hr rfl aw.m aw.k aw.b .nil jQ (jA (pv 0) (jA (jX kY (pv 1) jE (fun _ _=>rfl)) jB)))))) jR) (jD (jJ (jS qO jE (jZ (fW rfl) rfl M.max boot_max (jA (qF ["_law_k"] ["_law_shapes_here"] [0] rfl (kU (jX kY (pv 1) jE (fun _ _=>rfl))) rfl ⟨rfl,trivial⟩ ⟨⟨rfl,rfl,rfl,_,rfl⟩,trivial⟩ (fun _ _ _ _=>(jM (i:=0) (show yt (["_law_k","_law_shapes_here"]:List Str) from by ac_rfl) rfl (yp rfl))) (fun _ _ _ _=>qB) (fun _ _ _ _=>(jK fw hr rfl aw.m aw.k aw.b .nil jQ (jA (pv 1) (jA (qP (jA jH (jA (pv 0) jB))) jB))))) jB)))))))),?_⟩;have back : 1<=r->∃r',r=r'+1:=fun h=>⟨r-1,by omega⟩;cases id hlk with
 | @num a w h1=>exact⟨_,rfl,a,_,_,_,rfl,rfl,h1,rfl,rfl,_,rfl,vJ (by decide) ⟨_,rfl,a,_,_,_,rfl,rfl,h1,rfl,q _ (jF.refl _)⟩⟩
 | @many a b n k h1 h2 =>
  have hv' : 1<=r:=hv;obtain⟨r,rfl⟩:=back hv';have hlv:k.lv=0:=by rcases hf.2.2 with⟨w,rfl,_⟩|⟨i,rfl,_⟩ <;> rfl
  refine⟨_,rfl,a,_,_,_,rfl,rfl,h1,rfl,rfl,_,rfl,kS (by decide) ⟨_,rfl,a,_,_,_,rfl,rfl,h1,rfl,rfl,_,rfl,kS (by decide) ⟨_,rfl,a,_,_,_,rfl,rfl,h1,rfl,rfl,_,rfl,vJ (by decide) ⟨_,rfl,a,_,_,_,rfl,rfl,h1,rfl,_,rfl,_,rfl,a,_,_,_,rfl,rfl,h1,rfl,b,sl,k,S,rfl,hk.sub,(by omega),hf.sub,h2,hlx,hg,fun H' g=>?_⟩⟩⟩⟩;refine⟨_,_,rfl,rfl,.inl ⟨by have:=hf.2.1;omega,by have:=hf.2.1;omega⟩,?_⟩;have q':=q H' g;rw[show vSz (Kd.many n k) (tabs S)=n*vSz k (tabs S) from rfl,Int.natCast_mul]at q';exact q'
 | @pick a l is h1 h2 =>
  have hs:=hf.1;have hs4:=hf.2.1;have hne:is≠[]:=fun z=>by rw[z]at hs;exact absurd hs (by decide)
  have hr3 : 3<=r:=by
   cases is with
   |nil=>exact absurd rfl hne
   |cons i _=>have:=hk i (Ψ ..);omega
  obtain⟨r,rfl⟩:=back (by omega);have zl:(is.map fun n:Nat=>V.int n).length=is.length:=δ _;refine⟨_,rfl,a,_,_,_,rfl,rfl,h1,rfl,rfl,_,rfl,kS (by decide) ⟨_,rfl,a,_,_,_,rfl,rfl,h1,rfl,rfl,_,rfl,kS (by decide) ⟨_,rfl,a,_,_,_,rfl,rfl,h1,rfl,rfl,_,rfl,kS (by decide) ⟨_,rfl,a,_,_,_,rfl,rfl,h1,rfl,l,rfl,⟨_,h2⟩,vQ (xs:=is.map fun n:Nat=>V.int n) (fun j ys H'=>jF H H'/\ys=((is.take j).map fun i=>V.int (vSz (.nest i) (tabs S)))) ⟨jF.refl _,rfl⟩ (fun j ys H' _ z=>⟨z.1.seq h2,by rw[z.2,δ,yh];exact Aa _ _⟩) (kN (by omega)) (fun j x ys H' hx z=>?_) (fun ys H' z p hp=>?_)⟩⟩⟩⟩
  ·obtain⟨g,rfl⟩:=z;obtain⟨i,hi,rfl⟩:=eB hx;have him:=ο hi;refine⟨_,rfl,_,rfl,vD,fun t ht=>?_⟩;clear 1 t H3 g3 k3 ht;exact⟨t,sl,.nest i,S,rfl,(by have:=hk i him;show 2*i+2<=r;omega),yq _,hf.2.2.2 i him,.nest (SqT.of k3),hlx.same (g.trans g3),hg,fun H4 g4=>⟨⟨(g.trans g3).trans g4,(vM hi).symm⟩,_,rfl⟩⟩
  ·obtain⟨g,rfl⟩:=z;have g2:=xQ hp (.lst ((is.take (is.map fun n:Nat=>V.int n).length).map fun i=>V.int (vSz (.nest i) (tabs S))));have kp:upd H' p (.lst ((is.take (is.map fun n:Nat=>V.int n).length).map fun i=>V.int (vSz (.nest i) (tabs S)))) p=some (.lst (((is.map fun i=>vSz (.nest i) (tabs S)).map fun n:Nat=>(n:Int)).map V.int)):=by
    rw[jO,zl,vC,zf,zf];rfl
   have q':=q _ (g.trans g2);refine⟨p,(is.map fun i=>vSz (.nest i) (tabs S)).map fun n:Nat=>(n:Int),rfl,SqL.of kp,(by simpa using hne),fun m h5 h6=>?_⟩;rw[maxI h5 h6];refine⟨_,_,rfl,rfl,?_⟩;rw[show vSz (Kd.pick is) (tabs S)=1+yG (is.map fun i=>vSz (.nest i) (tabs S)) from rfl,Int.natCast_add]at q';exact q'
 | @nest a i h1 =>
  have hi:i<S.length:=hf;have hr2 : 2*i+2<=r:=hk;obtain⟨r,rfl⟩:=back (by omega);obtain⟨as,s,l,ps,m1,m2,m3,m4,m5⟩:=hlx.at hi;have hS:S[i]?=some S[i]:=η hi;have hfit:=hg.fit i _ hS;have htab:=sG hS fun f hf=>(hfit f hf).1.below;have zl:(ps.map V.ref).length=S[i].2.length:=by rw[δ];exact m5.len
  refine⟨_,rfl,a,_,_,_,rfl,rfl,h1,rfl,rfl,_,rfl,kS (by decide) ⟨_,rfl,a,_,_,_,rfl,rfl,h1,rfl,rfl,_,rfl,vJ (by decide) ⟨_,rfl,_,rfl,a,_,_,_,rfl,rfl,h1,rfl,sl,_,_,_,rfl,rfl,m1,dO m2,s,_,_,_,rfl,rfl,m3,rfl,l,rfl,⟨_,m4⟩,yI (xs:=ps.map V.ref) (fun j ys H'=>jF H H'/\ys=((S[i].2.take j).map fun f=>V.int (vSz f.2 (tabs S)))) ⟨jF.refl _,rfl⟩ (fun j ys H' _ z=>⟨z.1.seq m4,by rw[z.2,δ,yh];exact Aa _ _⟩) (kN (by have:=hg.few i _ hS;omega)) (fun j x ys H' os ho hx z=>?_) (fun ys H' z p hp=>?_)⟩⟩⟩
  ·obtain⟨g,rfl⟩:=z;obtain⟨o1,o2,rfl⟩:=oV ho;obtain⟨u,hu,rfl⟩:=qH hx;obtain⟨nm',kd',kk,hfs,ht,hko⟩:=m5.get hu;have hm:=hfit _ (ο hfs);exact⟨u,_,rfl,g.tp ht,rfl,_,_,rfl,_,_,rfl,rfl,_,rfl,_,rfl,kk,sl,kd',S,rfl,hm.1.rk.mono (by omega),(by have:=kd'.lv_le;omega),hm.1.mono (Bn hi),hko.same g,hlx.same g,hg,fun H2 g2=>⟨⟨g.trans g2,(vM hfs).symm⟩,[_,_],rfl,rfl⟩⟩
  ·obtain⟨g,rfl⟩:=z;have g2:=xQ hp (.lst ((S[i].2.take (ps.map V.ref).length).map fun f=>V.int (vSz f.2 (tabs S))));have kp:upd H' p (.lst ((S[i].2.take (ps.map V.ref).length).map fun f=>V.int (vSz f.2 (tabs S)))) p=some (.lst (((S[i].2.map fun f=>vSz f.2 (tabs S)).map fun n:Nat=>(n:Int)).map V.int)):=by
    rw[jO,zl,vC,zf,zf];rfl
   have q':=q _ (g.trans g2);refine⟨p,(S[i].2.map fun f=>vSz f.2 (tabs S)).map fun n:Nat=>(n:Int),rfl,SqL.of kp,?_⟩;rw[sumI];rw[show vSz (.nest i) (tabs S)=(S[i].2.map fun f=>vSz f.2 (tabs S)).sum from htab.1]at q';exact q'
theorem mC{k r:Nat}(F:Fun K "_law_kind_words" "_law_kind_words" zH f fd){dg:Addr}{cy:zb}(bx:Df K mg "_law_kind_words" dg cy ["_law_shapes_here","_law_kind_here"])(gu:jJ k dg cy ["_law_shapes_here","_law_kind_here"] (aFt K r)):jJ (k+2) f fd ["_law_shapes_here","_law_kind_here"] (aFt K (r+1)):=by
 w_cond iU;obtain⟨a,sl,kd,S,rfl,hlv,hf,hn,hlk,hlx,q⟩:=h;refine⟨_,(jC (kM (jP qI (jX kY (pv 1) jE (fun _ _=>rfl)) jH (jT _)) (jD (jJ (jS qA jH (qR xW rfl M.str boot_str (jA (jX kY (pv 1) jE (fun _ _=>rfl)) jB))))) jR) (jC (kM (jP qI (jX kY (pv 1) jE (fun _ _=>rfl)) jH (jT _)) (jD (jJ (jX kY (jX kF (pv 0) (jX kY (pv 1) jE (fun _ _=>rfl)) (fun _ _=>rfl)) jE (fun _ _=>rfl)))) jR) (jC (kM (jP qI (jX kY (pv 1) jE (fun _ _=>rfl)) jH (jT _)) (jD (jJ (jS qA (jS qA (jS qA jH (qR xW rfl M.str boot_str (jA (jX kY (pv 1) jE (fun _ _=>rfl)) jB))) jH) (jK gu hr rfl bx.m bx.k bx.b .nil jQ (jA (pv 0) (jA (jX kY (pv 1) jE (fun _ _=>rfl)) jB)))))) jR) (jD (jJ (jS qA jH (xA zg Bi Bj eZ jH (jA (qF ["_law_k"] ["_law_shapes_here"] [0] rfl (kU (jX kY (pv 1) jE (fun _ _=>rfl))) rfl ⟨rfl,trivial⟩ ⟨⟨rfl,rfl,rfl,_,rfl⟩,trivial⟩ (fun _ _ _ _=>(jM (i:=0) (show yt (["_law_k","_law_shapes_here"]:List Str) from by ac_rfl) rfl (yp rfl))) (fun _ _ _ _=>qB) (fun _ _ _ _=>(jX (aHi K rfl) (jX (aDr K rfl) (pv 1) (pv 0) (fun _ _=>rfl)) jE (fun _ _=>rfl)))) jB)))))))),?_⟩;have lg:∀i:Nat,i<=9->(((i:Nat):Int)).natAbs.log2<1920:=fun i hi=>CT (zE (by omega)) (by decide);have jc:∀(x:Str) (ys:List Str),ys≠[]->yd L2.spS (x::ys)=x++L2.spS++yd L2.spS ys:=fun x ys h=>aL h;obtain⟨w6,w5⟩:=gM hn hf;cases id hlk with
 | @num a w h1 =>
  have hw:w<=4:=hf.2;have d2:=(dig (w:=w) (by omega)).2.1;refine⟨_,rfl,a,_,_,_,rfl,rfl,h1,rfl,rfl,_,rfl,vJ (by decide) ⟨_,rfl,a,_,_,_,rfl,rfl,h1,rfl,_,rfl,lg w (by omega),_,_,rfl,rfl,(by show 4+(ε (toString ((w:Nat):Int))).length<=ψ;rw[d2];decide),?_⟩⟩;have q':=q H (jF.refl _);rw[show(Kd.num w).words (kO S)=[ε "num",ε (toString ((w:Nat):Int))] from rfl,jc _ _ (by simp)]at q';exact q'
 | @many a b n k h1 h2 =>
  have hn6:n<=6:=hf.2.1;have d2:=(dig (w:=n) (by omega)).2.1;have hlk0:k.lv=0:=by rcases hf.2.2 with⟨w,rfl,_⟩|⟨i,rfl,_⟩ <;> rfl
  have kl:(yd L2.spS (k.words (kO S))).length<=100:=by
   obtain⟨v6,v5⟩:=gM hn hf.sub;have h3:(yd L2.spS (k.words (kO S))).length<=_:=cL (c:=32) (m:=6) v6;omega
  refine⟨_,rfl,a,_,_,_,rfl,rfl,h1,rfl,rfl,_,rfl,kS (by decide) ⟨_,rfl,a,_,_,_,rfl,rfl,h1,rfl,rfl,_,rfl,kS (by decide) ⟨_,rfl,a,_,_,_,rfl,rfl,h1,rfl,rfl,_,rfl,vJ (by decide) ⟨_,rfl,a,_,_,_,rfl,rfl,h1,rfl,_,rfl,lg n (by omega),_,_,rfl,rfl,(by show 4+(ε (toString ((n:Nat):Int))).length<=ψ;rw[d2];decide),_,_,rfl,rfl,(by rw[ym,Ax];show 4+(ε (toString ((n:Nat):Int))).length+1<=_;omega),_,rfl,_,rfl,a,_,_,_,rfl,rfl,h1,rfl,b,sl,k,S,rfl,(by rw[hlk0];have : 1<r+1:=hlv;omega),hf.sub,hn,h2,hlx,fun H' g=>⟨_,_,rfl,rfl,(by rw[ym,Ax,Ax];show 4+(ε (toString ((n:Nat):Int))).length+1+_<=_;omega),?_⟩⟩⟩⟩⟩;have q':=q H' g;rw[show(Kd.many n k).words (kO S)=ε "row" :: ε (toString ((n:Nat):Int))::k.words (kO S) from rfl,jc _ _ (by simp),jc _ _ (Kd.words_ne _ _)]at q';rw[BG,BG];rw[BG,BG,←BG (ε "row")]at q';exact q'
 | @pick a l is h1 h2 =>
  have hs2:=hf.1;have hs4:=hf.2.1;have zl:(is.map fun n:Nat=>V.int n).length=is.length:=δ _;refine⟨_,rfl,a,_,_,_,rfl,rfl,h1,rfl,rfl,_,rfl,kS (by decide) ⟨_,rfl,a,_,_,_,rfl,rfl,h1,rfl,rfl,_,rfl,kS (by decide) ⟨_,rfl,a,_,_,_,rfl,rfl,h1,rfl,rfl,_,rfl,kS (by decide) ⟨rfl,_,rfl,a,_,_,_,rfl,rfl,h1,rfl,l,rfl,⟨_,h2⟩,vQ (xs:=is.map fun n:Nat=>V.int n) (fun j ys H'=>H'=H/\ys=((is.take j).map (kO S)).map V.str) ⟨rfl,rfl⟩ (fun j ys H' _ z=>⟨by rw[z.1];exact h2,by rw[z.2,δ,δ,yh];exact Aa _ _⟩) (kN (by omega)) (fun j x ys H' hx z=>?_) (fun ys H' z p hp=>?_)⟩⟩⟩⟩
  ·obtain⟨rfl,rfl⟩:=z;obtain⟨i,hi,rfl⟩:=eB hx;have hiS:=hf.2.2.2 i (ο hi);obtain⟨as,s,l',ps,m1,m2,m3,m4,m5⟩:=hlx.at hiS;refine⟨_,rfl,_,rfl,sl,_,_,_,rfl,rfl,m1,dO m2,s,_,_,_,rfl,rfl,m3,rfl,⟨rfl,?_⟩,_,rfl⟩;rw[vM hi,ξ,vY (η hiS)];rfl
  ·obtain⟨rfl,rfl⟩:=z;rw[zl,vC];clear 1 p H2 g2 k2 hp;have hne:is.map (kO S)≠[]:=fun z=>by rw[Ce]at z;rw[z]at hs2;exact absurd hs2 (by decide)
   have w6':∀w∈is.map (kO S),w.length<=6:=fun w hw=>w6 w (yc _ hw);have hsum:((is.map (kO S)).map (·.length)).sum<=(is.map (kO S)).length*6:=cD w6';have hjl:(yd (ε " ") (is.map (kO S))).length<=(is.map (kO S)).length*7:=cL (c:=32) (m:=6) w6';have h1l:(ε " ").length=1:=rfl;rw[δ]at hsum hjl;refine⟨_,p,is.map (kO S),rfl,rfl,SqL.of k2,(by rw[h1l,δ];omega),_,_,rfl,rfl,(by rw[ym];show 5+_<=_;omega),?_⟩;have q':=q H2 g2;rw[show(Kd.pick is).words (kO S)=ε "pick" :: is.map (kO S) from rfl,jc _ _ hne]at q';exact q'
 | @nest a i h1 =>
  obtain⟨as,s,l',ps,m1,m2,m3,m4,m5⟩:=hlx.at hf;have q':=q H (jF.refl _);rw[show yd L2.spS ((Kd.nest i).words (kO S))=kO S i from rfl,vY (η hf)]at q';exact⟨_,rfl,a,_,_,_,rfl,rfl,h1,rfl,rfl,_,rfl,kS (by decide) ⟨_,rfl,a,_,_,_,rfl,rfl,h1,rfl,rfl,_,rfl,vJ (by decide) ⟨_,rfl,_,rfl,a,_,_,_,rfl,rfl,h1,rfl,sl,_,_,_,rfl,rfl,m1,dO m2,s,_,_,_,rfl,rfl,m3,rfl,q'⟩⟩⟩
theorem lR{k:Nat}(F:Fun K "_law_shape_text" "_law_shape_text" zD f fd){dg:Addr}{cy:zb}(bx:Df K mg "_law_kind_words" dg cy ["_law_shapes_here","_law_kind_here"])(gu:jJ k dg cy ["_law_shapes_here","_law_kind_here"] (aFt K 2)):jJ (k+2) f fd ["_law_shapes_here"] (spTx K):=by
 w_cond xP;obtain⟨sl,S,rfl,hlx,hW,hne,q⟩:=h;refine⟨_,(jC (jU (i:=1) xP.nd rfl (by walk_at"o") (kK jB)) (jC (vF yw rfl (kU (pv 0)) (xZ rfl (jW (jM (i:=2) xP.nd rfl (yp rfl)) (jW (jM (i:=3) xP.nd rfl (yp rfl)) qL))) (jC (vL (xA yy zp zr vT (pv 1) (jA (jS qA jH (pv 2)) jB))) (jD (vL (xA yy Dn Do mX (pv 1) (jA (qF ["_law_own","_law_kind_here"] ["_law_shapes_here"] [0] rfl (kU (pv 3)) rfl ⟨rfl,trivial⟩ ⟨⟨rfl,rfl,rfl,_,rfl⟩,trivial⟩ (fun _ _ _ _=>(yX (K:=K) (n:=2) rfl rfl (jW (jM (i:=0) (show yt (["_law_own","_law_kind_here","_law_shapes_here"]:List Str) from by ac_rfl) rfl (yp rfl)) (jW (jM (i:=1) (show yt (["_law_own","_law_kind_here","_law_shapes_here"]:List Str) from by ac_rfl) rfl (yp rfl)) qL)))) (fun _ _ _ _=>qB) (fun _ _ _ _=>(jS qA (jS qA (pv 0) jH) (jK gu hr rfl bx.m bx.k bx.b .nil jQ (jA (pv 2) (jA (pv 1) jB)))))) jB)))))) (jD (jJ (xA zg Bi Bj eZ jH (jA (pv 1) jB)))))),?_⟩;obtain⟨as,ha,hLW⟩:=id hlx;obtain⟨h30,hrow,_⟩:=aKc hW hne;have hn:=aAb hW.nm;have jc:∀(x:Str) (ys:List Str),ys≠[]->yd L2.spS (x::ys)=x++L2.spS++yd L2.spS ys:=fun x ys h=>aL h;refine⟨zL,fun ll hll=>?_⟩;clear 1 ll H1 g1 k1 hll;have zl:(as.map V.ref).length=S.length:=by rw[δ];exact hLW.len
 have few:∀A:List Itm,(∃B,vR S=A++B)->A.length<=30:=fun A ⟨B,e⟩=>by rw[e,ι]at h30;omega
 refine⟨_,rfl,sl,rfl,⟨_,g1.seq ha⟩,vN (xs:=as.map V.ref) (fun i σ H'=>∃o2 o3,σ = [some (.ref sl),some (.ref ll),o2,o3]/\But ll H1 H'/\H' ll=some (.lst (((vR (S.take i)).map (uB S)).map V.str))) ⟨_,_,rfl,But.refl,k1⟩ (fun i σ H' _ z=>?_) (fun i x σ H' hx z=>?_) (fun σ H' z=>?_)⟩
 ·obtain⟨o2,o3,rfl,g,_⟩:=z;exact(But.from g1 hll g).seq ha
 ·obtain⟨o2,o3,rfl,g,kl⟩:=z;obtain⟨s,hs,rfl⟩:=qH hx;obtain⟨sh,hS,l,ps,m1,m2,m3⟩:=hLW.get hs;have hsS:=ο hS;have hi:i<S.length:=(θ.mp hS).1;have gH:=But.from g1 hll g;have eS:vR S=vR (S.take i)++(gQ sh++vR (S.drop (i+1))):=by
   conv=>lhs;rw[(aCq hS).1]
   rw[aS];rfl
  have hnm:=hW.nm sh hsS;have hsl:=(vV hnm).2;have l1:=few (vR (S.take i)) ⟨_,eS⟩;refine⟨s,_,rfl,gH.tp m1,rfl,_,_,rfl,_,_,rfl,rfl,_,rfl,.inl ⟨rfl,_,SqL.of kl⟩,_,rfl,_,_,rfl,rfl,(by show 6+sh.1.length<=ψ;rw[ym];omega),ll,_,_,rfl,rfl,kl,(by rw[δ,δ];exact zy l1 (by decide)),?_⟩;clear 0 ll H2 g2 k2;have gg2:=g.trans g2;have er:(ε "shape " ++ sh.1:Str)=uB S (.sh sh.1):=by
   show _=yd L2.spS [ε "shape",sh.1];rw[jc _ _ (by simp)];rfl
  have k2':H2 ll=some (.lst (((vR (S.take i)++(.sh sh.1::(sh.2.take 0).map fun f=>Itm.fd f.1 f.2)).map (uB S)).map V.str)):=by
   rw[k2,ξ,ξ];show some (HO.lst (_++[V.str (ε "shape " ++ sh.1)]))=_;rw[er];rfl
  refine⟨_,rfl,.inl ⟨rfl,_,SqL.of k2'⟩,_,rfl,l,rfl,⟨_,(But.from g1 hll gg2).seq m2⟩,yI (xs:=ps.map V.ref) (fun j ys H3=>jF H2 H3/\ys=((sh.2.take j).map fun f=>V.str (uB S (Itm.fd f.1 f.2)))) ⟨jF.refl _,rfl⟩ (fun j ys H3 _ z=>⟨z.1.seq ((But.from g1 hll gg2).seq m2),by rw[z.2,δ,yh];exact Aa _ _⟩) (kN (by have:=hW.good.few i _ hS;rw[δ,m3.len];omega)) (fun j x ys H3 os ho hx z=>?_) (fun ys H3 z p hp=>?_)⟩
  ·obtain⟨g3,rfl⟩:=z;obtain⟨o1,o2,rfl⟩:=oV ho;obtain⟨t,ht,rfl⟩:=qH hx;obtain⟨nm',kd',kk,hfs,htt,hko⟩:=m3.get ht;have hfm:=ο hfs;have hfit:kd'.Fit S.length:=(hW.good.fit i sh hS _ hfm).1.mono (Bn hi);have hfn':nm'.length<=6:=(vV (hW.fnm sh hsS _ hfm)).2;have gH3:=(But.from g1 hll gg2).trans g3;have hit:Itm.fd nm' kd'∈vR S:=by
    rw[eS];refine yu _ (AL _ (yc _ ?_));exact yj.mpr ⟨_,hfm,rfl⟩
   have r100:(yd L2.spS (nm'::kd'.words (kO S))).length<=100:=(hrow _ hit).1;rw[jc _ _ (Kd.words_ne _ _),Ax,Ax]at r100;refine⟨t,_,rfl,gH3.tp htt,rfl,_,_,rfl,_,_,rfl,rfl,_,rfl,_,_,rfl,rfl,(by show nm'.length+1<=ψ;rw[ym];omega),_,rfl,_,rfl,kk,sl,kd',S,rfl,(by have:=kd'.lv_le;omega),hfit,hn,hko.same gH3,hlx.same gH3,fun H4 g4=>⟨_,_,rfl,rfl,(by rw[ym,Ax];show nm'.length+1+_<=_;have:L2.spS.length=1:=rfl;omega),⟨g3.trans g4,?_⟩,[_,_],rfl,rfl⟩⟩;have er2:(nm'++ε " " ++ yd L2.spS (kd'.words (kO S)):Str)=uB S (.fd nm' kd'):=by
    show _=yd L2.spS (nm'::kd'.words (kO S));rw[jc _ _ (Kd.words_ne _ _)];rfl
   rw[vM hfs,show nm'++ε " " ++ yd L2.spS (kd'.words (kO S))=uB S (.fd nm' kd') from er2]
  ·obtain⟨g3,rfl⟩:=z;rw[δ,m3.len,vC];clear 1 p H5 g5 k5 hp;have kl5:=g5 _ _ (g3 _ _ k2');have l30:(vR (S.take i)++gQ sh).length<=30:=few _ ⟨vR (S.drop (i+1)),by rw[eS,zx]⟩;refine⟨ll,p,_,_,rfl,rfl,kl5,k5,?_,?_⟩
   ·rw[ι]at l30;unfold gQ at l30;rw[Δ,δ]at l30;rw[ym,δ,δ,δ,ι];show _+1+_<=_;omega
   ·clear 0 ll H6 g6 k6;refine⟨_,_,rfl,((gg2.trans (But.of g3)).trans (But.of g5)).trans g6,?_⟩;have e6':S.take (i+1)=S.take i++[sh]:=by rw[zu,hS];rfl
    rw[k6,e6',aS,show vR [sh]=gQ sh from BB ..];unfold gQ;simp only[ξ,zm,zf,List.take_zero,List.map_nil,zx];rfl
 ·obtain⟨o2,o3,rfl,g,kl⟩:=z;rw[zl,vC]at kl;refine⟨rfl,_,rfl,_,ll,(vR S).map (uB S),rfl,rfl,SqL.of kl,?_,?_⟩
  ·have hsum:(((vR S).map (uB S)).map (·.length)).sum<=((vR S).map (uB S)).length*100:=cD fun w hw=>by
    obtain⟨it,hit,rfl⟩:=yj.mp hw;exact(hrow it hit).1
   have h1l:(ε "\n").length=1:=rfl;rw[δ]at hsum;rw[h1l,δ];omega
  ·have q':=q H' (But.from g1 hll g);rw[aLe]at q';exact q'
theorem aCp{k:Nat}(F:Fun K "_law_kind" "_law_kind" iS f fd){bo:Addr}{bb:zb}(aa:Df K mg "_law_take" bo bb ["_law_box_here","_law_many"])(ak:jJ k bo bb ["_law_box_here","_law_many"] nB):jJ (k+2) f fd ["_law_box_here","_law_shapes_here"] (aQk K):=by
 w_cond zN;obtain⟨p,sl,n,us,xs,rfl,hn4,hun,hs,hpx,hsp,hsl,hal,q⟩:=h;refine⟨_,(jC (jU (i:=2) zN.nd rfl (by walk_at"o") (jK ak hr rfl aa.m aa.k aa.b .nil jQ (jA (pv 0) (jA jE jB)))) (jC (jU (i:=3) zN.nd rfl (by walk_at"o") (jK ak hr rfl aa.m aa.k aa.b .nil jQ (jA (pv 0) (jA (jZ (uN rfl) rfl M.max boot_max (jA jE (jA (jZ kG rfl M.len yn (jA (pv 1) jB)) jB))) jB)))) (jC (jU (i:=4) zN.nd rfl (by walk_at"o") (jS qO jE (jK ak hr rfl aa.m aa.k aa.b .nil jQ (jA (pv 0) (jA jE jB))))) (jC (kM (PW.pt (yA (jP qI (pv 2) jE (jT _)) (vX (jP (mG hr.units) (pv 1) (kK jB) (jT _))))) (jD (jJ (qP (jA jH (jA (pv 3) jB))))) jR) (jC (kM (jP qI (pv 2) jE (jT _)) (jD (jJ (qP (jA jH (jA (pv 4) (jA (qP (jA jH (jA (jS qO jE (jK ak hr rfl aa.m aa.k aa.b .nil jQ (jA (pv 0) (jA jE jB)))) jB))) jB)))))) jR) (jC (kM (PW.pt (yA (jP qI (pv 2) jE (jT _)) (vX (jP (mG hr.units) (pv 1) (kK jB) (jT _))))) (jD (jJ (qP (jA jH (jA (pv 4) (jA (qP (jA jH (jA (pv 3) jB))) jB)))))) jR) (jC (kM (PW.pt (yA (jP dU (pv 2) jE (jT _)) (vX (jP dU (jZ kG rfl M.len yn (jA (pv 1) jB)) jE (jT _))))) (jC (jU (i:=5) zN.nd rfl (by walk_at"o") (jS qO jE (jK ak hr rfl aa.m aa.k aa.b .nil jQ (jA (pv 0) (jA (jS iR (jZ kG rfl M.len yn (jA (pv 1) jB)) jE) jB))))) (jD (jJ (qP (jA jH (jA (qF ["_law_k"] ["_law_one","_law_shapes_here"] [3,1] rfl (xT rfl M.range (jA (pv 5) jB)) rfl ⟨rfl,⟨rfl,trivial⟩⟩ ⟨⟨rfl,rfl,rfl,_,rfl⟩,⟨⟨rfl,rfl,rfl,_,rfl⟩,trivial⟩⟩ (fun _ _ _ _=>(jM (i:=0) (show yt (["_law_k","_law_one","_law_shapes_here"]:List Str) from by ac_rfl) rfl (yp rfl))) (fun _ _ _ _=>qB) (fun _ _ _ _=>(jS zS (jS qO (pv 1) (pv 0)) (jZ (aIy (K:=K) rfl) rfl M.len yn (jA (pv 2) jB))))) jB)))))) jR) (jD (jJ (qP (jA jH (jA (jS qO jE (jK ak hr rfl aa.m aa.k aa.b .nil jQ (jA (pv 0) (jA jE jB)))) jB)))))))))))),?_⟩;have hl:=jV.seq hsl;have tup:∀{H0 H1:Hp}{t:Addr}{o:HO},Al xs H0->H0 t=none->upd H0 t o=H1->Al xs H1/\jF H0 H1/\offs xs H1 t=some o:=fun al ht e=>by
  obtain⟨g,k⟩:=qN e ht;exact⟨al.same g,g,qS (al.new ht) k⟩
 have len:∀{G:Hp},Drawn p H G->SqL K G sl us:=fun d=>jV.seq ((d.offs (τ.mpr rfl)).seq hsl);refine⟨_,rfl,p,8,rfl,by decide,by decide,hs,fun v1 H1 hv1 d1=>?_⟩;refine⟨_,rfl,_,rfl,sl,_,rfl,.inl (len d1),_,_,rfl,?_⟩;obtain⟨m,hm,hm1,hm4,hmn⟩ : ∃m:Nat,(if (1:Int)<((us.length:Nat):Int) then ((us.length:Nat):Int) else 1)=(m:Nat)/\1<=m/\m<=4/\(n≠0->m=n):=by
  by_cases z:(1:Int)<((us.length:Nat):Int)
  ·exact⟨us.length,by rw[if_pos z],by omega,by omega,fun _=>by omega⟩
  ·exact⟨1,by rw[if_neg z];rfl,by omega,by omega,fun _=>by omega⟩
 rw[show(if ((us.length:Nat):Int) > 1 then ((us.length:Nat):Int) else 1)=(m:Nat) from hm];refine⟨p,_,rfl,by omega,by omega,d1.1,fun v2 H2 hv2 d2=>⟨_,rfl,p,3,rfl,by decide,by decide,d2.1,fun v3 H3 hv3 d3=>⟨_,_,rfl,rfl,?_⟩⟩⟩;have d03:=(d1.trans d2).trans d3;have ec:(1:Int)+(v3:Nat)=((1+v3:Nat):Int):=by omega
 dsimp only[cW];rw[ec];have ne0:∀{G:Hp},Drawn p H G->us.isEmpty=false->n≠0:=fun _ h z=>by
  cases us with
  |nil=>cases h
  |cons _ _=>rw[Δ]at hun;omega
 refine wB (fun σ' H'=>σ'=[some (.ref p),some (.ref sl),some (.int (v1:Nat)),some (.int (v2:Nat)),some (.int ((1+v3:Nat):Int)),none]/\Drawn p H H') (fun σ' H' z=>?_) (fun nx hnx=>?_)
 case refine_2 =>
  refine⟨_,rfl,rfl,_,rfl,vE (fun c=>?_) (fun c=>dX (hnx _ _ ⟨rfl,d03⟩))⟩;refine⟨_,rfl,zL,fun l0 hl0=>?_⟩;clear 1 l0 H4 g4 k4 hl0;refine⟨sl,l0,_,rfl,rfl,len (d03.keep g4),SqL.of k4,_,rfl,vE (fun c2=>?_) (fun c2=>hnx _ _ ⟨rfl,d03.keep g4⟩)⟩;have hn0:=ne0 (d03.keep g4) (by simpa using c2);refine⟨_,rfl,vD,fun t ht=>?_⟩;generalize e5:upd H4 t _=H5;obtain⟨al5,g5,k5⟩:=tup (Al.drawn hal (d03.keep g4)) ht e5;exact q t (.nest v2) H5 ((d03.keep g4).keep g5) (by show v2<n;have:=hmn hn0;omega) (.nest (SqT.of k5))
 obtain⟨rfl,d⟩:=z;refine⟨_,rfl,rfl,_,rfl,vE (fun c=>?_) (fun c=>?_)⟩
 ·refine⟨_,rfl,_,rfl,p,2,rfl,by decide,by decide,d.1,fun v4 H4 hv4 d4=>⟨_,_,rfl,rfl,vD,fun t2 ht2=>?_⟩⟩;have d04:=d.trans d4;generalize e5:upd H4 t2 _=H5;obtain⟨al5,g5,k5⟩:=tup (Al.drawn hal d04) ht2 e5;refine⟨oU,fun t3 ht3=>?_⟩;generalize e6:upd H5 t3 _=H6;obtain⟨al6,g6,k6⟩:=tup al5 ht3 e6;have e4':(1:Int)+(v4:Nat)=((1+v4:Nat):Int):=by omega
  (try dsimp only at k5)
  rw[e4']at k5;exact q t3 (.many (1+v3) (.num (1+v4))) H6 (d04.keep (g5.trans g6)) ⟨by omega,by omega,.inl ⟨1+v4,rfl,by omega,by omega⟩⟩ (.many (SqT.of k6) (.num (SqT.of (kL g6 _ _ k5))))
 dsimp only[aQe];refine wB (fun σ' H'=>σ'=[some (.ref p),some (.ref sl),some (.int (v1:Nat)),some (.int (v2:Nat)),some (.int ((1+v3:Nat):Int)),none]/\Drawn p H H') (fun σ' H' z=>?_) (fun nx hnx=>?_)
 case refine_2 =>
  refine⟨_,rfl,rfl,_,rfl,vE (fun c=>?_) (fun c=>dX (hnx _ _ ⟨rfl,d⟩))⟩;refine⟨_,rfl,zL,fun l0 hl0=>?_⟩;clear 1 l0 H4 g4 k4 hl0;refine⟨sl,l0,_,rfl,rfl,len (d.keep g4),SqL.of k4,_,rfl,vE (fun c2=>?_) (fun c2=>hnx _ _ ⟨rfl,d.keep g4⟩)⟩;have hn0:=ne0 (d.keep g4) (by simpa using c2);refine⟨_,rfl,_,rfl,vD,fun t2 ht2=>?_⟩;generalize e5:upd H4 t2 _=H5;obtain⟨al5,g5,k5⟩:=tup (Al.drawn hal (d.keep g4)) ht2 e5;refine⟨oU,fun t3 ht3=>?_⟩;generalize e6:upd H5 t3 _=H6;obtain⟨al6,g6,k6⟩:=tup al5 ht3 e6;exact q t3 (.many (1+v3) (.nest v2)) H6 ((d.keep g4).keep (g5.trans g6)) ⟨by omega,by omega,.inr ⟨v2,rfl,by have:=hmn hn0;omega⟩⟩ (.many (SqT.of k6) (.nest (SqT.of (kL g6 _ _ k5))))
 obtain⟨rfl,d⟩:=z;have last:∀{G:Hp},Drawn p H G->∀(v4:Nat) (H4:Hp),((v4:Nat):Int)<4->Drawn p G H4->∃v w,V.int 1=.int v/\V.int (v4:Nat)=.int w/\(2<=ψ/\∀t,H4 t=none->Q (.ref t) (upd H4 t (.tup [.str (ε "num"),.int (v+w)]))):=fun {G} dG v4 H4 hv4 d4=>by
  refine⟨_,_,rfl,rfl,by decide,fun t ht=>?_⟩;generalize e5:upd H4 t _=H5;obtain⟨al5,g5,k5⟩:=tup (Al.drawn hal (dG.trans d4)) ht e5;have e4':(1:Int)+(v4:Nat)=((1+v4:Nat):Int):=by omega
  rw[e4']at k5;exact q t (.num (1+v4)) H5 ((dG.trans d4).keep g5) ⟨by omega,by omega⟩ (.num (SqT.of k5))
 refine⟨_,rfl,_,_,rfl,rfl,_,rfl,vE (fun c=>?_) (fun c=>dX ⟨_,rfl,p,4,rfl,by decide,by decide,d.1,fun v4 H4 hv4 d4=>(by obtain⟨v,w,a,b,c⟩:=last d v4 H4 hv4 d4;exact⟨v,w,a,b,c.1,c.2⟩)⟩)⟩;refine⟨_,rfl,sl,_,rfl,.inl (len d),_,_,rfl,rfl,_,rfl,vE (fun c2=>?_) (fun c2=>⟨_,rfl,p,4,rfl,by decide,by decide,d.1,fun v4 H4 hv4 d4=>(by obtain⟨v,w,a,b,c⟩:=last d v4 H4 hv4 d4;exact⟨v,w,a,b,c.1,c.2⟩)⟩)⟩;have hn2 : 2<=n:=by
  have:=of_decide_eq_true c2;omega
 refine⟨_,rfl,_,rfl,sl,_,rfl,.inl (len d),_,_,rfl,rfl,p,_,rfl,by omega,by omega,d.1,fun v4 H4 hv4 d4=>⟨_,_,rfl,rfl,?_⟩⟩;have d04:=d.trans d4;have al4:=Al.drawn hal d04;have em:(2:Int)+(v4:Nat)=((2+v4:Nat):Int):=by omega
 refine⟨_,rfl,_,rfl,(by omega),(by omega),?_⟩;rw[em];have en:(((us.length:Nat):Int))=((n:Nat):Int):=by rw[hun]
 refine bE (n:=2+v4) (fun j ys H'=>H'=H4/\ys=((zw j).map fun k=>(v2+k) % n).map fun i:Nat=>V.int i) ⟨rfl,rfl⟩ (fun j ys H' _ z=>by rw[z.2,δ,δ,AR];exact μ _) (kN (by omega)) (fun j ys H' hj z=>?_) (fun ys H' z l hl=>?_)
 ·obtain⟨rfl,rfl⟩:=z;refine⟨_,rfl,_,rfl,_,_,rfl,rfl,_,rfl,sl,_,rfl,.inl (len d04),_,_,rfl,rfl,(by omega),⟨rfl,?_⟩,_,rfl⟩;rw[BU,ξ,ξ,en]
  (try dsimp only)
  rw[show(((v2:Nat):Int)+((0:Int)+(j:Nat))) % ((n:Nat):Int)=(((v2+j) % n:Nat):Int) from modc];rfl
 ·obtain⟨rfl,rfl⟩:=z;generalize e5:upd H' l _=H5;obtain⟨al5,g5,k5⟩:=tup al4 hl e5;refine⟨vD,fun t ht=>?_⟩;generalize e6:upd H5 t _=H6;obtain⟨al6,g6,k6⟩:=tup al5 ht e6;refine q t (.pick ((zw (2+v4)).map fun k=>(v2+k) % n)) H6 (d04.keep (g5.trans g6)) ⟨by rw[δ,AR];omega,by rw[δ,AR];omega,aJa (by omega),fun i hi=>?_⟩ (.pick (SqT.of k6) (SqL.of (kL g6 _ _ k5)));obtain⟨k,_,rfl⟩:=yj.mp hi;exact Nat.mod_lt _ (by omega)
theorem uH(F:Fun K "_law_shapes" "_law_shapes" dH f fd)(eh:Df K mg "_law_names" qu pz ["_law_box_here","_law_many"])(qv:jJ k qu pz ["_law_box_here","_law_many"] (spNm K))(aa:Df K mg "_law_take" bo bb ["_law_box_here","_law_many"])(ak:jJ k bo bb ["_law_box_here","_law_many"] nB)(mn:Df K mg "_law_kind" tq qw ["_law_box_here","_law_shapes_here"])(wu:jJ k tq qw ["_law_box_here","_law_shapes_here"] (aQk K))(aw:Df K mg "_law_size" ii gf ["_law_shapes_here","_law_kind_here"])(fw:jJ k ii gf ["_law_shapes_here","_law_kind_here"] (aGj K vSz r)):jJ (k+2) f fd ["_law_box_here"] (aLp K r):=by
 w_cond qW;obtain⟨p,rfl,hs,hr12,q⟩:=h;refine⟨_,(jC (jU (i:=1) qW.nd rfl (by walk_at"o") (jK qv hr rfl eh.m eh.k eh.b .nil jQ (jA (pv 0) (jA jE jB)))) (jC (jU (i:=2) qW.nd rfl (by walk_at"o") (kK jB)) (jC (vF yw rfl (xT rfl M.range (jA (jS qO jE (jK ak hr rfl aa.m aa.k aa.b .nil jQ (jA (pv 0) (jA jE jB)))) jB)) (jM (i:=3) qW.nd rfl (yp rfl)) (jC (jU (i:=4) qW.nd rfl (by walk_at"o") (jK qv hr rfl eh.m eh.k eh.b .nil jQ (jA (pv 0) (jA jE jB)))) (jC (jU (i:=5) qW.nd rfl (by walk_at"o") (kK jB)) (jC (vF yw rfl (xT rfl M.range (jA (jS qO jE (jK ak hr rfl aa.m aa.k aa.b .nil jQ (jA (pv 0) (jA jE jB)))) jB)) (jM (i:=6) qW.nd rfl (yp rfl)) (jC (jU (i:=7) qW.nd rfl (by walk_at"o") (jK wu hr rfl mn.m mn.k mn.b .nil jQ (jA (pv 0) (jA (pv 2) jB)))) (jC (jU (i:=8) qW.nd rfl (by walk_at"o") (jS qO (jZ (sS rfl) rfl M.sum (show AV "sum" = some (.builtin "sum") from by ac_rfl) (jA (qF ["_law_name","_law_inner"] ["_law_shapes_here"] [2] rfl (kU (pv 5)) rfl ⟨rfl,trivial⟩ ⟨⟨rfl,rfl,rfl,_,rfl⟩,trivial⟩ (fun _ _ _ _=>(yX (K:=K) (n:=2) rfl rfl (jW (jM (i:=0) (show yt (["_law_name","_law_inner","_law_shapes_here"]:List Str) from by ac_rfl) rfl (yp rfl)) (jW (jM (i:=1) (show yt (["_law_name","_law_inner","_law_shapes_here"]:List Str) from by ac_rfl) rfl (yp rfl)) qL)))) (fun _ _ _ _=>qB) (fun _ _ _ _=>(jK fw hr rfl aw.m aw.k aw.b .nil jQ (jA (pv 2) (jA (pv 1) jB))))) jB)) (jK fw hr rfl aw.m aw.k aw.b .nil jQ (jA (pv 2) (jA (pv 7) jB))))) (jC (kM (jP dU (pv 8) jE (jT _)) (jD (jU (i:=7) qW.nd rfl (by walk_at"o") (qP (jA jH (jA jE jB))))) jR) (jD (vL (xA yy zp zr vT (pv 5) (jA (qP (jA (jX kF (pv 4) (pv 6) (fun _ _=>rfl)) (jA (pv 7) jB))) jB)))))))) (jD (vL (xA yy zp zr vT (pv 2) (jA (qP (jA (jX kF (pv 1) (pv 3) (fun _ _=>rfl)) (jA (pv 5) jB))) jB)))))))) (jD (jJ (pv 2)))))),?_⟩;obtain⟨r,rfl⟩ : ∃r',r=r'+1:=⟨r-1,by omega⟩;refine⟨_,rfl,p,rfl,hs,fun nl ns H1 d1 hnl knl ⟨hn4,hnd,hnb⟩=>⟨zL,fun sl hsl=>?_⟩⟩;have nnp:nl≠p:=aHt hs hnl;clear 1 sl H3 g3 k3 hsl;have nsp:sl≠p:=aHt d1.1 hsl;have nns:nl≠sl:=jL knl hsl;have hslH:H sl=none:=d1.free hsl;have nAt:∀{ns:List Str},ns.length=4->∀i,i<4->ns[i]?=some (ns.getD i Str.empty):=fun {ns} h i hi=>by rw[Φ,η (by omega)];rfl
 have nI:∀{ns:List Str},ns.length=4->ns.Nodup->∀i j,i<4->j<4->ns.getD i Str.empty=ns.getD j Str.empty->i=j:=fun {ns} h hnd i j hi hj e=>by
  have hp:=CY.mp hnd;obtain⟨ai,bi⟩:=θ.mp (nAt h i hi);obtain⟨aj,bj⟩:=θ.mp (nAt h j hj);rcases Nat.lt_trichotomy i j with hl|hl|hl
  ·exact absurd (by rw[bi,bj];exact e) (hp i j ai aj hl)
  ·exact hl
  ·exact absurd (by rw[bi,bj];exact e.symm) (hp j i aj ai hl)
 refine⟨_,rfl,p,4,rfl,by decide,by decide,jF.st3 g3 d1.1,fun v3 H4 hv3 d4=>⟨_,_,rfl,rfl,_,rfl,(by omega),(by omega),?_⟩⟩;have D4:Drawn p H H4:=(d1.keep g3).trans d4;have knl4:=d4.2 nl _ nnp (g3 _ _ knl);have ksl4:=d4.2 sl _ nsp k3;rw[show((1:Int)+(v3:Nat)).toNat=1+v3 by omega];refine fY (n:=1+v3) (fun i σ H'=>∃(o3 o4 o5 o6 o7 o8:Option V) (as:List Addr) (S:List Shp),σ = [some (.ref p),some (.ref nl),some (.ref sl),o3,o4,o5,o6,o7,o8]/\St3 H' p/\(∀b o,b≠p->b≠sl->H4 b=some o->H' b=some o)/\H' sl=some (.lst (as.map V.ref))/\LW K (offs [p,sl] H') as S/\S.length=i/\S.map (·.1)=ns.take i/\Wel S) ⟨_,_,_,_,_,_,[],[],rfl,d4.1,fun _ _ _ _ e=>e,ksl4,.nil,rfl,rfl,Wel.nil⟩ (fun i σ H' hi z=>?_) (fun σ H' z=>?_)
 case refine_2 =>
  obtain⟨o3,o4,o5,o6,o7,o8,as,S,rfl,st,fr,ksl,hLW,hSl,hSn,hWS⟩:=z;have fD:Drawn p H H':=⟨st,fun b o h e=>by
   have hb:b≠sl:=jL e hslH;exact fr b o h hb (D4.2 b o h e)⟩
  exact⟨_,rfl,q sl S H' fD hslH ⟨as,SqL.of ksl,hLW.same jV⟩ hWS (fun z=>by rw[z]at hSl;simp at hSl;omega) (by omega)⟩
 obtain⟨o3,o4,o5,o6,o7,o8,as,S,rfl,st,fr,ksl,hLW,hSl,hSn,hWS⟩:=z;rw[DJ];have hi4:i<4:=by omega
 have knl':=fr nl _ nnp nns knl4;refine⟨_,rfl,p,rfl,st,fun ol on H5 d5 hol kol ⟨ho4,hond,honb⟩=>⟨zL,fun fl hfl=>?_⟩⟩;have nop:ol≠p:=aHt st hol;have nos:ol≠sl:=Aj (jL ksl hol);generalize e5:upd H5 fl _=H5';obtain⟨g5,k5⟩:=qN e5 hfl;have nfp:fl≠p:=aHt d5.1 hfl;have nfs:fl≠sl:=Aj (jL (d5.2 _ _ nsp ksl) hfl);have nfn:fl≠nl:=Aj (jL (d5.2 _ _ nnp knl') hfl);have nfo:fl≠ol:=Aj (jL kol hfl);have hflH:H' fl=none:=d5.free hfl;refine⟨_,rfl,p,4,rfl,by decide,by decide,jF.st3 g5 d5.1,fun v4 H6 hv4 d6=>⟨_,_,rfl,rfl,_,rfl,(by omega),(by omega),?_⟩⟩;have kfl6:=d6.2 fl _ nfp k5;have knl6:=d6.2 nl _ nnp (g5 _ _ (d5.2 _ _ nnp knl'));have ksl6:=d6.2 sl _ nsp (g5 _ _ (d5.2 _ _ nsp ksl));have kol6:=d6.2 ol _ nop (g5 _ _ kol);have fr6:∀b o,b≠p->H' b=some o->H6 b=some o:=fun b o h e=>d6.2 b o h (g5 _ _ (d5.2 b o h e));have hsame6:jF (offs [p,sl] H') (offs [p,sl,fl] H6):=fun b o e=>by
  have hb:b∉[p,sl]:=fun z=>by unfold offs at e;rw[if_pos z]at e;cases e
  have e':H' b=some o:=jV _ _ e;have hbf:b≠fl:=jL e' hflH;have hbp:b≠p:=fun z=>hb (by rw[z];simp);refine qS (fun z=>?_) (fr6 b o hbp e');simp only[ς,Ω,or_false]at z hb;rcases z with z|z|z
  ·exact hb (.inl z)
  ·exact hb (.inr z)
  ·exact hbf z
 have hLW6:=hLW.same hsame6;have hal:=hLW.len;rw[show((1:Int)+(v4:Nat)).toNat=1+v4 by omega];have nmi:=hnb _ (ο (nAt hn4 i hi4));have nmN:ns.getD i Str.empty∉S.map (·.1):=fun z=>by
  rw[hSn]at z;obtain⟨j,hj⟩:=Ai.mp z;have hji:j<i:=by have:=(θ.mp hj).1;rw[yh]at this;omega
  rw[Bp hji,nAt hn4 j (by omega)]at hj;have:=nI hn4 hnd j i (by omega) (by omega) (zc hj);omega
 refine fY (n:=1+v4) (fun j σ H7=>∃(o6 o7 o8:Option V) (ps:List Addr) (fs:List (Str×Kd)),σ = [some (.ref p),some (.ref nl),some (.ref sl),some (.int i),some (.ref ol),some (.ref fl),o6,o7,o8]/\St3 H7 p/\(∀b o,b≠p->b≠fl->H6 b=some o->H7 b=some o)/\H7 fl=some (.lst (ps.map V.ref))/\LF K (offs [p,sl,fl] H7) ps fs/\fs.length=j/\(∀g∈fs,g.2.Fit S.length)/\fs.map (·.1)=on.take j/\(fs.map fun f=>f.2.size (tabs S).sz).sum<=24+j) ⟨_,_,_,[],[],rfl,d6.1,fun _ _ _ _ e=>e,kfl6,.nil,rfl,(fun g hg=>by cases hg),rfl,yq _⟩ (fun j σ H7 hj z=>?_) (fun σ H7 z=>?_)
 ·obtain⟨o6,o7,o8,ps,fs,rfl,st7,fr7,kfl7,hLF,hfl7,hfs,hfn,hsz⟩:=z;rw[DJ];have knl7:=fr7 nl _ nnp (Aj nfn) knl6;have ksl7:=fr7 sl _ nsp (Aj nfs) ksl6;have kol7:=fr7 ol _ nop (Aj nfo) kol6;have al7:Al [p,sl,fl] H7:=fun b hb=>by
   simp only[ς,Ω,or_false]at hb;rcases hb with rfl|rfl|rfl
   ·exact aNh st7
   ·exact⟨_,ksl7⟩
   ·exact⟨_,kfl7⟩
  refine⟨_,rfl,_,rfl,p,sl,i,_,[p,sl,fl],rfl,by omega,(by rw[δ];omega),st7,by simp,nsp,SqL.of (qS (fun z=>nsp (τ.mp z)) ksl7),al7,fun a kd H8 d8 hfit lk=>?_⟩;rw[←hSl]at hfit;have al8:=Al.drawn al7 d8;have kfl8:=d8.2 fl _ nfp kfl7;have ksl8:=d8.2 sl _ nsp ksl7;have s78:jF (offs [p,sl,fl] H7) (offs [p,sl,fl] H8):=d8.offs (by simp);have s68:jF (offs [p,sl,fl] H6) (offs [p,sl,fl] H8):=cT fun b o hb e=>by
   simp only[ς,Ω,or_false,not_or]at hb;exact d8.2 b o hb.1 (fr7 b o hb.1 hb.2.2 e)
  have hLF8:=hLF.same s78;have lx8:LX K H8 sl S:=⟨as,SqL.of ksl8,(hLW6.same s68).same jV⟩;have hg:=hWS.good;have rkf:∀{k:Kd},k.Fit S.length->k.Rk r/\k.lv<=r:=fun {k} h=>⟨h.rk.mono (by omega),by have:=k.lv_le;omega⟩;have zl:(ps.map V.ref).length=fs.length:=by rw[δ];exact hLF.len
  refine⟨_,rfl,fl,rfl,⟨_,SqL.of kfl8⟩,yI (xs:=ps.map V.ref) (fun m ys H9=>jF H8 H9/\ys=((fs.take m).map fun f=>V.int (vSz f.2 (tabs S)))) ⟨jF.refl _,rfl⟩ (fun m ys H9 _ z=>⟨SqL.of (z.1 _ _ kfl8),by rw[z.2,δ,yh];exact Aa _ _⟩) (kN (by omega)) (fun m x ys H9 os ho hx z=>?_) (fun ys H9 z l9 hl9=>?_)⟩
  ·obtain⟨g9,rfl⟩:=z;obtain⟨o1,o2,rfl⟩:=oV ho;obtain⟨u,hu,rfl⟩:=qH hx;obtain⟨nm',kd',kk,hfs',ht,hko⟩:=hLF8.get hu;have hm:=hfs _ (ο hfs');have g8o:jF (offs [p,sl,fl] H8) H9:=jV.trans g9;exact⟨u,_,rfl,g8o.tp ht,rfl,_,_,rfl,_,_,rfl,rfl,_,rfl,_,rfl,kk,sl,kd',S,rfl,(rkf hm).1,(rkf hm).2,hm,hko.same g8o,lx8.same g9,hg,fun H2 g2=>⟨⟨g9.trans g2,(vM hfs').symm⟩,[_,_],rfl,rfl⟩⟩
  ·obtain⟨g9,rfl⟩:=z;rw[zl,vC];clear 1 l9 HA gA kA hl9;have kA':HA l9=some (.lst (((fs.map fun f=>vSz f.2 (tabs S)).map fun n:Nat=>(n:Int)).map V.int)):=by rw[kA,zf,zf];rfl
   have g8A:=g9.trans gA;refine⟨l9,(fs.map fun f=>vSz f.2 (tabs S)).map fun n:Nat=>(n:Int),rfl,SqL.of kA',?_⟩;rw[sumI];refine⟨_,rfl,_,rfl,a,sl,kd,S,rfl,(rkf hfit).1,(rkf hfit).2,hfit,(lk.same jV).same g8A,lx8.same g8A,hg,fun HB gB=>⟨_,_,rfl,rfl,?_⟩⟩;have g8B:=g8A.trans gB;have stB:St3 HB p:=jF.st3 g8B d8.1;have kflB:=g8B _ _ kfl8;have kolB:=g8B _ _ (d8.2 _ _ nop kol7);have frB:∀b o,b≠p->b≠fl->H6 b=some o->HB b=some o:=fun b o h1 h2 e=>g8B _ _ (d8.2 b o h1 (fr7 b o h1 h2 e));have oj:=nAt ho4 j (by omega);dsimp only[cW];refine wB (fun σ' HC=>∃(o8:Option V) (ka:Addr) (k2:Kd),σ'=[some (.ref p),some (.ref nl),some (.ref sl),some (.int i),some (.ref ol),some (.ref fl),some (.int j),some (.ref ka),o8]/\jF HB HC/\LK K (offs [p,sl,fl] HC) ka k2/\k2.Fit S.length/\(fs.map fun f=>f.2.size (tabs S).sz).sum+k2.size (tabs S).sz<=24+(j+1)) (fun σ' HC z=>?_) (fun nx hnx=>?_)
   ·obtain⟨o8,ka,k2,rfl,gC,lkC,hk2,hs2⟩:=z;have kflC:=gC _ _ kflB;have alC:Al [p,sl,fl] HC:=(al8.same g8B).same gC;refine⟨_,rfl,.inl ⟨rfl,_,SqL.of kflC⟩,_,rfl,_,rfl,ol,_,_,_,rfl,rfl,SqL.of (gC _ _ kolB),hV oj,_,rfl,vD,fun t ht=>?_⟩;clear 1 t HD gD kD ht;have kt:offs [p,sl,fl] HD t=_:=qS (alC.new ht) kD;have kflD:=gD _ _ kflC;have hLFD:=(hLF8.same (kL ((g8B.trans gC).trans gD))).snoc (SqT.of kt) (lkC.same (kL gD));have hpl:ps.length=fs.length:=hLF.len;refine⟨fl,_,_,rfl,rfl,kflD,(by rw[δ];exact zy (show ps.length<=5 by omega) (by decide)),?_⟩;clear 0 fl HE gE kE;have sDE:jF (offs [p,sl,fl] HD) (offs [p,sl,fl] HE):=cT fun b o hb e=>by
     simp only[ς,Ω,or_false,not_or]at hb;exact gE b o hb.2.2 e
    obtain⟨x3,y3,z3,est⟩:=jF.st3 (gC.trans gD) stB;refine⟨_,_,_,ps++[t],fs++[(on.getD j Str.empty,k2)],rfl,⟨x3,y3,z3,gE p _ (Aj nfp) est⟩,fun b o h1 h2 e=>gE b o h2 (gD _ _ (gC _ _ (frB b o h1 h2 e))),by rw[kE,ξ];rfl,hLFD.same sDE,by rw[ι,zk];omega,fun g hg=>?_,?_,?_⟩
    ·rcases za.mp hg with hg|hg
     ·exact hfs g hg
     ·rw[τ.mp hg];exact hk2
    ·rw[ξ,hfn,zu,oj];rfl
    ·rw[ξ,List.sum_append];show _+(k2.size (tabs S).sz+0)<=_;omega
   ·have e1:((fs.map fun f=>vSz f.2 (tabs S)).sum:Nat)=(fs.map fun f=>f.2.size (tabs S).sz).sum:=rfl;refine⟨_,rfl,_,_,rfl,rfl,_,rfl,vE (fun c=>?_) (fun c=>?_)⟩
    ·refine⟨vD,fun t ht=>?_⟩;clear 1 t HC gC kC ht;have kt:offs [p,sl,fl] HC t=_:=qS ((al8.same g8B).new ht) kC;exact hnx _ _ ⟨_,t,.num 1,rfl,gC,.num (SqT.of kt),⟨by decide,by decide⟩,by show _+1<=_;omega⟩
    ·refine hnx _ _ ⟨_,a,kd,rfl,jF.refl _,lk.same (kL g8B),hfit,?_⟩;have c':¬ ((((fs.map fun f=>vSz f.2 (tabs S)).sum:Nat):Int)+((vSz kd (tabs S):Nat):Int) > 24):=fun z=>c (decide_eq_true z);have e2:vSz kd (tabs S)=kd.size (tabs S).sz:=rfl;rw[e1,e2]at c';omega
 ·obtain⟨o6,o7,o8,ps,fs,rfl,st7,fr7,kfl7,hLF,hfl7,hfs,hfn,hsz⟩:=z;have knl7:=fr7 nl _ nnp (Aj nfn) knl6;have ksl7:=fr7 sl _ nsp (Aj nfs) ksl6;have s67:jF (offs [p,sl,fl] H6) (offs [p,sl,fl] H7):=cT fun b o hb e=>by
   simp only[ς,Ω,or_false,not_or]at hb;exact fr7 b o hb.1 hb.2.2 e
  have sub:jF (offs [p,sl,fl] H7) (offs [p,sl] H7):=aDq fun b hb=>by
   simp only[ς,Ω,or_false]at hb ⊢;rcases hb with hb|hb
   ·exact .inl hb
   ·exact .inr (.inl hb)
  have hLW7:=(hLW6.same s67).same sub;have fr47:∀b o,b≠p->b≠sl->H' b=some o->H7 b=some o:=fun b o h1 h2 e=>fr7 b o h1 (jL e hflH) (fr6 b o h1 e);have hfsne:fs≠[]:=fun z=>by rw[z]at hfl7;simp at hfl7;omega
  have kflo:offs [p,sl] H7 fl=_:=qS (by simp only[ς,Ω,or_false,not_or];exact⟨nfp,nfs⟩) kfl7;have al7:Al [p,sl] H7:=fun b hb=>by
   simp only[ς,Ω,or_false]at hb;rcases hb with rfl|rfl
   ·exact aNh st7
   ·exact⟨_,ksl7⟩
  have hfnd:(fs.map (·.1)).Nodup:=by rw[hfn];exact(List.take_sublist _ _).nodup hond
  have hfB:∀f∈fs,f.2.Fit S.length/\kP f.1=true:=fun f hf=>⟨hfs f hf,by
   have:f.1∈fs.map (·.1):=yj.mpr ⟨f,hf,rfl⟩;rw[hfn]at this;exact honb _ (Eh this)⟩
  have hW8:Wel (S++[(ns.getD i Str.empty,fs)]):=hWS.snoc nmi nmN (by omega) hfsne (by omega) hfB hfnd (aPg hWS.good (by omega) hfsne (fun f hf=>hfs f hf) (by omega));refine⟨_,rfl,.inl ⟨rfl,_,SqL.of ksl7⟩,_,rfl,_,rfl,nl,_,_,_,rfl,rfl,SqL.of knl7,hV (nAt hn4 i hi4),_,rfl,vD,fun t ht=>?_⟩;clear 1 t H9 g9 k9 ht;have kt:offs [p,sl] H9 t=_:=qS (al7.new ht) k9;have s89:jF (offs [p,sl] H7) (offs [p,sl] H9):=kL g9;have hls:LS K (offs [p,sl] H9) t (ns.getD i Str.empty,fs):=⟨fl,ps,SqT.of kt,SqL.of (s89 _ _ kflo),(hLF.same sub).same s89⟩;have ksl9:=g9 _ _ ksl7;refine⟨sl,_,_,rfl,rfl,ksl9,(by rw[δ,hLW.len];exact zy (show S.length<=5 by omega) (by decide)),?_⟩;clear 0 sl HA gA kA;have s9A:jF (offs [p,sl] H9) (offs [p,sl] HA):=cT fun b o hb e=>by
   simp only[ς,Ω,or_false,not_or]at hb;exact gA b o hb.2 e
  obtain⟨x3,y3,z3,est⟩:=jF.st3 g9 st7;refine⟨_,_,_,_,_,_,as++[t],_,rfl,⟨x3,y3,z3,gA p _ (Aj nsp) est⟩,fun b o h1 h2 e=>gA b o h2 (g9 _ _ (fr47 b o h1 h2 (fr b o h1 h2 e))),by rw[kA,ξ];rfl,((hLW7.same s89).snoc hls).same s9A,by rw[ι,hSl];rfl,?_,hW8⟩;rw[ξ,hSn,zu,nAt hn4 i hi4];rfl
theorem aCi{k:Nat}(F:Fun K "_law_step" "_law_step" iI f fd){nv:Addr}{md:zb}(ja:Df K mg "_law_is_name" nv md ["_law_word"])(vf:jJ k nv md ["_law_word"] aQc):jJ (k+2) f fd ["_law_shapes_here","_law_kind_here","_law_word"] (aPx K):=by
 w_cond bP;obtain⟨a,sl,w,kd,S,xs,rfl,hw,hf,hg,hA,hlk,hlx,q0,q1⟩:=h;refine⟨_,(jC (kM (jP qI (jX kY (pv 1) jE (fun _ _=>rfl)) jH (jT _)) (jD (vF yw rfl (kU (jX kY (jX kF (pv 0) (jX kY (pv 1) jE (fun _ _=>rfl)) (fun _ _=>rfl)) jE (fun _ _=>rfl))) (xZ rfl (jW (jM (i:=3) bP.nd rfl (yp rfl)) (jW (jM (i:=4) bP.nd rfl (yp rfl)) qL))) (jD (kM (jP qI (pv 3) (pv 2) (jT _)) (jD (jJ (kK (jA (pv 2) (jA (pv 4) jB))))) jR)))) jR) (jC (kM (PW.pt (yA (jP qI (jX kY (pv 1) jE (fun _ _=>rfl)) jH (jT _)) (vX (xJ (jK vf hr rfl ja.m ja.k ja.b .nil jQ (jA (pv 2) jB)))))) (jD (jJ (kK (jA (qP (jA jH (jA (pv 2) jB))) (jA (jX kY (pv 1) jE (fun _ _=>rfl)) jB))))) jR) (jC (kM (PW.pt (yA (jP qI (jX kY (pv 1) jE (fun _ _=>rfl)) jH (jT _)) (vX (jP vU (pv 2) (qF ["_law_k"] [] [] rfl (xT rfl M.range (jA (jX kY (pv 1) jE (fun _ _=>rfl)) jB)) rfl trivial trivial (fun _ _ _ _=>(jM (i:=0) (show yt (["_law_k"]:List Str) from by ac_rfl) rfl (yp rfl))) (fun _ _ _ _=>qB) (fun _ _ _ _=>(qR xW rfl M.str boot_str (jA (pv 0) jB)))) (by with_unfolding_all rfl))))) (jD (jJ (kK (jA (qR yS rfl M.int boot_int (jA (pv 2) jB)) (jA (jX kY (pv 1) jE (fun _ _=>rfl)) jB))))) jR) (jC (kM (jP qI (jX kY (pv 1) jE (fun _ _=>rfl)) jH (jT _)) (jD (vF yw rfl (kU (jX kY (pv 1) jE (fun _ _=>rfl))) (jM (i:=5) bP.nd rfl (yp rfl)) (jD (kM (jP qI (jX kY (jX kF (pv 0) (pv 5) (fun _ _=>rfl)) jE (fun _ _=>rfl)) (pv 2) (jT _)) (jD (jJ (kK (jA (pv 2) (jA (qP (jA jH (jA (pv 5) jB))) jB))))) jR)))) jR) (jD (jJ xC)))))),?_⟩;have hlk':=hlk.same jV;have hlx':=hlx.same jV;cases id hlk with
 | @num a n h1 =>
  have h1':=jV.tp h1;exact⟨_,rfl,a,_,_,_,rfl,rfl,h1',rfl,rfl,_,rfl,kS (by decide) ⟨_,rfl,a,_,_,_,rfl,rfl,h1',rfl,rfl,_,rfl,kS (by decide) (dX ⟨_,rfl,a,_,_,_,rfl,rfl,h1',rfl,rfl,_,rfl,kS (by decide) (dX ⟨_,rfl,a,_,_,_,rfl,rfl,h1',rfl,rfl,_,rfl,kS (by decide) (q0 rfl H (jF.refl _))⟩)⟩)⟩⟩
 | @many a b n k h1 h2 =>
  have h1':=jV.tp h1;have hn6:=hf.2.1;have ms:=aIm (S:=S) (n:=n) (k:=k) (w:=w) hn6;refine⟨_,rfl,a,_,_,_,rfl,rfl,h1',rfl,rfl,_,rfl,kS (by decide) ⟨_,rfl,a,_,_,_,rfl,rfl,h1',rfl,rfl,_,rfl,vJ (by decide) ⟨_,rfl,w,rfl,hw,fun H1 g1=>⟨_,rfl,?_⟩⟩⟩⟩;have h11:=g1.tp h1';cases hn:kP w with
  |true =>
   rw[if_pos hn]at ms;refine vJ rfl ⟨_,rfl,vD,fun t ht=>?_⟩;clear 1 t H2 g2 k2 ht;have hA1:=hA.same g1;have h12:=g2.tp h11;refine⟨_,rfl,a,_,_,_,rfl,rfl,h12,rfl,vD,fun l hl=>?_⟩;clear 1 l H3 g3 k3 hl;exact q1 _ _ ms l (.ref t) b H3 ((g1.trans g2).trans g3) (SqL.of (qS ((hA1.same g2).new hl) k3)) ⟨t,rfl,SqT.of (kL g3 _ _ (qS (hA1.new ht) k2))⟩ (h2.same (kL ((g1.trans g2).trans g3)))
  |false =>
   rw[if_neg (by rw[hn];decide)]at ms;refine kS (by decide) ⟨_,rfl,a,_,_,_,rfl,rfl,h11,rfl,rfl,_,rfl,vJ (by decide) ⟨_,rfl,_,rfl,a,_,_,_,rfl,rfl,h11,rfl,n,rfl,by omega,by omega,?_⟩⟩;refine bE (n:=n) (fun j ys H'=>H'=H1/\ys=((zw j).map fun k=>ε (toString ((k:Nat):Int))).map V.str) ⟨rfl,rfl⟩ (fun j ys H' _ z=>by rw[z.2,δ,δ,AR];exact μ _) (kN (by omega)) (fun j ys H' hj z=>?_) (fun ys H' z l0 hl0=>?_)
   ·obtain⟨rfl,rfl⟩:=z;refine⟨_,rfl,_,rfl,CT (zE (by omega)) (by decide),⟨rfl,?_⟩,_,rfl⟩;rw[BU,ξ,ξ,DJ];rfl
   ·obtain⟨rfl,rfl⟩:=z;clear 1 l0 H2 g2 k2 hl0;have k2':H2 l0=some (.lst ((digL n).map V.str)):=k2;refine⟨l0,_,rfl,.inl (SqL.of k2'),rfl,qY _,_,rfl,?_⟩;rw[if_neg π,vB];refine vE (fun c=>?_) (fun c=>?_)
    ·have c':=of_decide_eq_true c;rw[if_pos c']at ms;obtain⟨m,hm,ew⟩:=yj.mp c';have hm':=Bs.mp hm;obtain⟨dg1,dg2,_,dg4⟩:=dig (w:=m) (by omega);have h12:=g2.tp h11;have en:(yJ w).getD 0=((m:Nat):Int):=by rw[←ew,dg1];rfl
     rw[en]at ms;refine⟨_,rfl,w,_,rfl,(by rw[←ew];exact dg4),(by rw[←ew,dg2];decide),_,rfl,a,_,_,_,rfl,rfl,h12,rfl,vD,fun l hl=>?_⟩;clear 1 l H3 g3 k3 hl;exact q1 _ _ ms l (.int m) b H3 ((g1.trans g2).trans g3) (SqL.of (qS (((hA.same g1).same g2).new hl) k3)) rfl (h2.same (kL ((g1.trans g2).trans g3)))
    ·have c':=of_decide_eq_false (AS.mpr c);rw[if_neg c']at ms;have h12:=g2.tp h11;exact⟨_,rfl,a,_,_,_,rfl,rfl,h12,rfl,rfl,_,rfl,kS (by decide) (q0 ms H2 (g1.trans g2))⟩
 | @pick a l is h1 h2 =>
  have h1':=jV.tp h1;have h2':=jV.seq h2;have hled:stepK S (.pick is) w=(((is.map fun i=>(kO S i,Kd.nest i)).find? fun f=>decide (f.1=w)).map (·.2)).map fun k'=>(.wd w,k'):=rfl;have zl:(is.map fun n:Nat=>V.int n).length=is.length:=δ _;refine⟨_,rfl,a,_,_,_,rfl,rfl,h1',rfl,rfl,_,rfl,kS (by decide) ⟨_,rfl,a,_,_,_,rfl,rfl,h1',rfl,rfl,_,rfl,kS (by decide) (dX ⟨_,rfl,a,_,_,_,rfl,rfl,h1',rfl,rfl,_,rfl,kS (by decide) (dX ⟨_,rfl,a,_,_,_,rfl,rfl,h1',rfl,rfl,_,rfl,vJ (by decide) ⟨_,rfl,a,_,_,_,rfl,rfl,h1',rfl,l,rfl,⟨_,h2'⟩,vN (xs:=is.map fun n:Nat=>V.int n) (fun j σ H'=>H'=H/\(∃o3 o4 o5,σ = [some (.ref sl),some (.ref a),some (.str w),o3,o4,o5])/\∀m g,m<j->(is.map fun i=>(kO S i,Kd.nest i))[m]?=some g->g.1≠w) ⟨rfl,⟨_,_,_,rfl⟩,fun m g z=>absurd z (Ar _)⟩ (fun j σ H' _ z=>by rw[z.1];exact h2') (fun j x σ H' hx z=>?_) (fun σ H' z=>?_)⟩⟩)⟩)⟩⟩
  ·obtain⟨e',⟨o3,o4,o5,rfl⟩,hno⟩:=z;subst e';obtain⟨i,hi,rfl⟩:=eB hx;have hiS:=hf.2.2.2 i (ο hi);obtain⟨as,s,l',ps,m1,m2,m3,m4,m5⟩:=hlx'.at hiS;have hfs:(is.map fun i=>(kO S i,Kd.nest i))[j]?=some (S[i].1,Kd.nest i):=by rw[yv,hi,←vY (η hiS)];rfl
   refine⟨_,rfl,_,rfl,sl,_,_,_,rfl,rfl,m1,dO m2,s,_,_,_,rfl,rfl,m3,rfl,_,rfl,rfl,_,rfl,vE (fun c=>?_) (fun c=>?_)⟩
   ·have ew:S[i].1=w:=by simpa using c
    rw[aY hfs ew hno]at hled;refine⟨_,rfl,_,rfl,vD,fun t ht=>?_⟩;clear 1 t H2 g2 k2 ht;refine⟨vD,fun l2 hl2=>?_⟩;clear 1 l2 H3 g3 k3 hl2;exact q1 _ _ hled l2 (.str w) t H3 (g2.trans g3) (SqL.of (qS ((hA.same g2).new hl2) k3)) rfl (.nest (SqT.of (kL g3 _ _ (qS (hA.new ht) k2))))
   ·have ew:¬ S[i].1=w:=by simpa using c
    exact⟨rfl,⟨_,_,_,rfl⟩,pH hfs ew hno⟩
  ·obtain⟨e',⟨o3,o4,o5,rfl⟩,hno⟩:=z;subst e';rw[pN (fun m g hm hg=>hno m g (by rw[zl];rw[δ]at hm;exact hm) hg)]at hled;exact q0 hled H' (jF.refl _)
 | @nest a i h1 =>
  have h1':=jV.tp h1;have hi:i<S.length:=hf;have hled:stepK S (.nest i) w=((S[i].2.find? fun f=>decide (f.1=w)).map (·.2)).map fun k'=>(.wd w,k'):=by
   show(ledK S (.nest i) w).map _=_;rw[aLv hi]
  obtain⟨as,s,l,ps,m1,m2,m3,m4,m5⟩:=hlx.at hi;have zl:(ps.map V.ref).length=S[i].2.length:=by rw[δ];exact m5.len
  refine⟨_,rfl,a,_,_,_,rfl,rfl,h1',rfl,rfl,_,rfl,vJ (by decide) ⟨_,rfl,_,rfl,a,_,_,_,rfl,rfl,h1',rfl,sl,_,_,_,rfl,rfl,jV.seq m1,dO m2,s,_,_,_,rfl,rfl,jV.tp m3,rfl,l,rfl,⟨_,jV.seq m4⟩,vN (xs:=ps.map V.ref) (fun j σ H'=>H'=H/\(∃o3 o4 o5,σ = [some (.ref sl),some (.ref a),some (.str w),o3,o4,o5])/\∀m g,m<j->S[i].2[m]?=some g->g.1≠w) ⟨rfl,⟨_,_,_,rfl⟩,fun m g z=>absurd z (Ar _)⟩ (fun j σ H' _ z=>by rw[z.1];exact jV.seq m4) (fun j x σ H' hx z=>?_) (fun σ H' z=>?_)⟩⟩
  ·obtain⟨e',⟨o3,o4,o5,rfl⟩,hno⟩:=z;subst e';obtain⟨u,hu,rfl⟩:=qH hx;obtain⟨nm',kd',kk,hfs,ht,hko⟩:=m5.get hu;refine⟨u,_,rfl,jV.tp ht,rfl,_,_,rfl,_,_,rfl,rfl,_,rfl,_,rfl,rfl,_,rfl,vE (fun c=>?_) (fun c=>?_)⟩
   ·have ew:nm'=w:=by simpa using c
    rw[aY hfs ew hno]at hled;refine⟨_,rfl,_,rfl,vD,fun l2 hl2=>?_⟩;clear 1 l2 H3 g3 k3 hl2;exact q1 _ _ hled l2 (.str w) kk H3 g3 (SqL.of (qS (hA.new hl2) k3)) rfl (hko.same (kL g3))
   ·have ew:¬ nm'=w:=by simpa using c
    exact⟨rfl,⟨_,_,_,rfl⟩,pH hfs ew hno⟩
  ·obtain⟨e',⟨o3,o4,o5,rfl⟩,hno⟩:=z;subst e';rw[pN (fun m g hm hg=>hno m g (by rw[zl];exact hm) hg)]at hled;exact⟨_,rfl,a,_,_,_,rfl,rfl,h1',rfl,rfl,_,rfl,kS (by decide) (dX ⟨_,rfl,a,_,_,_,rfl,rfl,h1',rfl,rfl,_,rfl,kS (by decide) (dX ⟨_,rfl,a,_,_,_,rfl,rfl,h1',rfl,rfl,_,rfl,kS (by decide) (q0 hled H' (jF.refl _))⟩)⟩)⟩
theorem aAg{k:Nat}(F:Fun K "_law_steps" "_law_steps" fA f fd){tu:Addr}{qy:zb}(mq:Df K mg "_law_step" tu qy ["_law_shapes_here","_law_kind_here","_law_word"])(ww:jJ k tu qy ["_law_shapes_here","_law_kind_here","_law_word"] (aPx K)):jJ (k+2) f fd ["_law_shapes_here","_law_path","_law_sort"] (aJw K):=by
 w_cond xS;obtain⟨sl,p,d,n,S,rfl,hp,hSn,hn100,hg,hn,hlx,q0,q1⟩:=h;refine⟨_,(jC (jU (i:=3) xS.nd rfl (by walk_at"o") (qP (jA jH (jA (jS iR (jZ kG rfl M.len yn (jA (pv 0) jB)) jE) jB)))) (jC (jU (i:=4) xS.nd rfl (by walk_at"o") (kK jB)) (jC (vF yw rfl (kU (xA zg AB AC yN (pv 1) (jA jH jB))) (jM (i:=5) xS.nd rfl (yp rfl)) (jC (jU (i:=6) xS.nd rfl (by walk_at"o") (jK ww hr rfl mq.m mq.k mq.b .nil jQ (jA (pv 0) (jA (pv 3) (jA (pv 5) jB))))) (jC (kM (jP mV (pv 6) xC (jT _)) (jD (jJ xC)) jR) (jC (vL (xA yy zp zr vT (pv 4) (jA (jX kF (pv 6) jE (fun _ _=>rfl)) jB))) (jD (jU (i:=3) xS.nd rfl (by walk_at"o") (jX kF (pv 6) jE (fun _ _=>rfl)))))))) (jC (kM (jP aDy (jX kY (pv 3) jE (fun _ _=>rfl)) (pv 2) (jT _)) (jD (jJ xC)) jR) (jD (jJ (pv 4))))))),?_⟩;obtain⟨as,ha,hLW⟩:=id hlx;have hal:=hLW.len;have el:(((as.map V.ref).length:Nat):Int)-1=((n:Nat):Int):=by rw[δ];omega
 refine⟨_,rfl,sl,_,rfl,.inl ha,_,_,rfl,rfl,vD,fun t0 ht0=>?_⟩
 (try dsimp only)
 rw[el];clear 1 t0 H1 g1 k1 ht0;refine⟨zL,fun l hl=>?_⟩;clear 1 l H2 g2 k2 hl;refine⟨_,rfl,rfl,_,_,rfl,rfl,rfl,(by rw[ym];omega),fun wl hwl=>?_⟩;clear 1 wl H3 g3 k3 hwl;have kl3:=g3 _ _ k2;have nwl:wl≠l:=fun z=>by rw[z,k2]at hwl;cases hwl
 have ntl:t0≠l:=fun z=>by rw[z]at k1;rw[k1]at hl;cases hl
 have hlH:H l=none:=g1.free hl;have hno:∀j,qQ S (.nest n) ((zv p zP).take j)=none->qJ S (.nest n) d p=none:=fun j h=>by unfold qJ;rw[tN h]
 have go3:jF H (offs [l] H3):=mD hlH ((g1.trans g2).trans g3);refine⟨wl,rfl,⟨_,SqL.of k3⟩,vN (xs:=(zv p zP).map V.str) (fun j σ H'=>∃(kc:Addr) (kd:Kd) (us:List V) (ss:List Stp) (o5 o6:Option V),σ = [some (.ref sl),some (.str p),some (.str (aT d)),some (.ref kc),some (.ref l),o5,o6]/\But l H3 H'/\H' l=some (.lst us)/\jF (offs [l] H3) (offs [l] H')/\xM K (offs [l] H') us ss/\LK K (offs [l] H') kc kd/\kd.Fit S.length/\us.length=j/\qQ S (.nest n) ((zv p zP).take j)=some (ss,kd)) ⟨t0,.nest n,[],[],_,_,rfl,But.refl,kl3,jF.refl _,⟨rfl,fun i v s h=>by simp at h⟩,.nest (SqT.of (qS (fun z=>ntl (τ.mp z)) (g3 _ _ (g2 _ _ k1)))),(by show n<S.length;omega),rfl,rfl⟩ (fun j σ H' _ z=>?_) (fun j y σ H' hy z=>?_) (fun σ H' z=>?_)⟩
 ·obtain⟨kc,kd,us,ss,o5,o6,rfl,g,_⟩:=z;exact SqL.of (g _ _ nwl k3)
 ·obtain⟨kc,kd,us,ss,o5,o6,rfl,g,kl,go,hst,ho,hf,hj,hwk⟩:=z;obtain⟨w',hw',rfl⟩:=vK hy;have hwl':w'.length<=1000:=yo (nY (ο hw')) hp;have hjl:us.length<=1001:=by
   have:=(θ.mp hw').1;have:=nG p;omega
  have gHo:jF H (offs [l] H'):=go3.trans go;have gH:jF H H':=gHo.trans jV;have hnx:=tJ hw' hwk;have hA:Al [l] H':=fun b hb=>by rw[τ.mp hb];exact⟨_,kl⟩
  refine⟨_,rfl,_,rfl,_,rfl,kc,sl,w',kd,S,[l],rfl,hwl',hf,hg,hA,ho,hlx.same gHo,fun e H4 g4=>?_,fun s k' e l2 v b H4 g4 hl2 hv hb=>?_⟩
  ·exact⟨_,rfl,rfl,_,rfl,vJ rfl (q0 (hno (j+1) (by rw[hnx,e];rfl)) H4 (gH.trans g4))⟩
  ·have kl4:=g4 _ _ kl;have hl2':=jV.seq hl2;refine⟨_,rfl,rfl,_,rfl,kS (by simp) ⟨_,rfl,.inl ⟨rfl,_,SqL.of kl4⟩,_,rfl,l2,_,_,_,rfl,rfl,hl2',rfl,l,_,_,rfl,rfl,kl4,zy hjl (by decide),?_⟩⟩;generalize e5:upd H4 l _=H5;have eo:offs [l] H5=offs [l] H4:=by rw[←e5];exact cQ
   obtain⟨g5,k5⟩:=zA e5;refine⟨_,rfl,l2,_,_,_,rfl,rfl,jV.seq (by rw[eo];exact hl2),rfl,b,k',_,ss++[s],_,_,rfl,(g.trans (But.of g4)).trans g5,k5,by rw[eo];exact go.trans (kL g4),by rw[eo];exact(hst.same (kL g4)).snoc hv,by rw[eo];exact hb,aGk hg hn hf e,by rw[ι,hj];rfl,by rw[hnx,e];rfl⟩
 ·obtain⟨kc,kd,us,ss,o5,o6,rfl,g,kl,go,hst,ho,hf,hj,hwk⟩:=z;have gH:jF H H':=(go3.trans go).trans jV;rw[δ,An]at hwk;have sp:qJ S (.nest n) d p=if zV kd=aT d then some ss else none:=by unfold qJ;rw[hwk]
  obtain⟨rest,hr'⟩:=lk_hd (ho.same jV);refine⟨_,rfl,kc,_,_,_,rfl,rfl,hr',at0,_,rfl,rfl,_,rfl,vE (fun c=>?_) (fun c=>?_)⟩
  ·have c2:¬ zV kd=aT d:=by simpa using c
   exact q0 (by rw[sp];exact if_neg c2) H' gH
  ·have c2:zV kd=aT d:=by simpa using c
   exact⟨_,rfl,q1 ss (by rw[sp];exact if_pos c2) l us H' gH (SqL.of kl) (hst.same jV)⟩
theorem wS{k r:Nat}(F:Fun K "_law_spots" "_law_spots" eR f fd){gi:Addr}{fq:zb}(be:Df K mg "_law_spots" gi fq ["_law_shapes_here","_law_kind_here","_law_steps_here"])(gj:jJ k gi fq ["_law_shapes_here","_law_kind_here","_law_steps_here"] (aGo K r)):jJ (k+2) f fd ["_law_shapes_here","_law_kind_here","_law_steps_here"] (aGo K (r+1)):=by
 w_cond vG;obtain⟨sl,a,l,kd,S,us,rfl,hk,hf,hW,hlk,hlx,hl,hr8,hu,hne,q⟩:=h;refine⟨_,(jC (kM (jP qI (jX kY (pv 1) jE (fun _ _=>rfl)) jH (jT _)) (jD (jJ (kK (jA (qP (jA (pv 2) (jA (pv 1) jB))) jB)))) jR) (jC (jU (i:=3) vG.nd rfl (by walk_at"o") (kK jB)) (jC (kM (jP qI (jX kY (pv 1) jE (fun _ _=>rfl)) jH (jT _)) (jD (vF yw rfl (kU (jX kY (jX kF (pv 0) (jX kY (pv 1) jE (fun _ _=>rfl)) (fun _ _=>rfl)) jE (fun _ _=>rfl))) (xZ rfl (jW (jM (i:=4) vG.nd rfl (yp rfl)) (jW (jM (i:=5) vG.nd rfl (yp rfl)) qL))) (jD (jU (i:=3) vG.nd rfl (by walk_at"o") (jS qD (pv 3) (jK gj hr rfl be.m be.k be.b .nil jQ (jA (pv 0) (jA (pv 5) (jA (jS qD (pv 2) (kK (jA (pv 4) jB))) jB))))))))) (jD (kM (jP qI (jX kY (pv 1) jE (fun _ _=>rfl)) jH (jT _)) (jD (vF yw rfl (xT rfl M.range (jA (jX kY (pv 1) jE (fun _ _=>rfl)) jB)) (jM (i:=6) vG.nd rfl (yp rfl)) (jD (jU (i:=3) vG.nd rfl (by walk_at"o") (jS qD (pv 3) (jK gj hr rfl be.m be.k be.b .nil jQ (jA (pv 0) (jA (jX kY (pv 1) jE (fun _ _=>rfl)) (jA (jS qD (pv 2) (kK (jA (pv 6) jB))) jB))))))))) (jC (jU (i:=3) vG.nd rfl (by walk_at"o") (kK (jA (qP (jA (pv 2) (jA (pv 1) jB))) jB))) (jD (vF yw rfl (kU (jX kY (pv 1) jE (fun _ _=>rfl))) (jM (i:=6) vG.nd rfl (yp rfl)) (jD (jU (i:=3) vG.nd rfl (by walk_at"o") (jS qD (pv 3) (jK gj hr rfl be.m be.k be.b .nil jQ (jA (pv 0) (jA (qP (jA jH (jA (pv 6) jB))) (jA (jS qD (pv 2) (kK (jA (jX kY (jX kF (pv 0) (pv 6) (fun _ _=>rfl)) jE (fun _ _=>rfl)) jB))) jB))))))))))))) (jD (jJ (pv 3)))))),?_⟩;have hg:=hW.good;have back : 1<=r->∃r',r=r'+1:=fun h=>⟨r-1,by omega⟩;cases id hlk with
 | @num a w h1 =>
  have hne':us≠[]:=by
   rcases hne with h|⟨i,h⟩
   ·exact h
   ·cases h
  refine⟨_,rfl,a,_,_,_,rfl,rfl,h1,rfl,rfl,_,rfl,vJ (by decide) ⟨_,rfl,_,rfl,vD,fun t ht=>?_⟩⟩;clear 1 t H1 g1 k1 ht;refine⟨iF,fun p hp=>?_⟩;clear 1 p H2 g2 k2 hp;exact q p [t] H2 (g1.trans g2) (SqL.of k2) (.one (SqT.of (g2 _ _ k1)) ((g1.trans g2).seq hl) hne' (by omega) hu) (by simp) (aGf r)
 | @many a b n k h1 h2 =>
  have hn6:=hf.2.1;have hr1 : 1<=r:=by rcases hk with⟨w,_,h⟩|⟨i,_,h⟩ <;> omega
  obtain⟨r,rfl⟩:=back hr1;refine⟨_,rfl,a,_,_,_,rfl,rfl,h1,rfl,rfl,_,rfl,kS (by decide) ⟨zL,fun f hf0=>?_⟩⟩;clear 1 f H1 g1 k1 hf0;refine⟨_,rfl,a,_,_,_,rfl,rfl,g1.tp h1,rfl,rfl,_,rfl,kS (by decide) ⟨_,rfl,a,_,_,_,rfl,rfl,g1.tp h1,rfl,rfl,_,rfl,vJ (by decide) ⟨_,rfl,a,_,_,_,rfl,rfl,g1.tp h1,rfl,n,rfl,by omega,by omega,fY (n:=n) (fun j σ H'=>∃(f:Addr) (ts:List Addr) (o4 o5 o6:Option V),σ = [some (.ref sl),some (.ref a),some (.ref l),some (.ref f),o4,o5,o6]/\jF H1 H'/\SqL K H' f (ts.map V.ref)/\SpL K H' ts/\ts.length<=j*6 ^ r/\(1<=j->ts≠[])) ⟨f,[],_,_,_,rfl,jF.refl _,SqL.of k1,(fun t h=>by cases h),yq _,fun h=>absurd h (by decide)⟩ (fun j σ H' hj z=>?_) (fun σ H' z=>?_)⟩⟩⟩
  ·obtain⟨f,ts,o4,o5,o6,rfl,g,hf1,hts,hlen,hne1⟩:=z;have gg:=g1.trans g;rw[DJ];refine⟨_,rfl,_,rfl,_,rfl,a,_,_,_,rfl,rfl,(g1.trans g).tp h1,rfl,_,rfl,_,rfl,iF,fun x1 hx1=>?_⟩;clear 1 x1 H2 g2 k2 hx1;refine⟨l,x1,us,[.int (j:Nat)],rfl,rfl,(gg.trans g2).seq hl,SqL.of k2,(by rw[ym];show us.length+1<=_;omega),fun x2 hx2=>?_⟩;clear 1 x2 H3 g3 k3 hx2;have g3':=(gg.trans g2).trans g3;refine⟨sl,b,x2,k,S,us++[.int (j:Nat)],rfl,hk.sub,hf.sub,hW,h2.same g3',hlx.same g3',SqL.of k3,(by rw[ι];show us.length+1+r<=8;omega),sY hu (.inr ⟨j,rfl,by omega⟩),.inl (by simp),fun p ts2 H4 g4 hp hts2 hne2 hl2=>?_⟩;obtain⟨b1,b2⟩:=aFq (r:=r) (by omega) (by omega) hlen hl2;have g24:jF H' H4:=(g2.trans g3).trans g4;refine⟨f,p,_,_,rfl,rfl,g24.seq hf1,hp,(by rw[δ,δ];exact b1),fun x3 hx3=>?_⟩;clear 1 x3 H5 g5 k5 hx3;exact⟨x3,ts++ts2,_,_,_,rfl,g.trans (g24.trans g5),(by rw[ξ];exact SqL.of k5),(hts.same (g24.trans g5)).app (hts2.same g5),(by rw[ι];exact b2),fun _ z=>hne2 (Cr.mp z).2⟩
  ·obtain⟨f,ts,o4,o5,o6,rfl,g,hf1,hts,hlen,hne1⟩:=z;exact⟨_,rfl,q f ts H' (g1.trans g) hf1 hts (hne1 hf.1) (aBk hn6 hlen)⟩
 | @pick a pl is h1 h2 =>
  have hs:=hf.1;have hs4:=hf.2.1;have hne':us≠[]:=by
   rcases hne with h|⟨i,h⟩
   ·exact h
   ·cases h
  have hr3 : 3<=r:=by
   cases is with
   |nil=>exact absurd hs (by decide)
   |cons i _=>have:=hk i (Ψ ..);omega
  obtain⟨r,rfl⟩:=back (by omega);have zl:(is.map fun n:Nat=>V.int n).length=is.length:=δ _;refine⟨_,rfl,a,_,_,_,rfl,rfl,h1,rfl,rfl,_,rfl,kS (by decide) ⟨zL,fun f hf0=>?_⟩⟩;clear 1 f H0 g0 k0 hf0;refine⟨_,rfl,a,_,_,_,rfl,rfl,g0.tp h1,rfl,rfl,_,rfl,kS (by decide) ⟨_,rfl,a,_,_,_,rfl,rfl,g0.tp h1,rfl,rfl,_,rfl,kS (by decide) ⟨_,rfl,_,rfl,vD,fun t0 ht0=>?_⟩⟩⟩;clear 1 t0 H00 g00 k00 ht0;refine⟨iF,fun f1 hf11=>?_⟩;clear 1 f1 H1 gx k1 hf11;have g1:jF H H1:=(g0.trans g00).trans gx;refine⟨_,rfl,a,_,_,_,rfl,rfl,g1.tp h1,rfl,pl,rfl,⟨_,g1.seq h2⟩,vN (xs:=is.map fun n:Nat=>V.int n) (fun j σ H'=>∃(f:Addr) (ts:List Addr) (o4 o5 o6:Option V),σ = [some (.ref sl),some (.ref a),some (.ref l),some (.ref f),o4,o5,o6]/\jF H1 H'/\SqL K H' f (ts.map V.ref)/\SpL K H' ts/\ts.length<=(j+1)*6 ^ r/\(True->ts≠[])) ⟨f1,[t0],_,_,_,rfl,jF.refl _,SqL.of k1,.one (SqT.of (gx _ _ k00)) (g1.seq hl) hne' (by omega) hu,(by rw[DG,Nat.one_mul];exact aGf r),fun _ h=>by cases h⟩ (fun j σ H' _ z=>?_) (fun j x σ H' hx z=>?_) (fun σ H' z=>?_)⟩
  ·obtain⟨f,ts,o4,o5,o6,rfl,g,_⟩:=z;exact g.seq (g1.seq h2)
  ·obtain⟨f,ts,o4,o5,o6,rfl,g,hf1,hts,hlen,hne1⟩:=z;obtain⟨i,hi,rfl⟩:=eB hx;have him:=ο hi;have hiS:=hf.2.2.2 i him;have hj4:j<is.length:=(θ.mp hi).1;have gx':=g1.trans g;obtain⟨as,s,l',ps,m1,m2,m3,m4,m5⟩:=(hlx.same gx').at hiS;have hnm:kP S[i].1=true:=hW.nm _ (ο (η hiS));refine⟨_,rfl,_,rfl,_,rfl,vD,fun t2 ht2=>?_⟩;clear 1 t2 H6 g6 k6 ht2;have gg:=gx'.trans g6;refine⟨_,rfl,_,rfl,_,rfl,sl,_,_,_,rfl,rfl,g6.seq m1,dO m2,s,_,_,_,rfl,rfl,g6.tp m3,rfl,iF,fun x1 hx1=>?_⟩;clear 1 x1 H2 g2 k2 hx1;refine⟨l,x1,us,[.str S[i].1],rfl,rfl,(gg.trans g2).seq hl,SqL.of k2,(by rw[ym];show us.length+1<=_;omega),fun x2 hx2=>?_⟩;clear 1 x2 H3 g3 k3 hx2;have g3':=(gg.trans g2).trans g3;refine⟨sl,t2,x2,.nest i,S,us++[.str S[i].1],rfl,(by have:=hk i him;show 2*i+2<=r;omega),hiS,hW,(.nest (SqT.of ((g2.trans g3) _ _ k6))),hlx.same g3',SqL.of k3,(by rw[ι];show us.length+1+r<=8;omega),sY hu (.inl ⟨_,rfl,hnm⟩),.inl (by simp),fun p ts2 H4 g4 hp hts2 hne2 hl2=>?_⟩;obtain⟨b1,b2⟩:=aFq (r:=r) (by omega) (by omega) hlen hl2;have g24:jF H' H4:=g6.trans ((g2.trans g3).trans g4);refine⟨f,p,_,_,rfl,rfl,g24.seq hf1,hp,(by rw[δ,δ];exact b1),fun x3 hx3=>?_⟩;clear 1 x3 H5 g5 k5 hx3;exact⟨x3,ts++ts2,_,_,_,rfl,g.trans (g24.trans g5),(by rw[ξ];exact SqL.of k5),(hts.same (g24.trans g5)).app (hts2.same g5),(by rw[ι];exact b2),fun _ z=>hne2 (Cr.mp z).2⟩
  ·obtain⟨f,ts,o4,o5,o6,rfl,g,hf1,hts,hlen,hne1⟩:=z;exact⟨_,rfl,q f ts H' (g1.trans g) hf1 hts (hne1 trivial) (aBk (by rw[zl];omega) hlen)⟩
 | @nest a i h1 =>
  have hi:i<S.length:=hf;have hr2 : 2*i+2<=r:=hk;obtain⟨r,rfl⟩:=back (by omega);obtain⟨as,s,fl,ps,m1,m2,m3,m4,m5⟩:=hlx.at hi;have hS:S[i]?=some S[i]:=η hi;have hfit:=hg.fit i _ hS;have hfew:=hg.few i _ hS;have hnz:=hg.ne i _ hS;have zl:(ps.map V.ref).length=S[i].2.length:=by rw[δ];exact m5.len
  refine⟨_,rfl,a,_,_,_,rfl,rfl,h1,rfl,rfl,_,rfl,kS (by decide) ⟨zL,fun f hf0=>?_⟩⟩;clear 1 f H1 g1 k1 hf0;refine⟨_,rfl,a,_,_,_,rfl,rfl,g1.tp h1,rfl,rfl,_,rfl,vJ (by decide) ⟨_,rfl,_,rfl,a,_,_,_,rfl,rfl,g1.tp h1,rfl,sl,_,_,_,rfl,rfl,g1.seq m1,dO m2,s,_,_,_,rfl,rfl,g1.tp m3,rfl,fl,rfl,⟨_,g1.seq m4⟩,vN (xs:=ps.map V.ref) (fun j σ H'=>∃(f:Addr) (ts:List Addr) (o4 o5 o6:Option V),σ = [some (.ref sl),some (.ref a),some (.ref l),some (.ref f),o4,o5,o6]/\jF H1 H'/\SqL K H' f (ts.map V.ref)/\SpL K H' ts/\ts.length<=j*6 ^ r/\(1<=j->ts≠[])) ⟨f,[],_,_,_,rfl,jF.refl _,SqL.of k1,(fun t h=>by cases h),yq _,fun h=>absurd h (by decide)⟩ (fun j σ H' _ z=>?_) (fun j x σ H' hx z=>?_) (fun σ H' z=>?_)⟩⟩
  ·obtain⟨f,ts,o4,o5,o6,rfl,g,_⟩:=z;exact g.seq (g1.seq m4)
  ·obtain⟨f,ts,o4,o5,o6,rfl,g,hf1,hts,hlen,hne1⟩:=z;obtain⟨u,hu',rfl⟩:=qH hx;obtain⟨nm',kd',kk,hfs,ht,hko⟩:=m5.get hu';have hj6:j<S[i].2.length:=(θ.mp hfs).1;have hm:=hfit _ (ο hfs);have gg:=g1.trans g;refine⟨u,_,rfl,gg.tp ht,rfl,_,_,rfl,_,_,rfl,rfl,?_⟩;refine⟨_,rfl,_,rfl,_,rfl,_,rfl,_,rfl,iF,fun x1 hx1=>?_⟩;clear 1 x1 H2 g2 k2 hx1;refine⟨l,x1,us,[.str nm'],rfl,rfl,(gg.trans g2).seq hl,SqL.of k2,(by rw[ym];show us.length+1<=_;omega),fun x2 hx2=>?_⟩;clear 1 x2 H3 g3 k3 hx2;have g3':=(gg.trans g2).trans g3;refine⟨sl,kk,x2,kd',S,us++[.str nm'],rfl,hm.1.rk.mono (by omega),hm.1.mono (Bn hi),hW,hko.same g3',hlx.same g3',SqL.of k3,(by rw[ι];show us.length+1+r<=8;omega),sY hu (.inl ⟨_,rfl,hW.fnm _ (ο hS) _ (ο hfs)⟩),.inl (by simp),fun p ts2 H4 g4 hp hts2 hne2 hl2=>?_⟩;obtain⟨b1,b2⟩:=aFq (r:=r) (by omega) (by omega) hlen hl2;have g24:jF H' H4:=(g2.trans g3).trans g4;refine⟨f,p,_,_,rfl,rfl,g24.seq hf1,hp,(by rw[δ,δ];exact b1),fun x3 hx3=>?_⟩;clear 1 x3 H5 g5 k5 hx3;exact⟨x3,ts++ts2,_,_,_,rfl,g.trans (g24.trans g5),(by rw[ξ];exact SqL.of k5),(hts.same (g24.trans g5)).app (hts2.same g5),(by rw[ι];exact b2),fun _ z=>hne2 (Cr.mp z).2⟩
  ·obtain⟨f,ts,o4,o5,o6,rfl,g,hf1,hts,hlen,hne1⟩:=z;rw[zl]at hlen hne1;exact⟨_,rfl,q f ts H' (g1.trans g) hf1 hts (hne1 (Aq.mpr hnz)) (aBk hfew hlen)⟩
theorem aCk(F:Fun K "_law_read" "_law_read" iE f fd)(ip:Df K mg "read_program" mf km ["shapes","text"])(ul:jI P w K mg base (CXE P w) k mf km ["shapes","text"] (spRP (jK 0) Vf ac bq ao K)):jJ (k+2) f fd ["_law_shapes_here","_law_lines","_law_steps_here","_law_at","_law_path"] (spLR (jK 0) Vf K):=by
 w_cond eK;obtain⟨ra,ll,z,sa,S,ls,v,i,l,p,rfl,hro,hg,hn,hll,hls,hne,h4,hnb,hli,hlp,hbe,hv,q⟩:=h;refine⟨_,(jC (aSi (i:=6) rfl rfl rfl rfl ah.m ah.x eK.nd rfl rfl (fun _ _ _=>(jD (jU (i:=5) eK.nd rfl (by walk_at"o") (aLk ul hr rfl ip.m ip.k ip.b .nil passT (jA (pv 0) (jA (aFj (K:=K) rfl zg Bi Bj (wC (K:=K) rfl) jH (jA (pv 1) jB)) jB)))))) (fun _=>(jD (jJ (aC (vA mV (pv 2) xC (jT _)) (bV (vA (aNz (K:=K) rfl hr.units) (qP (jA (aCb (K:=K) rfl (pv 6) rfl) (jA (aCb (K:=K) rfl (pv 6) rfl) jB))) (qP (jA (pv 3) (jA (pv 4) jB))) (jT _)))))))) (jD (jJ (aC (vA pJ (pv 2) xC (jT _)) (bV (vA (aSa hr.units) (kW (jX kF (kW (pv 5) rfl) (pv 3) (fun _ _=>rfl)) rfl) (pv 2) (jT _))))))),?_⟩;have dl:(ls.map Ln.x).length=ls.length:=δ _;have hso:qV S (.nest sa.length) l=qJ S (.nest sa.length) l.d p:=by unfold qV;rw[hlp]
 have hsum:((ls.map Ln.x).map (·.length)).sum<=ls.length*240:=by
  rw[zf];exact cD fun l hl=>(aKe (hls l hl)).2.1
 refine⟨fun σ=>σ = [some (.ref ra),some (.ref ll),some v,some (.int i),some (.str p),none,none],fun x _ H'=>∃e:Addr,x=.ref e/\v=.non/\jF H H'/\XAt ac H' e [("line",.int (i:Nat)),("path",.str p)],?_,fun σ' e H' hS hW=>?_⟩
 ·refine⟨_,rfl,rfl,_,rfl,_,ll,ls.map Ln.x,rfl,rfl,hll,(by rw[dl];show _+ls.length*1<=_;omega),rfl,ra,z,sa,S,ls,rfl,hro,hg,hn,hls,hne,h4,hnb,fun sz hsz hst p' dx rp v1 v3 v4 rs H2 g2 k2 l2 ln2 rows2=>?_,fun i' p' hd e H2 g2 he hx=>?_⟩
  ·have hi:i<ls.length:=(θ.mp hli).1;have hsi:sz[i]?=some (sz[i]'(by omega)):=η _;have hri:rs[i]?=some (rs[i]'(by omega)):=η _;have hs1:=hst i l _ hli hsi;obtain⟨dx1,ra1,sa1,us1,hrow,hu1,hu2⟩:=rows2 i _ l _ hri hli hsi;rcases hv with⟨hv,_⟩|⟨ss,a,us,hv,rfl,ha,hus,_⟩
   ·rw[hso,hv]at hs1;cases hs1
   ·rw[hso,hv]at hs1;rw[←zc hs1]at hu2;obtain⟨e1,e2⟩:=aPo hu2 (hus.same g2);exact⟨_,rfl,rfl,_,rfl,vJ rfl ⟨_,rfl,p',bq,_,_,_,rfl,k2,bp.cl,bp.na _ (by decide),rfl,_,rfl,rp,_,_,_,rfl,rfl,l2,dO hri,_,ao,_,_,_,rfl,hrow,bh.cl,bh.na _ (by decide),rfl,_,rfl,sa1,a,us1,us,rfl,rfl,hu1,g2.seq ha,e1,e2,q H2 g2⟩⟩
  ·rcases hv with⟨hv,rfl⟩|⟨ss,a,us,hv,rfl,ha,hus,hall⟩
   ·have hd':=aDz (m:=0) hli hbe (by rw[hso,hv]);rw[hd',hlp]at hd;obtain⟨rfl,rfl⟩:=Prod.mk.inj (zc hd);rw[DG]at hx;exact⟨e,rfl,rfl,g2,hx⟩
   ·rw[aDg hall]at hd;cases hd
 ·subst hS;obtain⟨e2,ee,hv',g,dx',hE,hX⟩:=hW;cases ee;subst hv';refine⟨ac,some dx',_,hE,ah.x,(by simp),?_⟩;refine⟨_,rfl,rfl,_,rfl,vJ rfl ⟨_,rfl,e,ac,cRE,bc,dx',_,_,rfl,.inl hE,hX,ah.c,ah.n _ (by simp),rfl,_,rfl,e,ac,cRE,bc,dx',_,_,rfl,.inl hE,hX,ah.c,ah.n _ (by simp),rfl,vD,fun t1 ht1=>?_⟩⟩;generalize e1:upd H' t1 _=H1;obtain⟨g1,k1⟩:=qN e1 ht1;refine⟨_,rfl,_,rfl,vD,fun t2 ht2=>?_⟩;generalize e2:upd H1 t2 _=H2;obtain⟨g2,k2⟩:=qN e2 ht2;refine⟨t1,t2,_,_,rfl,rfl,SqT.of (g2 _ _ k1),SqT.of k2,rfl,fun m x y hx hy=>?_,q H2 ((g.trans g1).trans g2)⟩;rw[hx]at hy;cases hy;rcases ς.mp (ο hx) with rfl|hx
  ·exact .same (.inl rfl)
  ·rw[τ.mp hx];exact .same (.inl rfl)
theorem aAh{k:Nat}(F:Fun K "_law_asked" "_law_asked" eU f fd){qz:Addr}{qa:zb}(la:Df K mg "_law_steps" qz qa ["_law_shapes_here","_law_path","_law_sort"])(wc:jJ k qz qa ["_law_shapes_here","_law_path","_law_sort"] (aJw K)){tw:Addr}{rb:zb}(fz:Df K mg "_law_read" tw rb ["_law_shapes_here","_law_lines","_law_steps_here","_law_at","_law_path"])(ua:jJ k tw rb ["_law_shapes_here","_law_lines","_law_steps_here","_law_at","_law_path"] (spLR (jK 0) Vf K)):jJ (k+2) f fd ["_law_shapes_here","_law_drawn_here","_law_path"] (spAs (jK 0) Vf K):=by
 w_cond xU;obtain⟨ra,dl,z,sa,S,p,rfl,hro,hW,hlx,hp,q⟩:=h;refine⟨_,(jC (vF yw rfl (kU (kK (jA jH (jA jH jB)))) (jM (i:=3) xU.nd rfl (yp rfl)) (jC (jU (i:=4) xU.nd rfl (by walk_at"o") (jK wc hr rfl la.m la.k la.b .nil jQ (jA (pv 1) (jA (pv 2) (jA (pv 3) jB))))) (jC (jU (i:=5) xU.nd rfl (by walk_at"o") (kK (jA (jS qA jH (pv 2)) (jA (jS qA (jS qA jH (pv 2)) jH) jB)))) (jC (kM (jP qI (pv 3) jH (jT _)) (jD (jU (i:=5) xU.nd rfl (by walk_at"o") (kK (jA (jS qA jH (pv 2)) (jA (jS qA (jS qA jH (pv 2)) jH) jB))))) jR) (jC (kM (yK (xJ (jK ua hr rfl fz.m fz.k fz.b .nil jQ (jA (pv 0) (jA (kZ qM (pv 5) qU (qE jE)) (jA (pv 4) (jA jE (jA (pv 2) jB qZ) qX) qZ) aEs) qZ)))) (jD (jJ lU)) jR) (jC (jU (i:=6) xU.nd rfl (by walk_at"o") (jS aSo (kK (jA jH jB)) (qR aDu rfl M.int boot_int (jA (vA mV (pv 4) xC (jT _)) jB)))) (jD (kM (yK (xJ (jK ua hr rfl fz.m fz.k fz.b .nil jQ (jA (pv 0) (jA (jS qD (kK (jA jH (jA (jX kF (pv 5) jE (fun _ _=>rfl)) jB))) (pv 6)) (jA (pv 4) (jA jE (jA (pv 2) jB qZ) qX) qZ) eH) qZ)))) (jD (jJ lU)) jR)))))))) (jD (jJ lU))),?_⟩;have hp1:p.length<=1000:=yo hp.l (by decide);have hp2:p.length<=2000:=yo hp.l (by decide);have hn:NOk (kO S) S.length:=aAb hW.nm;have hSl:S.length=sa.length+1:=by
  obtain⟨dx,t,_,_,w⟩:=hro;rw[←w.1,ι];rfl
 have hS5:=hW.len;refine⟨vD,fun l0 hl0=>?_⟩;clear 1 l0 H0 g0 k0 hl0;refine⟨l0,rfl,⟨_,SqL.of k0⟩,vN (xs:=[V.str "num",V.str "pick"]) (fun j σ H'=>∃o3 o4 o5 o6,σ = [some (.ref ra),some (.ref dl),some (.str p),o3,o4,o5,o6]/\jF H0 H') ⟨_,_,_,_,rfl,jF.refl _⟩ (fun j σ H' _ z=>?_) (fun j x σ H' hx z=>?_) (fun σ H' z=>?_)⟩
 ·obtain⟨o3,o4,o5,o6,rfl,g⟩:=z;exact SqL.of (g _ _ k0)
 ·obtain⟨o3,o4,o5,o6,rfl,g⟩:=z;obtain⟨d5,d4,hdd,rfl⟩ : ∃d5 d4,DD d5 d4/\x=.str (aT d5):=by
   rcases ς.mp (ο hx) with rfl|hm
   ·exact⟨"look","store",.inl ⟨rfl,rfl⟩,congrArg V.str (by ac_rfl)⟩
   ·rw[τ.mp hm];exact⟨"which","choose",.inr ⟨rfl,rfl⟩,congrArg V.str (by ac_rfl)⟩
  have F:DF d5 d4 p:=hdd.f hp;have gH:=g0.trans g;refine⟨_,rfl,_,rfl,_,rfl,?_⟩;dsimp only[aEf];refine aOi ?_;refine⟨dl,p,d5,sa.length,S,rfl,hp1,hSl,(by omega),hW.good,hn,hlx.same gH,fun v H1 g1 hv=>?_⟩;refine⟨_,rfl,_,_,rfl,rfl,eQ (by ac_rfl) hp2,_,rfl,_,_,rfl,rfl,eQ (by ac_rfl) hp2,_,_,rfl,rfl,eQ (aGh (by ac_rfl) hp1) (by ac_rfl),vD,fun l1 hl1=>?_⟩;clear 1 l1 H2 g2 k2 hl1;dsimp only[cW];refine wB (fun σ' H3=>∃(o6:Option V) (ll:Addr),σ'=[some (.ref ra),some (.ref dl),some (.str p),some (.str (aT d5)),some v,some (.ref ll),o6]/\jF H1 H3/\SqL K H3 ll [.str (ln5 d5 p).x,.str (ln4 d4 p).x]) (fun σ' H3 z=>?_) (fun nx hnx=>?_)
  ·obtain⟨o6,ll,rfl,g3,hll⟩:=z;have gH3:=(gH.trans g1).trans g3;refine⟨_,rfl,_,rfl,_,rfl,ll,_,rfl,hll,fun s1 hs1=>?_⟩;rw[show zW [V.str (ln5 d5 p).x,V.str (ln4 d4 p).x] none (some 1)=[V.str (ln5 d5 p).x] from cutB _ 1];clear 1 s1 H4 g4 k4 hs1;have gH4:=gH3.trans g4;refine⟨_,rfl,_,rfl,ra,s1,z,sa,S,[ln5 d5 p],v,0,ln5 d5 p,p,rfl,dI hro gH4,hW.good,hn,SqL.of k4,(fun l h=>by rw[τ.mp h];exact F.f5),(by simp),(by show 1<=4;decide),aSw hp F,rfl,F.p5,(fun j l' hj=>absurd hj (Ar _)),?_,fun H5 g5=>⟨_,rfl,kS (by decide) ?_⟩⟩
   ·rcases hv.same (g3.trans g4) with h|⟨ss,a,us,h1,h2,h3,h4⟩
    ·exact .inl h
    ·exact .inr ⟨ss,a,us,h1,h2,h3,h4,fun l' hl'=>⟨ss,by rw[τ.mp hl',aMy F.p5];exact h1⟩⟩
   ·have gH5:=gH4.trans g5;have g15:jF H1 H5:=(g3.trans g4).trans g5;refine⟨iF,fun b1 hb1=>?_⟩;clear 1 b1 H6 g6 k6 hb1;refine⟨_,rfl,rfl,_,rfl,b1,_,_,rfl,rfl,k6,(by split <;> decide),(by split <;> decide),(by split <;> decide),fun b2 hb2=>?_⟩;rw[aRs];clear 1 b2 H7 g7 k7 hb2;have hll7:=((g4.trans g5).trans (g6.trans g7)).seq hll;refine⟨_,rfl,_,rfl,ll,_,_,_,rfl,rfl,hll7,rfl,vD,fun o1 ho1=>?_⟩;rw[out_x];clear 1 o1 H8 g8 k8 ho1;generalize hb:decide (v=V.non)=b at *;have hbl:(nwL b).length<=1:=by cases b <;> decide
    refine⟨_,rfl,o1,b2,_,_,rfl,rfl,SqL.of k8,SqL.of (g8 _ _ k7),(by rw[δ,δ,ym];show 2+(nwL b).length<=_;omega),fun m hm=>?_⟩;clear 1 m H9 g9 k9 hm;have g19:jF H1 H9:=g15.trans ((g6.trans g7).trans (g8.trans g9));have hv9:=hv.same g19;have hns:nwL b=[]\/qV S (.nest sa.length) (ln4 d4 p)=none:=by
     rw[aMy F.p4,show qJ S (.nest sa.length) (ln4 d4 p).d p=qJ S (.nest sa.length) d5 p from aJt F.e];rcases hv with⟨h,_⟩|⟨ss,a,us,_,h,_⟩
     ·exact .inr h
     ·rw[h]at hb;exact .inl (by rw[←hb];rfl)
    refine⟨_,rfl,_,rfl,ra,m,z,sa,S,lnO::ln4 d4 p::nwL b,v,1,ln4 d4 p,p,rfl,dI hro ((gH.trans g1).trans g19),hW.good,hn,SqL.of k9,(fun l h=>?_),(by simp),(by show(nwL b).length+1+1<=4;omega),aRp hp F hns,rfl,F.p4,(fun j l' hj hl'=>?_),?_,fun H10 g10=>⟨_,rfl,kS (by decide) ⟨_,_,_,_,rfl,g.trans (g1.trans (g19.trans g10))⟩⟩⟩
    ·rcases ς.mp h with rfl|h
     ·exact xu
     ·rcases ς.mp h with rfl|h
      ·exact F.f4
      ·cases b with
       |false=>cases h
       |true=>rw[τ.mp h];exact xw
    ·have:j=0:=by omega
     subst this;rw[←zc hl'];exact⟨_,aJr⟩
    ·rw[show qJ S (.nest sa.length) (ln4 d4 p).d p=qJ S (.nest sa.length) d5 p from aJt F.e];rcases hv9 with h|⟨ss,a,us,h1,h2,h3,h4⟩
     ·exact .inl h
     ·refine .inr ⟨ss,a,us,h1,h2,h3,h4,fun l' hl'=>?_⟩;rw[h2]at hb;rw[←hb]at hl';rcases ς.mp hl' with rfl|hl'
      ·exact⟨_,aJr⟩
      ·rw[τ.mp hl',aMy F.p4,show qJ S (.nest sa.length) (ln4 d4 p).d p=qJ S (.nest sa.length) d5 p from aJt F.e];exact⟨_,h1⟩
  ·rcases hdd with⟨rfl,rfl⟩|⟨rfl,rfl⟩
   ·refine⟨_,rfl,rfl,_,rfl,kS (fun z=>absurd (V.str.inj (of_decide_eq_true z)) (by ac_rfl)) (hnx _ _ ⟨_,l1,rfl,g2,?_⟩)⟩;rw[←x5 (d:="look") (p:=p) (pre:=ε "a = look b ") (by ac_rfl),←x4 (d:="store") (p:=p) (pre:=ε "store a ") (by ac_rfl)];exact SqL.of k2
   ·refine⟨_,rfl,rfl,_,rfl,vJ (decide_eq_true (congrArg V.str (by ac_rfl))) ⟨_,rfl,_,_,rfl,rfl,eQ (by ac_rfl) hp2,_,rfl,_,_,rfl,rfl,eQ (by ac_rfl) hp2,_,_,rfl,rfl,eQ (aGh (by ac_rfl) hp1) (by ac_rfl),vD,fun l2 hl2=>?_⟩⟩;clear 1 l2 H3 g3 k3 hl2;refine hnx _ _ ⟨_,l2,rfl,g2.trans g3,?_⟩;rw[←x5 (d:="which") (p:=p) (pre:=ε "a = which b ") (by ac_rfl),←x4 (d:="choose") (p:=p) (pre:=ε "choose a ") (by ac_rfl)];exact SqL.of k3
 ·obtain⟨o3,o4,o5,o6,rfl,g⟩:=z;exact q H' (g0.trans g)
theorem aCg(F:Fun K "_law_near" "_law_near" iK f fd)(aa:Df K mg "_law_take" bo bb ["_law_box_here","_law_many"])(ak:jJ k bo bb ["_law_box_here","_law_many"] nB):jJ (k+2) f fd ["_law_box_here","_law_steps_here","_law_names_here"] (spNr K):=by
 w_cond xG;obtain⟨p,sl,nl,us,ns,rfl,hst,hsl,hne,h8,hu,hnl,hnne,hn1000,hnm,q⟩:=h;refine⟨_,(jC (gK (i:=3) ["_law_step_here"] [] [] xG.nd rfl rfl rfl (kU (pv 1)) rfl trivial trivial (fun _ _ _ _=>(jM (i:=0) (show yt (["_law_step_here"]:List Str) from by ac_rfl) rfl (yp rfl))) (fun _ _ _ _=>qB) (fun _ _ _ _=>(qR (xD.or xW lL) rfl M.str boot_str (jA (pv 0) jB)))) (jC (jU (i:=4) xG.nd rfl (by walk_at"o") (jK ak hr rfl aa.m aa.k aa.b .nil jQ (jA (pv 0) (jA (jZ kG rfl M.len yn (jA (pv 3) jB)) jB)))) (jC (jU (i:=5) xG.nd rfl (by walk_at"o") (jX kF (pv 2) (jK ak hr rfl aa.m aa.k aa.b .nil jQ (jA (pv 0) (jA (jZ kG rfl M.len yn (jA (pv 2) jB)) jB))) (fun _ _=>rfl))) (jC (jU (i:=6) xG.nd rfl (by walk_at"o") (jK ak hr rfl aa.m aa.k aa.b .nil jQ (jA (pv 0) (jA jE jB)))) (jC (jU (i:=7) xG.nd rfl (by walk_at"o") (kK (jA (kZ qM (pv 3) qU (qE (bO yQ jE))) (jA (jS qD (pv 3) (kK (jA (pv 5) jB))) (jA (jS qD (jS qD (kZ qM (pv 3) qU (qE (pv 4))) (kK (jA (jX kF (pv 3) (pv 4) (fun _ _=>rfl)) jB))) (kZ qM (pv 3) (qE (pv 4)) qU)) (jA (jS qD (jS qD (kZ qM (pv 3) qU (qE (pv 4))) (kK (jA (pv 5) jB))) (kZ qM (pv 3) (qE (jS qO (pv 4) jE)) qU)) jB)))))) (jC (vF yw rfl (kU (kK (jA (qR xW rfl M.str boot_str (jA (pv 6) jB)) (jA (jS qA jH (jX kF (pv 3) (pv 4) (fun _ _=>rfl))) (jA jH (jA jH (jA jH (jA jH (jA jH (jA (jS qA (jX kF (pv 3) (pv 4) (fun _ _=>rfl)) jH) (jA jH jB qX) eH) qX) qX) qX) qX) qX) eH) aFu))) (jM (i:=8) xG.nd rfl (yp rfl)) (jD (vL (xA yy zp zr vT (pv 7) (jA (jS qD (jS qD (kZ qM (pv 3) qU (qE (pv 4))) (kK (jA (pv 8) jB))) (kZ qM (pv 3) (qE (jS qO (pv 4) jE)) qU)) jB))))) (jC (jU (i:=7) xG.nd rfl (by walk_at"o") (jS qD (pv 7) (kK (jA (jS qD (pv 3) (kK (jA jH jB))) (jA (jS qD (pv 3) (kK (jA jH jB))) (jA (jS qD (jS qD (kZ qM (pv 3) qU (qE (pv 4))) (kK (jA jH jB))) (kZ qM (pv 3) (qE (pv 4)) qU)) (jA (jS qD (pv 3) (kK (jA jH jB))) (jA (jS qD (kK (jA jH jB)) (pv 3)) jB eH) eH) eH) eH) eH)))) (jD (jJ (qF ["_law_one"] [] [] rfl (kU (pv 7)) rfl trivial trivial (fun _ _ _ _=>(jM (i:=0) (show yt (["_law_one"]:List Str) from by ac_rfl) rfl (yp rfl))) (fun _ _ _ _=>(fV (PW.pt (yA (jP (aIe (K:=K) rfl hr.units) (pv 0) (kK jB) (jT _)) (vX (jP (aOg (K:=K) rfl hr.units) (pv 0) (kK (jA jH jB)) (jT _))))))) (fun _ _ _ _=>(aFj (K:=K) rfl zg Bi Bj (wC (K:=K) rfl) jH (jA (pv 0) jB))))))))))))),?_⟩;have hul:=Aq.mpr hne;have hnl0:=Aq.mpr hnne;refine⟨_,rfl,sl,rfl,⟨_,jV.seq hsl⟩,vQ (xs:=us) (fun j ys H'=>H'=H/\ys=((us.take j).map fun u=>V.str (stT u))) ⟨rfl,rfl⟩ (fun j ys H' _ z=>⟨by rw[z.1];exact jV.seq hsl,by rw[z.2,δ,yh];exact Aa _ _⟩) (kN (by omega)) (fun j x ys H' hx z=>?_) (fun ys Hb z wl hwl=>?_)⟩
 ·obtain⟨rfl,rfl⟩:=z;have hs:=vM (f:=fun u=>V.str (stT u)) hx;rcases hu x (ο hx) with⟨w,rfl,hw⟩|⟨n,rfl,hn⟩
  ·exact⟨_,rfl,.inr ⟨w,rfl,⟨rfl,hs.symm⟩,_,rfl⟩⟩
  ·exact⟨_,rfl,.inl ⟨_,rfl,CT (zE (by omega)) (by decide),⟨rfl,hs.symm⟩,_,rfl⟩⟩
 obtain⟨rfl,rfl⟩:=z;clear 1 wl H1 g1 k1 hwl;rw[An]at k1;have hws:∀w∈us.map stT,WOk w:=fun w hw=>by
  obtain⟨u,hu',rfl⟩:=yj.mp hw;obtain⟨a1,a2⟩:=tE (hu u hu');exact nM (by omega) a2
 have hw6:∀w∈us.map stT,w.length<=6/\∀c∈w.cps.toList,47<=c:=fun w hw=>by
  obtain⟨u,hu',rfl⟩:=yj.mp hw;exact tE (hu u hu')
 generalize ews:us.map stT=ws at *;have hwsl:ws.length=us.length:=by rw[←ews,δ]
 have k1':H1 wl=some (.lst (ws.map V.str)):=by rw[k1,←ews,zf];rfl
 have hw8:ws.length<=8:=by omega
 have st1:=jF.st3 g1 hst;have nwp:wl≠p:=fun z=>by obtain⟨o,e⟩:=aNh hst;rw[←z,hwl]at e;cases e
 have hnl1:=(kL (xs:=[p]) g1).seq hnl;refine⟨_,rfl,_,rfl,wl,_,rfl,.inl (SqL.of k1'),p,_,rfl,(by rw[δ];omega),(by rw[δ];omega),st1,fun a H2 ha d2=>?_⟩;rw[δ]at ha;have ha':a<ws.length:=by omega
 have hnl2:=(d2.offs (by simp)).seq hnl1;refine⟨_,rfl,_,rfl,_,rfl,nl,_,rfl,.inl (jV.seq hnl2),p,_,rfl,(by rw[δ];omega),(by rw[δ];omega),d2.1,fun b H3 hb d3=>?_⟩;rw[δ]at hb;have hb':b<ns.length:=by omega
 have hnl3:=(d3.offs (by simp)).seq hnl2;refine⟨nl,_,_,_,rfl,rfl,jV.seq hnl3,hV (η hb'),?_⟩;have hot:=wR (hnm _ (BF hb'));generalize ns[b]=ot at *;have hotW:WOk ot:=nM (by omega) fun c hc=>yo (by decide) (hot.2 c hc);refine⟨_,rfl,p,8,rfl,by decide,by decide,d3.1,fun nu H4 hnu d4=>?_⟩;have kw4:=d4.2 wl _ nwp (d3.2 wl _ nwp (d2.2 wl _ nwp k1'));have D4:Drawn p Hb H4:=⟨d4.1,fun b o h e=>d4.2 b o h (d3.2 b o h (d2.2 b o h (g1 b o e)))⟩;have hw4:SqL K H4 wl (ws.map V.str):=SqL.of kw4;have hwa:ws[a]?=some ws[a]:=η ha';have hwaW:=hw6 _ (BF ha');generalize ws[a]=wa at *;have hwaO:WOk wa:=nM (by omega) hwaW.2;have one:∀{m:Str},WOk m->∀w∈[m],WOk w:=fun h w hw=>by rw[τ.mp hw];exact h
 have mO:∀{m:Str}{b:Nat},WOk m->a<=b->(mid ws a [m] b).length<=9/\∀w∈mid ws a [m] b,WOk w:=fun h hb=>aQq hws (one h) hw8 (μ _) hb;refine⟨_,rfl,_,rfl,_,rfl,wl,_,rfl,hw4,fun s1 hs1=>?_⟩;rw[cutD,←List.map_dropLast];clear 1 s1 H5 g5 k5 hs1;have w1:WL K H5 (.ref s1):=gV k5 ⟨by rw[AZ];omega,fun w h=>hws w (List.dropLast_subset _ h)⟩;refine lG (K:=K) (m:=ot) rfl (g5.seq hw4) hw8 (fun H' Q' g q=>⟨_,rfl,q⟩) (fun s2 H6 g6 _ k6=>?_);have w2:WL K H6 (.ref s2):=gV k6 (aAp hws hotW hw8);refine iZ (K:=K) (m:=wa) (b:=a) rfl rfl ((g5.trans g6).seq hw4) hw8 (fun H' Q' g q=>⟨_,rfl,_,rfl,wl,_,_,_,rfl,rfl,((g5.trans g6).trans g).seq hw4,hV hwa,q⟩) (fun H' Q' q=>⟨_,rfl,q⟩) (fun s3 H7 g7 _ k7=>?_);have w3:WL K H7 (.ref s3):=gV k7 (mO hwaO (μ _));refine iZ (K:=K) (m:=ot) (b:=a+1) rfl rfl (((g5.trans g6).trans g7).seq hw4) hw8 (fun H' Q' g q=>⟨_,rfl,q⟩) (fun H' Q' q=>⟨_,rfl,_,_,rfl,rfl,q⟩) (fun s4 H8 g8 _ k8=>?_);have w4:WL K H8 (.ref s4):=gV k8 (mO hotW (BE _));refine⟨aLh,fun sm hsm=>?_⟩;clear 1 sm H9 g9 k9 hsm;have hO:jF H8 (offs [sm] H9):=mD hsm g9;have g48:=((g5.trans g6).trans g7).trans g8;have hw9:=(g48.trans g9).seq hw4;have hwo:SqL K (offs [sm] H9) wl (ws.map V.str):=(g48.trans hO).seq hw4;have wz:∀z∈[V.ref s1,.ref s2,.ref s3,.ref s4],WL K (offs [sm] H9) z:=fun z hz=>by
  simp only[ς,Ω,or_false]at hz;rcases hz with rfl|rfl|rfl|rfl
  ·exact w1.same (((g6.trans g7).trans g8).trans hO)
  ·exact w2.same ((g7.trans g8).trans hO)
  ·exact w3.same (g8.trans hO)
  ·exact w4.same hO
 have h9:=aQz (n:=nu) (w:=wa) (by omega) hwaW;have wal:wa.length<=2000:=by omega
 refine⟨_,rfl,_,rfl,CT (zE (by omega)) (by decide),_,rfl,_,rfl,wl,_,_,_,rfl,rfl,hw9,hV hwa,_,_,rfl,rfl,eQ (by ac_rfl) wal,_,rfl,_,rfl,wl,_,_,_,rfl,rfl,hw9,hV hwa,_,_,rfl,rfl,eQ wal (by ac_rfl),(by show 9<=ψ;decide),fun ll hll=>?_⟩;clear 1 ll H10 g10 k10 hll;have k10':H10 ll=some (.lst ((nr9 nu wa).map V.str)):=k10;have nls:ll≠sm:=fun z=>by rw[z,k9]at hll;cases hll
 have s910:jF (offs [sm] H9) (offs [sm] H10):=kL g10;refine⟨ll,rfl,⟨_,SqL.of k10'⟩,vN (xs:=(nr9 nu wa).map V.str) (fun j σ H'=>∃(o8:Option V) (zs:List V),σ = [some (.ref p),some (.ref sl),some (.ref nl),some (.ref wl),some (.int a),some (.str ot),some (.int nu),some (.ref sm),o8]/\But sm H10 H'/\H' sm=some (.lst zs)/\jF (offs [sm] H10) (offs [sm] H')/\(∀z∈zs,WL K (offs [sm] H') z)/\zs.length<=4+j) ⟨_,_,rfl,But.refl,g10 _ _ k9,jF.refl _,aEq wz s910,μ _⟩ (fun j σ H' _ z=>?_) (fun j x σ H' hx z=>?_) (fun σ H' z=>?_)⟩
 ·obtain⟨o8,zs,rfl,g,_⟩:=z;exact SqL.of (g _ _ nls k10')
 ·obtain⟨o8,zs,rfl,g,kz,go,hz,hzl⟩:=z;obtain⟨w,hw,rfl⟩:=vK hx;have hj9:j<9:=(θ.mp hw).1;have hwW:=h9 w (ο hw);have hwH:=jV.seq ((s910.trans go).seq hwo);refine⟨_,rfl,.inl ⟨rfl,_,SqL.of kz⟩,?_⟩;refine iZ (K:=K) (m:=w) (b:=a+1) rfl rfl hwH hw8 (fun H' Q' g q=>⟨_,rfl,q⟩) (fun H' Q' q=>⟨_,rfl,_,_,rfl,rfl,q⟩) (fun s5 H11 g11 hs5 k11=>?_);have kz11:=g11 _ _ kz;have ns5:s5≠sm:=fun z=>by rw[z,kz]at hs5;cases hs5
  refine⟨sm,_,_,rfl,rfl,kz11,zy (show zs.length<=13 by omega) (by decide),?_⟩;generalize e12:upd H11 sm _=H12;have eo:offs [sm] H12=offs [sm] H11:=by rw[←e12];exact cQ
  obtain⟨g12,k12⟩:=zA e12;refine⟨_,_,rfl,(g.trans (But.of g11)).trans g12,k12,by rw[eo];exact go.trans (kL g11),?_,by rw[ι,zk];omega⟩;rw[eo];exact aOc (aEq hz (kL g11)) (gV (qS (fun z=>ns5 (τ.mp z)) k11) (mO hwW (BE _)))
 ·obtain⟨o8,zs,rfl,g,kz,go,hz,hzl⟩:=z;have hzl':zs.length<=13:=hzl;have hw5:=jV.seq ((s910.trans go).seq hwo);have hz5:=aEq hz jV;have hS:jF H4 H':=fun b o e=>g b o (jL (g48 b o e) hsm) (g10 _ _ (g9 _ _ (g48 b o e)));have D5:Drawn p Hb H':=D4.keep hS;refine⟨_,rfl,?_⟩;refine lG (K:=K) (m:=ε "tag") rfl hw5 hw8 (fun H' Q' g q=>q) (fun t1 H6 g6 _ k6=>?_);have v1:WL K H6 (.ref t1):=gV k6 (aAp hws (wD _ (by ac_rfl)) hw8);refine lG (K:=K) (m:=ε "0") rfl (g6.seq hw5) hw8 (fun H' Q' g q=>q) (fun t2 H7 g7 _ k7=>?_);have v2:WL K H7 (.ref t2):=gV k7 (aAp hws (wD _ (by ac_rfl)) hw8);refine iZ (K:=K) (m:=ε "") (b:=a) rfl rfl ((g6.trans g7).seq hw5) hw8 (fun H' Q' g q=>q) (fun H' Q' q=>⟨_,rfl,q⟩) (fun t3 H8 g8 _ k8=>?_);have v3:WL K H8 (.ref t3):=gV k8 (mO (wD _ (by ac_rfl)) (μ _));refine lG (K:=K) (m:=ε "") rfl (((g6.trans g7).trans g8).seq hw5) hw8 (fun H' Q' g q=>q) (fun t4 H9 g9 _ k9=>?_);have v4:WL K H9 (.ref t4):=gV k9 (aAp hws (wD _ (by ac_rfl)) hw8);refine⟨iF,fun x1 hx1=>?_⟩;clear 1 x1 H10 g10 k10 hx1;have g610:=(((g6.trans g7).trans g8).trans g9).trans g10;refine⟨_,rfl,x1,wl,_,_,rfl,rfl,SqL.of k10,g610.seq hw5,(by rw[δ,ym];show 1+_<=_;omega),fun t5 ht5=>?_⟩;clear 1 t5 H11 g11 k11 ht5;have v5:WL K H11 (.ref t5):=gV (ws:=ε "" :: ws) k11 ⟨by rw[Δ];omega,fun w h=>by
   rcases ς.mp h with rfl|h
   ·exact wD _ (by ac_rfl)
   ·exact hws w h⟩
  refine⟨aMv,fun fl hfl=>?_⟩;generalize e12:upd H11 fl _=H12;obtain⟨g12,k12⟩:=qN e12 hfl;have g612:=(g610.trans g11).trans g12;refine⟨sm,fl,_,_,rfl,rfl,SqL.of (g612 _ _ kz),SqL.of k12,(by rw[ym];show zs.length+5<=_;omega),fun al hal=>?_⟩;clear 1 al H13 g13 k13 hal;have g613:=g612.trans g13;have hall:∀z∈zs++[V.ref t1,.ref t2,.ref t3,.ref t4,.ref t5],WL K H13 z:=fun z hz'=>by
   rcases za.mp hz' with h|h
   ·exact(hz5 z h).same g613
   ·simp only[ς,Ω,or_false]at h;have ga:=(g12.trans g13);have gb:=(g10.trans g11).trans ga;rcases h with rfl|rfl|rfl|rfl|rfl
    ·exact v1.same (((g7.trans g8).trans g9).trans gb)
    ·exact v2.same ((g8.trans g9).trans gb)
    ·exact v3.same (g9.trans gb)
    ·exact v4.same gb
    ·exact v5.same ga
  have hal18:(zs++[V.ref t1,.ref t2,.ref t3,.ref t4,.ref t5]).length<=18:=by rw[ι];show zs.length+5<=18;omega
  generalize zs++[V.ref t1,.ref t2,.ref t3,.ref t4,.ref t5]=xs at *;refine⟨_,rfl,al,rfl,⟨_,SqL.of k13⟩,vQ (xs:=xs) (fun j ys G=>jF H13 G/\∃ps:List Str,ys=ps.map V.str/\ps.length<=j/\∀x∈ps,aF x) ⟨jF.refl _,[],rfl,μ _,fun x h=>by cases h⟩ (fun j ys G _ z=>?_) (kN (by omega)) (fun j x ys G hx z=>?_) (fun ys G z r hr=>?_)⟩
  ·obtain⟨gG,ps,rfl,hpl,_⟩:=z;exact⟨SqL.of (gG _ _ k13),by rw[δ];exact hpl⟩
  ·obtain⟨gG,ps,rfl,hpl,hps⟩:=z;obtain⟨y,L,rfl,hy,hL9,hLw⟩:=(hall x (ο hx)).same gG;refine⟨_,rfl,zL,fun n0 hn0=>?_⟩;clear 1 n0 G1 gg1 kk1 hn0;refine⟨y,n0,_,rfl,rfl,gg1.seq hy,SqL.of kk1,_,rfl,vE (fun c=>?_) (fun c=>dX ⟨⟨gG.trans gg1,ps,rfl,by omega,hps⟩,_,rfl⟩)⟩;refine⟨_,rfl,iF,fun n1 hn1=>?_⟩;clear 1 n1 G2 gg2 kk2 hn1;have gG2:=(gG.trans gg1).trans gg2;refine⟨y,n1,L,_,rfl,rfl,(gg1.trans gg2).seq hy,SqL.of kk2,_,rfl,vE (fun c2=>?_) (fun c2=>⟨⟨gG2,ps,rfl,by omega,hps⟩,_,rfl⟩)⟩;have hLne:L≠[]:=fun z=>by rw[z]at c;exact absurd c (by decide)
   have hLn1:L≠[ε ""]:=fun z=>by rw[decide_eq_true z]at c2;exact absurd c2 (by decide)
   have hsum:(L.map (·.length)).sum<=L.length*7:=cD fun w h=>(hLw w h).1;refine⟨rfl,_,rfl,_,y,L,rfl,rfl,(gg1.trans gg2).seq hy,(by show _+L.length*1<=_;omega),⟨gG2,ps++[yd zP L],?_,?_,?_⟩,_,rfl⟩
   ·rw[ξ];rfl
   ·rw[ι,zk];omega
   ·intro x hx;rcases za.mp hx with h|h
    ·exact hps x h
    ·rw[τ.mp h];exact aLt hLne hLn1 hL9 hLw
  ·obtain⟨gG,ps,rfl,hpl,hps⟩:=z;clear 1 r GR gR kR hr;exact q r ps GR ((D5.keep (g613.trans gG)).keep gR) kR hps
theorem aQt{k r:Nat}(hR : 12<=r/\8*r<=200)(F:Fun K "law" "law" aMp f fd){ub:Addr}{rc:zb}(dc:Df K mg "_law_cell" ub rc ["_law_script","_law_k"])(mr:jJ k ub rc ["_law_script","_law_k"] (spLc K)){ux:Addr}{uc:zb}(gw:Df K mg "_law_box" ux uc ["_law_cell_here"])(uy:jJ k ux uc ["_law_cell_here"] aQi){qb:Addr}{ny:zb}(jw:Df K mg "_law_shapes" qb ny ["_law_box_here"])(vn:jJ k qb ny ["_law_box_here"] (aLp K r)){jx:Addr}{jg:zb}(gv:Df K mg "_law_shape_text" jx jg ["_law_shapes_here"])(sf:jJ k jx jg ["_law_shapes_here"] (spTx K)){og:Addr}{mh:zb}(jb:Df K mg "read_shapes" og mh ["text"])(vg:jJ k og mh ["text"] (spRd (jK 0) Vf K r)){gi:Addr}{fq:zb}(be:Df K mg "_law_spots" gi fq ["_law_shapes_here","_law_kind_here","_law_steps_here"])(gj:jJ k gi fq ["_law_shapes_here","_law_kind_here","_law_steps_here"] (aGo K 9)){rf:Addr}{qd:zb}(fb:Df K mg "_law_asked" rf qd ["_law_shapes_here","_law_drawn_here","_law_path"])(rg:jJ k rf qd ["_law_shapes_here","_law_drawn_here","_law_path"] (spAs (jK 0) Vf K)){bo:Addr}{bb:zb}(aa:Df K mg "_law_take" bo bb ["_law_box_here","_law_many"])(ak:jJ k bo bb ["_law_box_here","_law_many"] nB){ud:Addr}{rh:zb}(mt:Df K mg "_law_near" ud rh ["_law_box_here","_law_steps_here","_law_names_here"])(wx:jJ k ud rh ["_law_box_here","_law_steps_here","_law_names_here"] (spNr K)):jJ (k+2) f fd ["_law_script"] (aHk K):=by
 w_cond yR;obtain⟨a,ns,rfl,hS,hlen,q⟩:=h;refine⟨_,(jC (jU (i:=1) yR.nd rfl (by walk_at"o") (jK vn hr rfl jw.m jw.k jw.b .nil jQ (jA (jK uy hr rfl gw.m gw.k gw.b .nil jQ (jA (jK mr hr rfl dc.m dc.k dc.b .nil jQ (jA (pv 0) (jA jE jB))) jB)) jB))) (jC (jU (i:=2) yR.nd rfl (by walk_at"o") (jK vg hr rfl jb.m jb.k jb.b .nil jQ (jA (jK sf hr rfl gv.m gv.k gv.b .nil jQ (jA (pv 1) jB)) jB))) (jC (gK (i:=3) ["_law_name","_law_fields"] [] [] yR.nd rfl rfl rfl (kU (pv 1)) rfl trivial trivial (fun _ _ _ _=>(yX (K:=K) (n:=2) rfl rfl (jW (jM (i:=0) (show yt (["_law_name","_law_fields"]:List Str) from by ac_rfl) rfl (yp rfl)) (jW (jM (i:=1) (show yt (["_law_name","_law_fields"]:List Str) from by ac_rfl) rfl (yp rfl)) qL)))) (fun _ _ _ _=>qB) (fun _ _ _ _=>(pv 0))) (jC (vF yw rfl (kU (pv 1)) (xZ rfl (jW (jM (i:=4) yR.nd rfl (yp rfl)) (jW (jM (i:=5) yR.nd rfl (yp rfl)) qL))) (jD (jU (i:=3) yR.nd rfl (by walk_at"o") (jS qD (pv 3) (qF ["_law_own","_law_kind_here"] [] [] rfl (kU (pv 5)) rfl trivial trivial (fun _ _ _ _=>(yX (K:=K) (n:=2) rfl rfl (jW (jM (i:=0) (show yt (["_law_own","_law_kind_here"]:List Str) from by ac_rfl) rfl (yp rfl)) (jW (jM (i:=1) (show yt (["_law_own","_law_kind_here"]:List Str) from by ac_rfl) rfl (yp rfl)) qL)))) (fun _ _ _ _=>qB) (fun _ _ _ _=>(pv 0))))))) (jC (gK (i:=6) ["_law_steps_here","_law_kind_here"] [] [] yR.nd rfl rfl rfl (kU (jK gj hr rfl be.m be.k be.b .nil jQ (jA (pv 1) (jA (qP (jA jH (jA (jS iR (jZ kG rfl M.len yn (jA (pv 1) jB)) jE) jB))) (jA (kK jB) jB))))) rfl trivial trivial (fun _ _ _ _=>(yX (K:=K) (n:=2) rfl rfl (jW (jM (i:=0) (show yt (["_law_steps_here","_law_kind_here"]:List Str) from by ac_rfl) rfl (yp rfl)) (jW (jM (i:=1) (show yt (["_law_steps_here","_law_kind_here"]:List Str) from by ac_rfl) rfl (yp rfl)) qL)))) (fun _ _ _ _=>qB) (fun _ _ _ _=>(pv 0))) (jC (jU (i:=7) yR.nd rfl (by walk_at"o") (jS zS (jK mr hr rfl dc.m dc.k dc.b .nil jQ (jA (pv 0) (jA jE jB))) (jZ kG rfl M.len yn (jA (pv 6) jB)))) (jC (vF yw rfl (kU (kZ qM (jS qD (pv 6) (pv 6)) (qE (pv 7)) (qE (jS qO (pv 7) jE)))) (jM (i:=8) yR.nd rfl (yp rfl)) (jD (kM (yK (xJ (jK rg hr rfl fb.m fb.k fb.b .nil jQ (jA (pv 2) (jA (pv 1) (jA (xA zg Bi Bj eZ jH (jA (qF ["_law_step_here"] [] [] rfl (kU (pv 8)) rfl trivial trivial (fun _ _ _ _=>(jM (i:=0) (show yt (["_law_step_here"]:List Str) from by ac_rfl) rfl (yp rfl))) (fun _ _ _ _=>qB) (fun _ _ _ _=>(qR (xD.or xW lL) rfl M.str boot_str (jA (pv 0) jB)))) jB)) jB)))))) (jD (jJ lU)) jR))) (jC (vF yw rfl (kU (jS qD (kK (jA (jK mr hr rfl dc.m dc.k dc.b .nil jQ (jA (pv 0) (jA jE jB))) jB)) (kZ qM (pv 0) (qE jE) (qE jE)))) (jM (i:=9) yR.nd rfl (yp rfl)) (jC (jU (i:=10) yR.nd rfl (by walk_at"o") (jK uy hr rfl gw.m gw.k gw.b .nil jQ (jA (pv 9) jB))) (jC (jU (i:=8) yR.nd rfl (by walk_at"o") (jX kF (pv 6) (jK ak hr rfl aa.m aa.k aa.b .nil jQ (jA (pv 10) (jA (jZ kG rfl M.len yn (jA (pv 6) jB)) jB))) (fun _ _=>rfl))) (jD (vF yw rfl (kU (jK wx hr rfl mt.m mt.k mt.b .nil jQ (jA (pv 10) (jA (pv 8) (jA (pv 3) jB))))) (jM (i:=11) yR.nd rfl (yp rfl)) (jD (kM (yK (xJ (jK rg hr rfl fb.m fb.k fb.b .nil jQ (jA (pv 2) (jA (pv 1) (jA (pv 11) jB)))))) (jD (jJ lU)) jR))))))) (jD (jJ lU)))))))))),?_⟩;refine⟨_,rfl,a,ns,0,rfl,hS,by decide,by decide,fun v0 H1 g1=>⟨v0,rfl,fun p H2 hp d2=>⟨p,rfl,d2.1,hR.1,fun dl S H3 d3 hdl hlx hW hne h4=>?_⟩⟩⟩;have g13:jF H1 H3:=bJ (d2.trans d3) hp;refine⟨_,rfl,dl,S,rfl,hlx,hW,hne,fun H4 g4=>⟨S,rfl,hW,hne,hR.1,hR.2,fun ra dx t sa H5 g5 kr kt sw=>?_⟩⟩;obtain⟨sa0,z,rfl⟩ : ∃sa0 z,sa=sa0++[z]:=by
  rcases BO sa with rfl|⟨s0,z,e⟩
  ·exact absurd (AX.mp sw.1.symm) hne
  ·exact⟨s0,z,by rw[e,BP]⟩
 have hro:RO (jK 0) Vf K H5 ra (sa0++[z]) S:=⟨dx,t,kr,kt,sw⟩;have hlx5:=(hlx.same g4).same g5;have hS5:=g5.seq (g4.seq (g13.seq (g1.seq hS)));obtain⟨as,ha,hLW⟩:=id hlx5;have hal:=hLW.len;have hS0:=Aq.mpr hne;refine⟨_,rfl,dl,rfl,⟨_,ha⟩,yI (xs:=as.map V.ref) (fun j ys H'=>H'=H5/\ys=((S.take j).map fun s=>V.str s.1)) ⟨rfl,rfl⟩ (fun j ys H' _ z=>⟨by rw[z.1];exact ha,by rw[z.2,δ,yh];exact Aa _ _⟩) (kN (by rw[δ];omega)) (fun j x ys H' os ho hx z=>?_) (fun ys H' z nl hnl=>?_)⟩
 ·obtain⟨rfl,rfl⟩:=z;obtain⟨o1,o2,rfl⟩:=oV ho;obtain⟨u,hu,rfl⟩:=qH hx;obtain⟨s,hs,l,ps,m1,m2,m3⟩:=hLW.get hu;exact⟨u,_,rfl,m1,rfl,_,_,rfl,_,_,rfl,rfl,_,rfl,⟨rfl,(vM hs).symm⟩,[_,_],rfl,rfl⟩
 obtain⟨e',rfl⟩:=z;subst e';clear 1 nl H6 g6 k6 hnl;have k6':H6 nl=some (.lst ((S.map (·.1)).map V.str)):=by rw[k6,δ,hal,An,zf];rfl
 have hro6:=dI hro g6;have hlx6:=hlx5.same g6;have hS6:=g6.seq hS5;refine⟨_,rfl,dl,rfl,⟨_,g6.seq ha⟩,vN (xs:=as.map V.ref) (fun j σ H'=>∃(nl:Addr) (nn:List Str) (o4 o5:Option V),σ = [some (.ref a),some (.ref dl),some (.ref ra),some (.ref nl),o4,o5,none,none,none,none,none,none]/\jF H6 H'/\SqL K H' nl (nn.map V.str)/\nn≠[]/\nn.length<=4+6*j/\∀x∈nn,kP x=true) ⟨nl,S.map (·.1),_,_,rfl,jF.refl _,SqL.of k6',(by simpa using hne),(by rw[δ];omega),fun x hx=>by obtain⟨s,hs,rfl⟩:=yj.mp hx;exact hW.nm s hs⟩ (fun j σ H' _ z=>?_) (fun j x σ H' hx z=>?_) (fun σ H' z=>?_)⟩
 ·obtain⟨nl,nn,o4,o5,rfl,g,_⟩:=z;exact g.seq (g6.seq ha)
 ·obtain⟨nl,nn,o4,o5,rfl,g,hnl,hn0,hn1,hn2⟩:=z;obtain⟨u,hu,rfl⟩:=qH hx;have hj5:j<as.length:=(θ.mp hu).1;obtain⟨s,hs,l,ps,m1,m2,m3⟩:=(hLW.same (g6.trans g)).get hu;have hfew:=hW.good.few j s hs;refine⟨u,_,rfl,m1,rfl,_,_,rfl,_,_,rfl,rfl,?_⟩;refine⟨_,rfl,_,rfl,l,rfl,⟨_,m2⟩,yI (xs:=ps.map V.ref) (fun i ys G=>G=H'/\ys=((s.2.take i).map fun f=>V.str f.1)) ⟨rfl,rfl⟩ (fun i ys G _ z=>⟨by rw[z.1];exact m2,by rw[z.2,δ,yh];exact Aa _ _⟩) (kN (by rw[δ,m3.len];omega)) (fun i x ys G os ho hx z=>?_) (fun ys G z n2 hn2'=>?_)⟩
  ·obtain⟨e',rfl⟩:=z;subst e';obtain⟨o1,o2,rfl⟩:=oV ho;obtain⟨v,hv,rfl⟩:=qH hx;obtain⟨nm',kd',kk,hfs,ht,hko⟩:=m3.get hv;exact⟨v,_,rfl,ht,rfl,_,_,rfl,_,_,rfl,rfl,_,rfl,⟨rfl,(vM hfs).symm⟩,[_,_],rfl,rfl⟩
  ·obtain⟨e',rfl⟩:=z;subst e';generalize e7:upd G n2 _=H7;obtain⟨g7,k7⟩:=qN e7 hn2';have k7':H7 n2=some (.lst ((s.2.map (·.1)).map V.str)):=by rw[k7,δ,m3.len,An,zf];rfl
   refine⟨nl,n2,_,_,rfl,rfl,g7.seq hnl,SqL.of k7',(by rw[δ,δ,δ,ym];omega),fun n3 hn3=>?_⟩;clear 1 n3 H8 g8 k8 hn3;refine⟨n3,nn++s.2.map (·.1),_,_,rfl,g.trans (g7.trans g8),by rw[ξ];exact SqL.of k8,fun z=>hn0 (Cr.mp z).1,by rw[ι,δ];omega,fun x hx=>?_⟩;rcases za.mp hx with h|h
   ·exact hn2 x h
   ·obtain⟨f,hf,rfl⟩:=yj.mp h;exact hW.fnm s (ο hs) f hf
 obtain⟨nl,nn,o4,o5,rfl,g7,hnn,hn0,hn1,hn2⟩:=z;rw[δ,hal]at hn1;have el:(((as.map V.ref).length:Nat):Int)-1=((S.length-1:Nat):Int):=by rw[δ];omega
 have ha7:=(g6.trans g7).seq ha;refine⟨_,rfl,_,rfl,dl,_,rfl,.inl ha7,_,_,rfl,rfl,vD,fun t0 ht0=>?_⟩
 (try dsimp only)
 rw[el];clear 1 t0 H8 g8 k8 ht0;refine⟨zL,fun l0 hl0=>?_⟩;clear 1 l0 H9 g9 k9 hl0;have g69:=(g7.trans g8).trans g9;refine⟨dl,t0,l0,.nest (S.length-1),S,[],rfl,(by show 2*(S.length-1)+2<=8;omega),(by show S.length-1<S.length;omega),hW,.nest (SqT.of (g9 _ _ k8)),hlx6.same g69,SqL.of k9,(by show 0+8<=8;decide),(fun u h=>by cases h),.inr ⟨_,rfl⟩,fun sp ts HA gA hsp hts hne6 h6=>?_⟩;have h6':=yo h6 (aMn (μ 8));refine⟨sp,rfl,⟨_,hsp⟩,yI (xs:=ts.map V.ref) (fun j ys G=>G=HA/\∃qs:List Addr,ys=qs.map V.ref/\qs.length=j/\∀x∈qs,SpW K HA x) ⟨rfl,[],rfl,rfl,fun x h=>by cases h⟩ (fun j ys G _ z=>?_) (by rw[δ,ym];omega) (fun j x ys G os ho hx z=>?_) (fun ys G z ql hql=>?_)⟩
 ·obtain⟨rfl,qs,rfl,hq,_⟩:=z;exact⟨hsp,by rw[δ,hq];exact μ _⟩
 ·obtain⟨e',qs,rfl,hq,hqs⟩:=z;subst e';obtain⟨o1,o2,rfl⟩:=oV ho;obtain⟨u,hu,rfl⟩:=qH hx;obtain⟨y,kk,hy,hw⟩:=hts u (ο hu);refine⟨u,_,rfl,hy,rfl,_,_,rfl,_,_,rfl,rfl,_,rfl,⟨rfl,qs++[y],by rw[ξ];rfl,by rw[ι,hq];rfl,fun x hx=>?_⟩,[_,_],rfl,rfl⟩;rcases za.mp hx with h|h
  ·exact hqs x h
  ·rw[τ.mp h];exact hw
 obtain⟨e',qs,rfl,hq,hqs⟩:=z;subst e';rw[δ]at hq;have hqne : 0<qs.length:=by rw[hq];exact Aq.mpr hne6
 have hq6:qs.length<=1679616:=by omega
 clear 1 ql HB gB kB hql;have g6B:=(g69.trans gA).trans gB;have hnB:=((((g8.trans g9).trans gA).trans gB)).seq hnn;have hqB:=SpW.all hqs gB;clear hqs;refine⟨_,rfl,a,ns,1,rfl,g6B.seq hS6,by decide,by decide,fun v1 HC gC=>⟨_,rfl,ql,_,rfl,.inl (SqL.of (gC _ _ kB)),_,_,rfl,rfl,(by rw[δ];omega),?_⟩⟩
 (try dsimp only)
 generalize v1 % (((qs.map V.ref).length:Nat):Int)=st;have kC:=gC _ _ kB;refine⟨_,rfl,_,rfl,ql,ql,_,_,rfl,rfl,SqL.of kC,SqL.of kC,(by rw[δ,ym];omega),fun c1 hc1=>?_⟩;clear 1 c1 HD gD kD hc1;refine⟨_,rfl,_,rfl,_,rfl,_,_,rfl,rfl,_,rfl,c1,_,rfl,SqL.of kD,fun c2 hc2=>?_⟩;have hxs:∀x∈zW (qs.map V.ref++qs.map V.ref) (some st) (some (st+24)),∃y∈qs,x=.ref y:=fun x hx=>by
  rcases za.mp (aGd hx) with h|h
  ·obtain⟨y,hy,rfl⟩:=yj.mp h;exact⟨y,hy,rfl⟩
  ·obtain⟨y,hy,rfl⟩:=yj.mp h;exact⟨y,hy,rfl⟩
 generalize zW (qs.map V.ref++qs.map V.ref) (some st) (some (st+24))=xs at *;clear 1 c2 HE gE kE hc2;have gBE:=(gC.trans gD).trans gE;have g6E:=g6B.trans gBE;have hroE:=dI hro6 g6E;have hlxE:=hlx6.same g6E;have hSE:=g6E.seq hS6;have hnE:=gBE.seq hnB;have hqE:=SpW.all hqB gBE;have kqE:HE ql=some (.lst (qs.map V.ref)):=gBE _ _ kB;refine⟨c2,rfl,⟨_,SqL.of kE⟩,vN (xs:=xs) (fun j σ H'=>∃(o8:Option V),σ = [some (.ref a),some (.ref dl),some (.ref ra),some (.ref nl),o4,o5,some (.ref ql),some (.int st),o8,none,none,none]/\jF HE H') ⟨_,rfl,jF.refl _⟩ (fun j σ H' _ z=>?_) (fun j x σ H' hx z=>?_) (fun σ H' z=>?_)⟩
 ·obtain⟨o8,rfl,g⟩:=z;exact SqL.of (g _ _ kE)
 ·obtain⟨o8,rfl,g⟩:=z;obtain⟨y,hy,rfl⟩:=hxs x (ο hx);obtain⟨us,hus,hu0,hu8,huw⟩:=(hqE y hy).same g;refine⟨_,rfl,_,rfl,rfl,_,rfl,y,rfl,⟨_,hus⟩,vQ (xs:=us) (fun j ys G=>G=H'/\ys=((us.take j).map fun u=>V.str (stT u))) ⟨rfl,rfl⟩ (fun j ys G _ z=>⟨by rw[z.1];exact hus,by rw[z.2,δ,yh];exact Aa _ _⟩) (kN (by omega)) (fun j x ys G hx z=>?_) (fun ys G z wl hwl=>?_)⟩
  ·obtain⟨rfl,rfl⟩:=z;have hs:=vM (f:=fun u=>V.str (stT u)) hx;rcases huw x (ο hx) with⟨w,rfl,hw⟩|⟨n,rfl,hn⟩
   ·exact⟨_,rfl,.inr ⟨w,rfl,⟨rfl,hs.symm⟩,_,rfl⟩⟩
   ·exact⟨_,rfl,.inl ⟨_,rfl,CT (zE (by omega)) (by decide),⟨rfl,hs.symm⟩,_,rfl⟩⟩
  ·obtain⟨rfl,rfl⟩:=z;clear 1 wl H1 g1 k1 hwl;have k1':H1 wl=some (.lst ((us.map stT).map V.str)):=by rw[k1,An,zf];rfl
   have hsm:=aSv hu8 huw;exact⟨_,wl,us.map stT,rfl,rfl,SqL.of k1',(by rw[δ];show _+us.length*1<=_;omega),ra,dl,z,sa0,S,_,rfl,dI hroE (g.trans g1),hW,hlxE.same (g.trans g1),aSb hu0 hu8 huw,fun H2 g2=>⟨_,rfl,kS (by decide) ⟨_,rfl,(g.trans g1).trans g2⟩⟩⟩
 obtain⟨o8,rfl,gF⟩:=z;refine⟨_,rfl,a,ns,2,rfl,gF.seq hSE,by decide,by decide,fun v2 HG gG=>⟨iF,fun d1 hd1=>?_⟩⟩;clear 1 d1 HH gH kH hd1;refine⟨_,rfl,_,rfl,_,rfl,a,_,rfl,((gF.trans gG).trans gH).seq hSE,fun d2 hd2=>?_⟩;have hcut:=nZ (ns.map V.int) (some 3) (some 8);rw[δ]at hcut;have hxs2:∀x∈[V.int v2]++zW (ns.map V.int) (some 3) (some 8),∃c,x=.int c:=fun x hx=>by
  rcases za.mp hx with h|h
  ·exact⟨v2,τ.mp h⟩
  ·obtain⟨c,_,rfl⟩:=yj.mp (aGd h);exact⟨c,rfl⟩
 generalize zW (ns.map V.int) (some 3) (some 8)=cs at *;clear 1 d2 HI gI kI hd2;refine⟨d1,d2,_,_,rfl,rfl,SqL.of (gI _ _ kH),SqL.of kI,(by rw[ym];show 1+cs.length<=_;omega),fun d3 hd3=>?_⟩;clear 1 d3 HJ gJ kJ hd3;have gEJ:=(gF.trans gG).trans ((gH.trans gI).trans gJ);refine⟨d3,rfl,⟨_,SqL.of kJ⟩,vN (xs:=[V.int v2]++cs) (fun j σ H'=>∃(o8 o9 o10 o11:Option V),σ = [some (.ref a),some (.ref dl),some (.ref ra),some (.ref nl),o4,o5,some (.ref ql),some (.int st),o8,o9,o10,o11]/\jF HJ H') ⟨_,_,_,_,rfl,jF.refl _⟩ (fun j σ H' _ z=>?_) (fun j x σ H' hx z=>?_) (fun σ H' z=>?_)⟩
 ·obtain⟨o8,o9,o10,o11,rfl,g⟩:=z;exact SqL.of (g _ _ kJ)
 ·obtain⟨o8,o9,o10,o11,rfl,g⟩:=z;obtain⟨c,rfl⟩:=hxs2 x (ο hx);have gE':=gEJ.trans g;refine⟨_,rfl,c,rfl,fun p1 H1 hp1 d1'=>?_⟩;have s1:=bJ d1' hp1;have kq1:=s1 _ _ (gE' _ _ kqE);refine⟨_,rfl,_,rfl,_,rfl,ql,_,rfl,.inl (SqL.of kq1),p1,_,rfl,(by rw[δ];omega),(by rw[δ];omega),d1'.1,fun b H2 hb d2'=>?_⟩;rw[δ]at hb;have d12:=d1'.trans d2';have s2:=bJ d12 hp1;have so:jF H' (offs [p1] H2):=mD hp1 s2;have hb':b<qs.length:=by omega
  refine⟨ql,_,_,_,rfl,rfl,SqL.of (s2 _ _ (gE' _ _ kqE)),dO (η hb'),?_⟩;obtain⟨us,hus,hu0,hu8,huw⟩:=((hqE _ (BF hb')).same gE').same so;refine⟨_,rfl,_,rfl,_,rfl,p1,_,nl,us,nn,rfl,d2'.1,hus,hu0,hu8,huw,so.seq (gE'.seq hnE),hn0,(by omega),hn2,fun l ps H3 d3' kl hps=>?_⟩;have s3:=bJ (d12.trans d3') hp1;refine⟨l,rfl,⟨_,SqL.of kl⟩,vN (xs:=ps.map V.str) (fun j σ H''=>∃(o8 o9 o10 o11:Option V),σ = [some (.ref a),some (.ref dl),some (.ref ra),some (.ref nl),o4,o5,some (.ref ql),some (.int st),o8,o9,o10,o11]/\jF H3 H'') ⟨_,_,_,_,rfl,jF.refl _⟩ (fun j σ H'' _ z=>?_) (fun j x σ H'' hx z=>?_) (fun σ H'' z=>?_)⟩
  ·obtain⟨o8,o9,o10,o11,rfl,g'⟩:=z;exact SqL.of (g' _ _ kl)
  ·obtain⟨o8,o9,o10,o11,rfl,g'⟩:=z;obtain⟨w,hw,rfl⟩:=vK hx;have gg:=(gE'.trans s3).trans g';exact⟨_,rfl,_,rfl,_,rfl,ra,dl,z,sa0,S,w,rfl,dI hroE gg,hW,hlxE.same gg,hps w (ο hw),fun H4 g4=>⟨_,rfl,kS (by decide) ⟨_,_,_,_,rfl,g'.trans g4⟩⟩⟩
  ·obtain⟨o8,o9,o10,o11,rfl,g'⟩:=z;exact⟨_,_,_,_,rfl,g.trans (s3.trans g')⟩
 ·exact q H'
end
end K29
namespace K29
open PySem L2 PyProof.Rows
set_option hygiene false in
local macro_rules | `(tactic| walk_at"b1") => `(tactic| exact fun _ _ _ _ _ _ us hl => by obtain ⟨a0, rfl⟩ := ls1 hl;rfl)
set_option hygiene false in
local macro_rules | `(tactic| walk_at"b2") => `(tactic| exact fun _ _ _ _ _ _ us hl => by obtain ⟨a0, a1, rfl⟩ := ls2 hl;rfl)
set_option hygiene false in
local macro_rules | `(tactic| walk_at"b3") => `(tactic| exact fun _ _ _ _ _ _ us hl => by obtain ⟨a0, a1, a2, rfl⟩ := ls3 hl;rfl)
set_option hygiene false in
local macro_rules | `(tactic| walk_at"b4") => `(tactic| exact fun _ _ _ _ _ _ us hl => by obtain ⟨a0, a1, a2, a3, rfl⟩ := ls4 hl;rfl)
set_option hygiene false in
local macro_rules | `(tactic| walk_at"b5") => `(tactic| exact fun _ _ _ _ _ _ us hl => by obtain ⟨a0, a1, a2, a3, a4, rfl⟩ := ls5 hl;rfl)
set_option hygiene false in
local macro_rules | `(tactic| walk_at"b7") => `(tactic| exact fun _ _ _ _ _ _ us hl => by obtain ⟨a0, a1, a2, a3, a4, a5, a6, rfl⟩ := ls7 hl;rfl)
theorem ls1{us:List Value}(h:us.length=1):∃a0,us=[a0]:=by
 cases us with
 |nil=>cases h
 |cons a0 us =>
  cases us with
  |nil=>exact⟨a0,rfl⟩
  |cons _ us=>simp only[Δ]at h;omega
theorem ls2{us:List Value}(h:us.length=2):∃a0 a1,us=[a0,a1]:=by
 cases us with
 |nil=>cases h
 |cons a0 us =>
  cases us with
  |nil=>cases h
  |cons a1 us =>
   cases us with
   |nil=>exact⟨a0,a1,rfl⟩
   |cons _ us=>simp only[Δ]at h;omega
theorem ls3{us:List Value}(h:us.length=3):∃a0 a1 a2,us=[a0,a1,a2]:=by
 cases us with
 |nil=>cases h
 |cons a0 us =>
  cases us with
  |nil=>cases h
  |cons a1 us =>
   cases us with
   |nil=>cases h
   |cons a2 us =>
    cases us with
    |nil=>exact⟨a0,a1,a2,rfl⟩
    |cons _ us=>simp only[Δ]at h;omega
theorem ls4{us:List Value}(h:us.length=4):∃a0 a1 a2 a3,us=[a0,a1,a2,a3]:=by
 cases us with
 |nil=>cases h
 |cons a0 us =>
  cases us with
  |nil=>cases h
  |cons a1 us =>
   cases us with
   |nil=>cases h
   |cons a2 us =>
    cases us with
    |nil=>cases h
    |cons a3 us =>
     cases us with
     |nil=>exact⟨a0,a1,a2,a3,rfl⟩
     |cons _ us=>simp only[Δ]at h;omega
theorem ls5{us:List Value}(h:us.length=5):∃a0 a1 a2 a3 a4,us=[a0,a1,a2,a3,a4]:=by
 cases us with
 |nil=>cases h
 |cons a0 us =>
  cases us with
  |nil=>cases h
  |cons a1 us =>
   cases us with
   |nil=>cases h
   |cons a2 us =>
    cases us with
    |nil=>cases h
    |cons a3 us =>
     cases us with
     |nil=>cases h
     |cons a4 us =>
      cases us with
      |nil=>exact⟨a0,a1,a2,a3,a4,rfl⟩
      |cons _ us=>simp only[Δ]at h;omega
theorem ls7{us:List Value}(h:us.length=7):∃a0 a1 a2 a3 a4 a5 a6,us=[a0,a1,a2,a3,a4,a5,a6]:=by
 cases us with
 |nil=>cases h
 |cons a0 us =>
  cases us with
  |nil=>cases h
  |cons a1 us =>
   cases us with
   |nil=>cases h
   |cons a2 us =>
    cases us with
    |nil=>cases h
    |cons a3 us =>
     cases us with
     |nil=>cases h
     |cons a4 us =>
      cases us with
      |nil=>cases h
      |cons a5 us =>
       cases us with
       |nil=>cases h
       |cons a6 us =>
        cases us with
        |nil=>exact⟨a0,a1,a2,a3,a4,a5,a6,rfl⟩
        |cons _ us=>simp only[Δ]at h;omega
theorem mO{K:ω}{k:Nat}(h:jI P w K mg base CX j f fd ps sp)(hk:j<=k:=by decide):jI P w K mg base CX k f fd ps sp:=jI.mono h hk
structure FG (K:ω) (n:Str) (s:Stmt) (f:Addr):Prop where
 a:Br K ya n=some (some (.ref f))
 l:∃fd,Fun K n n s f fd
structure FM (K:ω) (C:Addr) (n q:Str) (s:Stmt) (f:Addr):Prop where
 a:Ap K (.ref C) n=some (some (.ref f))
 i:isFn K (.ref f)=true
 l:∃fd,Fun K n q s f fd
structure CK (K:ω) (n:Str) (C:Addr) (as:List Str):Prop where
 g:Br K ya n=some (some (.ref C))
 c:Cls K C
 m:PySem.W.makesIn K C=true
 k:keepIn K (.ref C)=true
 n:∀a∈as,aX K C a
section
variable {K:ω}{h:Ag}{mg:Str->Option Value}{n q:Str}{s:Stmt}{f C:Addr}{as:List Str}
theorem FG.o(X:K.In h)(G:h.Ns ya mg)(A:FG K n s f)(ps:List Str)(b:∀(kV doc pm:Value) (an:Option Addr) (cdv ct:Value) (us:List Value),us.length=ps.length->bindArgs (fnOf n n (dJ s) (aJ s) (jG s) .none kV doc pm an cdv ct) ⟨us,[]⟩=pure (ps.zip us)):∃fd,Fun K n n s f fd/\Df K mg n f fd ps:=A.l.elim fun fd F=>⟨fd,F,BV X G A.a,F.kp,F.binds b⟩
theorem FM.o(A:FM K C n q s f)(ps:List Str)(b:∀(kV doc pm:Value) (an:Option Addr) (cdv ct:Value) (us:List Value),us.length=ps.length->bindArgs (fnOf n q (dJ s) (aJ s) (jG s) .none kV doc pm an cdv ct) ⟨us,[]⟩=pure (ps.zip us)):∃fd,Fun K n q s f fd/\DfM K C n f fd ps:=A.l.elim fun fd F=>⟨fd,F,⟨A.a,A.i,F.kp⟩,F.binds b⟩
theorem FM.j(A:FM K C n q s f)(ps:List Str)(b:∀(kV doc pm:Value) (an:Option Addr) (cdv ct:Value) (us:List Value),us.length=ps.length->bindArgs (fnOf n q (dJ s) (aJ s) (jG s) .none kV doc pm an cdv ct) ⟨us,[]⟩=pure (ps.zip us)):∃fd,Fun K n q s f fd/\DfI K fd ps:=A.l.elim fun fd F=>⟨fd,F,⟨F.binds b⟩⟩
theorem CK.o(X:K.In h)(G:h.Ns ya mg)(A:CK K n C as)(I:FM K C "__init__" q s f):tH K mg n C f as:=⟨BV X G A.g,A.c,⟨A.m,I.a,I.i,A.k⟩,A.n⟩
theorem na0:∀a∈([]:List Str),aX K C a:=fun _ h=>nomatch h
theorem na1(h:Ap K (.ref C) n=some none)(r:∀a∈as,aX K C a):∀a∈n::as,aX K C a:=fun a m=>(ς.mp m).elim (fun e=>e▸h) (r a)
end
theorem all_mk{l:PySem.W.OpenLaw}{K:ω}{mg:Str->Option Value}(X:K.In h)(G:h.Ns ya mg)(hfa:mg "law" = some (.ref fa)){odt:Option Addr}{slt:Array (Option Value)}{oz1:Option Addr}{sl_1:Array (Option Value)}{y2_0 y2_1 y2_2 y2_3 y2_4:Tok}{oz2:Option Addr}{sl_2:Array (Option Value)}{oz3:Option Addr}{sl_3:Array (Option Value)}{oz4:Option Addr}{sl_4:Array (Option Value)}{oz5:Option Addr}{sl_5:Array (Option Value)}{y6_1:Tok}{oz6:Option Addr}{sl_6:Array (Option Value)}{oz7:Option Addr}{sl_7:Array (Option Value)}{y8_1:Tok}{oz8:Option Addr}{sl_8:Array (Option Value)}{oz9:Option Addr}{sl_9:Array (Option Value)}{y10_1:Tok}{oz10:Option Addr}{sl_10:Array (Option Value)}{oz11:Option Addr}{sl_11:Array (Option Value)}{y12_1:Tok}{oz12:Option Addr}{sl_12:Array (Option Value)}{oz13:Option Addr}{sl_13:Array (Option Value)}{oz14:Option Addr}{sl_14:Array (Option Value)}{oz15:Option Addr}{sl_15:Array (Option Value)}{y16_1:Tok}{oz16:Option Addr}{sl_16:Array (Option Value)}{oz17:Option Addr}{sl_17:Array (Option Value)}{oz18:Option Addr}{sl_18:Array (Option Value)}{oz19:Option Addr}{sl_19:Array (Option Value)}{oz20:Option Addr}{sl_20:Array (Option Value)}{oz21:Option Addr}{sl_21:Array (Option Value)}{y22_1:Tok}{oz22:Option Addr}{sl_22:Array (Option Value)}{oz23:Option Addr}{sl_23:Array (Option Value)}{oz24:Option Addr}{sl_24:Array (Option Value)}{oz25:Option Addr}{sl_25:Array (Option Value)}{y26_1:Tok}{oz26:Option Addr}{sl_26:Array (Option Value)}{oz27:Option Addr}{sl_27:Array (Option Value)}{oz28:Option Addr}{sl_28:Array (Option Value)}{oz29:Option Addr}{sl_29:Array (Option Value)}{oz30:Option Addr}{sl_30:Array (Option Value)}{oz31:Option Addr}{sl_31:Array (Option Value)}{oz32:Option Addr}{sl_32:Array (Option Value)}{oz33:Option Addr}{sl_33:Array (Option Value)}{oz34:Option Addr}{sl_34:Array (Option Value)}{oz35:Option Addr}{sl_35:Array (Option Value)}{oz36:Option Addr}{sl_36:Array (Option Value)}{oz37:Option Addr}{sl_37:Array (Option Value)}{oz38:Option Addr}{sl_38:Array (Option Value)}
 (cNum:CK K "Num" Va ["width"])
 (cNested:CK K "Nested" Vb ["shape"])
 (cMany:CK K "Many" Vc ["count","kind"])
 (cPick:CK K "Pick" Vd ["shapes"])
 (cShape:CK K "Shape" Ve ["name","fields"])
 (cShapes:CK K "Shapes" Vf ["shapes"])
 (cRow:CK K "Row" ao ["line","deed","goal","reads","steps","number"])
 (cLoop:CK K "Loop" lc ["line","last","deed","goal","reads","rows"])
 (cChoice:CK K "Choice" ij ["line","last","middle","reads","rows","others"])
 (cProgram:CK K "Program" bq ["shapes","rows","named","written"])
  (g_RoomError:Br K ya "RoomError" = some (some (.ref cRE)))
  (g_NoProgram:Br K ya "NoProgram" = some (some (.ref az)))
  (g_TooMuch:Br K ya "TooMuch" = some (some (.ref bv)))
  (g_WrongPath:Br K ya "WrongPath" = some (some (.ref ac)))
 (a0:FM K cRE "__init__" "RoomError.__init__" zC f0)
 (a1:FM K bv "__init__" "TooMuch.__init__" fO f1)
 (a2:FM K az "__init__" "NoProgram.__init__" cU f2)
 (a3:FM K ac "__init__" "WrongPath.__init__" zF f3)
 (a4:FG K "is_name" nO f4)
 (a5:FG K "is_text_of" dN f5)
 (a6:FG K "number_in" fH f6)
 (a7:FG K "bound_of" iC f7)
 (a8:FG K "joined" rS f8)
 (a9:FM K Vb "step_of" "Kind.step_of" aZ f9)
 (a10:FM K Vb "units_at" "Kind.units_at" zR f10)
 (a11:FM K Va "__init__" "Num.__init__" iM f11)
 (a12:FM K Va "word" "Num.word" iG f12)
 (a13:FM K Va "size" "Num.size" hZ f13)
 (a14:FM K Va "depth" "Num.depth" fS f14)
 (a15:FM K Va "led" "Num.led" nJ f15)
 (a16:FM K Va "units_at" "Num.units_at" aQ f16)
 (a17:FM K Vb "__init__" "Nested.__init__" cJ f17)
 (a18:FM K Vb "word" "Nested.word" cG f18)
 (a19:FM K Vb "size" "Nested.size" cF f19)
 (a20:FM K Vb "depth" "Nested.depth" aV f20)
 (a21:FM K Vb "parted" "Nested.parted" zU f21)
 (a22:FM K Vb "led" "Nested.led" cZ f22)
 (a23:FM K Vc "__init__" "Many.__init__" eA f23)
 (a24:FM K Vc "word" "Many.word" eY f24)
 (a25:FM K Vc "size" "Many.size" eL f25)
 (a26:FM K Vc "depth" "Many.depth" dP f26)
 (a27:FM K Vc "parted" "Many.parted" bS f27)
 (a28:FM K Vc "step_of" "Many.step_of" bA f28)
 (a29:FM K Vd "__init__" "Pick.__init__" eM f29)
 (a30:FM K Vd "word" "Pick.word" fP f30)
 (a31:FM K Vd "size" "Pick.size" fG f31)
 (a32:FM K Vd "greatest" "Pick.greatest" zY f32)
 (a33:FM K Vd "depth" "Pick.depth" dM f33)
 (a34:FM K Vd "led" "Pick.led" hU f34)
 (a35:FM K Vd "units_at" "Pick.units_at" zQ f35)
 (a36:FM K Ve "__init__" "Shape.__init__" dB f36)
 (a37:FM K Ve "size" "Shape.size" dE f37)
 (a38:FM K Ve "depth" "Shape.depth" cB f38)
 (a39:FM K Ve "units" "Shape.units" bX f39)
 (a40:FM K Vf "__init__" "Shapes.__init__" bT f40)
 (a41:FM K Vf "main" "Shapes.main" bU f41)
 (a42:FM K ao "__init__" "Row.__init__" iJ f42)
 (a43:FM K lc "__init__" "Loop.__init__" oA f43)
 (a44:FM K ij "__init__" "Choice.__init__" gW f44)
 (a45:FM K bq "__init__" "Program.__init__" bG f45)
 (a46:FG K "read_program" bD f46)
 (a47:FG K "lines_in" iB f47)
 (a48:FG K "form_of" nR f48)
 (a49:FG K "fits" aEv f49)
 (a50:FG K "need_standing" zX f50)
 (a51:FG K "begun_behind" aR f51)
 (a52:FG K "row_in" sR f52)
 (a53:FG K "steps_in" iO f53)
 (a54:FG K "step_in" mQ f54)
 (a55:FG K "names_in" iT f55)
 (a56:FG K "unlike" rO f56)
 (a57:FG K "rows_from" eG f57)
 (a58:FG K "line_behind" cI f58)
 (a59:FG K "whole_row" fU f59)
 (a60:FG K "read_shapes" bZ f60)
 (a61:FG K "is_shape_line" aD f61)
 (a62:FG K "is_field_line" aB f62)
 (a63:FG K "is_kind" nC f63)
 (a64:FG K "is_single" eF f64)
 (a65:FG K "need_new_shape" zG f65)
 (a66:FG K "need_field" dL f66)
 (a67:FG K "shapes_named" aO f67)
 (a68:FG K "whole_shapes" bH f68)
 (a69:FG K "with_field" dC f69)
 (a70:FG K "kind_in" nF f70)
 (a71:FG K "is_too_much" cH f71)
 (a72:FG K "_law_cell" hJ f72)
 (a73:FG K "_law_mixed" fM f73)
 (a74:FG K "_law_box" mR f74)
 (a75:FG K "_law_take" iA f75)
 (a76:FG K "_law_drawn" fK f76)
 (a77:FG K "_law_names" fR f77)
 (a78:FG K "_law_size" iP f78)
 (a79:FG K "_law_kind" iS f79)
 (a80:FG K "_law_shapes" dH f80)
 (a81:FG K "_law_kind_words" zH f81)
 (a82:FG K "_law_shape_text" zD f82)
 (a83:FG K "_law_spots" eR f83)
 (a84:FG K "_law_is_name" cE f84)
 (a85:FG K "_law_step" iI f85)
 (a86:FG K "_law_steps" fA f86)
 (a87:FG K "_law_near" iK f87)
 (a88:FG K "_law_read" iE f88)
 (a89:FG K "_law_asked" eU f89)
 (a90:FG K "law" aMp f90)
  (xo_RoomError:K.lookup cRE=some (mF xn0 xq0 cRE xN0 xb0 VB true xl0 xs0 xa0 xc0 xd0 x00 x10 x20 x30 x50))
  (xk_RoomError:keepIn K (.ref cRE)=true)
  (xr:PySem.W.readsIn K cRE (.type "type")=true)
  (xf:PySem.W.findCls K (.ref cRE) (.type "type") "__init__" = some (.val (.ref f0)))
  (xp:CD K (.ref cRE) "__getattribute__" = some (some (.builtin "type.__getattribute__")))
  (xo_NoProgram:K.lookup az=some (mF xn1 xq1 az xN1 xb1 (.ref cRE::VB) true xl1 xs1 xa1 xc1 xd1 x01 x11 x21 x31 x51))
  (xk_NoProgram:keepIn K (.ref az)=true)
  (xn_NoProgram:PySem.W.nsOkIn K xN1=true)
  (xi_NoProgram:Br K xN1 "__init__" = some (some (.ref f2)))
  (xs_NoProgram:Ap K (.ref az) "__setattr__" = some (some (.builtin "object.__setattr__")))
  (xg_NoProgram:Ap K (.ref az) "__getattribute__" = some (some (.builtin "BaseException.__getattribute__")))
  (xh_NoProgram:Ap K (.ref az) "__getattr__" = some none)
  (n_NoProgram_line:Ap K (.ref az) "line" = some none)
  (xo_TooMuch:K.lookup bv=some (mF xn2 xq2 bv xN2 xb2 (.ref cRE::VB) true xl2 xs2 xa2 xc2 xd2 x02 x12 x22 x32 x52))
  (xk_TooMuch:keepIn K (.ref bv)=true)
  (xn_TooMuch:PySem.W.nsOkIn K xN2=true)
  (xi_TooMuch:Br K xN2 "__init__" = some (some (.ref f1)))
  (xs_TooMuch:Ap K (.ref bv) "__setattr__" = some (some (.builtin "object.__setattr__")))
  (xg_TooMuch:Ap K (.ref bv) "__getattribute__" = some (some (.builtin "BaseException.__getattribute__")))
  (xh_TooMuch:Ap K (.ref bv) "__getattr__" = some none)
  (n_TooMuch_line:Ap K (.ref bv) "line" = some none)
  (xo_WrongPath:K.lookup ac=some (mF xn3 xq3 ac xN3 xb3 (.ref cRE::VB) true xl3 xs3 xa3 xc3 xd3 x03 x13 x23 x33 x53))
  (xk_WrongPath:keepIn K (.ref ac)=true)
  (xn_WrongPath:PySem.W.nsOkIn K xN3=true)
  (xi_WrongPath:Br K xN3 "__init__" = some (some (.ref f3)))
  (xs_WrongPath:Ap K (.ref ac) "__setattr__" = some (some (.builtin "object.__setattr__")))
  (xg_WrongPath:Ap K (.ref ac) "__getattribute__" = some (some (.builtin "BaseException.__getattribute__")))
  (xh_WrongPath:Ap K (.ref ac) "__getattr__" = some none)
  (n_WrongPath_line:Ap K (.ref ac) "line" = some none)
  (n_WrongPath_path:Ap K (.ref ac) "path" = some none)
  (vi1:Ap K (.type "type") "__getattribute__" = some (some (.builtin "type.__getattribute__")))
  (vi2:PySem.W.subIn K (.type "type") (.type "type")=some true)
  (vi3:PySem.W.findCls K (.type "ValueError") (.type "type") "__init__" = some (.val (.builtin "ValueError.__init__")))
  (z0:Br K ya "range" = some none)
  (z1:Br K ya "len" = some none)
  (z2:Br K ya "isinstance" = some none)
  (z3:Br K ya "int" = some none)
  (z4:Br K ya "bool" = some none)
  (z5:Br K ya "list" = some none)
  (z6:Br K ya "all" = some none)
  (z7:Br K ya "max" = some none)
  (z8:Br K ya "min" = some none)
  (z9:Br K ya "reversed" = some none)
  (z10:Br K ya "tuple" = some none)
  (z11:Br K ya "divmod" = some none)
  (z12:Br K ya "str" = some none)
  (z13:Br K ya "sum" = some none)
  (z14:Br K ya "zip" = some none)
  (z15:Br K ya "enumerate" = some none)
  (z16:Br K ya "dict" = some none)
  (z17:Br K ya "ValueError" = some none)
  (z18:Br K ya "repr" = some none)
  (v1:Br K ya "SMALL_LETTERS" = some (some (.str "abcdefghijklmnopqrstuvwxyz" t1)))(v2:Br K ya "FIGURES" = some (some (.str "0123456789" t2)))(v3:Br K ya "MOST_LETTERS" = some (some (.int 6 t3)))(v4:Br K ya "MOST_FIGURES" = some (some (.int 10 t4)))(v5:Br K ya "MOST_SHAPES" = some (some (.int 8 t5)))(v6:Br K ya "MOST_FIELDS" = some (some (.int 6 t6)))(v7:Br K ya "MOST_CELLS" = some (some (.int 64 t7)))(v8:Br K ya "MOST_UNITS" = some (some (.int 40 t8)))(v9:Br K ya "MOST_DEPTH" = some (some (.int 4 t9)))(v10:Br K ya "MOST_WIDTH" = some (some (.int 4 t10)))(v11:Br K ya "MOST_COUNT" = some (some (.int 6 t11)))(v12:Br K ya "LEAST_PICKED" = some (some (.int 2 t12)))(v13:Br K ya "MOST_PICKED" = some (some (.int 4 t13)))(v14:Br K ya "WORD_CELLS" = some (some (.int 4 t14)))(v15:Br K ya "MOST_LINES" = some (some (.int 60 t15)))(v16:Br K ya "MOST_NAMES" = some (some (.int 12 t16)))(v17:Br K ya "MOST_BEGUN" = some (some (.int 3 t17)))
  (w1:Br K ya "OWN_WORDS" = some (some (.ref ts)))(w2:K.lookup ts=some ⟨.type "tuple",odt,.seq #[.str "shape" u0,.str "num" u1,.str "row" u2,.str "pick" u3,.str "tag" u4,.str "room" u5,.str "things" u6,.str "part" u7,.str "tags" u8,.str "put" u9,.str "take" u10,.str "many" u11,.str "look" u12,.str "which" u13,.str "store" u14,.str "choose" u15,.str "copy" u16,.str "each" u17,.str "span" u18,.str "if" u19,.str "else" u20,.str "end" u21,.str "out" u22] nt,slt⟩)
  (xN1:Br K ya "NAMES" = some (some (.ref tNa)))(xN2:K.lookup tNa=some ⟨.type "tuple",oz1,.seq #[.str "A" y1_0,.str "B" y1_1,.str "C" y1_2,.str "I" y1_3,.str "J" y1_4] nn_1,sl_1⟩)
  (xS1:Br K ya "SIGNS" = some (some (.ref tSi)))(xS2:K.lookup tSi=some ⟨.type "tuple",oz2,.seq #[.str "+" y2_0,.str "-" y2_1,.str "*" y2_2,.str "<" y2_3,.str "=" y2_4,.str "&" y2_5] nn_2,sl_2⟩)
  (xB1:Br K ya "BEGINNINGS" = some (some (.ref tBe)))(xB2:K.lookup tBe=some ⟨.type "tuple",oz3,.seq #[.str "each" y3_0,.str "span" y3_1,.str "if" y3_2] nn_3,sl_3⟩)
  (xF1:Br K ya "FORMS" = some (some (.ref tFo)))(xF2:K.lookup tFo=some ⟨.type "tuple",oz4,.seq #[.ref fa0,.ref fa1,.ref fa2,.ref fa3,.ref fa4,.ref fa5,.ref fa6,.ref fa7,.ref fa8,.ref fa9,.ref fa10,.ref fa11,.ref fa12,.ref fa13,.ref fa14,.ref fa15,.ref fa16] nn_4,sl_4⟩)
  (ya0:K.lookup fa0=some ⟨.type "tuple",oz5,.seq #[.str "number" y5_0,.ref ga0] nn_5,sl_5⟩)(yb0:K.lookup ga0=some ⟨.type "tuple",oz6,.seq #[.str "A" y6_0,.str "=" y6_1,.str "NUMBER" y6_2] nn_6,sl_6⟩)
  (ya1:K.lookup fa1=some ⟨.type "tuple",oz7,.seq #[.str "name" y7_0,.ref ga1] nn_7,sl_7⟩)(yb1:K.lookup ga1=some ⟨.type "tuple",oz8,.seq #[.str "A" y8_0,.str "=" y8_1,.str "B" y8_2] nn_8,sl_8⟩)
  (ya2:K.lookup fa2=some ⟨.type "tuple",oz9,.seq #[.str "OP" y9_0,.ref ga2] nn_9,sl_9⟩)(yb2:K.lookup ga2=some ⟨.type "tuple",oz10,.seq #[.str "A" y10_0,.str "=" y10_1,.str "B" y10_2,.str "OP" y10_3,.str "C" y10_4] nn_10,sl_10⟩)
  (ya3:K.lookup fa3=some ⟨.type "tuple",oz11,.seq #[.str "look" y11_0,.ref ga3] nn_11,sl_11⟩)(yb3:K.lookup ga3=some ⟨.type "tuple",oz12,.seq #[.str "A" y12_0,.str "=" y12_1,.str "look" y12_2,.str "I" y12_3,.str "PATH" y12_4] nn_12,sl_12⟩)
  (ya4:K.lookup fa4=some ⟨.type "tuple",oz13,.seq #[.str "store" y13_0,.ref ga4] nn_13,sl_13⟩)(yb4:K.lookup ga4=some ⟨.type "tuple",oz14,.seq #[.str "store" y14_0,.str "I" y14_1,.str "PATH" y14_2,.str "B" y14_3] nn_14,sl_14⟩)
  (ya5:K.lookup fa5=some ⟨.type "tuple",oz15,.seq #[.str "which" y15_0,.ref ga5] nn_15,sl_15⟩)(yb5:K.lookup ga5=some ⟨.type "tuple",oz16,.seq #[.str "A" y16_0,.str "=" y16_1,.str "which" y16_2,.str "I" y16_3,.str "PATH" y16_4] nn_16,sl_16⟩)
  (ya6:K.lookup fa6=some ⟨.type "tuple",oz17,.seq #[.str "choose" y17_0,.ref ga6] nn_17,sl_17⟩)(yb6:K.lookup ga6=some ⟨.type "tuple",oz18,.seq #[.str "choose" y18_0,.str "I" y18_1,.str "PATH" y18_2,.str "B" y18_3] nn_18,sl_18⟩)
  (ya7:K.lookup fa7=some ⟨.type "tuple",oz19,.seq #[.str "copy" y19_0,.ref ga7] nn_19,sl_19⟩)(yb7:K.lookup ga7=some ⟨.type "tuple",oz20,.seq #[.str "copy" y20_0,.str "I" y20_1,.str "J" y20_2] nn_20,sl_20⟩)
  (ya8:K.lookup fa8=some ⟨.type "tuple",oz21,.seq #[.str "put" y21_0,.ref ga8] nn_21,sl_21⟩)(yb8:K.lookup ga8=some ⟨.type "tuple",oz22,.seq #[.str "A" y22_0,.str "=" y22_1,.str "put" y22_2] nn_22,sl_22⟩)
  (ya9:K.lookup fa9=some ⟨.type "tuple",oz23,.seq #[.str "take" y23_0,.ref ga9] nn_23,sl_23⟩)(yb9:K.lookup ga9=some ⟨.type "tuple",oz24,.seq #[.str "take" y24_0,.str "I" y24_1] nn_24,sl_24⟩)
  (ya10:K.lookup fa10=some ⟨.type "tuple",oz25,.seq #[.str "many" y25_0,.ref ga10] nn_25,sl_25⟩)(yb10:K.lookup ga10=some ⟨.type "tuple",oz26,.seq #[.str "A" y26_0,.str "=" y26_1,.str "many" y26_2] nn_26,sl_26⟩)
  (ya11:K.lookup fa11=some ⟨.type "tuple",oz27,.seq #[.str "out" y27_0,.ref ga11] nn_27,sl_27⟩)(yb11:K.lookup ga11=some ⟨.type "tuple",oz28,.seq #[.str "out" y28_0,.str "A" y28_1] nn_28,sl_28⟩)
  (ya12:K.lookup fa12=some ⟨.type "tuple",oz29,.seq #[.str "each" y29_0,.ref ga12] nn_29,sl_29⟩)(yb12:K.lookup ga12=some ⟨.type "tuple",oz30,.seq #[.str "each" y30_0,.str "I" y30_1] nn_30,sl_30⟩)
  (ya13:K.lookup fa13=some ⟨.type "tuple",oz31,.seq #[.str "span" y31_0,.ref ga13] nn_31,sl_31⟩)(yb13:K.lookup ga13=some ⟨.type "tuple",oz32,.seq #[.str "span" y32_0,.str "I" y32_1,.str "B" y32_2,.str "C" y32_3] nn_32,sl_32⟩)
  (ya14:K.lookup fa14=some ⟨.type "tuple",oz33,.seq #[.str "if" y33_0,.ref ga14] nn_33,sl_33⟩)(yb14:K.lookup ga14=some ⟨.type "tuple",oz34,.seq #[.str "if" y34_0,.str "A" y34_1] nn_34,sl_34⟩)
  (ya15:K.lookup fa15=some ⟨.type "tuple",oz35,.seq #[.str "else" y35_0,.ref ga15] nn_35,sl_35⟩)(yb15:K.lookup ga15=some ⟨.type "tuple",oz36,.seq #[.str "else" y36_0] nn_36,sl_36⟩)
  (ya16:K.lookup fa16=some ⟨.type "tuple",oz37,.seq #[.str "end" y37_0,.ref ga16] nn_37,sl_37⟩)(yb16:K.lookup ga16=some ⟨.type "tuple",oz38,.seq #[.str "end" y38_0] nn_38,sl_38⟩)
  (w3:Ap K (.ref Vc) "units_at" = some (some (.ref f10)))
  (w4:Ap K (.ref Va) "step_of" = some (some (.ref f9)))(w5:Ap K (.ref Vd) "step_of" = some (some (.ref f9)))
  (q1:CD K (.builtin "object.__class__") "__get__" = some (some (.builtin "getset_descriptor.__get__")))(q2:PySem.W.takesIn K (.builtin "object.__class__")=some true)
  (qa0:Ap K (.ref Va) "__class__" = some (some (.builtin "object.__class__")))(qb0:BD K Va (.type "object")=some true)
  (qa1:Ap K (.ref Vb) "__class__" = some (some (.builtin "object.__class__")))(qb1:BD K Vb (.type "object")=some true)
  (qa2:Ap K (.ref Vc) "__class__" = some (some (.builtin "object.__class__")))(qb2:BD K Vc (.type "object")=some true)
  (qa3:Ap K (.ref Vd) "__class__" = some (some (.builtin "object.__class__")))(qb3:BD K Vd (.type "object")=some true)
  (qa4:Ap K (.ref ao) "__class__" = some (some (.builtin "object.__class__")))(qb4:BD K ao (.type "object")=some true)
  (qc0:AF K (.ref Va) (.ref Vc)=some false)
  (qc1:AF K (.ref Vb) (.ref Vc)=some false)
  (qc2:AF K (.ref Vc) (.ref Vc)=some true)
  (qc3:AF K (.ref Vd) (.ref Vc)=some false)
  (qc4:AF K (.ref ao) (.ref ao)=some true):
  ∃fd:zb,(∀(s:ν) (v:Value),BindsTo s fd ⟨[v],[]⟩ [("_law_script",v)])/\∀base:Ag,K.In base->base.Ns ya mg->jI l.prog w K mg base CX0 86 fa fd ["_law_script"] (aHk K):=by
 have e:=hfa.symm.trans (BV X G a90.a);cases e;obtain⟨d90,F90⟩:=a90.l;obtain⟨d0,F0,D0⟩:=a0.j ["self","words"] (by walk_at"b2");obtain⟨d1,F1,D1⟩:=a1.j ["self","line"] (by walk_at"b2");obtain⟨d2,F2,D2⟩:=a2.j ["self","line"] (by walk_at"b2");obtain⟨d3,F3,D3⟩:=a3.j ["self","line","path"] (by walk_at"b3");obtain⟨d4,F4,D4⟩:=a4.o X G ["thing"] (by walk_at"b1");obtain⟨d5,F5,D5⟩:=a5.o X G ["thing","signs","most"] (by walk_at"b3");obtain⟨d6,F6,D6⟩:=a6.o X G ["text","low","high"] (by walk_at"b3");obtain⟨d7,F7,D7⟩:=a7.o X G ["width"] (by walk_at"b1");obtain⟨d8,F8,D8⟩:=a8.o X G ["path","step"] (by walk_at"b2");obtain⟨d9,F9,D9⟩:=a9.o ["self","word"] (by walk_at"b2");obtain⟨d10,F10,D10⟩:=a10.o ["self","path"] (by walk_at"b2");obtain⟨d11,F11,D11⟩:=a11.j ["self","width"] (by walk_at"b2");obtain⟨d12,F12,D12⟩:=a12.o ["self"] (by walk_at"b1");obtain⟨d13,F13,D13⟩:=a13.o ["self"] (by walk_at"b1");obtain⟨d14,F14,D14⟩:=a14.o ["self"] (by walk_at"b1");obtain⟨d15,F15,D15⟩:=a15.o ["self","step"] (by walk_at"b2");obtain⟨d16,F16,D16⟩:=a16.o ["self","path"] (by walk_at"b2");obtain⟨d17,F17,D17⟩:=a17.j ["self","shape"] (by walk_at"b2");obtain⟨d18,F18,D18⟩:=a18.o ["self"] (by walk_at"b1");obtain⟨d19,F19,D19⟩:=a19.o ["self"] (by walk_at"b1");obtain⟨d20,F20,D20⟩:=a20.o ["self"] (by walk_at"b1");obtain⟨d21,F21,D21⟩:=a21.o ["self"] (by walk_at"b1");obtain⟨d22,F22,D22⟩:=a22.o ["self","step"] (by walk_at"b2");obtain⟨d23,F23,D23⟩:=a23.j ["self","count","kind"] (by walk_at"b3");obtain⟨d24,F24,D24⟩:=a24.o ["self"] (by walk_at"b1");obtain⟨d25,F25,D25⟩:=a25.o ["self"] (by walk_at"b1");obtain⟨d26,F26,D26⟩:=a26.o ["self"] (by walk_at"b1");obtain⟨d27,F27,D27⟩:=a27.o ["self"] (by walk_at"b1");obtain⟨d28,F28,D28⟩:=a28.o ["self","word"] (by walk_at"b2");obtain⟨d29,F29,D29⟩:=a29.j ["self","shapes"] (by walk_at"b2");obtain⟨d30,F30,D30⟩:=a30.o ["self"] (by walk_at"b1");obtain⟨d31,F31,D31⟩:=a31.o ["self"] (by walk_at"b1");obtain⟨d32,F32,D32⟩:=a32.o ["self"] (by walk_at"b1");obtain⟨d33,F33,D33⟩:=a33.o ["self"] (by walk_at"b1");obtain⟨d34,F34,D34⟩:=a34.o ["self","step"] (by walk_at"b2");obtain⟨d35,F35,D35⟩:=a35.o ["self","path"] (by walk_at"b2");obtain⟨d36,F36,D36⟩:=a36.j ["self","name","fields"] (by walk_at"b3");obtain⟨d37,F37,D37⟩:=a37.o ["self"] (by walk_at"b1");obtain⟨d38,F38,D38⟩:=a38.o ["self"] (by walk_at"b1");obtain⟨d39,F39,D39⟩:=a39.o ["self"] (by walk_at"b1");obtain⟨d40,F40,D40⟩:=a40.j ["self","shapes"] (by walk_at"b2");obtain⟨d41,F41,D41⟩:=a41.o ["self"] (by walk_at"b1");obtain⟨d42,F42,D42⟩:=a42.j ["self","line","deed","goal","reads","steps","number"] (by walk_at"b7");obtain⟨d43,F43,D43⟩:=a43.j ["self","line","last","deed","goal","reads","rows"] (by walk_at"b7");obtain⟨d44,F44,D44⟩:=a44.j ["self","line","last","middle","reads","rows","others"] (by walk_at"b7");obtain⟨d45,F45,D45⟩:=a45.j ["self","shapes","rows","named","written"] (by walk_at"b5");obtain⟨d46,F46,D46⟩:=a46.o X G ["shapes","text"] (by walk_at"b2");obtain⟨d47,F47,D47⟩:=a47.o X G ["text"] (by walk_at"b1");obtain⟨d48,F48,D48⟩:=a48.o X G ["line","words"] (by walk_at"b2");obtain⟨d49,F49,D49⟩:=a49.o X G ["part","word"] (by walk_at"b2");obtain⟨d50,F50,D50⟩:=a50.o X G ["begun","line","deed"] (by walk_at"b3");obtain⟨d51,F51,D51⟩:=a51.o X G ["begun","deed"] (by walk_at"b2");obtain⟨d52,F52,D52⟩:=a52.o X G ["shape","line","deed","filled"] (by walk_at"b4");obtain⟨d53,F53,D53⟩:=a53.o X G ["shape","line","deed","path"] (by walk_at"b4");obtain⟨d54,F54,D54⟩:=a54.o X G ["kind","word"] (by walk_at"b2");obtain⟨d55,F55,D55⟩:=a55.o X G ["form","words","steps"] (by walk_at"b3");obtain⟨d56,F56,D56⟩:=a56.o X G ["names","ahead"] (by walk_at"b2");obtain⟨d57,F57,D57⟩:=a57.o X G ["told","first"] (by walk_at"b2");obtain⟨d58,F58,D58⟩:=a58.o X G ["row"] (by walk_at"b1");obtain⟨d59,F59,D59⟩:=a59.o X G ["told","at"] (by walk_at"b2");obtain⟨d60,F60,D60⟩:=a60.o X G ["text"] (by walk_at"b1");obtain⟨d61,F61,D61⟩:=a61.o X G ["words"] (by walk_at"b1");obtain⟨d62,F62,D62⟩:=a62.o X G ["words"] (by walk_at"b1");obtain⟨d63,F63,D63⟩:=a63.o X G ["words"] (by walk_at"b1");obtain⟨d64,F64,D64⟩:=a64.o X G ["words"] (by walk_at"b1");obtain⟨d65,F65,D65⟩:=a65.o X G ["told","line","name"] (by walk_at"b3");obtain⟨d66,F66,D66⟩:=a66.o X G ["told","line","words"] (by walk_at"b3");obtain⟨d67,F67,D67⟩:=a67.o X G ["words"] (by walk_at"b1");obtain⟨d68,F68,D68⟩:=a68.o X G ["told"] (by walk_at"b1");obtain⟨d69,F69,D69⟩:=a69.o X G ["told","line","words"] (by walk_at"b3");obtain⟨d70,F70,D70⟩:=a70.o X G ["words","shapes"] (by walk_at"b2");obtain⟨d71,F71,D71⟩:=a71.o X G ["shape"] (by walk_at"b1");obtain⟨d72,F72,D72⟩:=a72.o X G ["_law_script","_law_k"] (by walk_at"b2");obtain⟨d73,F73,D73⟩:=a73.o X G ["_law_cell_here","_law_k"] (by walk_at"b2");obtain⟨d74,F74,D74⟩:=a74.o X G ["_law_cell_here"] (by walk_at"b1");obtain⟨d75,F75,D75⟩:=a75.o X G ["_law_box_here","_law_many"] (by walk_at"b2");obtain⟨d76,F76,D76⟩:=a76.o X G ["_law_signs","_law_at","_law_ends","_law_many"] (by walk_at"b4");obtain⟨d77,F77,D77⟩:=a77.o X G ["_law_box_here","_law_many"] (by walk_at"b2");obtain⟨d78,F78,D78⟩:=a78.o X G ["_law_shapes_here","_law_kind_here"] (by walk_at"b2");obtain⟨d79,F79,D79⟩:=a79.o X G ["_law_box_here","_law_shapes_here"] (by walk_at"b2");obtain⟨d80,F80,D80⟩:=a80.o X G ["_law_box_here"] (by walk_at"b1");obtain⟨d81,F81,D81⟩:=a81.o X G ["_law_shapes_here","_law_kind_here"] (by walk_at"b2");obtain⟨d82,F82,D82⟩:=a82.o X G ["_law_shapes_here"] (by walk_at"b1");obtain⟨d83,F83,D83⟩:=a83.o X G ["_law_shapes_here","_law_kind_here","_law_steps_here"] (by walk_at"b3");obtain⟨d84,F84,D84⟩:=a84.o X G ["_law_word"] (by walk_at"b1");obtain⟨d85,F85,D85⟩:=a85.o X G ["_law_shapes_here","_law_kind_here","_law_word"] (by walk_at"b3");obtain⟨d86,F86,D86⟩:=a86.o X G ["_law_shapes_here","_law_path","_law_sort"] (by walk_at"b3");obtain⟨d87,F87,D87⟩:=a87.o X G ["_law_box_here","_law_steps_here","_law_names_here"] (by walk_at"b3");obtain⟨d88,F88,D88⟩:=a88.o X G ["_law_shapes_here","_law_lines","_law_steps_here","_law_at","_law_path"] (by walk_at"b5");obtain⟨d89,F89,D89⟩:=a89.o X G ["_law_shapes_here","_law_drawn_here","_law_path"] (by walk_at"b3");have Ua:=cNum.o X G a11;have Ub:=cNested.o X G a17;have Uc:=cMany.o X G a23;have Ud:=cPick.o X G a29;have Ue:=cShape.o X G a36;have Uf:=cShapes.o X G a40;have bh:=cRow.o X G a42;have oh:=cLoop.o X G a43;have gp:=cChoice.o X G a44;have bp:=cProgram.o X G a45;have tRE:TXB K mg cRE f0:=⟨BV X G g_RoomError,⟨xr,xf,xp,F0.kp⟩,⟨⟨_,_,_,_,_,_,_,_,_,_,_,_,_,_,_,_,xo_RoomError⟩,rfl⟩⟩;have VI:aLi K:=⟨vi1,vi2,vi3⟩;have ar:TX K mg "NoProgram" az cRE f2 ["line"]:=⟨BV X G g_NoProgram,⟨⟨_,_,_,_,_,_,_,_,_,_,_,_,_,_,xo_NoProgram,xn_NoProgram,xi_NoProgram⟩,a2.i,xk_NoProgram,xs_NoProgram,xg_NoProgram,xh_NoProgram⟩,⟨⟨_,_,_,_,_,_,_,_,_,_,_,_,_,_,_,_,xo_NoProgram⟩,rfl⟩,fun a ha=>by
   rw[τ.mp ha];exact n_NoProgram_line⟩
 have iu:TX K mg "TooMuch" bv cRE f1 ["line"]:=⟨BV X G g_TooMuch,⟨⟨_,_,_,_,_,_,_,_,_,_,_,_,_,_,xo_TooMuch,xn_TooMuch,xi_TooMuch⟩,a1.i,xk_TooMuch,xs_TooMuch,xg_TooMuch,xh_TooMuch⟩,⟨⟨_,_,_,_,_,_,_,_,_,_,_,_,_,_,_,_,xo_TooMuch⟩,rfl⟩,fun a ha=>by
   rw[τ.mp ha];exact n_TooMuch_line⟩
 have ah:TX K mg "WrongPath" ac cRE f3 ["line","path"]:=⟨BV X G g_WrongPath,⟨⟨_,_,_,_,_,_,_,_,_,_,_,_,_,_,xo_WrongPath,xn_WrongPath,xi_WrongPath⟩,a3.i,xk_WrongPath,xs_WrongPath,xg_WrongPath,xh_WrongPath⟩,⟨⟨_,_,_,_,_,_,_,_,_,_,_,_,_,_,_,_,xo_WrongPath⟩,rfl⟩,fun a ha=>by
   simp only[ς,Ω,or_false]at ha;rcases ha with rfl|rfl
   ·exact n_WrongPath_line
   ·exact n_WrongPath_path⟩
 have M:Blt mg:=⟨Ay X G z0,Ay X G z1,Ay X G z2,Ay X G z3,Ay X G z4,Ay X G z5,Ay X G z6,Ay X G z7,Ay X G z8,Ay X G z9,Ay X G z10,Ay X G z11,Ay X G z12,Ay X G z13,Ay X G z14,Ay X G z15,Ay X G z16,Ay X G z17,Ay X G z18⟩;have C:Cst K mg t1 t2 t3 t4 t5 t6 t7 t8 t9 t10 t11 t12 t13 t14 t15 t16 t17 ts tNa tSi tBe tFo:=⟨BV X G v1,BV X G v2,BV X G v3,BV X G v4,BV X G v5,BV X G v6,BV X G v7,BV X G v8,BV X G v9,BV X G v10,BV X G v11,BV X G v12,BV X G v13,BV X G v14,BV X G v15,BV X G v16,BV X G v17,BV X G xN1,fun H=>.inr ⟨_,_,_,xN2,rfl,rfl,aMv,(by repeat first|exact .nil|refine .cons ⟨_,rfl⟩ ?_)⟩,BV X G xS1,fun H=>.inr ⟨_,_,_,xS2,rfl,rfl,(by show 6<=ψ;decide),(by repeat first|exact .nil|refine .cons ⟨_,rfl⟩ ?_)⟩,BV X G xB1,fun H=>.inr ⟨_,_,_,xB2,rfl,rfl,oU,(by repeat first|exact .nil|refine .cons ⟨_,rfl⟩ ?_)⟩,BV X G xF1,fun H=>⟨[fa0,fa1,fa2,fa3,fa4,fa5,fa6,fa7,fa8,fa9,fa10,fa11,fa12,fa13,fa14,fa15,fa16],.inr ⟨_,_,_,xF2,rfl,rfl,(by show 17<=ψ;decide),(.cons rfl (.cons rfl (.cons rfl (.cons rfl (.cons rfl (.cons rfl (.cons rfl (.cons rfl (.cons rfl (.cons rfl (.cons rfl (.cons rfl (.cons rfl (.cons rfl (.cons rfl (.cons rfl (.cons rfl .nil)))))))))))))))))⟩,(qG ⟨ga0,.inr ⟨_,_,_,ya0,rfl,rfl,vD,(.cons ⟨_,rfl⟩ (.cons rfl .nil))⟩,.inr ⟨_,_,_,yb0,rfl,rfl,oU,(by repeat first|exact .nil|refine .cons ⟨_,rfl⟩ ?_)⟩⟩ (qG ⟨ga1,.inr ⟨_,_,_,ya1,rfl,rfl,vD,(.cons ⟨_,rfl⟩ (.cons rfl .nil))⟩,.inr ⟨_,_,_,yb1,rfl,rfl,oU,(by repeat first|exact .nil|refine .cons ⟨_,rfl⟩ ?_)⟩⟩ (qG ⟨ga2,.inr ⟨_,_,_,ya2,rfl,rfl,vD,(.cons ⟨_,rfl⟩ (.cons rfl .nil))⟩,.inr ⟨_,_,_,yb2,rfl,rfl,aMv,(by repeat first|exact .nil|refine .cons ⟨_,rfl⟩ ?_)⟩⟩ (qG ⟨ga3,.inr ⟨_,_,_,ya3,rfl,rfl,vD,(.cons ⟨_,rfl⟩ (.cons rfl .nil))⟩,.inr ⟨_,_,_,yb3,rfl,rfl,aMv,(by repeat first|exact .nil|refine .cons ⟨_,rfl⟩ ?_)⟩⟩ (qG ⟨ga4,.inr ⟨_,_,_,ya4,rfl,rfl,vD,(.cons ⟨_,rfl⟩ (.cons rfl .nil))⟩,.inr ⟨_,_,_,yb4,rfl,rfl,aLh,(by repeat first|exact .nil|refine .cons ⟨_,rfl⟩ ?_)⟩⟩ (qG ⟨ga5,.inr ⟨_,_,_,ya5,rfl,rfl,vD,(.cons ⟨_,rfl⟩ (.cons rfl .nil))⟩,.inr ⟨_,_,_,yb5,rfl,rfl,aMv,(by repeat first|exact .nil|refine .cons ⟨_,rfl⟩ ?_)⟩⟩ (qG ⟨ga6,.inr ⟨_,_,_,ya6,rfl,rfl,vD,(.cons ⟨_,rfl⟩ (.cons rfl .nil))⟩,.inr ⟨_,_,_,yb6,rfl,rfl,aLh,(by repeat first|exact .nil|refine .cons ⟨_,rfl⟩ ?_)⟩⟩ (qG ⟨ga7,.inr ⟨_,_,_,ya7,rfl,rfl,vD,(.cons ⟨_,rfl⟩ (.cons rfl .nil))⟩,.inr ⟨_,_,_,yb7,rfl,rfl,oU,(by repeat first|exact .nil|refine .cons ⟨_,rfl⟩ ?_)⟩⟩ (qG ⟨ga8,.inr ⟨_,_,_,ya8,rfl,rfl,vD,(.cons ⟨_,rfl⟩ (.cons rfl .nil))⟩,.inr ⟨_,_,_,yb8,rfl,rfl,oU,(by repeat first|exact .nil|refine .cons ⟨_,rfl⟩ ?_)⟩⟩ (qG ⟨ga9,.inr ⟨_,_,_,ya9,rfl,rfl,vD,(.cons ⟨_,rfl⟩ (.cons rfl .nil))⟩,.inr ⟨_,_,_,yb9,rfl,rfl,vD,(.cons ⟨_,rfl⟩ (.cons ⟨_,rfl⟩ .nil))⟩⟩ (qG ⟨ga10,.inr ⟨_,_,_,ya10,rfl,rfl,vD,(.cons ⟨_,rfl⟩ (.cons rfl .nil))⟩,.inr ⟨_,_,_,yb10,rfl,rfl,oU,(by repeat first|exact .nil|refine .cons ⟨_,rfl⟩ ?_)⟩⟩ (qG ⟨ga11,.inr ⟨_,_,_,ya11,rfl,rfl,vD,(.cons ⟨_,rfl⟩ (.cons rfl .nil))⟩,.inr ⟨_,_,_,yb11,rfl,rfl,vD,(.cons ⟨_,rfl⟩ (.cons ⟨_,rfl⟩ .nil))⟩⟩ (qG ⟨ga12,.inr ⟨_,_,_,ya12,rfl,rfl,vD,(.cons ⟨_,rfl⟩ (.cons rfl .nil))⟩,.inr ⟨_,_,_,yb12,rfl,rfl,vD,(.cons ⟨_,rfl⟩ (.cons ⟨_,rfl⟩ .nil))⟩⟩ (qG ⟨ga13,.inr ⟨_,_,_,ya13,rfl,rfl,vD,(.cons ⟨_,rfl⟩ (.cons rfl .nil))⟩,.inr ⟨_,_,_,yb13,rfl,rfl,aLh,(by repeat first|exact .nil|refine .cons ⟨_,rfl⟩ ?_)⟩⟩ (qG ⟨ga14,.inr ⟨_,_,_,ya14,rfl,rfl,vD,(.cons ⟨_,rfl⟩ (.cons rfl .nil))⟩,.inr ⟨_,_,_,yb14,rfl,rfl,vD,(.cons ⟨_,rfl⟩ (.cons ⟨_,rfl⟩ .nil))⟩⟩ (qG ⟨ga15,.inr ⟨_,_,_,ya15,rfl,rfl,vD,(.cons ⟨_,rfl⟩ (.cons rfl .nil))⟩,.inr ⟨_,_,_,yb15,rfl,rfl,iF,(.cons ⟨_,rfl⟩ .nil)⟩⟩ (qG ⟨ga16,.inr ⟨_,_,_,ya16,rfl,rfl,vD,(.cons ⟨_,rfl⟩ (.cons rfl .nil))⟩,.inr ⟨_,_,_,yb16,rfl,rfl,iF,(.cons ⟨_,rfl⟩ .nil)⟩⟩ aIp)))))))))))))))))⟩,BV X G w1,fun H=>.inr ⟨_,_,_,w2,rfl,rfl,(by show 23<=ψ;decide),(by repeat first|exact .nil|refine .cons ⟨_,rfl⟩ ?_)⟩⟩;have KM:KdM K (Cl5.mk Va Vb Vc Vd Ve):=⟨⟨Ua.cl,qa0,q1,q2,qb0⟩,⟨Ub.cl,qa1,q1,q2,qb1⟩,⟨Uc.cl,qa2,q1,q2,qb2⟩,⟨Ud.cl,qa3,q1,q2,qb3⟩,qc0,qc1,qc2,qc3⟩;have RC:RwC K ao:=⟨⟨bh.cl,qa4,q1,q2,qb4⟩,qc4⟩;have Z:=ZZ.mk M C Ua Ub Uc Ud Ue Uf bh oh gp bp tRE VI ar iu ah;refine⟨d90,fun s v=>(F90.ex.elim fun _ ⟨_,_,_,_,_,_,_,_,e,_⟩=>e▸.of_eq rfl),fun base _ _=>?_⟩;have G5:=(tU l.prog w base (k:=0) Z F5 );have G4:=(aEe l.prog w base (k:=2) Z F4 D5 (mO G5));have G6:=(aBb l.prog w base (k:=2) Z F6 D5 (mO G5));have G8:=(aHw l.prog w base (k:=0) Z F8 );have G74:=(aEr l.prog w base (k:=0) Z F74 );have G61:=(nK l.prog w base (k:=4) Z F61 D4 (mO G4));have G64:=(aBe l.prog w base (k:=4) Z F64 D6 (mO G6) D4 (mO G4));have G63:=(aFi l.prog w base (k:=6) Z F63 D6 (mO G6) D64 (mO G64) D4 (mO G4));have G62:=(mJ l.prog w base (k:=8) Z F62 D4 (mO G4) D63 (mO G63));have G67:=(oP l.prog w base (k:=4) Z F67 D4 (mO G4));have G65:=(lC l.prog w base (k:=0) Z F65 );have G68:=(oR l.prog w base (k:=0) Z F68 );have G66:=(tR l.prog w base (k:=10) Z F66 D62 (mO G62) D67 (mO G67) D68 (mO G68));have G11:=(aDi l.prog w base (k:=0) Z F11 );have G17:=(sI l.prog w base (k:=0) Z F17 );have G23:=(aAo l.prog w base (k:=0) Z F23 );have G29:=(wN l.prog w base (k:=0) Z F29 );have G40:=(sM l.prog w base (k:=0) Z F40 );have G36:=(tY l.prog w base (k:=0) Z F36 );have G0:=(lQ l.prog w base (k:=0) Z F0 );have G2:=(lX l.prog w base (k:=0) Z F2 );have G1:=(oO l.prog w base (k:=0) Z F1 );have G3:=(iV l.prog w base (k:=2) Z F3 D0 (mO G0));have G42:=(aDn l.prog w base (k:=0) Z F42 );have G43:=(aBl l.prog w base (k:=0) Z F43 );have G44:=(rN l.prog w base (k:=0) Z F44 );have G45:=(pF l.prog w base (k:=0) Z F45 );have G41:=(tD l.prog w base (k:=0) Z F41 );have G7:=(aBy l.prog w base (k:=0) Z F7 );have G49:=(aPj l.prog w base (k:=4) Z F49 D4 (mO G4) D6 (mO G6) D7 (mO G7));have G47:=(aDa l.prog w base (k:=0) Z F47 );have G48:=(aEk l.prog w base (k:=6) Z F48 D49 (mO G49) D2 (mO G2));have G50:=(nE l.prog w base (k:=2) Z F50 D2 (mO G2));have G51:=(pE l.prog w base (k:=0) Z F51 );have G55:=(aDw l.prog w base (k:=0) Z F55 );have G56:=(aIv l.prog w base (k:=0) Z F56 );have G58:=(rE l.prog w base (k:=0) Z F58 RC);have G72:=(aCu l.prog w base (k:=0) Z F72 );have G73:=(wV l.prog w base (k:=0) Z F73 );have G75:=(aCr l.prog w base (k:=2) Z F75 D73 (mO G73));have G76:=(wO l.prog w base (k:=0) Z F76 );have G77:=(aAr l.prog w base (k:=4) Z F77 D75 (mO G75) D76 (mO G76));have G84:=(rV l.prog w base (k:=0) Z F84 );have G85:=(aCi l.prog w base (k:=2) Z F85 D84 (mO G84));have G86:=(aAg l.prog w base (k:=4) Z F86 D85 (mO G85));have G79:=(aCp l.prog w base (k:=4) Z F79 D75 (mO G75));have G87:=(aCg l.prog w base (k:=4) Z F87 D75 (mO G75));have t_size:∀r C sp,TV (Cl5.mk Va Vb Vc Vd Ve) K r vSz C sp->zB l.prog w K mg base CX0 (6*r+4) "size" C sp:=by
  intro r
  induction r with
  |zero =>
   rintro C' sp (⟨rfl,rfl⟩|⟨rfl,rfl⟩|⟨rfl,rfl⟩|⟨rfl,rfl⟩)
   ·exact⟨Ua.cl,_,_,_,D13.me,jI.mono (nX l.prog w base (k:=0) (r:=0) Z F13 ) (by omega),D13.b⟩
   ·exact⟨Ub.cl,_,_,_,D19.me,noFn (noV nn1),D19.b⟩
   ·exact⟨Uc.cl,_,_,_,D25.me,noFn (noV nn2),D25.b⟩
   ·exact⟨Ud.cl,_,_,_,D31.me,noFn (noV nn3),D31.b⟩
  |succ r ih =>
   have gS:=(gU l.prog w base (k:=6*r+4) (r:=r) Z F37 ih);have gG:=(cO l.prog w base (k:=6*r+6) (r:=r) Z F32 D37 gS);rintro C' sp (⟨rfl,rfl⟩|⟨rfl,rfl⟩|⟨rfl,rfl⟩|⟨rfl,rfl⟩)
   ·exact⟨Ua.cl,_,_,_,D13.me,jI.mono (nX l.prog w base (k:=0) (r:=r+1) Z F13 ) (by omega),D13.b⟩
   ·exact⟨Ub.cl,_,_,_,D19.me,jI.mono (sU l.prog w base (k:=6*r+6) (r:=r) Z F19 D37 gS) (by omega),D19.b⟩
   ·exact⟨Uc.cl,_,_,_,D25.me,jI.mono (aBm l.prog w base (k:=6*r+4) (r:=r) Z F25 ih) (by omega),D25.b⟩
   ·exact⟨Ud.cl,_,_,_,D31.me,jI.mono (aBj l.prog w base (k:=6*r+8) (r:=r) Z F31 D32 gG) (by omega),D31.b⟩
 have xi:=fun r=>(gU l.prog w base (k:=6*r+4) (r:=r) Z F37 (t_size r));have xx:=fun r=>(cO l.prog w base (k:=6*r+6) (r:=r) Z F32 D37 (xi r));have t_depth:∀r C sp,TV (Cl5.mk Va Vb Vc Vd Ve) K r vDp C sp->zB l.prog w K mg base CX0 (6*r+4) "depth" C sp:=by
  intro r
  induction r with
  |zero =>
   rintro C' sp (⟨rfl,rfl⟩|⟨rfl,rfl⟩|⟨rfl,rfl⟩|⟨rfl,rfl⟩)
   ·exact⟨Ua.cl,_,_,_,D14.me,jI.mono (mB l.prog w base (k:=0) (r:=0) Z F14 ) (by omega),D14.b⟩
   ·exact⟨Ub.cl,_,_,_,D20.me,noFn (noV nn1),D20.b⟩
   ·exact⟨Uc.cl,_,_,_,D26.me,noFn (noV nn2),D26.b⟩
   ·exact⟨Ud.cl,_,_,_,D33.me,noFn (noV nn3),D33.b⟩
  |succ r ih =>
   have gS:=(eJ l.prog w base (k:=6*r+4) (r:=r) Z F38 ih);rintro C' sp (⟨rfl,rfl⟩|⟨rfl,rfl⟩|⟨rfl,rfl⟩|⟨rfl,rfl⟩)
   ·exact⟨Ua.cl,_,_,_,D14.me,jI.mono (mB l.prog w base (k:=0) (r:=r+1) Z F14 ) (by omega),D14.b⟩
   ·exact⟨Ub.cl,_,_,_,D20.me,jI.mono (oK l.prog w base (k:=6*r+6) (r:=r) Z F20 D38 gS) (by omega),D20.b⟩
   ·exact⟨Uc.cl,_,_,_,D26.me,jI.mono (tQ l.prog w base (k:=6*r+4) (r:=r) Z F26 ih) (by omega),D26.b⟩
   ·exact⟨Ud.cl,_,_,_,D33.me,jI.mono (tZ l.prog w base (k:=6*r+6) (r:=r) Z F33 D38 gS) (by omega),D33.b⟩
 have xm:=fun r=>(eJ l.prog w base (k:=6*r+4) (r:=r) Z F38 (t_depth r));have t_parted:∀C sp,TPt (Cl5.mk Va Vb Vc Vd Ve) K C sp->zB l.prog w K mg base CX0 2 "parted" C sp:=by
  rintro C' sp (⟨rfl,rfl⟩|⟨rfl,rfl⟩)
  ·exact⟨Ub.cl,_,_,_,D21.me,(mW l.prog w base (k:=0) Z F21 ),D21.b⟩
  ·exact⟨Uc.cl,_,_,_,D27.me,(rL l.prog w base (k:=0) Z F27 ),D27.b⟩
 have DM:DfM K Vc "units_at" f10 d10 ["self","path"]:=⟨⟨w3,a10.i,F10.kp⟩,D10.b⟩;have t_units:∀r C sp,TU (Cl5.mk Va Vb Vc Vd Ve) K r C sp->zB l.prog w K mg base CX0 (6*r+4) "units_at" C sp:=by
  intro r
  induction r with
  |zero =>
   rintro C' sp (⟨rfl,rfl⟩|⟨rfl,rfl⟩|⟨rfl,rfl⟩|⟨rfl,rfl⟩)
   ·exact⟨Ua.cl,_,_,_,D16.me,jI.mono (dR l.prog w base (k:=0) (r:=0) Z F16 ) (by omega),D16.b⟩
   ·exact⟨Ub.cl,_,_,_,D10.me,noFn (noU nn1),D10.b⟩
   ·exact⟨Uc.cl,_,_,_,DM.me,noFn (noU nn2),DM.b⟩
   ·exact⟨Ud.cl,_,_,_,D35.me,noFn (noU nn3),D35.b⟩
  |succ r ih =>
   rintro C' sp (⟨rfl,rfl⟩|⟨rfl,rfl⟩|⟨rfl,rfl⟩|⟨rfl,rfl⟩)
   ·exact⟨Ua.cl,_,_,_,D16.me,jI.mono (dR l.prog w base (k:=0) (r:=r+1) Z F16 ) (by omega),D16.b⟩
   ·exact⟨Ub.cl,_,_,_,D10.me,jI.mono (cS l.prog w base (k:=6*r+4) (r:=r) Z ff1 F10 (fun C' sp h=>zB.mono (t_parted C' sp h) (by omega)) ih D8 (jI.mono G8 (by omega))) (by omega),D10.b⟩
   ·exact⟨Uc.cl,_,_,_,DM.me,jI.mono (cS l.prog w base (k:=6*r+4) (r:=r) Z ff2 F10 (fun C' sp h=>zB.mono (t_parted C' sp h) (by omega)) ih D8 (jI.mono G8 (by omega))) (by omega),DM.b⟩
   ·exact⟨Ud.cl,_,_,_,D35.me,jI.mono (mT l.prog w base (k:=6*r+8) (r:=r) Z F35 D8 (jI.mono G8 (by omega)) D32 (xx r)) (by omega),D35.b⟩
 have G37:=xi 12;have G38:=xm 12;have G39:=(pY l.prog w base (k:=76) (r:=12) Z F39 D17 (mO G17) (t_units 12));have G71:=(rK l.prog w base (k:=78) (r:=12) Z F71 D37 (mO G37) D39 (mO G39) D38 (mO G38));have r_kin:∀n,jI l.prog w K mg base CX0 (2*n+2) f70 d70 ["words","shapes"] (aHo (Cl5.mk Va Vb Vc Vd Ve) K n):=by
  intro n
  induction n with
  |zero=>exact noFn fun vs H Q E z=>by obtain⟨_,_,_,_,_,_,h,_⟩:=z;exact absurd h (Ar _)
  |succ n ih=>exact jI.mono (aFb l.prog w base (k:=2*n+2) (r:=n) Z F70 D70 ih D11 (jI.mono G11 (by omega)) D17 (jI.mono G17 (by omega)) D23 (jI.mono G23 (by omega)) D29 (jI.mono G29 (by omega))) (by omega)
 have G70:=r_kin 2;have G69:=(uF l.prog w base (k:=80) (r:=12) Z F69 D70 (mO G70) D68 (mO G68) D36 (mO G36) D71 (mO G71));have G60:=(pW l.prog w base (k:=82) (r:=12) Z F60 D61 (mO G61) D65 (mO G65) D36 (mO G36) D66 (mO G66) D69 (mO G69) D40 (mO G40));have t_word:∀C sp,T4 (Cl5.mk Va Vb Vc Vd Ve) (aFp (Cl5.mk Va Vb Vc Vd Ve) K) C sp->zB l.prog w K mg base CX0 2 "word" C sp:=by
  rintro C' sp (⟨rfl,rfl⟩|⟨rfl,rfl⟩|⟨rfl,rfl⟩|⟨rfl,rfl⟩)
  ·exact⟨Ua.cl,_,_,_,D12.me,(aBo l.prog w base (k:=0) (r:=0) Z F12 ),D12.b⟩
  ·exact⟨Ub.cl,_,_,_,D18.me,(sJ l.prog w base (k:=0) (r:=0) Z F18 ),D18.b⟩
  ·exact⟨Uc.cl,_,_,_,D24.me,(wQ l.prog w base (k:=0) (r:=0) Z F24 ),D24.b⟩
  ·exact⟨Ud.cl,_,_,_,D30.me,(aBc l.prog w base (k:=0) (r:=0) Z F30 ),D30.b⟩
 have DSn:DfM K Va "step_of" f9 d9 ["self","word"]:=⟨⟨w4,a9.i,F9.kp⟩,D9.b⟩;have DSp:DfM K Vd "step_of" f9 d9 ["self","word"]:=⟨⟨w5,a9.i,F9.kp⟩,D9.b⟩;have t_st:∀C sp,T4 (Cl5.mk Va Vb Vc Vd Ve) (aJm (Cl5.mk Va Vb Vc Vd Ve) K) C sp->zB l.prog w K mg base CX0 6 "step_of" C sp:=by
  rintro C' sp (⟨rfl,rfl⟩|⟨rfl,rfl⟩|⟨rfl,rfl⟩|⟨rfl,rfl⟩)
  ·exact⟨Ua.cl,_,_,_,DSn.me,jI.mono (aE l.prog w base (k:=0) (r:=0) (FF:=Kd.isNum) Z (fun _ _ z=>nomatch z) F9 ) (by decide),DSn.b⟩
  ·exact⟨Ub.cl,_,_,_,D9.me,jI.mono (aE l.prog w base (k:=0) (r:=0) (FF:=Kd.isNest) Z (fun _ _ z=>nomatch z) F9 ) (by decide),D9.b⟩
  ·exact⟨Uc.cl,_,_,_,D28.me,(oW l.prog w base (k:=4) (r:=0) Z F28 D6 (mO G6)),D28.b⟩
  ·exact⟨Ud.cl,_,_,_,DSp.me,jI.mono (aE l.prog w base (k:=0) (r:=0) (FF:=Kd.isPick) Z (fun _ _ z=>nomatch z) F9 ) (by decide),DSp.b⟩
 have t_led:∀C sp,T3 (Cl5.mk Va Vb Vc Vd Ve) (uU (Cl5.mk Va Vb Vc Vd Ve) K) C sp->zB l.prog w K mg base CX0 4 "led" C sp:=by
  rintro C' sp (⟨rfl,rfl⟩|⟨rfl,rfl⟩|⟨rfl,rfl⟩)
  ·exact⟨Ua.cl,_,_,_,D15.me,(aEh l.prog w base (k:=2) (r:=0) Z F15 ),D15.b⟩
  ·exact⟨Ub.cl,_,_,_,D22.me,(uC l.prog w base (k:=2) (r:=0) Z F22 ),D22.b⟩
  ·exact⟨Ud.cl,_,_,_,D34.me,(aDh l.prog w base (k:=2) (r:=0) Z F34 D17 (mO G17)),D34.b⟩
 have G54:=(aEp l.prog w base (k:=6) Z F54 (fun C' sp h=>zB.mono (t_st C' sp h) (by decide)) D4 (mO G4));have G53:=(aDk l.prog w base (k:=8) Z F53 D17 (mO G17) D54 (mO G54) (fun C' sp h=>zB.mono (t_led C' sp h) (by decide)) KM (fun C' sp h=>zB.mono (t_word C' sp h) (by decide)) D3 (mO G3));have G52:=(aIh l.prog w base (k:=10) Z F52 D53 (mO G53) D42 (mO G42));have G59:=(aAn l.prog w base (k:=2) Z F59 D57 (noFn fun _ _ _ _ h=>h) D43 (mO G43) D44 (mO G44));have G57:=(wW l.prog w base (k:=4) Z F57 D59 (mO G59) D58 (mO G58));have G46:=(pC l.prog w base (k:=12) Z F46 D47 (mO G47) D48 (mO G48) D50 (mO G50) D41 (mO G41) D52 (mO G52) D55 (mO G55) D56 (mO G56) D51 (mO G51) D57 (mO G57) D45 (mO G45) D2 (mO G2) D1 (mO G1));have r__law_size:∀n,jI l.prog w K mg base CX0 (2*n+2) f78 d78 ["_law_shapes_here","_law_kind_here"] (aGj K vSz n):=by
  intro n
  induction n with
  |zero=>exact noFn fun _ _ _ _ h=>h
  |succ n ih=>exact jI.mono (aBr l.prog w base (k:=2*n+2) (r:=n) Z F78 D78 ih) (by omega)
 have G78:=r__law_size 12;have r__law_kind_words:∀n,jI l.prog w K mg base CX0 (2*n+2) f81 d81 ["_law_shapes_here","_law_kind_here"] (aFt K n):=by
  intro n
  induction n with
  |zero=>exact noFn fun vs H Q E z=>by obtain⟨_,_,_,_,_,h,_⟩:=z;exact absurd h (Ar _)
  |succ n ih=>exact jI.mono (mC l.prog w base (k:=2*n+2) (r:=n) Z F81 D81 ih) (by omega)
 have G81:=r__law_kind_words 2;have r__law_spots:∀n,jI l.prog w K mg base CX0 (2*n+2) f83 d83 ["_law_shapes_here","_law_kind_here","_law_steps_here"] (aGo K n):=by
  intro n
  induction n with
  |zero=>exact noFn fun _ _ _ _ h=>h
  |succ n ih=>exact jI.mono (wS l.prog w base (k:=2*n+2) (r:=n) Z F83 D83 ih) (by omega)
 have G83:=r__law_spots 9;have G82:=(lR l.prog w base (k:=6) Z F82 D81 (mO G81));have G80:=(uH l.prog w base (k:=26) (r:=12) Z F80 D77 (mO G77) D75 (mO G75) D79 (mO G79) D78 (mO G78));have G88:=(aCk l.prog w base (k:=14) Z F88 D46 (mO G46));have G89:=(aAh l.prog w base (k:=16) Z F89 D86 (mO G86) D88 (mO G88));have G90:=(aQt l.prog w base (k:=84) (r:=12) Z ⟨by decide,by decide⟩ F90 D72 (mO G72) D74 (mO G74) D80 (mO G80) D82 (mO G82) D60 (mO G60) D83 (mO G83) D89 (mO G89) D75 (mO G75) D87 (mO G87));exact G90
theorem walk{l:PySem.W.OpenLaw}{YP:AD->Ag->Prop}{d:DefRec}{K:Params->ω}(hn:l.most=some 63)(hdf:d.params.defaults=[])
  (hY:∀(w:AD) (h:Ag),YP w h->(K w.params).In h)
  (F:∀(w:AD) (mg:Str->Option Value) (fa:Addr) (h:Ag),(K w.params).In h->h.Ns ya mg->mg d.name=some (.ref fa) →
   ∃fd:zb,(∀(s:ν) (u:Value),BindsTo s fd ⟨[u],[]⟩ [("_law_script",u)])/\∀base:Ag,(K w.params).In base->base.Ns ya mg->jI l.prog w (K w.params) mg base CX0 86 fa fd ["_law_script"] (aHk (K w.params))):
  PySem.W.WalkO q loose XP YP l.row.toRowW d [] (fun f vs=>PySem.call f vs) :=
 L2.aOf (n:=63) (k:=86) (x:="_law_script") (CX:=fun _=>CX0) (sp:=fun w=>aHk (K w.params)) hn (by decide) hdf ⟨rfl,by decide,by decide,rfl⟩ hY F (fun _ _ a ns hl _ hS=>⟨a,ns,rfl,hS,hl,fun _=>rfl⟩) fun _ _ _ _ _ z=>z
end K29
namespace PySem.W.Fast
def tw15205401256603952060:=0
def tw17715620826430481291:=0
def tw16584849966726358207:=0
def tw3895072693913815008:=0
def tw9634335825090195268:=0
def tw3408652487760381847:=0
def tw9347724708552640595:=0
def tw11886217767879017088:=0
def tw242240453865689898:=0
def tw902627644192160899:=0
def tw17832891090389711950:=0
def tw13606747772471921445:=0
def tw13618349134817360546:=0
def tw9143663787525549485:=0
def tw13945513621336299464:=0
def tw9429417620619228697:=0
def tw863713713091714476:=0
def tw6088216633727988708:=0
def tw10531339059795771095:=0
def tw17858356223632322879:=0
def tw15144973354154839722:=0
def tw11984938512397126139:=0
def tw12592730500621536756:=0
def tw8195627764090549079:=0
def tw17302718911601217067:=0
def tw14448020775027729309:=0
def tw16349348060774920081:=0
def tw17077798608440170039:=0
def tw2761926654951347996:=0
def tw15071648565213265758:=0
def tw5989856431483361230:=0
def tw1629299257134330198:=0
def tw8767505510444149608:=0
def tw7473368030448484769:=0
def tw8255511783653962337:=0
def tw11496736479026186618:=0
def tw14526818959040888318:=0
def tw13272802210580228139:=0
def tw16164845017922831474:=0
def tw2183684248467526226:=0
def tw11866388099758214249:=0
def tw3739493936901256948:=0
def tw3800584642300648812:=0
def tw1557921875344137451:=0
def tw1748778887080446033:=0
def tw11926829492386500608:=0
def tw16796377242126365614:=0
def tw13934625247730659974:=0
def tw3023273935260090706:=0
def tw15755091258438114980:=0
def tw13631183867465564161:=0
def tw4170961135607676061:=0
def tw12016184378070188741:=0
def tw6773506505487330899:=0
def tw1543791434936543140:=0
def tw13779355792369628149:=0
def tw6834501198918535914:=0
def tw17499079519395389530:=0
def tw17405630844712568202:=0
def tw8627273581406509748:=0
def tw6583603999000527334:=0
def tw8437256855991389378:=0
def tw15617064887977105791:=0
def tw13661192435933100552:=0
def tw7449558744675620350:=0
def tw16396475329797903902:=0
def tw287283135130037994:=0
def tw1369553908019024403:=0
def tw1142917833369462325:=0
def tw4548049197925556958:=0
def tw5899015296474550873:=0
def tw12381616009069829329:=0
def tw11762126969245077659:=0
def tw12098889180358686591:=0
def tw13334394846751648755:=0
def tw7377222948831184372:=0
def tw2335305580740426455:=0
def tw17353780955129241210:=0
def tw16909635630641287240:=0
def tw1292276852555645023:=0
def tw11031530170423703473:=0
def tw12620970005187710618:=0
def tw12850604897280036412:=0
def tw1698005685784818023:=0
def tw10057312701083347052:=0
def tw9475155924942538964:=0
def tw11789070092944813506:=0
def tw10770048522135222616:=0
def tw7748146536597184289:=0
def tw16223910026873758785:=0
def tw11378838560289915987:=0
def tw5404235029158443646:=0
def tw4380063040718367717:=0
def tw9432299568454110836:=0
def tw5435085642922106068:=0
def tw17760481320190677317:=0
def tw10677746681270229530:=0
def tw3955726286680994638:=0
def tw15786698060939371505:=0
def tw12736943417517236329:=0
def tw16904584284553783841:=0
def tw5377873155420941346:=0
def tw1847600060473311131:=0
def tw14538025056716225707:=0
def tw6317893620720411126:=0
def tw6361089341958424210:=0
def tw3236244941011402816:=0
def tw11744495176344503544:=0
def tw14504199306330827200:=0
def tw4480388317914510931:=0
def tw13632616191887389600:=0
def tw3424612208040923588:=0
def tw15785078569735427950:=0
def tw17175539864143637251:=0
def tw10969481662817852646:=0
def tw1831499690440811123:=0
def tw4118845537387497958:=0
def tw8112926678467879454:=0
def tw7805070088243716123:=0
def tw10032776963360949740:=0
def tw10748479889014571581:=0
def tw17700765228063354451:=0
def tw10642191235546105845:=0
def tw5103933988200329302:=0
def tw9558168031332726117:=0
def tw9269005928199508167:=0
def tw16447078131519058782:=0
def tw16700346811084991098:=0
def tw3043046052756460727:=0
def tw11432749311873657026:=0
def tw756827069387892352:=0
def tw16397038760926051179:=0
def tw16995686019994547433:=0
def tw10237232138561336885:=0
def tw18174977656420638990:=0
def tw7766273758213564765:=0
def tw11904678940379097869:=0
def tw16543409491788245600:=0
def tw3479363556941173124:=0
def tw7005987375684926523:=0
def tw16265745183908776358:=0
def tw15290269781480073791:=0
def tw2599002816888851817:=0
def tw6036495456003621645:=0
def tw1148792258667157258:=0
def tw4244000950093586633:=0
def tw10102926664690411754:=0
def tw9254423609583613173:=0
def tw4471951573092700087:=0
def tw7907328386037661519:=0
def tw15960431675942012543:=0
def tw17933815118505520224:=0
def tw12448913946138492462:=0
def tw14105894096655954372:=0
def tw14552388922659150904:=0
def tw12557764922772551532:=0
def tw18014745452212395263:=0
def tw10245616537165576246:=0
def tw8726778754056143989:=0
def tw1290990824522297821:=0
def tw14008754568954933233:=0
def tw11532392699419290372:=0
def tw10202257723364309309:=0
def tw11716442807004611098:=0
def tw10937157950886939771:=0
def tw12748671258591305070:=0
def tw4516567596547970059:=0
def tw16128531762599820748:=0
def tw14336954994369891726:=0
def tw362199009181558833:=0
def tw11342500213543110983:=0
def tw8790489349729165700:=0
def tw15315671020475185207:=0
def tw8172916149289734114:=0
def tw2898331995648191137:=0
def tw12176704726913727318:=0
def tw7156544940766468978:=0
def tw11471320298009910202:=0
def tw1412147660987242555:=0
def tw10875204406834909193:=0
def tw8634938833606990860:=0
def tw3791574257630800390:=0
def tw18248957473749755465:=0
def tw8586335473939013067:=0
def tw8498779806698632461:=0
def tw2877412961554511939:=0
def tw7953114169668251713:=0
def tw2989615758040568183:=0
def tw10383948442281637824:=0
def tw1346496866255891972:=0
def tw15308816364938442506:=0
def tw10189072813461876912:=0
def tw8496840958062642223:=0
def tw16125333705302468809:=0
def tw5210404014446401641:=0
def tw9869175714477371857:=0
def tw16325388665949514698:=0
def tw18121854178842159844:=0
def tw6820756631183359765:=0
def tw6465926085806227988:=0
def tw15112657569103343765:=0
def tw17350861808960837217:=0
def tw6006215582775675683:=0
def tw5501710767604568733:=0
def tw15663027986710619928:=0
def tw9890913943108690860:=0
def tw5160652510133377640:=0
def tw3623494705288976834:=0
def tw11917598632090576215:=0
def tw14631431920083323824:=0
def tw18367552197626239389:=0
def tw2972375614122096380:=0
def tw8959354101932585900:=0
def tw12328791006995669159:=0
def tw4541485905468381410:=0
def tw12019943610813890999:=0
def tw5258071976000173366:=0
def tw3139577278494300086:=0
def tw14265181948884961797:=0
def tw7834083494909656981:=0
def tw8047289539478460827:=0
def tw8903772233993022746:=0
def tw17995943435407354522:=0
def tw14946395148111225852:=0
def tw2036446244725700739:=0
def tw10145824672949429163:=0
def tw16569949377344091964:=0
def tw6967159300958661641:=0
def tw18334843744840793023:=0
def tw4878674059704058235:=0
def tw4951920216175737988:=0
def tw8887341903438765694:=0
def tw9587779323981071230:=0
def tw4569614356128162862:=0
def tw9706998239865976713:=0
def tw11103221532490369442:=0
def tw2646936779247883006:=0
def tw17724182103410188766:=0
def tw17574658357548660453:=0
def tw14844887050538724342:=0
def tw16513983596168649333:=0
def tw12186436179064640370:=0
def tw2088438014873123424:=0
def tw6258702460931724114:=0
def tw3178160311090116757:=0
def tw9371367955917598208:=0
def tw16154682715001891211:=0
def tw4860990921149808277:=0
def tw11348249061768713631:=0
def tw6979421822178963005:=0
def tw12247617531900831733:=0
def tw1935354191449853814:=0
def tw18272094092599464388:=0
def tw15835403067699127485:=0
def tw1007174086028662110:=0
def tw15651879210583536258:=0
def tw5557841515171269252:=0
def tw14566926944613907974:=0
def tw17334674102364203184:=0
def tw16316445818339242628:=0
def tw6161984139488751615:=0
def tw5359068974351882041:=0
def tw9458108219173136051:=0
def tw3651796524677298627:=0
def tw6293654785078927218:=0
def tw9455126657789376788:=0
def tw2330842863853711451:=0
def tw18134446928008827909:=0
def tw13156936929282630328:=0
def tw4555624174693022173:=0
def tw3267264891228198594:=0
def tw1665952039172373582:=0
def tw10292905419738771827:=0
def tw8759929129612835606:=0
def tw7547894122455769812:=0
def tw78118978184236602:=0
def tw10838759084367599640:=0
def tw3423755464819218611:=0
def tw14773683611459077962:=0
def tw836791984689667529:=0
def tw10979574893872768629:=0
def tw17744233315842208809:=0
def tw9070751641119191184:=0
def tw12947058814664616380:=0
def tw17377298167554477391:=0
def tw4449956853352488170:=0
def tw3097956084891202753:=0
def tw6672081996713983754:=0
def tw18107218027280988169:=0
def tw2104012011106369061:=0
def tw1789974041179722745:=0
def tw4389965151949789728:=0
def tw10596297127746575133:=0
def tw12070207328094270604:=0
def tw6910940028930788935:=0
def tw13027219324737779278:=0
def tw16717210977807181382:=0
def tw14980969578804297288:=0
def tw240268198078903123:=0
def tw8475616199652786877:=0
def tw17011671246441401073:=0
def tw9733910204601934921:=0
def tw5362366015215787477:=0
def tw3049906198279305500:=0
def tw4398119083847018678:=0
def tw4142907942306405233:=0
def tw2579518700194104945:=0
def tw16162762623690753101:=0
def tw2615051073571172594:=0
def tw6400309622278276696:=0
def tw13130768120681882978:=0
def tw13192380230649621510:=0
def tw10260458955383241537:=0
def tw11705887653831271074:=0
def tw9614111536393126903:=0
def tw10860586879110085717:=0
def tw7139679140073924533:=0
def tw4324022840093581142:=0
def tw6680006758588166966:=0
def tw9236783718464550011:=0
def tw6449844215461409139:=0
def tw17301487543646238551:=0
def tw3355857318221551647:=0
def tw10396976900977369050:=0
def tw15089974958811154096:=0
def tw18138395234409585596:=0
def tw5295546505559292141:=0
def tw10039830937263681469:=0
def tw4292316253933402477:=0
def tw70669554414681247:=0
def tw2184737185286651102:=0
def tw12141950917969518014:=0
def tw10255593636438965373:=0
def tw12195237436703623617:=0
def tw11801574750670905583:=0
def tw10135131184673390056:=0
def tw7599400316601101886:=0
def tw5929781864772496429:=0
def tw93761682479432301:=0
def tw9966638599936005004:=0
def tw1814780085628792527:=0
def tw9058920087820128956:=0
def tw11760495881679660782:=0
def tw3542325966242930460:=0
def tw11246699480649227405:=0
def tw3182599461587543648:=0
def tw12414784681029953104:=0
def tw16884650547725523036:=0
def tw13117899446894217448:=0
def tw4170118471120021590:=0
def tw9801758785451400827:=0
def tw10251426536887136750:=0
def tw4974568769640349135:=0
def tw9685382132352716642:=0
def tw9788119793688911931:=0
def tw15274894859984972881:=0
def tw17183198393139820415:=0
def tw5906724063039444141:=0
def tw16719647111824083507:=0
def tw12401202689137913104:=0
def tw11879377260205779028:=0
def tw4452498441563231686:=0
def tw15880586241195340209:=0
def tw16887467342009808888:=0
def tw18362782731733872063:=0
def tw17848703759264912300:=0
def tw3374102476258764830:=0
def tw8853427820777360218:=0
def tw12881582956845252899:=0
def tw7671534030800428063:=0
def tw8392174346073554866:=0
def tw7720775978538835888:=0
def tw11031255418920469340:=0
def tw8724214806118052495:=0
def tw14709154017784782211:=0
def tw17216397699811174811:=0
def tw16163988751253915235:=0
def tw6563083892642540301:=0
def tw9670793727817016496:=0
def tw17616676384245121522:=0
def tw18116618380644100971:=0
def tw11538452873078764867:=0
def tw5520003546547691124:=0
def tw17210114604793356146:=0
def tw10370906301177113846:=0
def tw6465974893501163103:=0
def tw15042344123561546613:=0
def tw14547330689391040361:=0
def tw17679668337580099153:=0
def tw855651243899595234:=0
def tw5003404490263458356:=0
def tw7737631042961985790:=0
def tw264190186040924160:=0
def tw13650819793657899922:=0
def tw11395344869719993789:=0
def tw7000859903046532610:=0
def tw17661779445563189203:=0
def tw7973164120606297387:=0
def tw3689853567158591650:=0
def tw1425176893285788758:=0
def tw12139194897893044717:=0
def tw8629019194993587827:=0
def tw4313804623186533079:=0
def tw3598781099823179742:=0
def tw4611567697734387609:=0
def tw5219310354990452314:=0
def tw14188919000345705612:=0
def tw5470806268194958617:=0
def tw6691954780886537855:=0
def tw777080570118232740:=0
def tw9808334425294462802:=0
def tw13740577511938974348:=0
def tw9885320170057649119:=0
def tw17719268284444085257:=0
def tw8620899717930622464:=0
def tw320736553943858777:=0
def tw313873116729281989:=0
def tw7220664999158958078:=0
def tw7734489057279857006:=0
def tw7117330902521023342:=0
def tw17433597040929252619:=0
def tw15853640589306983380:=0
def tw4005445993962169768:=0
def tw12506695182340588413:=0
def tw5727995246797076853:=0
def tw11947388138949970375:=0
def tw4117697158965838407:=0
def tw3805283453433662025:=0
def tw5570680932621258049:=0
def tw6157674412263703661:=0
def tw16827486548663306914:=0
def tw6959810389521244147:=0
def tw6635569684604419139:=0
def tw2098960742717705090:=0
def tw6105826382818312220:=0
def tw814897523472580863:=0
def tw14820913976405982788:=0
def tw16811532876063085326:=0
def tw469319843851998783:=0
def tw15902169872208839307:=0
def tw11859508065318195794:=0
def tw14791124975101290058:=0
def tw795532783797327884:=0
def tw2214243421566946684:=0
def tw6299390231666518483:=0
def tw3124444592325842318:=0
def tw14352604328199561419:=0
def tw13568699016794845583:=0
def tw8379043575886812789:=0
def tw5053447634022146410:=0
def tw14900629017214583215:=0
def tw5815393909037962750:=0
def tw15550479481226399975:=0
def tw9977987476145024439:=0
def tw10416101902149940447:=0
def tw11938351509224344167:=0
def tw12186321639640810074:=0
def tw18248142731412177781:=0
def tw18163656992890756464:=0
def tw1645048185600792466:=0
def tw5024638335990454927:=0
def tw12213575249584705044:=0
def tw17779349110222805252:=0
def tw11205260812275489526:=0
def tw16878823109484207137:=0
def tw10303710823330683142:=0
def tw11053791107537392054:=0
def tw5462558474671776696:=0
def tw1201838314664282804:=0
def tw8858920862041673251:=0
def tw14827660781612495286:=0
def tw9226811791383065816:=0
def tw422416725761243466:=0
def tw12581327101578092304:=0
def tw10608836795008859929:=0
def tw7415212831072080725:=0
def tw15066243261359474227:=0
def tw3236315838573982698:=0
def tw1764300259829768910:=0
def tw14811479258099245924:=0
def tw12027376902006671192:=0
def tw7582166002860650261:=0
def tw555160849043108876:=0
def tw12209552604368625492:=0
def tw4005005153925640571:=0
def tw12766825006318783922:=0
def tw3669551424262875386:=0
def tw1279764043551663958:=0
def tw10633142409765269075:=0
def tw618313428434102542:=0
def tw2590791830970434167:=0
def tw6520002429863386631:=0
def tw5142026277234833780:=0
def tw7669941376575651861:=0
def tw5947296254356802798:=0
def tw13546355156434506799:=0
def tw5248140104292466295:=0
def tw8595481270108702618:=0
def tw16481824906254558744:=0
def tw3871661709417318560:=0
def tw9061909375997488193:=0
def tw12258246506077074279:=0
def tw4160050617913995514:=0
def tw10519687978444863251:=0
def tw14976500152850891464:=0
def tw10174370890702435358:=0
def tw13041839210859844374:=0
def tw8887930526297454514:=0
def tw5781413423058759541:=0
def tw3043669046178654967:=0
def tw9014671092930261687:=0
def tw489301161701089050:=0
def tw18436936859187794028:=0
def tw4100707187253808903:=0
def tw5589398745363431539:=0
def tw5092927654723462376:=0
def tw8205326972436522789:=0
def tw2239856725935430020:=0
def tw8072060931247819319:=0
def tw9576242970102753775:=0
def tw7434457058881439916:=0
def tw12177737660691556023:=0
def tw10990087990114108843:=0
def tw8592224556490544908:=0
def tw3526469290928572504:=0
def tw4844449593868544338:=0
def tw11107827872480286576:=0
def tw2899387703391922532:=0
def tw11187587824229516724:=0
def tw9045609859098785623:=0
def tw1628852789399325768:=0
def tw1870108098645867474:=0
def tw773768862206116963:=0
def tw10992850182807066473:=0
def tw10662887101927297770:=0
def tw7744330921819807787:=0
def tw16318142643956499024:=0
def tw13813469381886774685:=0
def tw3004499672215970779:=0
def tw10912080432126442881:=0
def tw16823991252288433816:=0
def tw10019073385370839237:=0
def tw9199646984839552421:=0
def tw16351922201141046160:=0
def tw17636262637894517055:=0
def tw12029423899910711856:=0
def tw9131402410390883469:=0
def tw14321741018978175678:=0
def tw11863835548415758330:=0
def tw1172407907577536724:=0
def tw1416893141099542867:=0
def tw15038513348168237539:=0
def tw6323066760952578969:=0
def tw9528718416265585066:=0
def tw1269467489261381850:=0
def tw3351061582415945193:=0
def tw11766309209325724152:=0
def tw10353885825741670625:=0
def tw1799258768190895314:=0
def tw14192817882536906091:=0
def tw11080730114843573339:=0
def tw18352084172117640103:=0
def tw8175537611061314139:=0
def tw13146027946683664474:=0
def tw14852852073247524465:=0
def tw12276985645590286523:=0
def tw12114399843404116071:=0
def tw9884477690361747075:=0
def tw7690807949404501581:=0
def tw8131990613165497751:=0
def tw77441430890593763:=0
def tw3308078394666704216:=0
def tw689913234404200029:=0
def tw3861943937419967679:=0
def tw7441962824842626516:=0
def tw13539920890924124096:=0
def tw3952673395882435007:=0
def tw12197231078225808510:=0
def tw11998308829605058459:=0
def tw12555311126867992405:=0
def tw16511672314676495232:=0
def tw10781833078061909085:=0
def tw1929800486396385179:=0
def tw14532015794846229665:=0
def tw6081224602112864089:=0
def tw15159314490484360095:=0
def tw3638351937984637824:=0
def tw7869486935631424652:=0
def tw6417340531090627228:=0
def tw10415309813526295056:=0
def tw15352835896123318799:=0
def tw13544512569223630795:=0
def tw5774813406515869699:=0
def tw14724346217804719513:=0
def tw5916205546476519169:=0
def tw7403742505099477803:=0
def tw10824765882446884555:=0
def tw4741098701816294605:=0
def tw8545094676984243036:=0
def tw6039009723501388898:=0
def tw995664316679506133:=0
def tw15520910377720252291:=0
def tw12931934787026292690:=0
def tw2520059775682870694:=0
def tw1742054050549598542:=0
def tw14787813375232713570:=0
def tw10230640560372651519:=0
def tw5991080567753004054:=0
def tw3996287572792711868:=0
def tw9269266586260908659:=0
def tw4860728032261541344:=0
def tw7054826296682820010:=0
def tw11653945889516773125:=0
end PySem.W.Fast
open PySem PySem.W PyProof.Rows
set_option maxRecDepth 100000 in
set_option maxHeartbeats 0 in
theorem PySem.Challenge.cw_roomslaid_k29_paths_holds : PySem.Challenge.rw_roomslaid_k29_paths.Holds := by
 w_on;o_law;k_head; (case hw=>w_witness2)
 k_fill
 refine K29.walk (l := PySem.Challenge.rw_roomslaid_k29_paths) rfl rfl (fun w h Y => PySem.W.kIn_of Y) ?F
 case F =>
  intro w mg fa h KX G hmg
  refine' K29.all_mk KX G hmg ?_ ?_ ?_ ?_ ?_ ?_ ?_ ?_ ?_ ?_ ?_ ?_ ?_ ?_ ?_ ?_ ?_ ?_ ?_ ?_ ?_ ?_ ?_ ?_ ?_ ?_ ?_ ?_ ?_ ?_ ?_ ?_ ?_ ?_ ?_ ?_ ?_ ?_ ?_ ?_ ?_ ?_ ?_ ?_ ?_ ?_ ?_ ?_ ?_ ?_ ?_ ?_ ?_ ?_ ?_ ?_ ?_ ?_ ?_ ?_ ?_ ?_ ?_ ?_ ?_ ?_ ?_ ?_ ?_ ?_ ?_ ?_ ?_ ?_ ?_ ?_ ?_ ?_ ?_ ?_ ?_ ?_ ?_ ?_ ?_ ?_ ?_ ?_ ?_ ?_ ?_ ?_ ?_ ?_ ?_ ?_ ?_ ?_ ?_ ?_ ?_ ?_ ?_ ?_ ?_ ?_ ?_ ?_ ?_ ?_ ?_ ?_ ?_ ?_ ?_ ?_ ?_ ?_ ?_ ?_ ?_ ?_ ?_ ?_ ?_ ?_ ?_ ?_ ?_ ?_ ?_ ?_ ?_ ?_ ?_ ?_ ?_ ?_ ?_ ?_ ?_ ?_ ?_ ?_ ?_ ?_ ?_ ?_ ?_ ?_ ?_ ?_ ?_ ?_ ?_ ?_ ?_ ?_ ?_ ?_ ?_ ?_ ?_ ?_ ?_ ?_ ?_ ?_ ?_ ?_ ?_ ?_ ?_ ?_ ?_ ?_ ?_ ?_ ?_ ?_ ?_ ?_ ?_ ?_ ?_ ?_ ?_ ?_ ?_ ?_ ?_ ?_ ?_ ?_ ?_ ?_ ?_ ?_ ?_ ?_ ?_ ?_ ?_ ?_ ?_ ?_ ?_ ?_ ?_ ?_ ?_ ?_ ?_ ?_ ?_ ?_ ?_ ?_ ?_ ?_ ?_ ?_ ?_ ?_ ?_ ?_ ?_ ?_ ?_ ?_ ?_ ?_ ?_ ?_ ?_ ?_ ?_ ?_
  all_goals (first|refine' K29.FG.mk ?_ ⟨_,L2.aKm ?_ ?_ ?_⟩|refine' K29.FM.mk ?_ ?_ ⟨_,L2.aKm ?_ ?_ ?_⟩|refine' K29.CK.mk ?_ ⟨?_,?_,?_,?_⟩ ?_ ?_ ?_|skip)
  all_goals (repeat' (first|exact K29.na0|refine' K29.na1 ?_ ?_))
  all_goals (first|k_is|exact K29.na0|exact Eq.refl true|exact Eq.refl (some true)|exact Eq.refl (some false)|kernel_rfl|ac_rfl|skip)
