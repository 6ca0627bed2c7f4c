import PyProof.Rows.All
import Wide.All
import OpenK.AllK
import Wide.FinOn
import Lean
import PyProof.EqAt
import PyProof.EqKinds
import PyProof.TupleCall
import PyProof.LongRange
import PyProof.ListRange
import PyProof.RaisesMany
import PyProof.ExcBaseAll.ValueError
import PyProof.ExcArgs
import PyProof.InstStoreFacts
import PyProof.ExcAttrAll.ValueError
import PyProof.RulesAs
import PyProof.RulesDel
import PyProof.ReprRoads
import PyProof.CallFns
import PyProof.InstSpecial
import PyProof.Rows.RuleN_isinstance
import KE.KIsNot
import PyProof.ReprLen
import PyProof.EnumMake
import PyProof.EnumFor
import PyProof.EnumStmt
import PyProof.Rows.EnumRows
import PyProof.RulesDelMore
import PyProof.Rows.SetFrom
import PyProof.ZipIter
import PyProof.IsRules
import PyProof.Conv_int_bool
import PyProof.IsiTuple
import PyProof.NeKinds
import KE.KEqDict
import PyProof.Rows.FStr
import PyProof.Rows.StrNews
import PyProof.StrCalls2
import PyProof.StrLawsChain
import PyProof.StrLawsTight
import PyProof.StrOps2
import PyProof.WalkInts
import PyProof.DictCompW
import PyProof.DictWalks
import PyProof.Rows.DictUnroll
import PyProof.FactsAll.dict
import PyProof.AttrMissHeap
import PyProof.FactsAll.zip
import KE.KDictOf
import PyProof.StrCalls6
import PyProof.ToksMono
import PyProof.DictUpdate
import PySem.Challenge.RW_roomslaid_k32_too_much
set_option autoImplicit true
set_option Elab.async false
set_option linter.all false
set_option maxRecDepth 100000
local macro_rules|`(tactic|ac_rfl)=>`(tactic|decide +kernel)
theorem hide_{p:Prop}(h:let g:=p;g):p:=h
local macro_rules | `(tactic| obtain $p:rcasesPatMed := $e) => `(tactic| (refine hide_ ?_;intro G_; (rcases $e:term with $p) <;> (unfold G_;try clear G_)))
local macro_rules | `(tactic| omega) => `(tactic| lia)
open PySem.W (Frag keepIn findIn codeIn nsIn fnOf mg_of isFn mg_none_of)
open PySem.Str renaming ofString->δ,join->xl,append_assoc->Am,cps_append->BI
open List renaming length_map->ε,length_append->η,getElem?_eq_some_iff->θ,getElem?_eq_getElem->ν,mem_cons_self->ο,mem_cons_of_mem->π,mem_cons->χ,size_toArray->ψ,mem_singleton->ω,length_cons->Ξ,map_append->Ψ,length_take->wy,getElem?_append_right->xa,getD_eq_getElem?_getD->xh,mem_of_getElem?->xk,length_singleton->xm,getElem?_append_left->xo,not_mem_nil->xq,mem_append->xu,getElem?_map->xw,mem_append_right->xx,append_nil->ya,append_assoc->yc,all_eq_true->yh,length_drop->yo,Nodup->yy,map_cons->zc,mem_iff_getElem?->zd,take_of_length_le->zh,mem_of_mem_drop->zi,take_add_one->zk,mem_map->zm,zipWith->zo,range->zt,drop_eq_getElem_cons->zu,mem_of_mem_take->Ai,mem_append_left->Aq,map_map->Au,zipWith_cons_cons->Av,filter_cons_of_neg->AE,length_replicate->AR,take_length->AV,take_append_of_le_length->Bf,nodup_cons->Bk,find?_cons->Bl,length_nil->Bm,flatMap_append->Bo,take_append_drop->Bw,length_filter_le->Bx,lookup->BD,length_eq_zero_iff->BJ,any_eq_true->BK,contains_cons->BP,flatMap_singleton->BQ,drop_of_length_le->BS,range_succ->BV,eq_nil_or_concat->Ca,concat_eq_append->Cb,nodup_append->Cg,replicate->Cj,nodup_nil->Ct,getElem_mem->Cv,getElem_map->Cw,length_pos_iff->CA,map_congr_left->CB,length_zipWith->CF,length_take_le->CG,getElem?_take_of_lt->CI,sum_cons->CQ,forIn_cons->Dc,getElem?_set_self->Dq,drop_zero->Dx,foldl_append->Dy,flatMap_cons->Dz,getElem?_zipWith->DG,filter_cons->DJ,cons_append->DN,drop_length->DP,any_cons->DR,getElem?_set_ne->DU,length_dropLast->DW
open PySem renaming wpAny_bind->ζ,Shared->ι,sizeLine_eq->ς,wpAny_pure->τ,sizeLine->Δ,wpAny->Φ,mainGlobals->ww,starEach->xi,model->xj,boot_len->yj,wpAny_mono->ym,FuncData->yn,Heap->yp,Around->yr,wpAny_holding->yv,wpAny_field->yw,Program->za,compareOp->Ab,mem_of_lookup->Ad,World->Af,wpAny_loadPart_at->Ah,wpAny_truthy_bool->An,strLen_append->As,wpAny_pyIter_list->Ax,wpAny_seqItems->Ay,wpAny_Call_Name_kw->AA,bootBuiltins->AG,Builtin->AH,wpAny_isSubtype_exc->AL,backTo->AQ,Spec->AT,wpAny_setField_rec->AW,Within->AY,attributeBase->AZ,rawInt->Bc,assignEach->Bi,wpAny_standAt->Bp,wpAny_pyIter_tuple->Br,wpAny_passesOwn->Bz,keywordEach->BE,sysModules->BF,binaryOp->BG,wpAny_call_entry->BH,codeAny_mono->BM,behindInMarks->BX,pyNext->BY,foldedSetIterable->Cc,wpAny_newObj_type->Cf,typeLookup->Ck,wpAny_setField->Co,codeAny_call_builtin->Cp,codeAny->Cu,PyData->Cz,wpAny_onRaise->CO,ZipApart->CT,holding->CU,wpAny_execs_nil->CV,letOwnedTupleGo->CY,codeAny_builtin->Da,wpAny_call->Dh,tupleKind_room_in1->Di,getMethod->Dj,sliceBounds->Dl,Paired->Do,backToKw->Ds,wpAny_Call_method_late->Dv,builtinLookup_eq_fast->DF,checkBuiltinCall->DK,wpAny_attempt->DS,wpAny_updateSeq_pair->DV
open Nat renaming le_refl->μ,lt_of_lt_of_le->υ,ne_of_lt->wz,zero_le->xy,le_trans->yb,ne_of_gt->zf,lt_of_le_of_lt->zx,lt_irrefl->Ak,sub_self->Ap,le_add_right->AC,min_le_left->AO,le_succ->Be,lt_succ_self->Bq,not_lt_zero->BA,le_of_lt->BL,min_eq_left->CZ,succ_le_succ->DL,min_eq_right->DO
open PySem.Heap renaming get?_push_of_some->ξ,lt_size->Θ,get?_push_size->xb,size_push->ze,get?_update_other->zg,SameBut->Ac,get?_update_self->AS,get?_none_of_le->BC,IsTuple->DB
open Bool renaming false_ne_true->ρ,and_eq_true->yt,false_eq_true->AB,false_and->Bd,eq_false_iff->Bg,eq_iff_iff->Bj
open PySem.W renaming Frag->Ω,kitOne->yi,findIn->zj,mg_none_of->Ae,kia_one->Ar,mroIn->AF,nsIn->AX,instObj->Bh,callWith_K->Bt,methodCall_KW->Bv,mg_of->BB,hasDictIn->Cd,specialIn->Ce,looks_findIn->Ci,looks_clsIn->Cy,cellsFrom_some->Dt,plainGet->DH
open PySem.Value renaming ref->xg,none->zr,type->De
open PySem.Builtin.SmallTypes renaming nextOf->yd,ownedTupleIsFree->yk,ownedTupleHandOut->CD
open False renaming elim->yf
open True renaming intro->yg
open Or renaming inl->yl
open PySem.SeqAt renaming EqAt->yq
open PySem.Txt renaming split->yu,replace->AD
open PySem.F renaming plainAttrs_list->zb,slot_list_append->zy,type_list_append->Aa,plainAttrs_str->Aj,excBase_ValueError->AI,slot_str_split->AJ,type_str_split->AK,slot_zip_next->Bn,slot_tuple_iterator_next->Bu,called_set->BR,args_tuple_add_2->CJ,entry_tuple_add->Dk,slot_zip_getattribute->Dn,slot_tuple_add->Du,args_zip_next_1->DA,slot_dict_get->DD,entry_zip_next->DQ
open PySem.Builtin.Str renaming occurrences->zp
open Option.some renaming inj->zv
open PySem.PassesOwn renaming never->zw
open Ne renaming symm->Ag
open PyProof.Rows renaming callWith_type1->Ao,boot_isinstance->BW,step_dedup->Cq,callWith_builtin1->DI
open Array renaming length_toList->Aw,toList_append->AM
open Sum renaming inr->Az
open Sum.inr renaming inj->AN
open PySem.W.Looks renaming here->AU,of_pure->BZ
open Option renaming isSome_iff_exists->Ba
open PySem.Obj renaming mapFields->Bb,data_mapFields->BO,isFreed_of_fields->DE
open PySem.Calls renaming spliced_cons->Bs,callWith_builtin->BN,evalArgs_plain->Cm,Constant_str->Dg,spliced_nil->Dr
open PySem.Builtin.ObjectAttr renaming storeInOwnDict->By,ownDictForStores->CP
open ForInStep renaming yield->BU
open PySem.Around renaming under_plainId->Cr
open PySem.Shared renaming heap->Cs
open PySem.Paired renaming length->CH
open PySem.Builtin.List renaming listTooLong->CL
open PyProof.Rows.F renaming plain_set_update_loop->Dm
open List.Pairwise renaming nil->Dw
open List.cons renaming inj->DT
namespace L2
open PySem PySem.Spec PyProof.Rows
abbrev Key:=Sum Int Str
def rA:Key->Value->Bool
 |.inl k,v=>Value.isInt k v
 |.inr x,v=>Value.isStrOf x v
def keyH (w:Af):Key->Int
 |.inl k=>hashInt k
 |.inr x=>hashStr w x
theorem qR:∀{k:Key}{v:Value},rA k v=true->(∃i t,k=Sum.inl i/\v=Value.int i t)\/(∃x t,k=Az x/\v=Value.str x t)
 |.inl i,v,h=>by
  obtain⟨t,e⟩:=Value.isInt_shape (k:=i) (v:=v) h;exact .inl ⟨i,t,rfl,e⟩
 |.inr x,v,h=>by
  obtain⟨t,e⟩:=Value.isStrOf_shape (x:=x) (v:=v) h;exact .inr ⟨x,t,rfl,e⟩
theorem aHj(i:Int)(t:Tok):rA (.inl i) (.int i t)=true:=by simp[rA,Value.isInt]
theorem aIj(x:Str)(t:Tok):rA (.inr x) (.str x t)=true:=by simp[rA,Value.isStrOf]
theorem aRg(a b:Int):decide ((Sum.inl a:Key)=Sum.inl b)=(a == b):=by
 by_cases e:a=b
 ·subst e;simp
 ·have h:¬ (Sum.inl a:Key)=Sum.inl b:=fun q=>e (Sum.inl.inj q);rw[decide_eq_false h];exact(beq_eq_false_iff_ne.mpr e).symm
theorem aSw(a b:Str):decide ((Az a:Key)=Az b)=decide (a=b):=by
 by_cases e:a=b
 ·subst e;simp
 ·have h:¬ (Az a:Key)=Az b:=fun q=>e (AN q);rw[decide_eq_false h,decide_eq_false e]
theorem aSx(a:Int)(b:Str):decide ((Sum.inl a:Key)=Az b)=false:=decide_eq_false (fun q=>nomatch q)
theorem aRo(a:Str)(b:Int):decide ((Az a:Key)=Sum.inl b)=false:=decide_eq_false (fun q=>nomatch q)
def kU (prog:za) (w:Af):PySem.KeyKind prog w Key where
 is:=rA
 hash:=keyH w
 inj:=fun v a b ha hb=>by
  rcases qR ha with⟨i,t,rfl,rfl⟩|⟨x,t,rfl,rfl⟩
  ·rcases qR hb with⟨j,u,rfl,e⟩|⟨y,u,rfl,e⟩
   ·injection e with e1 _;rw[e1]
   ·exact nomatch e
  ·rcases qR hb with⟨j,u,rfl,e⟩|⟨y,u,rfl,e⟩
   ·exact nomatch e
   ·injection e with e1 _;rw[e1]
 byValue:=fun k v h=>by
  rcases qR h with⟨i,t,rfl,rfl⟩|⟨x,t,rfl,rfl⟩ <;> rfl
 pyHash:=fun hv h=>by
  rcases qR hv with⟨i,t,rfl,rfl⟩|⟨x,t,rfl,rfl⟩
  ·exact wpAny_pyHash_int h
  ·exact wpAny_pyHash_str h
 eqBool:=fun hu hv h=>by
  rcases qR hu with⟨i,t,rfl,rfl⟩|⟨x,t,rfl,rfl⟩
  ·rcases qR hv with⟨j,u,rfl,rfl⟩|⟨y,u,rfl,rfl⟩
   ·rw[aRg]at h;exact wpAny_eqBool_int h
   ·rw[aSx]at h;exact yq.int_str i t y u _ _ _ _ h
  ·rcases qR hv with⟨j,u,rfl,rfl⟩|⟨y,u,rfl,rfl⟩
   ·rw[aRo]at h;exact yq.str_int x t j u _ _ _ _ h
   ·rw[aSw]at h;exact wpAny_eqBool_str h
 «strs»:=fun k x t v h=>by
  rcases qR h with⟨i,u,rfl,e⟩|⟨y,u,rfl,e⟩
  ·exact nomatch e
  ·injection e with e1 _;subst e1;cases v <;> rfl
theorem aCb(prog:za)(w:Af)(i:Int)(t:Tok):(kU prog w).is (.inl i) (.int i t)=true:=aHj i t
theorem aCv(prog:za)(w:Af)(x:Str)(t:Tok):(kU prog w).is (.inr x) (.str x t)=true:=aIj x t
inductive V where
 |non|bl (b:Bool)|int (i:Int)|str (x:Str)|byt (b:Array UInt8)|flt (b:UInt64)|ref (a:Addr)|ty (n:String)
 deriving DecidableEq
def RelV:V->Value->Prop
 |.non,u=>u=zr
 |.bl b,u=>u=Value.bool b
 |.int i,u=>∃t,u=Value.int i t
 |.str x,u=>∃t,u=Value.str x t
 |.byt b,u=>∃t,u=Value.bytes b t
 |.flt b,u=>∃t,u=Value.float b t
 |.ref a,u=>u=xg a
 |.ty n,u=>u=De n
abbrev kG:List V->List Value->Prop:=Do RelV
theorem kG.length(r:kG xs us):xs.length=us.length:=CH r
theorem kG.get:∀{xs:List V}{us:List Value}{i:Nat}{x:V},kG xs us->xs[i]?=some x->∃u,us[i]?=some u/\RelV x u
 |_,_,_,_,.nil,e=>by simp at e
 |_,_,0,_,.cons r _,e=>by simp at e;subst e;exact⟨_,rfl,r⟩
 |_,_,i+1,x,.cons _ t,e=>by
  obtain⟨u,h1,h2⟩:=kG.get (i:=i) (x:=x) t (by simpa using e);exact⟨u,by simpa using h1,h2⟩
theorem kG.set(r:RelV x u):∀{xs:List V}{us:List Value}(i:Nat),kG xs us->kG (xs.set i x) (us.set i u)
 |_,_,_,.nil=>.nil
 |_,_,0,.cons _ t=>.cons r t
 |_,_,i+1,.cons q t=>.cons q (kG.set r i t)
theorem kG.append:∀{xs ys:List V}{us ws:List Value},kG xs us->kG ys ws->kG (xs++ys) (us++ws)
 |_,_,_,_,.nil,s=>s
 |_,_,_,_,.cons r t,s=>.cons r (kG.append t s)
theorem kG.take:∀{xs:List V}{us:List Value}(n:Nat),kG xs us->kG (xs.take n) (us.take n)
 |_,_,0,_=>.nil
 |_,_,_+1,.nil=>.nil
 |_,_,n+1,.cons r t=>.cons r (kG.take n t)
theorem kG.drop:∀{xs:List V}{us:List Value}(n:Nat),kG xs us->kG (xs.drop n) (us.drop n)
 |_,_,0,r=>r
 |_,_,_+1,.nil=>.nil
 |_,_,n+1,.cons _ t=>kG.drop n t
theorem kG.none_of:∀{xs:List V}{us:List Value}{i:Nat},kG xs us->xs[i]?=none->us[i]?=none:=fun {xs us i} r e=>by
 have h1:=r.length;have h2:xs.length<=i:=List.getElem?_eq_none_iff.mp e;exact List.getElem?_eq_none_iff.mpr (by omega)
def zW:Option V->Option Value->Prop
 |some v,some u=>RelV v u
 |none,none=>True
 |_,_=>False
def KV {κ : Type} : List (κ×V)->List (κ×Value)->Prop:=Do fun (p : κ×V) (q : κ×Value)=>p.1=q.1/\RelV p.2 q.2
def kV:Key->V
 |.inl i=>.int i
 |.inr x=>.str x
inductive HO where
 /-- a list -/
 |lst (xs:List V)
 /-- a tuple (never changes) -/
 |tup (xs:List V)
 /-- a dict whose keys are ints and texts;one whose keys are tuples of ints and texts (the empty one is both) -/
 |dK (kvs:List (Key×V))|dT (kvs:List (List Key×V))
 /-- a set of ints: its members,its size -/
 |set (S:Int->Bool) (n:Nat)
 /-- an instance of the class at C,its dict at dx,its attributes -/
 |ins (C dx:Addr) (fs:List (Str×V))
 /-- the dict of the instance at x -/
 |own (x:Addr)
 /-- the dict of an exception -/
 |xd (fs:List (Str×V))
 /-- a bound method,f of x -/
 |met (f x:Addr)
 /-- a range object lo,lo+1,.. below hi -/
 |rng (lo hi:Int)
 /-- a thing that is known to the object (the script;a dict while a loop walks it): read,never written while it is so -/
 |frz (o:Obj) (u:HO)
 /-- a code object's table -/
 |tbl (ps:Array Value)
 /-- any other thing,by what is true of its one object (a def of one's own: SetO a S n := HO.ext fun h => ..) -/
 |ext (φ : yp->Prop)
abbrev Hp:=Addr->Option HO
def upd (H:Hp) (a:Addr) (o:HO):Hp:=fun b=>if b=a then some o else H b
theorem jF : upd H a o a=some o:=by unfold upd;rw[if_pos rfl]
theorem jR{H:Hp}{a b:Addr}(h:b≠a):upd H a o b=H b:=by unfold upd;rw[if_neg h]
theorem mK{H:Hp}(h:H a=some o)(h':H b=some u)(d:o≠u):a≠b:=by
 intro e;subst e;rw[h]at h';exact d (zv h')
theorem jI{H:Hp}(h:H a=some o)(h':H b=none):a≠b:=by
 intro e;subst e;rw[h]at h';cases h'
section
variable (P:za) (w:Af)
def qK (H:Hp) (h:yp) (a:Addr):HO->Prop
 |.lst xs=>xs.length<=Δ/\∃(its:List Value) (n:Nat),kG xs its/\h.get? a=some { cls:=.type "list",data:=.seq its.toArray n }
 |.tup xs=>xs.length<=Δ/\∃its:List Value,kG xs its/\IsTup h a its.toArray
 |.dK kvs=>kvs.length<=Δ/\(a == BF)=false/\∃vs,KV kvs vs/\h.DictOf (kU P w) a vs
 |.dT kvs=>kvs.length<=Δ/\(a == BF)=false/\∃xs:List (List Key×Addr×Value),
   Do (fun (p:List Key×V) (q:List Key×Addr×Value)=>p.1=q.1/\H q.2.1=some (.tup (p.1.map kV))/\RelV p.2 q.2.2) kvs xs ∧
   ∃o es ep,h.get? a=some o/\o.ExactDict/\o.data=.dict es ep/\es.toList=xs.map (entryOfKey (tupleKind (kU P w)))/\(xs.map (·.1)).Nodup
 |.set S n=>h.SetOf (intKind P w) a S n
 |.ins C dx fs=>H dx=some (.own a)/\fs.length<=1000/\dx≠a/\h.get? a=some (Bh C dx) ∧
   ∃mA,h.Ns1 dx mA/\(∀f,zW (fs.lookup f) (mA f))/\AY mA (fs.map (·.1))
 |.own _=>∃o,h.get? a=some o
 |.xd fs=>∃mA,h.Ns1 a mA/\∀f,zW (fs.lookup f) (mA f)
 |.rng lo hi=>∃t u v,h.get? a=some { cls:=.type "range",data:=.fields #[.int lo t,.int hi u,.int 1 v] }
 |.frz o u=>h.get? a=some o/\qK H h a u
 |.tbl ps=>h.get? a=some { cls:=.none,data:=.fields ps }
 |.met f x=>h.get? a=some (PySem.W.methodObj (.ref f) (.ref x))
 |.ext φ=>φ h/\(∃o,h.get? a=some o)/\∀h1 h2:yp,φ h1->(∀o,h1.get? a=some o->h2.get? a=some o)->φ h2
def HOk (H:Hp) (h:yp):Prop:=∀a o,H a=some o->qK P w H h a o
end
section
variable {P:za}{w:Af}{H H':Hp}{h h':yp}{a:Addr}{o:HO}
theorem qK.lt(x:qK P w H h a o):a<h.objs.size:=by
 cases o with
 |lst xs=>obtain⟨_,_,_,_,e⟩:=x;exact Θ e
 |tup xs=>obtain⟨_,_,_,p⟩:=x;exact p.lt
 |dK kvs=>obtain⟨_,_,_,_,o,_,_,e,_⟩:=x;exact Θ e
 |dT kvs=>obtain⟨_,_,_,_,o,_,_,e,_⟩:=x;exact Θ e
 |set S n=>obtain⟨o,_,_,_,e,_⟩:=x;exact Θ e
 |ins C dx fs=>obtain⟨_,_,_,e,_⟩:=x;exact Θ e
 |own y=>obtain⟨_,e⟩:=x;exact Θ e
 |xd fs=>obtain⟨_,⟨_,_,_,e,_⟩,_⟩:=x;exact Θ e
 |rng lo hi=>obtain⟨_,_,_,e⟩:=x;exact Θ e
 |frz ob u=>obtain⟨e,_⟩:=x;exact Θ e
 |tbl ps=>exact Θ (show h.get? a=some _ from x)
 |met f y=>exact Θ (show h.get? a=some _ from x)
 |ext φ=>obtain⟨_,⟨_,e⟩,_⟩:=x;exact Θ e
theorem Paired.mapP{α β : Type}{F G : α->β->Prop}: ∀{l₁ : List α}{l₂ : List β},Do F l₁ l₂->(∀a b,F a b->G a b)->Do G l₁ l₂
 |_,_,.nil,_=>.nil
 |_,_,.cons r t,f=>.cons (f _ _ r) (Paired.mapP t f)
theorem qK.stay(x:qK P w H h a o)(k:∀b u,(b=a\/H b=some (.own a))->h.get? b=some u->h'.get? b=some u)
  (ho:∀b,H b=some (.own a)->H' b=some (.own a))(ht:∀b xs,H b=some (.tup xs)->H' b=some (.tup xs)):qK P w H' h' a o:=by
 induction o with
 |lst xs=>obtain⟨z,its,n,r,e⟩:=x;exact⟨z,its,n,r,k _ _ (.inl rfl) e⟩
 |tup xs=>obtain⟨z,its,r,ob,e,c⟩:=x;exact⟨z,its,r,ob,k _ _ (.inl rfl) e,c⟩
 |dK kvs=>obtain⟨z,y,vs,r,ob,es,ep,e,c⟩:=x;exact⟨z,y,vs,r,ob,es,ep,k _ _ (.inl rfl) e,c⟩
 |dT kvs =>
  obtain⟨z,y,xs,r,ob,es,ep,e,c⟩:=x;exact⟨z,y,xs,Paired.mapP r fun p q z=>⟨z.1,ht _ _ z.2.1,z.2.2⟩,ob,es,ep,k _ _ (.inl rfl) e,c⟩
 |set S n=>obtain⟨ob,es,ep,t,e,c⟩:=x;exact⟨ob,es,ep,t,k _ _ (.inl rfl) e,c⟩
 |ins C dx fs =>
  obtain⟨d,z,ne,e,mA,⟨od,es,ep,e2,c⟩,r⟩:=x;exact⟨ho _ d,z,ne,k _ _ (.inl rfl) e,mA,⟨od,es,ep,k _ _ (.inr d) e2,c⟩,r⟩
 |own y=>obtain⟨ob,e⟩:=x;exact⟨ob,k _ _ (.inl rfl) e⟩
 |xd fs=>obtain⟨mA,⟨od,es,ep,e,c⟩,r⟩:=x;exact⟨mA,⟨od,es,ep,k _ _ (.inl rfl) e,c⟩,r⟩
 |rng lo hi=>obtain⟨t,u,v,e⟩:=x;exact⟨t,u,v,k _ _ (.inl rfl) e⟩
 |frz ob u ih=>obtain⟨e,q⟩:=x;exact⟨k _ _ (.inl rfl) e,ih q⟩
 |tbl ps =>
  have e:h.get? a=some { cls:=.none,data:=.fields ps }:=x;show h'.get? a=some { cls:=.none,data:=.fields ps };exact k a _ (.inl rfl) e
 |met f y =>
  have e:h.get? a=some (PySem.W.methodObj (.ref f) (.ref y)):=x;show h'.get? a=some (PySem.W.methodObj (.ref f) (.ref y));exact k a _ (.inl rfl) e
 |ext φ=>obtain⟨p,⟨o,e⟩,st⟩:=x;exact⟨st _ _ p fun o q=>k _ _ (.inl rfl) q,⟨o,k _ _ (.inl rfl) e⟩,st⟩
theorem HOk.lt(x:HOk P w H h)(e:H a=some o):a<h.objs.size:=(x a o e).lt
theorem HOk.fresh(x:HOk P w H h)(e:h.objs.size<=a):H a=none:=by
 cases q:H a with
 |none=>rfl
 |some u=>exact absurd (υ (x.lt q) e) (Ak _)
theorem HOk.kept(x:HOk P w H h)(k:∀b u,h.get? b=some u->h'.get? b=some u):HOk P w H h':=fun a o e =>
 (x a o e).stay (fun b u _ q=>k b u q) (fun _ q=>q) fun _ _ q=>q
theorem HOk.laid(x:HOk P w H h)(k:∀b u,h.get? b=some u->h'.get? b=some u)(hp:h.objs.size<=a)(new:qK P w (upd H a o) h' a o):HOk P w (upd H a o) h':=fun b u e=>by
 have hn:=x.fresh hp
 by_cases hb:b=a
 ·subst hb;rw[jF]at e;cases e;exact new
 ·rw[jR hb]at e;exact(x b u e).stay (fun c v _ q=>k c v q) (fun c q=>by rw[jR (jI q hn)];exact q) fun c xs q=>by rw[jR (jI q hn)];exact q
end
def Rd (H:Hp) (a:Addr) (u:HO):Prop:=H a=some u\/∃o,H a=some (.frz o u)
theorem Rd.of{H:Hp}(h:H a=some u):Rd H a u:=.inl h
theorem Rd.ok(r:Rd H a u)(x:HOk P w H h):qK P w H h a u:=by
 rcases r with r|⟨o,r⟩
 ·exact x a u r
 ·obtain⟨_,q⟩:=x a _ r;exact q
def Mut:Option HO->Prop
 |some (.lst _)=>True
 |some (.dK _)=>True
 |some (.dT _)=>True
 |some (.set _ _)=>True
 |some (.ins _ _ _)=>True
 |some (.ext _)=>True
 |_=>False
section
variable {P:za}{w:Af}{H:Hp}{h h':yp}{x e:Addr}{o':HO}
theorem HOk.write(ok:HOk P w H h)(mu:Mut (H x))(he:e=x\/H e=some (.own x))(k:∀b u,b≠e->h.get? b=some u->h'.get? b=some u)(heo:∃u,h'.get? e=some u)
  (new:qK P w (upd H x o') h' x o'):HOk P w (upd H x o') h':=fun b u q=>by
 have nown:∀c y,H c=some (.own y)->c≠x:=fun c y r z=>by subst z;rw[r]at mu;exact mu
 have ntup:∀c xs,H c=some (.tup xs)->c≠x:=fun c xs r z=>by subst z;rw[r]at mu;exact mu
 by_cases hb:b=x
 ·subst hb;rw[jF]at q;cases q;exact new
 ·rw[jR hb]at q
  by_cases hbe:b=e
  ·have q':H b=some (.own x):=by
    rcases he with z|z
    ·exact absurd (hbe.trans z) hb
    ·rw[hbe];exact z
   rw[q]at q';cases q';obtain⟨v,hv⟩:=heo;exact⟨v,by rw[hbe];exact hv⟩
  ·refine(ok b u q).stay (fun c v hc r=>k c v ?_ r) (fun c r=>by rw[jR (nown c b r)];exact r) fun c xs r=>by rw[jR (ntup c xs r)];exact r
   rcases hc with rfl|hc
   ·exact hbe
   ·rintro rfl;rcases he with z|z
    ·exact nown c b hc z
    ·rw[hc]at z;cases z;exact hb rfl
end
structure Un (fs ex:List Addr) (H H':Hp) (h h':yp):Prop where
 keep:∀b o,h.get? b=some o->H b=none->b∉fs->b∉ex->h'.get? b=some o
 slot:∀b o,h.get? b=some o->H b=none->b∈fs->b∉ex->∃sl,h'.get? b=some { o with slots:=sl }
 free:∀b o,h.get? b=some o->H b=none->b∉ex->H' b=none
 there:∀b o,h.get? b=some o->b∉ex->∃o',h'.get? b=some o'
 tups:∀b xs,H b=some (.tup xs)->H' b=some (.tup xs)
 frzs:∀b o u,H b=some (.frz o u)->H' b=some (.frz o u)
 tbls:∀b ps,H b=some (.tbl ps)->∃more,H' b=some (.tbl (ps++more))
section
variable {fs fs' ex ex':List Addr}{H H1 H2:Hp}{h h1 h2 h':yp}{a x e:Addr}{o:HO}
theorem Un.any(u:Un fs ex H H1 h h1){b:Addr}{ob:Obj}(q:h.get? b=some ob)(n:H b=none)(hx:b∉ex):∃sl,h1.get? b=some { ob with slots:=sl }:=by
 by_cases hb:b∈fs
 ·exact u.slot b ob q n hb hx
 ·exact⟨ob.slots,u.keep b ob q n hb hx⟩
theorem Un.trans(a:Un fs ex H H1 h h1)(b:Un fs ex H1 H2 h1 h2):Un fs ex H H2 h h2 where
 keep:=fun c ob q n hc hx=>b.keep c ob (a.keep c ob q n hc hx) (a.free c ob q n hx) hc hx
 slot:=fun c ob q n hc hx=>by
  obtain⟨sl,e1⟩:=a.slot c ob q n hc hx;obtain⟨sl',e2⟩:=b.slot c _ e1 (a.free c ob q n hx) hc hx;exact⟨sl',e2⟩
 free:=fun c ob q n hx=>by
  obtain⟨o',e1⟩:=a.there c ob q hx;exact b.free c o' e1 (a.free c ob q n hx) hx
 there:=fun c ob q hx=>by
  obtain⟨o',e1⟩:=a.there c ob q hx;exact b.there c o' e1 hx
 tups:=fun c xs q=>b.tups c xs (a.tups c xs q)
 frzs:=fun c ob xs q=>b.frzs c ob xs (a.frzs c ob xs q)
 tbls:=fun c ps q=>by
  obtain⟨m1,e1⟩:=a.tbls c ps q;obtain⟨m2,e2⟩:=b.tbls c _ e1;exact⟨m1++m2,by rw[e2,Array.append_assoc]⟩
theorem Un.kept(k:∀b u,h.get? b=some u->h'.get? b=some u):Un fs ex H H h h' :=
 ⟨fun b ob q _ _ _=>k b ob q,fun b ob q _ _ _=>⟨ob.slots,k b ob q⟩,fun _ _ _ n _=>n,fun b ob q _=>⟨ob,k b ob q⟩,fun _ _ q=>q,fun _ _ _ q=>q,fun _ ps q=>⟨#[],by rw[q];simp⟩⟩
theorem Un.refl:Un fs ex H H h h:=Un.kept fun _ _ q=>q
theorem Un.laid(k:∀b u,h.get? b=some u->h'.get? b=some u)(hp:h.objs.size<=a)(hn:H a=none):Un fs ex H (upd H a o) h h' where
 keep:=fun b u q _ _ _=>k b u q
 slot:=fun b u q _ _ _=>⟨u.slots,k b u q⟩
 free:=fun b u q n _=>by rw[jR (wz (υ (Θ q) hp))];exact n
 there:=fun b u q _=>⟨u,k b u q⟩
 tups:=fun b xs q=>by rw[jR (jI q hn)];exact q
 frzs:=fun b u xs q=>by rw[jR (jI q hn)];exact q
 tbls:=fun b ps q=>⟨#[],by rw[jR (jI q hn),q];simp⟩
theorem Un.write(mu:Mut (H x))(he:e=x\/H e=some (.own x))(k:∀b u,b≠e->h.get? b=some u->h'.get? b=some u)(heo:∃u,h'.get? e=some u):Un fs ex H (upd H x o) h h':=by
 have hx:∀b,H b=none->b≠x:=fun b n z=>by subst z;rw[n]at mu;exact mu
 have hb:∀b,H b=none->b≠e:=fun b n z=>by
  subst z;rcases he with r|r
  ·exact hx b n r
  ·rw[n]at r;cases r
 have hm:∀b u,H b=some u->¬ Mut (some u)->b≠x:=fun b u q nm z=>by subst z;rw[q]at mu;exact nm mu
 refine⟨fun b u q n _ _=>k b u (hb b n) q,fun b u q n _ _=>⟨u.slots,k b u (hb b n) q⟩,fun b u q n _=>by rw[jR (hx b n)];exact n,fun b u q _=>?_,
  fun b xs q=>by rw[jR (hm b _ q fun z=>z)];exact q,fun b u xs q=>by rw[jR (hm b _ q fun z=>z)];exact q,fun b ps q=>⟨#[],by rw[jR (hm b _ q fun z=>z),q];simp⟩⟩
 by_cases hbe:b=e
 ·subst hbe;exact heo
 ·exact⟨u,k b u hbe q⟩
theorem Un.mono(u:Un fs ex H H1 h h1)(hs:∀b∈fs,b∈fs')(hx:∀b∈ex,b∈ex'):Un fs' ex' H H1 h h1 :=
 ⟨fun b ob q n hb he=>u.keep b ob q n (fun z=>hb (hs b z)) fun z=>he (hx b z),fun _ _ q n _ he=>u.any q n fun z=>he (hx _ z),fun b ob q n he=>u.free b ob q n fun z=>he (hx b z),fun b ob q he=>u.there b ob q fun z=>he (hx b z),u.tups,u.frzs,u.tbls⟩
end
def trk (h:yp) (H:Hp):List Addr:=(zt h.objs.size).filter fun a=>(H a).isSome
def aAj (h:yp) (H:Hp):yp:=PySem.W.hideAll h (trk h H)
theorem aIl(h:yp)(H:Hp):(aAj h H).objs.size=h.objs.size:=PySem.W.hideAll_size _ _
theorem aLr{h:yp}{H:Hp}{b:Addr}(e:h.get? b=some o)(n:H b=none):(aAj h H).get? b=some o :=
 PySem.W.hideAll_get _ e fun hm=>by
  have q:(H b).isSome=true:=(List.mem_filter.mp hm).2;rw[n]at q;simp at q
theorem aPq{H:Hp}{b:Addr}(e:(aAj h H).get? b=some o):h.get? b=some o/\H b=none:=by
 have e':h.get? b=some o:=PySem.W.of_hideAll (trk h H) e;refine⟨e',?_⟩;cases q:H b with
 |none=>rfl
 |some x =>
  have hm:b∈trk h H:=List.mem_filter.mpr ⟨List.mem_range.mpr (Θ e'),by simp[q]⟩;have z:(aAj h H).get? b=none:=PySem.W.hideAll_none (trk h H) hm;rw[z]at e;cases e
def aOg (g h:yp) (L:Addr):List (Addr×Obj):=(zt h.objs.size).filterMap fun a=>if a=L\/(g.get? a).isSome=true then none else (h.get? a).map fun o=>(a,o)
def rest (g h:yp) (L d:Addr):List (Addr×Obj):=(aOg g h L).filter fun p=>decide (p.1≠d)
structure Mod (K:Ω) (mg:Str->Option Value) (base:yp):Prop where
 kin:K.In base
 glob:base.Ns ww mg
 blt:∃mb,base.Ns builtinsNs mb/\∀x:Str,x ≠ "__name__"->mb x=AG x
 nolimit:base.NoLimit
structure Cx where
 prog:za
 w:Af
 K:Ω
 mg:Str->Option Value
 base:yp
 A:yr
 N:List Str
 s₀ : ι
 H₀ : Hp
 env:Env
 outer:List Env
 stack:List Env
 ex:List Addr
 fn:Str->Bool
 calm:Bool
 pn:List (Addr×Obj)
 xe:Value->ι->Prop
def frs (l:List Env):List Addr:=l.filterMap (·.frame)
abbrev Cx.fs (X:Cx):List Addr:=frs X.outer
def Vis (sc:Scope) (x:Str):Prop:=sc.names.lookup x=some .local\/sc.names.lookup x=some .cell\/sc.names.lookup x=some .free
def Loc (sc:Scope) (x:Str):Prop:=sc.names.lookup x=some .local\/sc.names.lookup x=some .cell
def Look (env:Env) (h:yp) (m:Str->Option Value) (x:Str) (u:Value):Prop :=
 (env.kindOf x=some .local/\m x=some u)\/((env.kindOf x=some .cell\/env.kindOf x=some .free)/\∃c,env.cells.lookup x=some c/\h.IsCell c (some u))
structure Cx.Ok (X:Cx):Prop where
 mod:Mod X.K X.mg X.base
 kind:X.env.scope.kind=.function
 glob:X.env.globals=ww
 blt:X.env.builtins=builtinsNs
 above:X.s₀.heap.objs.size<=X.env.locals
 inj:∀x y c,X.env.cells.lookup x=some c->X.env.cells.lookup y=some c->x=y
 has:∀x,(X.env.kindOf x=some .cell\/X.env.kindOf x=some .free)->∃c,X.env.cells.lookup x=some c
 cab:∀x c,X.fn x=true->X.env.cells.lookup x=some c->X.s₀.heap.objs.size<=c
 hd:X.calm=true->X.A.handled=none
 frames:X.A.frames=some X.stack
 stk:X.stack=X.outer\/(X.stack=X.env::X.outer/\X.env.frame=some X.env.locals)
 exf:∀b∈X.ex,b≠X.env.locals/\∀x c,X.env.cells.lookup x=some c->c≠b
 bs:∀b o,X.base.get? b=some o->X.s₀.heap.get? b=some o/\X.H₀ b=none
 bsz:X.base.objs.size<=X.s₀.heap.objs.size
 noex:∀b o,X.base.get? b=some o->b∉X.ex
 exfs:∀b∈X.ex,b∉X.fs
 funs:X.s₀.heap.FunFrames X.base X.outer
 frf:∀b∈X.fs,X.H₀ b=none
structure Inv (X:Cx) (pins:List (Addr×Obj)) (σ:List (Option V)) (H:Hp) (s:ι):Prop where
 ok:X.Ok
 os:s.os=X.s₀.os
 bare:AllBare s.gens
 base:Un X.fs X.ex X.H₀ H X.s₀.heap s.heap
 loc:∃m,s.heap.Ns X.env.locals m/\∀(i:Nat) (x:Str) (v:V),X.N[i]?=some x->σ[i]?=some (some v)->Vis X.env.scope x->∃u,RelV v u/\Look X.env s.heap m x u
 cell:∀x c,X.env.cells.lookup x=some c->∃v,s.heap.IsCell c v
 free:H X.env.locals=none
 freeC:∀x c,X.env.cells.lookup x=some c->H c=none
 pin:∀p∈X.pn++pins,s.heap.get? p.1=some p.2/\H p.1=none/\p.1≠X.env.locals/\p.1∉X.fs/\∀v,p.2.data≠.cell v
 hok:HOk X.prog X.w H s.heap
 len : σ.length=X.N.length
section
variable {X:Cx}{pins:List (Addr×Obj)}{σ:List (Option V)}{H H':Hp}{s:ι}{h':yp}
theorem Cx.Ok.nofr(ok:X.Ok){b:Addr}(e:X.base.get? b=some o):b∉X.fs:=fun hb=>by
 have:=(ok.funs.mem hb).1;rw[e]at this;cases this
theorem Inv.bs(I:Inv X pins σ H s):∀b o,X.base.get? b=some o->s.heap.get? b=some o/\H b=none:=fun b o e =>
 ⟨I.base.keep b o (I.ok.bs b o e).1 (I.ok.bs b o e).2 (I.ok.nofr e) (I.ok.noex b o e),I.base.free b o (I.ok.bs b o e).1 (I.ok.bs b o e).2 (I.ok.noex b o e)⟩
theorem Inv.bk(I:Inv X pins σ H s):∀b o,X.base.get? b=some o->s.heap.get? b=some o:=fun b o e=>(I.bs b o e).1
theorem Inv.mod(I:Inv X pins σ H s):Mod X.K X.mg X.base:=I.ok.mod
theorem Inv.kIn(I:Inv X pins σ H s):X.K.In s.heap:=I.ok.mod.kin.keeps I.bk
theorem Inv.nolimit(I:Inv X pins σ H s):s.heap.NoLimit:=I.ok.mod.nolimit.keeps I.bk
theorem Inv.fr(I:Inv X pins σ H s):∃m,Fr X.base X.env.locals s.heap m :=
 let ⟨m,hn,_⟩:=I.loc
 ⟨m,hn,I.bk,yb I.ok.bsz I.ok.above⟩
theorem Inv.lt(I:Inv X pins σ H s):X.env.locals<s.heap.objs.size:=let ⟨_,hn,_⟩:=I.loc;hn.lt
theorem Inv.sz(I:Inv X pins σ H s):X.s₀.heap.objs.size<=s.heap.objs.size:=yb I.ok.above (BL I.lt)
theorem Inv.nofs(I:Inv X pins σ H s){a:Addr}(h:s.heap.objs.size<=a):a∉X.fs:=fun hb=>by
 obtain⟨_,o,ho,_⟩:=I.ok.funs.mem hb;exact absurd (υ (Θ ho) (yb I.sz h)) (Ak _)
theorem Inv.cne(I:Inv X pins σ H s):∀x c,X.env.cells.lookup x=some c->c≠X.env.locals:=fun x c e z=>by
 obtain⟨v,o,ho,hd⟩:=I.cell x c e;obtain⟨m,⟨o',es,ep,ho',hd',_⟩,_⟩:=I.loc;rw[z,ho']at ho;cases ho;rw[hd']at hd;cases hd
theorem Inv.funs(I:Inv X pins σ H s):s.heap.FunFrames X.base X.outer:=by
 have all:∀(l:List Env),(∀b∈frs l,b∈X.fs)->X.s₀.heap.FunFrames X.base l->s.heap.FunFrames X.base l:=by
  intro l
  induction l with
  |nil=>intro _ _;trivial
  |cons env r ih =>
   intro hs hl;obtain⟨hk,⟨L,o,hf,hn,ho,hd⟩,hr⟩:=hl;have hL:L∈X.fs:=hs L (by unfold frs;rw[List.filterMap_cons,hf];exact ο);obtain⟨sl,e⟩:=I.base.slot L o ho (I.ok.frf L hL) hL fun z=>I.ok.exfs L z hL;exact⟨hk,⟨L,_,hf,hn,e,hd⟩,ih (fun b hb=>hs b (by unfold frs;rw[List.filterMap_cons,hf];exact π _ hb)) hr⟩
 exact all X.outer (fun _ hb=>hb) I.ok.funs
theorem Inv.stack(I:Inv X pins σ H s):s.heap.FunFrames X.base X.stack:=by
 rcases I.ok.stk with e|⟨e,hf⟩
 ·rw[e];exact I.funs
 ·rw[e];obtain⟨m,hn,_⟩:=I.loc;refine .cons (by rw[I.ok.kind];decide) hf hn ?_ I.funs;exact BC (yb I.ok.bsz I.ok.above)
theorem Inv.stkSub(I:Inv X pins σ H s):∀b∈frs X.stack,b∈X.env.locals::X.fs:=fun b hb=>by
 rcases I.ok.stk with e|⟨e,hf⟩
 ·rw[e]at hb;exact π _ hb
 ·rw[e]at hb;unfold frs at hb;rw[List.filterMap_cons,hf]at hb;exact hb
theorem Inv.stkFree(I:Inv X pins σ H s):∀b∈frs X.stack,H b=none:=fun b hb=>by
 rcases χ.mp (I.stkSub b hb) with e|hb
 ·rw[e];exact I.free
 ·obtain⟨_,o,ho,_⟩:=I.ok.funs.mem hb;exact I.base.free b o ho (I.ok.frf b hb) fun z=>I.ok.exfs b z hb
theorem Inv.step{t':Nat}{d':Drawn}{ch:List Addr}(I:Inv X pins σ H s)
  (hch:∀b∈ch,(b∈X.ex\/X.s₀.heap.objs.size<=b)/\b≠X.env.locals/\(∀x c,X.env.cells.lookup x=some c->c≠b)/\∀p∈X.pn++pins,p.1≠b)
  (keep:∀b o,b≠X.env.locals->b∉X.fs->b∉ch->s.heap.get? b=some o->H b=none->h'.get? b=some o)
  (slot:∀b o,b≠X.env.locals->b∈X.fs->b∉ch->s.heap.get? b=some o->H b=none->∃sl,h'.get? b=some { o with slots:=sl })(free:∀b o,b∉ch->s.heap.get? b=some o->H b=none->H' b=none)
  (there:∀b o,b∉ch->s.heap.get? b=some o->∃o',h'.get? b=some o')
  (tups:∀b xs,H b=some (.tup xs)->H' b=some (.tup xs))(frzs:∀b o u,H b=some (.frz o u)->H' b=some (.frz o u))(tbls:∀b ps,H b=some (.tbl ps)->∃more,H' b=some (.tbl (ps++more)))
  (ns:∀m,s.heap.Ns X.env.locals m->h'.Ns X.env.locals m)(hok:HOk X.prog X.w H' h')(hg:AllBare g'):
  Inv X pins σ H' { s with heap:=h',gens:=g',drawn:=d',toks:=t' }:=by
 have neL:∀b o,X.s₀.heap.get? b=some o->b≠X.env.locals:=fun b o e=>wz (υ (Θ e) I.ok.above);have neC:∀b o,X.s₀.heap.get? b=some o->b∉X.ex->b∉ch:=fun b o e hx hb=>by
  rcases (hch b hb).1 with z|z
  ·exact hx z
  ·exact absurd (υ (Θ e) z) (Ak _)
 have cellK:∀x c,X.env.cells.lookup x=some c->∀v,s.heap.IsCell c v->h'.IsCell c v:=fun x c e v ⟨o,ho,hd⟩=>by
  have nch:c∉ch:=fun z=>(hch c z).2.2.1 x c e rfl
  by_cases hc:c∈X.fs
  ·obtain⟨sl,q⟩:=slot c o (I.cne x c e) hc nch ho (I.freeC x c e);exact⟨_,q,hd⟩
  ·exact⟨o,keep c o (I.cne x c e) hc nch ho (I.freeC x c e),hd⟩
 refine⟨I.ok,I.os,hg,⟨fun b o e n hb hx=>?_,fun b o e n hb hx=>?_,fun b o e n hx=>?_,fun b o e hx=>?_,fun b xs e=>tups b xs (I.base.tups b xs e),fun b o xs e=>frzs b o xs (I.base.frzs b o xs e),fun b ps e=>?_⟩,?_,fun x c e=>?_,?_,fun x c e=>?_,fun p hp=>?_,hok,I.len⟩
 ·exact keep b o (neL b o e) hb (neC b o e hx) (I.base.keep b o e n hb hx) (I.base.free b o e n hx)
 ·obtain⟨sl,e1⟩:=I.base.slot b o e n hb hx;obtain⟨sl',e2⟩:=slot b _ (neL b o e) hb (neC b o e hx) e1 (I.base.free b o e n hx);exact⟨sl',e2⟩
 ·obtain⟨o',e1⟩:=I.base.there b o e hx;exact free b o' (neC b o e hx) e1 (I.base.free b o e n hx)
 ·obtain⟨o',e1⟩:=I.base.there b o e hx;exact there b o' (neC b o e hx) e1
 ·obtain⟨m1,e1⟩:=I.base.tbls b ps e;obtain⟨m2,e2⟩:=tbls b _ e1;exact⟨m1++m2,by rw[e2,Array.append_assoc]⟩
 ·obtain⟨m,hn,hl⟩:=I.loc;refine⟨m,ns m hn,fun i x v e1 e2 e3=>?_⟩;obtain⟨u,r,l⟩:=hl i x v e1 e2 e3;refine⟨u,r,?_⟩;rcases l with l|⟨k,c,e,z⟩
  ·exact .inl l
  ·exact .inr ⟨k,c,e,cellK x c e _ z⟩
 ·obtain⟨v,z⟩:=I.cell x c e;exact⟨v,cellK x c e v z⟩
 ·obtain⟨m,⟨o,_,_,ho,_⟩,_⟩:=I.loc;exact free _ o (fun z=>(hch _ z).2.1 rfl) ho I.free
 ·obtain⟨v,o,ho,hd⟩:=I.cell x c e;exact free c o (fun z=>(hch c z).2.2.1 x c e rfl) ho (I.freeC x c e)
 ·obtain⟨e,n,ne,nf,d⟩:=I.pin p hp;have nch:p.1∉ch:=fun z=>(hch p.1 z).2.2.2 p hp rfl;exact⟨keep p.1 p.2 ne nf nch e n,free p.1 p.2 nch e n,ne,nf,d⟩
theorem Inv.un{t':Nat}(I:Inv X pins σ H s)(u:Un X.fs [] H H' s.heap h')(hok:HOk X.prog X.w H' h'):Inv X pins σ H' { s with heap:=h',toks:=t' }:=by
 obtain⟨m,⟨o,es,ep,ho,r⟩,_⟩:=id I.loc;obtain⟨sl,hL⟩:=u.any ho I.free (by simp);exact I.step (g':=s.gens) (d':=s.drawn) (ch:=[]) (fun _ z=>nomatch z) (fun b o _ hb _ e n=>u.keep b o e n hb (by simp)) (fun b o _ hb _ e n=>u.slot b o e n hb (by simp)) (fun b o _ e n=>u.free b o e n (by simp)) (fun b o _ e=>u.there b o e (by simp)) u.tups u.frzs u.tbls (fun m' hm=>by
  obtain⟨o',es',ep',ho',r'⟩:=hm;rw[ho]at ho';cases ho';exact⟨_,es',ep',hL,r'⟩) hok I.bare
theorem Inv.call{t':Nat}{d':Drawn}(I:Inv X pins σ H s)(u:Un (frs X.stack) ch H H' s.heap h')(hok:HOk X.prog X.w H' h')(hg:AllBare g')
  (hch:∀b∈ch,(b∈X.ex\/X.s₀.heap.objs.size<=b)/\b≠X.env.locals/\(∀x c,X.env.cells.lookup x=some c->c≠b)/\∀p∈X.pn++pins,p.1≠b):
  Inv X pins σ H' { s with heap:=h',gens:=g',drawn:=d',toks:=t' }:=by
 obtain⟨m,⟨o,es,ep,ho,r⟩,_⟩:=id I.loc;obtain⟨sl,hL⟩:=u.any ho I.free fun z=>(hch _ z).2.1 rfl;exact I.step (ch:=ch) hch (fun b o hL hb hc e n=>u.keep b o e n (fun z=>(χ.mp (I.stkSub b z)).elim hL hb) hc) (fun b o _ _ hc e n=>u.any e n hc) (fun b o hc e n=>u.free b o e n hc) (fun b o hc e=>u.there b o e hc) u.tups u.frzs u.tbls (fun m' hm=>by
  obtain⟨o',es',ep',ho',r'⟩:=hm;rw[ho]at ho';cases ho';exact⟨_,es',ep',hL,r'⟩) hok hg
theorem Inv.turned{t':Nat}{it:Addr}(I:Inv X pins σ H s)(k:∀b o,b≠it->s.heap.get? b=some o->h'.get? b=some o)(hn:H it=none)(hL:it≠X.env.locals)
  (h1:it∈X.ex\/X.s₀.heap.objs.size<=it)(h2:∀x c,X.env.cells.lookup x=some c->c≠it)(h3:∀p∈X.pn++pins,p.1≠it):Inv X pins σ H { s with heap:=h',toks:=t' }:=by
 have nit:∀b u,H b=some u->b≠it:=fun b u e z=>by rw[z,hn]at e;cases e
 refine I.step (g':=s.gens) (d':=s.drawn) (ch:=[it]) (fun b hb=>?_) (fun b o _ _ hc e _=>k b o (fun z=>hc (by simp[z])) e) (fun b o _ _ hc e _=>⟨o.slots,k b o (fun z=>hc (by simp[z])) e⟩) (fun _ _ _ _ n=>n)
  (fun b o hc e=>⟨o,k b o (fun z=>hc (by simp[z])) e⟩) (fun _ _ e=>e) (fun _ _ _ e=>e) (fun b ps e=>⟨#[],by rw[e];simp⟩) (fun m hm=>?_) (fun b u e=>?_) I.bare
 ·have e:b=it:=by simpa using hb
  subst e;exact⟨h1,hL,h2,h3⟩
 ·obtain⟨o,es,ep,ho,r⟩:=hm;exact⟨o,es,ep,k _ o (Ag hL) ho,r⟩
 ·refine(I.hok b u e).stay (fun c v hc q=>k c v ?_ q) (fun _ q=>q) fun _ _ q=>q;rcases hc with z|z
  ·rw[z];exact nit b u e
  ·exact nit c _ z
theorem Inv.tok(I:Inv X pins σ H s)(t:Nat):Inv X pins σ H { s with toks:=t }:=I.un (h':=s.heap) (t':=t) Un.refl I.hok
theorem Inv.kept{t':Nat}(I:Inv X pins σ H s)(k:∀b u,s.heap.get? b=some u->h'.get? b=some u):Inv X pins σ H { s with heap:=h',toks:=t' }:=I.un (Un.kept k) (I.hok.kept k)
theorem Inv.laid{a:Addr}{t':Nat}(I:Inv X pins σ H s)(k:∀b u,s.heap.get? b=some u->h'.get? b=some u)(hp:s.heap.objs.size<=a)(new:qK X.prog X.w (upd H a o) h' a o):
  Inv X pins σ (upd H a o) { s with heap:=h',toks:=t' }:=I.un (Un.laid k hp (I.hok.fresh hp)) (I.hok.laid k hp new)
theorem Inv.write{e:Addr}{t':Nat}(I:Inv X pins σ H s)(mu:Mut (H x))(he:e=x\/H e=some (.own x))(k:∀b u,b≠e->s.heap.get? b=some u->h'.get? b=some u)(heo:∃u,h'.get? e=some u)
  (new:qK X.prog X.w (upd H x o) h' x o):Inv X pins σ (upd H x o) { s with heap:=h',toks:=t' }:=I.un (Un.write mu he k heo) (I.hok.write mu he k heo new)
theorem Inv.pins_of{pins':List (Addr×Obj)}(I:Inv X pins σ H s)(h:∀p∈pins',s.heap.get? p.1=some p.2/\H p.1=none/\p.1≠X.env.locals/\p.1∉X.fs/\∀v,p.2.data≠.cell v):Inv X pins' σ H s :=
 ⟨I.ok,I.os,I.bare,I.base,I.loc,I.cell,I.free,I.freeC,fun p hp=>(xu.mp hp).elim (fun z=>I.pin p (Aq _ z)) (h p),I.hok,I.len⟩
theorem rZ{N:List Str}(hN:N.Nodup){i j:Nat}(a:N[i]?=some x)(b:N[j]?=some x):i=j:=by
 obtain⟨h1,e1⟩:=θ.mp a;obtain⟨h2,e2⟩:=θ.mp b;exact(List.getElem_inj hN).mp (e1.trans e2.symm)
theorem fE{i:Nat}{Q:Unit->ι->Prop}(I:Inv X pins σ H s)(hN:X.N.Nodup)(hi:X.N[i]?=some x)(hx:Loc X.env.scope x)(r:RelV v u)
  (h:∀s',Inv X pins (σ.set i (some v)) H s'->(∃a,Ac a s.heap s'.heap/\(a=X.env.locals\/X.env.cells.lookup x=some a))->Q () s')(hf:X.fn x=true\/X.env.scope.names.lookup x=some .local:=by first|exact .inl rfl|exact .inr rfl|assumption):Φ M A (storeName X.env x u) Q E s:=by
 obtain⟨m,hn,hl⟩:=id I.loc;have hcls:(X.env.scope.kind == .class||(X.env.scope.kind == .module&&X.env.locals != X.env.globals))=false:=by rw[I.ok.kind];rfl
 have hiσ:i<σ.length:=by rw[I.len];exact(θ.mp hi).1
 have cne:=I.cne;have tracked:∀{a:Addr}{h':yp},(∃o,s.heap.get? a=some o/\H a=none)->Ac a s.heap h'->HOk X.prog X.w H h':=fun {a h'} ha hs b ob e=>by
  obtain⟨_,_,hfree⟩:=ha;refine(I.hok b ob e).stay (fun c w' hc q=>(hs.2 c ?_).trans q) (fun _ q=>q) fun _ _ q=>q;rintro rfl;rcases hc with rfl|hc
  ·rw[hfree]at e;cases e
  ·rw[hfree]at hc;cases hc
 rcases hx with hk|hk
 ·refine wpAny_storeName_local hk hn (fun h' hn' hs=>?_) hcls;obtain⟨oL,_,_,hoL,_⟩:=id hn;refine h _ ⟨I.ok,I.os,I.bare,⟨fun b o e n hb hx=>?_,fun b o e n hb hx=>?_,I.base.free,fun b o e hx=>?_,I.base.tups,I.base.frzs,I.base.tbls⟩,⟨_,hn',fun j y v' e1 e2 e3=>?_⟩,fun y c e=>?_,I.free,I.freeC,fun p hp=>?_,tracked ⟨oL,hoL,I.free⟩ hs,by simpa using I.len⟩ ⟨_,hs,.inl rfl⟩
  ·exact(hs.2 b (wz (υ (Θ e) I.ok.above))).trans (I.base.keep b o e n hb hx)
  ·obtain⟨sl,e1⟩:=I.base.slot b o e n hb hx;exact⟨sl,(hs.2 b (wz (υ (Θ e) I.ok.above))).trans e1⟩
  ·obtain⟨o',e1⟩:=I.base.there b o e hx;exact⟨o',(hs.2 b (wz (υ (Θ e) I.ok.above))).trans e1⟩
  ·by_cases hj:j=i
   ·subst hj;rw[hi]at e1;cases e1;rw[Dq hiσ]at e2;cases e2;exact⟨u,r,.inl ⟨hk,by simp⟩⟩
   ·rw[DU (Ag hj)]at e2;obtain⟨u',r',q⟩:=hl j y v' e1 e2 e3;refine⟨u',r',?_⟩;rcases q with⟨k,e⟩|⟨k,c,e,z⟩
    ·refine .inl ⟨k,?_⟩;have:y≠x:=fun e=>hj (rZ hN e1 (e ▸ hi));simp[this,e]
    ·exact .inr ⟨k,c,e,z.sameBut hs (cne y c e)⟩
  ·obtain⟨w',z⟩:=I.cell y c e;exact⟨w',z.sameBut hs (cne y c e)⟩
  ·obtain⟨e,n,ne,nf,d⟩:=I.pin p hp;exact⟨(hs.2 p.1 ne).trans e,n,ne,nf,d⟩
 ·have hfn:X.fn x=true:=by
   rcases hf with z|z
   ·exact z
   ·rw[z]at hk;cases hk
  obtain⟨c,hc⟩:=I.ok.has x (.inl hk);obtain⟨w',z⟩:=I.cell x c hc;refine wpAny_storeName_cell I.ok.kind hk hc z (fun h' hc' hs=>?_);obtain⟨oc,hoc,hocd⟩:=id z;refine h { s with heap:=h' } ⟨I.ok,I.os,I.bare,⟨fun b o e n hb hx=>?_,fun b o e n hb hx=>?_,I.base.free,fun b o e hx=>?_,I.base.tups,I.base.frzs,I.base.tbls⟩,⟨m,hn.sameBut hs (Ag (cne x c hc)),fun j y v' e1 e2 e3=>?_⟩,fun y c' e=>?_,I.free,I.freeC,fun p hp=>?_,tracked ⟨oc,hoc,I.freeC x c hc⟩ hs,by simpa using I.len⟩ ⟨c,hs,.inr hc⟩
  ·exact(hs.2 b (wz (υ (Θ e) (I.ok.cab x c hfn hc)))).trans (I.base.keep b o e n hb hx)
  ·obtain⟨sl,e1⟩:=I.base.slot b o e n hb hx;exact⟨sl,(hs.2 b (wz (υ (Θ e) (I.ok.cab x c hfn hc)))).trans e1⟩
  ·obtain⟨o',e1⟩:=I.base.there b o e hx;exact⟨o',(hs.2 b (wz (υ (Θ e) (I.ok.cab x c hfn hc)))).trans e1⟩
  ·by_cases hj:j=i
   ·subst hj;rw[hi]at e1;cases e1;rw[Dq hiσ]at e2;cases e2;exact⟨u,r,.inr ⟨.inl hk,c,hc,hc'⟩⟩
   ·rw[DU (Ag hj)]at e2;obtain⟨u',r',q⟩:=hl j y v' e1 e2 e3;refine⟨u',r',?_⟩;rcases q with q|⟨k,c',e,z'⟩
    ·exact .inl q
    ·refine .inr ⟨k,c',e,z'.sameBut hs ?_⟩;rintro rfl;exact hj (rZ hN e1 (I.ok.inj _ _ _ e hc ▸ hi))
  ·by_cases hcc:c'=c
   ·subst hcc;exact⟨_,hc'⟩
   ·obtain⟨w2,z2⟩:=I.cell y c' e;exact⟨w2,z2.sameBut hs hcc⟩
  ·obtain⟨e,n,ne,nf,d⟩:=I.pin p hp;refine⟨(hs.2 p.1 ?_).trans e,n,ne,nf,d⟩;intro q;rw[q,hoc]at e;have q':oc=p.2:=zv e;exact d w' (by rw[←q'];exact hocd)
theorem pK{i:Nat}{Q:Unit->ι->Prop}(I:Inv X pins σ H s)(hN:X.N.Nodup)(hi:X.N[i]?=some x)(hx:Loc X.env.scope x)(r:RelV v u)
  (h:∀s',Inv X pins (σ.set i (some v)) H s'->Q () s')(hf:X.fn x=true\/X.env.scope.names.lookup x=some .local:=by first|exact .inl rfl|exact .inr rfl|assumption):Φ M A (storeName X.env x u) Q E s :=
 fE I hN hi hx r (fun s' I' _=>h s' I') hf
theorem Inv.call'{s':ι}(I:Inv X pins σ H s)(ho:s'.os=s.os)(u:Un (frs X.stack) ch H H' s.heap s'.heap)(hok:HOk X.prog X.w H' s'.heap)(hg:AllBare s'.gens)
  (hch:∀b∈ch,(b∈X.ex\/X.s₀.heap.objs.size<=b)/\b≠X.env.locals/\(∀x c,X.env.cells.lookup x=some c->c≠b)/\∀p∈X.pn++pins,p.1≠b):Inv X pins σ H' s':=by
 obtain⟨h',g',d',t',o'⟩:=s';have e:o'=s.os:=ho;subst e;exact I.call (g':=g') (t':=t') (d':=d') u hok hg hch
end
abbrev XK:=Value->Option Addr->Hp->Prop
abbrev St:=List (Option V)
abbrev VK:=V->Hp->Prop
abbrev TE:=St->Hp->VK->Prop
abbrev TT:=St->Hp->(Bool->Hp->Prop)->Prop
abbrev TA:=St->Hp->(List V->Hp->Prop)->Prop
structure Ends where
 nx:St->Hp->Prop
 rt:VK
 bk:St->Hp->Prop:=fun _ _=>False
 ct:St->Hp->Prop:=fun _ _=>False
abbrev TS:=Ends->St->Hp->Prop
def EP (X:Cx) (pins:List (Addr×Obj)) (σ:St) (Q:VK) (u:Value) (s':ι):Prop:=∃v H',Inv X pins σ H' s'/\RelV v u/\Q v H'
def TP (X:Cx) (pins:List (Addr×Obj)) (σ:St) (Q:Bool->Hp->Prop) (b:Bool) (s':ι):Prop:=∃H',Inv X pins σ H' s'/\Q b H'
def AP (X:Cx) (pins:List (Addr×Obj)) (σ:St) (Q:List V->Hp->Prop) (us:List Value) (s':ι):Prop:=∃vs H',Inv X pins σ H' s'/\kG vs us/\Q vs H'
def SP (X:Cx) (pins:List (Addr×Obj)) (D:Ends) (f:Flow) (s':ι):Prop :=
 match f with
 |.next=>∃σ' H',Inv X pins σ' H' s'/\D.nx σ' H'
 |.brk=>∃σ' H',Inv X pins σ' H' s'/\D.bk σ' H'
 |.cont=>∃σ' H',Inv X pins σ' H' s'/\D.ct σ' H'
 |.ret u=>∃v σ' H',Inv X pins σ' H' s'/\RelV v u/\D.rt v H'
def PE (X:Cx) (e:Expr) (t:TE):Prop :=
 ∀(pins:List (Addr×Obj)) (s:ι) (σ:St) (H:Hp) (Q:VK),Inv X pins σ H s->t σ H Q->Φ (xj X.prog X.w) X.A (eval e X.env) (EP X pins σ Q) X.xe s
def PT (X:Cx) (e:Expr) (t:TT):Prop :=
 ∀(pins:List (Addr×Obj)) (s:ι) (σ:St) (H:Hp) (Q:Bool->Hp->Prop),Inv X pins σ H s->t σ H Q->Φ (xj X.prog X.w) X.A (isTrue e X.env (eval e X.env)) (TP X pins σ Q) X.xe s
def PW (X:Cx) (e:Expr) (t:TT):Prop :=
 ∀(whole:Sem Value) (pins:List (Addr×Obj)) (s:ι) (σ:St) (H:Hp) (Q:Bool->Hp->Prop),Inv X pins σ H s->t σ H Q->Φ (xj X.prog X.w) X.A (isTrue e X.env whole) (TP X pins σ Q) X.xe s
theorem PW.pt(h:PW X e t):PT X e t:=h _
def PA (X:Cx) (es:List Expr) (t:TA):Prop :=
 ∀(pos:Pos) (pins:List (Addr×Obj)) (s:ι) (σ:St) (H:Hp) (Q:List V->Hp->Prop),Inv X pins σ H s->t σ H Q->Φ (xj X.prog X.w) X.A (spliced (AQ pos (xi es X.env))) (AP X pins σ Q) X.xe s
def PS (X:Cx) (st:Stmt) (t:TS):Prop :=
 ∀(pins:List (Addr×Obj)) (s:ι) (σ:St) (H:Hp) (D:Ends),Inv X pins σ H s->t D σ H->Φ (xj X.prog X.w) X.A (exec st X.env) (SP X pins D) X.xe s
def PSs (X:Cx) (st:List Stmt) (t:TS):Prop :=
 ∀(pins:List (Addr×Obj)) (s:ι) (σ:St) (H:Hp) (D:Ends),Inv X pins σ H s->t D σ H->Φ (xj X.prog X.w) X.A (execs st X.env) (SP X pins D) X.xe s
theorem thn{α : Type}{t:Sem α}{Q Q' : α->ι->Prop}{M:Model}{A:yr}{E:Value->ι->Prop}{s:ι}(h:Φ M A t Q E s)(hQ:∀a s,Q a s->Q' a s):Φ M A t Q' E s:=ym h hQ fun _ _ x=>x
section
variable {X:Cx}
inductive aJq (i:Nat) (σ:St) (H:Hp) (Q:VK):Prop|mk:∀v,σ[i]?=some (some v)->Q v H->aJq i σ H Q
def tVar (i:Nat):TE:=fun σ H Q=>aJq i σ H Q
def tC (v:V):TE:=fun _ H Q=>Q v H
theorem aQv{i:Nat}(hN:X.N[i]?=some x)(hv:Vis X.env.scope x)(hd:(x == ("__debug__" : Str))=false:=by decide)(hcd:(x == ("__classdict__" : Str))=false:=by decide):PE X (.Name x pos) (tVar i):=by
 intro pins s σ H Q I h;obtain⟨v,e,h⟩:=h;obtain⟨m,hn,hl⟩:=I.loc;obtain⟨u,r,l⟩:=hl i x v hN e hv;have fin:EP X pins σ Q u s:=⟨v,H,I,r,h⟩;rcases l with⟨hk,hm⟩|⟨hk,c,hc,hcell⟩
 ·exact wpAny_Name (wpAny_loadName_local I.ok.kind hk hn hm fin) hd
 ·rcases hk with hk|hk
  ·exact wpAny_Name (wpAny_loadName_cell I.ok.kind hk hc hcell fin) hd
  ·exact wpAny_Name (wpAny_loadName_free I.ok.kind hk hc hcell fin hcd) hd
theorem jH{i j pos}: PE X (.Constant (.int i) j pos) (tC (.int i)):=fun _ _ _ H _ I h=>wpAny_Constant_int ⟨.int i,H,I.tok _,⟨_,rfl⟩,h⟩
theorem aGc{b j pos}: PE X (.Constant (.bool b) j pos) (tC (.bl b)):=fun _ _ _ H _ I h=>Constant_bool ⟨.bl b,H,I,rfl,h⟩
theorem yQ{j pos}: PE X (.Constant .none j pos) (tC .non):=fun _ _ _ H _ I h=>Constant_none ⟨.non,H,I,rfl,h⟩
theorem jM{x j pos}: PE X (.Constant (.str x) j pos) (tC (.str x)):=fun _ _ _ H _ I h=>Dg ⟨.str x,H,I.tok _,⟨_,rfl⟩,h⟩
def Gl (X:Cx) (x:Str):Prop:=X.env.kindOf x=some .globalImplicit
theorem fA{Q:Value->ι->Prop}(I:Inv X pins σ H s)(hg:Gl X x)(hm:X.mg x=some u)(h:Q u s)
  (hd:(x == ("__debug__" : Str))=false:=by decide):Φ (xj X.prog X.w) X.A (eval (.Name x pos) X.env) Q E s :=
 Calls.Name_function_global I.ok.kind hg (Calls.loadGlobal_global (by rw[I.ok.glob];exact I.mod.glob.keeps I.bk) hm h) hd
theorem eR{Q:Value->ι->Prop}(I:Inv X pins σ H s)(hg:Gl X x)(hm:X.mg x=none)(hv:AG x=some u)(h:Q u s)
  (hn:x ≠ "__name__":=by decide)(hd:(x == ("__debug__" : Str))=false:=by decide):Φ (xj X.prog X.w) X.A (eval (.Name x pos) X.env) Q E s:=by
 obtain⟨mb,h1,h2⟩:=I.mod.blt;exact Calls.Name_function_global I.ok.kind hg (Calls.loadGlobal_builtin (by rw[I.ok.glob];exact I.mod.glob.keeps I.bk) hm (by rw[I.ok.blt];exact h1.keeps I.bk) ((h2 x hn).trans hv) h) hd
theorem kM(hg:Gl X x)(hm:X.mg x=some u)(r:RelV v u)(hd:(x == ("__debug__" : Str))=false:=by decide):PE X (.Name x pos) (tC v) :=
 fun _ _ _ H _ I h=>fA I hg hm ⟨v,H,I,r,h⟩ hd
theorem iS(hg:Gl X x)(hm:X.mg x=none)(hv:AG x=some u)(r:RelV v u)(hn:x ≠ "__name__":=by decide)(hd:(x == ("__debug__" : Str))=false:=by decide):PE X (.Name x pos) (tC v) :=
 fun _ _ _ H _ I h=>eR I hg hm hv ⟨v,H,I,r,h⟩ hn hd
variable {a b:Expr}{ta tb:TE}{pos:Pos}
def PC (X:Cx) (op:CmpOp) (a b:Expr) (t:TE):Prop :=
 ∀(pins:List (Addr×Obj)) (s:ι) (σ:St) (H:Hp) (Q:VK),Inv X pins σ H s->t σ H Q →
  Φ (xj X.prog X.w) X.A (eval a X.env) (fun v s₁=>Φ (xj X.prog X.w) X.A (eval b X.env) (fun u s₂=>Φ (xj X.prog X.w) X.A (Ab op v u) (EP X pins σ Q) X.xe s₂) X.xe s₁) X.xe s
theorem aMx(b:Expr){op:CmpOp}(h:op≠.In)(h2:op≠.NotIn):BX op b=false:=by
 have e1:(op == CmpOp.In)=false:=by cases op <;> first|rfl|exact absurd rfl h
 have e2:(op == CmpOp.NotIn)=false:=by cases op <;> first|rfl|exact absurd rfl h2
 cases b <;> simp[BX,e1,e2]
def tB (t:TE):TT:=fun σ H Q=>t σ H fun x H1=>∃c,x=.bl c/\Q c H1
theorem rJ(h:PC X op a b t)(h1:BX op b=false:=by first|exact aMx _ (by decide) (by decide)|rfl):PT X (.Compare a [op] [b] pos) (tB t):=by
 intro pins s σ H Q I hw;refine wpAny_isTrue_Compare1 (thn (h pins s σ H _ I hw) fun v s1 h1=>thn h1 fun u s2 h2=>thn h2 fun c s3 zq=>?_) h1;obtain⟨x,H1,I1,r1,q1⟩:=zq;obtain⟨d,rfl,q⟩:=q1;cases r1;exact An ⟨H1,I1,q⟩
theorem yI(h:PE X e t)(he:∀whole,isTrue e X.env whole=(do let v ←whole;standAt e.pos;CU [v] (truthy v)):=by intro _;rfl):PT X e (tB t):=by
 intro pins s σ H Q I hw;refine isTrue_plain (thn (h pins s σ H _ I hw) fun v s1 zq=>?_) (he _);obtain⟨x,H1,I1,r1,q1⟩:=zq;obtain⟨d,rfl,q⟩:=q1;cases r1;exact An ⟨H1,I1,q⟩
variable {tA tB':TT}{rest:List Expr}
def tAnd (t u:TT):TT:=fun σ H Q=>t σ H fun c H1=>if c=true then u σ H1 Q else Q false H1
def tOr (t u:TT):TT:=fun σ H Q=>t σ H fun c H1=>if c=true then Q true H1 else u σ H1 Q
def tNot (t:TT):TT:=fun σ H Q=>t σ H fun c H1=>Q (!c) H1
theorem yW(ha:PT X a tA):PW X (.BoolOp .And [a] pos) tA:=by
 intro wh pins s σ H Q I h;refine isTrue_and (thn (ha pins s σ H Q I h) fun c s1 e=>?_);cases c with
 |true=>exact isTrue_and_nil e
 |false=>exact e
theorem fW(ha:PT X a tA):PW X (.BoolOp .Or [a] pos) tA:=by
 intro wh pins s σ H Q I h;refine isTrue_or (thn (ha pins s σ H Q I h) fun c s1 e=>?_);cases c with
 |false=>exact isTrue_or_nil e
 |true=>exact e
theorem bL(ha:PT X a tA)(hb:PW X (.BoolOp .And (b::rest) pos) tB'):PW X (.BoolOp .And (a::b::rest) pos) (tAnd tA tB'):=by
 intro wh pins s σ H Q I h;refine isTrue_and (thn (ha pins s σ H _ I h) fun c s1 zq=>?_);obtain⟨H1,I1,q1⟩:=zq;cases c with
 |true=>exact hb wh pins s1 σ H1 Q I1 q1
 |false=>exact⟨H1,I1,q1⟩
theorem sA(ha:PT X a tA)(hb:PW X (.BoolOp .Or (b::rest) pos) tB'):PW X (.BoolOp .Or (a::b::rest) pos) (tOr tA tB'):=by
 intro wh pins s σ H Q I h;refine isTrue_or (thn (ha pins s σ H _ I h) fun c s1 zq=>?_);obtain⟨H1,I1,q1⟩:=zq;cases c with
 |true=>exact⟨H1,I1,q1⟩
 |false=>exact hb wh pins s1 σ H1 Q I1 q1
theorem bP(ha:PT X a tA):PT X (.UnaryOp .Not a pos) (tNot tA):=by
 intro pins s σ H Q I h;exact isTrue_not (ha pins s σ H (fun c H1=>Q (!c) H1) I h)
def tAndV (ta tb:TE):TE:=fun σ H Q=>ta σ H fun x H1=>∃c,x=.bl c/\if c=true then tb σ H1 Q else Q (.bl false) H1
def tOrV (ta tb:TE):TE:=fun σ H Q=>ta σ H fun x H1=>∃c,x=.bl c/\if c=true then Q (.bl true) H1 else tb σ H1 Q
theorem dR{op}(h:PE X a t):PE X (.BoolOp op [a] pos) t:=fun pins s σ H Q I hw=>BoolOp_one (h pins s σ H Q I hw)
theorem bW(ha:PE X a ta)(hb:PE X (.BoolOp .And (b::rest) pos) tb):PE X (.BoolOp .And (a::b::rest) pos) (tAndV ta tb):=by
 intro pins s σ H Q I h;refine BoolOp_and (thn (ha pins s σ H _ I h) fun v s1 zq=>?_);obtain⟨x,H1,I1,r1,q1⟩:=zq;obtain⟨c,rfl,q1⟩:=q1;cases r1;refine An ?_;cases c with
 |true=>exact hb pins s1 σ H1 Q I1 q1
 |false=>exact⟨.bl false,H1,I1,rfl,q1⟩
theorem pe_or(ha:PE X a ta)(hb:PE X (.BoolOp .Or (b::rest) pos) tb):PE X (.BoolOp .Or (a::b::rest) pos) (tOrV ta tb):=by
 intro pins s σ H Q I h;refine BoolOp_or (thn (ha pins s σ H _ I h) fun v s1 zq=>?_);obtain⟨x,H1,I1,r1,q1⟩:=zq;obtain⟨c,rfl,q1⟩:=q1;cases r1;refine An ?_;cases c with
 |false=>exact hb pins s1 σ H1 Q I1 q1
 |true=>exact⟨.bl true,H1,I1,rfl,q1⟩
def tIf (t:TT) (ta tb:TE):TE:=fun σ H Q=>t σ H fun c H1=>if c=true then ta σ H1 Q else tb σ H1 Q
theorem xF(hc:PT X c tA)(ha:PE X a ta)(hb:PE X b tb):PE X (.IfExp c a b pos) (tIf tA ta tb):=by
 intro pins s σ H Q I h;refine wpAny_IfExp (thn (hc pins s σ H _ I h) fun d s1 zq=>?_);obtain⟨H1,I1,q1⟩:=zq;cases d with
 |true=>exact ha pins s1 σ H1 Q I1 q1
 |false=>exact hb pins s1 σ H1 Q I1 q1
end
def SqL (K:Ω) (H:Hp) (a:Addr) (xs:List V):Prop :=
 Rd H a (.lst xs) ∨
  ∃(o:Obj) (its:Array Value) (n:Nat),K.lookup a=some o/\o.cls=.type "list"/\o.dict=none/\o.data=.seq its n/\its.size<=Δ/\kG xs its.toList
def SqT (K:Ω) (H:Hp) (a:Addr) (xs:List V):Prop :=
 Rd H a (.tup xs) ∨
  ∃(o:Obj) (its:Array Value) (n:Nat),K.lookup a=some o/\o.cls=.type "tuple"/\o.data=.seq its n/\its.size<=Δ/\kG xs its.toList
def absV:Value->Option V
 |.none=>some .non
 |.bool b=>some (.bl b)
 |.int i _=>some (.int i)
 |.str x _=>some (.str x)
 |.bytes b _=>some (.byt b)
 |.float b _=>some (.flt b)
 |.ref a=>some (.ref a)
 |.type n=>some (.ty n)
 |_=>none
theorem RelV.abs(r:RelV x u):absV u=some x:=by
 cases x with
 |non=>cases r;rfl
 |bl _=>cases r;rfl
 |int _=>obtain⟨t,rfl⟩:=r;rfl
 |str _=>obtain⟨t,rfl⟩:=r;rfl
 |byt _=>obtain⟨t,rfl⟩:=r;rfl
 |flt _=>obtain⟨t,rfl⟩:=r;rfl
 |ref _=>cases r;rfl
 |ty _=>cases r;rfl
theorem RelV.inj(r:RelV x u)(q:RelV y u):x=y:=zv (r.abs.symm.trans q.abs)
theorem kG.inj:∀{xs ys:List V}{us:List Value},kG xs us->kG ys us->xs=ys
 |_,_,_,.nil,.nil=>rfl
 |_,_,_,.cons r t,.cons r' t'=>by rw[r.inj r',kG.inj t t']
section
variable {X:Cx}{pins:List (Addr×Obj)}{σ:St}{H:Hp}{s:ι}{a:Addr}{xs ys:List V}
theorem SqL.of{K:Ω}(h:H a=some (.lst xs)):SqL K H a xs:=.inl (.inl h)
theorem SqT.of{K:Ω}(h:H a=some (.tup xs)):SqT K H a xs:=.inl (.inl h)
theorem Inv.list(I:Inv X pins σ H s)(h:SqL X.K H a xs):∃its:List Value,kG xs its/\PlainL s.heap a its.toArray/\xs.length<=Δ:=by
 rcases h with h|⟨o,its,n,hk,hc,hd,hs,hz,r⟩
 ·obtain⟨z,its,n,r,e⟩:=h.ok I.hok;exact⟨its,r,⟨_,n,e,rfl,rfl,rfl⟩,z⟩
 ·refine⟨its.toList,r,⟨o,n,I.kIn a o hk,hc,hd,by simpa using hs⟩,?_⟩;have e:=r.length;simp only[Aw]at e;omega
theorem Inv.tuple(I:Inv X pins σ H s)(h:SqT X.K H a xs):∃its:List Value,kG xs its/\IsTup s.heap a its.toArray/\xs.length<=Δ:=by
 rcases h with h|⟨o,its,n,hk,hc,hs,hz,r⟩
 ·obtain⟨z,its,r,p⟩:=h.ok I.hok;exact⟨its,r,p,z⟩
 ·refine⟨its.toList,r,⟨o,I.kIn a o hk,hc,n,by simpa using hs⟩,?_⟩;have e:=r.length;simp only[Aw]at e;omega
theorem Inv.list_inj(I:Inv X pins σ H s)(h:SqL X.K H a xs)(h':SqL X.K H a ys):xs=ys:=by
 obtain⟨its,r,⟨o,n,e,_,_,d⟩,_⟩:=I.list h;obtain⟨its',r',⟨o',n',e',_,_,d'⟩,_⟩:=I.list h';rw[e]at e';cases e';rw[d]at d';injection d' with d1 _;have:its=its':=by simpa using congrArg Array.toList d1
 subst this;exact r.inj r'
theorem Inv.tuple_inj(I:Inv X pins σ H s)(h:SqT X.K H a xs)(h':SqT X.K H a ys):xs=ys:=by
 obtain⟨its,r,⟨o,e,_,n,d⟩,_⟩:=I.tuple h;obtain⟨its',r',⟨o',e',_,n',d'⟩,_⟩:=I.tuple h';rw[e]at e';cases e';rw[d]at d';injection d' with d1 _;have:its=its':=by simpa using congrArg Array.toList d1
 subst this;exact r.inj r'
end
abbrev Cx.wish (X:Cx) (E:Value->ι->Prop):Cx:={ X with xe:=E }
abbrev Cx.nox (X:Cx):Cx:=X.wish fun _ _=>False
theorem Cx.Ok.wish{X:Cx}(ok:X.Ok)(E:Value->ι->Prop):(X.wish E).Ok :=
 ⟨ok.mod,ok.kind,ok.glob,ok.blt,ok.above,ok.inj,ok.has,ok.cab,ok.hd,ok.frames,ok.stk,ok.exf,ok.bs,ok.bsz,ok.noex,ok.exfs,ok.funs,ok.frf⟩
theorem Cx.Ok.unwish{X:Cx}(ok:(X.wish E).Ok):X.Ok :=
 ⟨ok.mod,ok.kind,ok.glob,ok.blt,ok.above,ok.inj,ok.has,ok.cab,ok.hd,ok.frames,ok.stk,ok.exf,ok.bs,ok.bsz,ok.noex,ok.exfs,ok.funs,ok.frf⟩
section
variable {X:Cx}{pins:List (Addr×Obj)}{σ:St}{H:Hp}{s:ι}{E:Value->ι->Prop}
theorem Inv.wish(I:Inv X pins σ H s)(E:Value->ι->Prop):Inv (X.wish E) pins σ H s:=⟨I.ok.wish E,I.os,I.bare,I.base,I.loc,I.cell,I.free,I.freeC,I.pin,I.hok,I.len⟩
theorem Inv.unwish(I:Inv (X.wish E) pins σ H s):Inv X pins σ H s:=⟨I.ok.unwish,I.os,I.bare,I.base,I.loc,I.cell,I.free,I.freeC,I.pin,I.hok,I.len⟩
theorem SP.unwish(h:SP (X.wish E) pins D f s'):SP X pins D f s':=by
 cases f with
 |next=>obtain⟨σ',H',I,q⟩:=h;exact⟨σ',H',I.unwish,q⟩
 |brk=>obtain⟨σ',H',I,q⟩:=h;exact⟨σ',H',I.unwish,q⟩
 |cont=>obtain⟨σ',H',I,q⟩:=h;exact⟨σ',H',I.unwish,q⟩
 |ret u=>obtain⟨v,σ',H',I,r,q⟩:=h;exact⟨v,σ',H',I.unwish,r,q⟩
theorem PE.nox(h:PE X.nox e t):PE X e t:=fun pins s σ H Q I hw =>
 ym (h pins s σ H Q (I.wish _) hw) (fun _ _ ⟨v,H',I',r,q⟩=>⟨v,H',I'.unwish,r,q⟩) fun _ _ z=>yf z
theorem PT.nox(h:PT X.nox e t):PT X e t:=fun pins s σ H Q I hw =>
 ym (h pins s σ H Q (I.wish _) hw) (fun _ _ ⟨H',I',q⟩=>⟨H',I'.unwish,q⟩) fun _ _ z=>yf z
theorem PSs.nox{st:List Stmt}{t:TS}(h:PSs X.nox st t):PSs X st t:=fun pins s σ H D I hw =>
 ym (h pins s σ H D (I.wish _) hw) (fun _ _ q=>q.unwish) fun _ _ z=>yf z
end
section
variable {X:Cx}{st:Stmt}{rest:List Stmt}{t u:TS}{e:Expr}{te:TE}{pos:Pos}
def tNext:TS:=fun D σ H=>D.nx σ H
def qV (t u:TS):TS:=fun D σ H=>t { D with nx:=u D } σ H
theorem jX:PSs X [] tNext:=fun _ _ σ H _ I h=>CV ⟨σ,H,I,h⟩
theorem jC(h1:PS X st t)(h2:PSs X rest u):PSs X (st::rest) (qV t u):=by
 intro pins s σ H D I h;refine wpAny_execs_cons (thn (h1 pins s σ H { D with nx:=u D } I h) fun f s1 q=>?_);cases f with
 |next =>
  obtain⟨σ',H',I',q⟩:=q;exact h2 pins s1 σ' H' D I' q
 |ret v=>exact q
 |brk=>exact q
 |cont=>exact q
theorem jD(h1:PS X st t):PSs X [st] t:=by
 intro pins s σ H D I h;refine wpAny_execs_cons (thn (h1 pins s σ H D I h) fun f s1 q=>?_);cases f with
 |next=>exact CV q
 |ret v=>exact q
 |brk=>exact q
 |cont=>exact q
theorem Inv.quiet(I:Inv X pins σ H s):interactive X.env=false:=by simp[interactive,I.ok.kind]
def tDrop (te:TE):TS:=fun D σ H=>te σ H fun _ H1=>D.nx σ H1
theorem qO(he:PE X e te)(hs:swapsWith e none pos.line X.env=pure false:=by rfl):PS X (.Expr e pos) (tDrop te):=by
 intro pins s σ H D I h;exact wpAny_Expr_any (thn (he pins s σ H _ I h) fun v s1 ⟨x,H1,I1,r1,q1⟩=>⟨σ,H1,I1,q1⟩) I.quiet hs
def tRet (te:TE):TS:=fun D σ H=>te σ H D.rt
theorem jO(he:PE X e te):PS X (.Return (some e) pos) (tRet te):=by
 intro pins s σ H D I h;exact wpAny_Return_some (thn (he pins s σ H _ I h) fun v s1 ⟨x,H1,I1,r1,q1⟩=>⟨x,σ,H1,I1,r1,q1⟩)
def tIfS (c:TT) (t u:TS):TS:=fun D σ H=>c σ H fun b H1=>if b=true then t D σ H1 else u D σ H1
theorem kL(hc:PT X c tc)(ha:PSs X a t)(hb:PSs X b u):PS X (.If c a b pos) (tIfS tc t u):=by
 intro pins s σ H D I h;refine wpAny_If (thn (hc pins s σ H _ I h) fun d s1 zq=>?_);obtain⟨H1,I1,q1⟩:=zq;cases d with
 |true=>exact ha pins s1 σ H1 D I1 q1
 |false=>exact hb pins s1 σ H1 D I1 q1
def aQt:TS:=fun _ _ _=>False
theorem xL:PS X st aQt:=fun _ _ _ _ _ _ h=>h.elim
end
abbrev TG:=V->St->Hp->(St->Hp->Prop)->Prop
abbrev TGs:=List V->St->Hp->(St->Hp->Prop)->Prop
def PG (X:Cx) (target:Expr) (t:TG):Prop :=
 ∀(pins:List (Addr×Obj)) (s:ι) (σ:St) (H:Hp) (v:V) (u:Value) (Q:St->Hp->Prop),Inv X pins σ H s->RelV v u->t v σ H Q →
  Φ (xj X.prog X.w) X.A (assign target X.env u) (fun _ s'=>∃σ' H',Inv X pins σ' H' s'/\Q σ' H') X.xe s
def PGs (X:Cx) (ts:List Expr) (t:TGs):Prop :=
 ∀(pins:List (Addr×Obj)) (s:ι) (σ:St) (H:Hp) (vs:List V) (us:List Value) (Q:St->Hp->Prop),Inv X pins σ H s->kG vs us->t vs σ H Q →
  Φ (xj X.prog X.w) X.A (assignInOrder ((Bi ts X.env).map (·.2)) us) (fun _ s'=>∃σ' H',Inv X pins σ' H' s'/\Q σ' H') X.xe s
abbrev TSet:=V->V->V->Hp->(Hp->Prop)->Prop
def PSet (X:Cx) (t:TSet):Prop :=
 ∀(pins:List (Addr×Obj)) (s:ι) (σ:St) (H:Hp) (o i v:V) (ov iv u:Value) (Q:Hp->Prop),Inv X pins σ H s->RelV o ov->RelV i iv->RelV v u->t o i v H Q →
  Φ (xj X.prog X.w) X.A (setItem ov iv u) (fun _ s'=>∃H',Inv X pins σ H' s'/\Q H') X.xe s
section
variable {X:Cx}{pos:Pos}
def cZ (i:Nat):TG:=fun v σ H Q=>Q (σ.set i (some v)) H
theorem jT{i:Nat}(hN:X.N.Nodup)(hi:X.N[i]?=some x)(hx:Loc X.env.scope x)(hf:X.fn x=true\/X.env.scope.names.lookup x=some .local:=by first|exact .inl rfl|exact .inr rfl|assumption):PG X (.Name x pos) (cZ i):=by
 intro pins s σ H v u Q I r h;exact wpAny_assign_Name (pK I hN hi hx r (fun s' I'=>⟨_,H,I',h⟩) hf)
inductive aMh (vs:List V) (σ:St) (H:Hp) (Q:St->Hp->Prop):Prop|mk:vs=[]->Q σ H->aMh vs σ H Q
def gNil:TGs:=fun vs σ H Q=>aMh vs σ H Q
inductive aFq (t:TG) (u:TGs) (vs:List V) (σ:St) (H:Hp) (Q:St->Hp->Prop):Prop|mk:∀v r,vs=v::r->(t v σ H fun σ' H'=>u r σ' H' Q)->aFq t u vs σ H Q
def gCons (t:TG) (u:TGs):TGs:=fun vs σ H Q=>aFq t u vs σ H Q
theorem qS:PGs X [] gNil:=by
 intro pins s σ H vs us Q I r h;obtain⟨e,h⟩:=h;subst e;cases r;exact assignInOrder_nil ⟨σ,H,I,h⟩
theorem kC(h1:PG X e t)(h2:PGs X es u)
  (hs:(Bi (e::es) X.env).map (·.2)=assign e X.env::(Bi es X.env).map (·.2):=by rfl):PGs X (e::es) (gCons t u):=by
 intro pins s σ H vs us Q I r h;obtain⟨v,vr,e1,h⟩:=h;subst e1;cases r with
 |cons r rr =>
  rw[hs];refine assignInOrder_cons (thn (h1 pins s σ H _ _ _ I r h) fun _ s1 zq=>?_);obtain⟨σ1,H1,I1,q1⟩:=zq;exact h2 pins s1 σ1 H1 _ _ Q I1 rr q1
inductive aJk (K:Ω) (n:Nat) (t:TGs) (v:V) (σ:St) (H:Hp) (Q:St->Hp->Prop):Prop|mk:∀a xs,v=.ref a->SqT K H a xs->xs.length=n->t xs σ H Q->aJk K n t v σ H Q
def gTup (K:Ω) (n:Nat) (t:TGs):TG:=fun v σ H Q=>aJk K n t v σ H Q
theorem yU{n:Nat}(hc:X.calm=true)(h:PGs X es t)
  (hn:(Bi es X.env).length=n:=by rfl)(hst:(Bi es X.env).findIdx? (·.1)=none:=by rfl):PG X (.Tuple es k pos) (gTup X.K n t):=by
 intro pins s σ H v u Q I r hw;obtain⟨a,xs,e1,hq,hl,hw⟩:=hw;subst e1;cases r;obtain⟨its,rv,ht,hz⟩:=I.tuple hq;refine assign_Tuple_tuple (I.ok.hd hc) ht (by simp[hn,←hl,rv.length]) hst fun h' hx=>?_;have I1:Inv X pins σ H { s with heap:=h' }:=I.kept (t':=s.toks) fun b o e=>hx b o (wz (Θ e)) e;exact h pins _ σ H xs _ Q I1 (by simpa using rv) hw
def gSub (to ti:TE) (t:TSet):TG:=fun v σ H Q=>to σ H fun o H1=>ti σ H1 fun i H2=>t o i v H2 fun H3=>Q σ H3
theorem aEu(ho:PE X o to)(hi:PE X i ti)(hs:PSet X t)
  (ha:∀v,assign (.Subscript o i pos) X.env v=(do
   let ov ←CU [v] (eval o X.env)
   let iv ←CU [v,ov] (eval i X.env)
   standAt pos
   CU [v,ov,iv] (setItem ov iv v)
   release [v,ov,iv] []):=by intro _;rfl):PG X (.Subscript o i pos) (gSub to ti t):=by
 intro pins s σ H v u Q I r h;rw[ha];refine ζ (yv (thn (ho pins s σ H _ I h) fun ov s1 zq=>?_));obtain⟨x,H1,I1,r1,q1⟩:=zq;refine ζ (yv (thn (hi pins s1 σ H1 _ I1 q1) fun iv s2 zq=>?_));obtain⟨y,H2,I2,r2,q2⟩:=zq;refine ζ (Bp (ζ (yv (thn (hs pins s2 σ H2 x y v ov iv u _ I2 r1 r2 r q2) fun _ s3 zq=>?_))));obtain⟨H3,I3,q3⟩:=zq;exact wpAny_release ⟨σ,H3,I3,q3⟩
def aMc (te:TE) (g:TG):TS:=fun D σ H=>te σ H fun x H1=>g x σ H1 D.nx
theorem eN(he:PE X e te)(hg:PG X tg g)(hs:swapsWithSole [tg] e pos.line X.env=pure false:=by rfl)(hw:swappedStores [tg] e X.env=pure none:=by rfl)
  (h1:(Bi [tg] X.env).map (·.2)=[assign tg X.env]:=by rfl):PS X (.Assign [tg] e pos) (aMc te g):=by
 intro pins s σ H D I h;refine wpAny_Assign_stores (thn (he pins s σ H _ I h) fun v s1 zq=>?_) hs hw;obtain⟨x,H1,I1,r1,q1⟩:=zq;rw[h1];exact thn (hg pins s1 σ H1 x v _ I1 r1 q1) fun _ s2 q=>q
theorem jY{i:Nat}(hN:X.N.Nodup)(hi:X.N[i]?=some x)(hx:Loc X.env.scope x)(he:PE X e te)(hs:swapsWith e (some (.Name x pos')) pos.line X.env=pure false:=by rfl)(hf:X.fn x=true\/X.env.scope.names.lookup x=some .local:=by first|exact .inl rfl|exact .inr rfl|assumption):
  PS X (.Assign [.Name x pos'] e pos) (aMc te (cZ i)):=by
 intro pins s σ H D I h;refine wpAny_Assign_Name (thn (he pins s σ H _ I h) fun v s1 zq=>?_) hs;obtain⟨y,H1,I1,r1,q1⟩:=zq;exact pK I1 hN hi hx r1 (fun s2 I2=>⟨_,H1,I2,q1⟩) hf
end
section
variable {X:Cx}{pos:Pos}
def aRh (c:TT) (tb:TS):TS:=fun D σ H=>∃W:Nat->St->Hp->Prop,(∃m,W m σ H)/\∀m σ H,W m σ H →
 c σ H fun b H1=>if b=true then ∃N:St->Hp->Prop,(∀σ' H',N σ' H'->∃m',m'<m/\W m' σ' H')/\tb { D with nx:=N,ct:=N,bk:=D.nx } σ H1 else D.nx σ H1
theorem aMk(hp:PassesOwn (xj X.prog X.w) X.A X.env X.xe)(hc:PT X c tc)(hb:PSs X body tb):PS X (.While c body [] pos) (aRh tc tb):=by
 intro pins s σ H D I h;obtain⟨W,⟨m0,w0⟩,turn⟩:=h;refine wpAny_While (codeAny_whileLoop (fun n s'=>∃σ' H',Inv X pins σ' H' s'/\W n σ' H') ?_ m0 ⟨σ,H,I,w0⟩);rintro n s1 ⟨σ1,H1,I1,w1⟩;refine Bz hp (thn (hc pins s1 σ1 H1 _ I1 (turn n σ1 H1 w1)) fun b s2 zq=>?_);obtain⟨H2,I2,q2⟩:=zq;cases b with
 |true =>
  obtain⟨N,hN,q2⟩:=q2;rw[if_pos rfl];refine Bz hp (thn (hb pins s2 σ1 H2 _ I2 q2) fun f s3 q3=>?_);cases f with
  |next =>
   obtain⟨σ3,H3,I3,n3⟩:=q3;obtain⟨m',hm,w3⟩:=hN σ3 H3 n3;exact⟨m',hm,σ3,H3,I3,w3⟩
  |cont =>
   obtain⟨σ3,H3,I3,n3⟩:=q3;obtain⟨m',hm,w3⟩:=hN σ3 H3 n3;exact⟨m',hm,σ3,H3,I3,w3⟩
  |brk=>exact q3
  |ret v=>exact q3
 |false =>
  rw[if_neg ρ];exact CV ⟨σ1,H2,I2,q2⟩
end
structure It where
 go:Nat->Hp->Prop
 yld:Nat->Hp->V->Hp->Prop
 stop:Nat->Hp->Prop
def dD (X:Cx) (pins:List (Addr×Obj)) (H:Hp) (b:Addr):Prop :=
 H b=none/\b≠X.env.locals/\b∉X.fs/\(b∈X.ex\/X.s₀.heap.objs.size<=b)/\(∀x c,X.env.cells.lookup x=some c->c≠b)/\∀p∈X.pn++pins,p.1≠b
theorem Inv.fpOk{H':Hp}{b:Addr}(I:Inv X pins σ H s)(hb:s.heap.objs.size<=b)(hn:H' b=none):dD X pins H' b:=by
 refine⟨hn,zf (υ I.lt hb),I.nofs hb,.inr (yb I.sz hb),fun x c e z=>?_,fun p hp z=>?_⟩
 ·obtain⟨v,q⟩:=I.cell x c e;exact absurd (υ q.lt (by rw[z];exact hb)) (Ak _)
 ·exact absurd (υ (Θ (I.pin p hp).1) (by rw[z];exact hb)) (Ak _)
structure Turn (P:za) (w:Af) (K:Ω) (tg:Expr) (J:It) (fp:List Addr) (it:Addr) (tn:Nat->yp->Prop):Prop where
 mem:it∈fp
 obj:∀i h,tn i h->∀b∈fp,∃o,h.get? b=some o/\∀v,o.data≠.cell v
 keep:∀i h h',tn i h->(∀b∈fp,∀o,h.get? b=some o->h'.get? b=some o)->tn i h'
 item:∀(X:Cx),X.prog=P->X.w=w->X.K=K->X.calm=true->∀(i:Nat) (pins:List (Addr×Obj)) (s:ι) (σ:St) (H:Hp) (E:Value->ι->Prop),Inv X pins σ H s->(∀b∈fp,dD X pins H b)->tn i s.heap->J.go i H →
  Φ (xj P w) X.A (BY (.ref it)) (fun r s1=>∃u,r=some u ∧
   Φ (xj P w) X.A (CY tg (.ref it) u) (fun _ s2=>∃x H',Inv X pins σ H' s2/\RelV x u/\J.yld i H x H'/\tn (i+1) s2.heap/\∀b∈fp,H' b=none) E s1) E s
 done:∀(X:Cx),X.prog=P->X.w=w->X.K=K->X.calm=true->∀(i:Nat) (pins:List (Addr×Obj)) (s:ι) (σ:St) (H:Hp) (E:Value->ι->Prop),Inv X pins σ H s->(∀b∈fp,dD X pins H b)->tn i s.heap->J.stop i H →
  Φ (xj P w) X.A (BY (.ref it)) (fun r s1=>r=none/\Inv X pins σ H s1) E s
 self:∀(A:yr) (i:Nat) (s:ι) (Q:Value->ι->Prop) (E:Value->ι->Prop),tn i s.heap->Q (.ref it) s->Φ (xj P w) A (pyIter (.ref it)) Q E s
abbrev TI:=St->Hp->(It->Hp->Prop)->Prop
def PIE (X:Cx) (pins:List (Addr×Obj)) (σ:St) (tg:Expr) (R:It->Hp->Prop) (itv:Value) (s2:ι):Prop :=
 ∃(it:Addr) (fp:List Addr) (tn:Nat->yp->Prop) (J:It) (H':Hp),itv=.ref it/\Inv X pins σ H' s2/\Turn X.prog X.w X.K tg J fp it tn/\tn 0 s2.heap/\(∀b∈fp,dD X pins H' b)/\R J H'
def PI (X:Cx) (tg iter:Expr) (wi:TI):Prop :=
 ∀(pins:List (Addr×Obj)) (s:ι) (σ:St) (H:Hp) (R:It->Hp->Prop),Inv X pins σ H s->wi σ H R →
  Φ (xj X.prog X.w) X.A (eval iter X.env) (fun v s1=>Φ (xj X.prog X.w) X.A (pyIter v) (PIE X pins σ tg R) X.xe s1) X.xe s
theorem aGt{s:ι}{it:Addr}{Q:Unit->ι->Prop}(ho:s.heap.get? it=some o)(hc:o.cls=.type n)(hd:o.data=.fields vs)
  (hn : ["enumerate","zip","dict_itemiterator","dict_reverseitemiterator","odict_iterator","itertools.zip_longest","itertools.pairwise"].contains n=false)(hQ:Q () s):Φ M A (CY tg (.ref it) u) Q E s:=by
 unfold CY;cases tg <;> first
  |exact τ hQ
  | (cases u <;> first
      |exact τ hQ
      | (refine ζ (wpAny_load ho ?_)
         rw[hc,hd];show Φ M A (if (["enumerate","zip","dict_itemiterator","dict_reverseitemiterator","odict_iterator","itertools.zip_longest","itertools.pairwise"].contains n&&vs[0]? == some (Bc _))=true then _ else _) Q E s;rw[if_neg (by intro h;rw[hn,Bd]at h;cases h)];exact τ hQ))
def Itl (K:Ω) (a:Addr):It :=
 ⟨fun i H=>∃xs x,SqL K H a xs/\xs[i]?=some x,fun i H x H'=>H'=H/\∀xs,SqL K H a xs->xs[i]?=some x,fun i H=>∃xs,SqL K H a xs/\xs.length<=i⟩
def Itt (K:Ω) (a:Addr):It :=
 ⟨fun i H=>∃xs x,SqT K H a xs/\xs[i]?=some x,fun i H x H'=>H'=H/\∀xs,SqT K H a xs->xs[i]?=some x,fun i H=>∃xs,SqT K H a xs/\xs.length<=i⟩
def Itr (lo:Int) (n:Nat):It:=⟨fun i _=>i<n,fun i H x H'=>H'=H/\x=.int (lo+i),fun i _=>n<=i⟩
theorem tH{K:Ω}(a it:Addr):Turn P w K tg (Itl K a) [it] it (fun i h=>h.IsListIter it a i) where
 mem:=by simp
 obj:=fun i h st b hb=>by
  have e:b=it:=by simpa using hb
  subst e;obtain⟨o,e,c,d⟩:=st;exact⟨o,e,fun v z=>by rw[d]at z;cases z⟩
 keep:=fun i h h' st k=>st.at fun o e=>k it (by simp) o e
 item:=by
  intro X hP hw hK hc i pins s σ H E I hf st hg;subst hP hw hK;obtain⟨xs,x,hq,hx⟩:=hg;obtain⟨its,rv,p,hz⟩:=I.list hq;obtain⟨u,hu,ru⟩:=rv.get hx;obtain⟨f0,f1,f2,f3,f4,f5⟩:=hf it (by simp);refine wpAny_pyNext_list_item st p.isList (x:=u) (by simpa using hu) fun h' st' sb=>?_;have I1:Inv X pins σ H { s with heap:=h' }:=I.turned (t':=s.toks) (fun b o hb e=>(sb.2 b hb).trans e) f0 f1 f3 f4 f5;obtain⟨o,e,c,d⟩:=id st';exact⟨u,rfl,aGt (s:={ s with heap:=h' }) e c d (by decide) ⟨x,H,I1,ru,⟨rfl,fun ys hy=>by rw[I.list_inj hy hq];exact hx⟩,st',fun b hb=>(hf b hb).1⟩⟩
 done:=by
  intro X hP hw hK hc i pins s σ H E I hf st hg;subst hP hw hK;obtain⟨xs,hq,hx⟩:=hg;obtain⟨its,rv,p,hz⟩:=I.list hq;obtain⟨f0,f1,f2,f3,f4,f5⟩:=hf it (by simp);have hl:=rv.length;exact wpAny_pyNext_list_end (I.ok.hd hc) st p.isList (by simp;omega) fun h' eb=>⟨rfl,I.turned (t':=s.toks) (fun b o hb e=>eb b o hb e) f0 f1 f3 f4 f5⟩
 self:=fun _ _ _ _ _ st h=>wpAny_pyIter_listiter st h
theorem rC{K:Ω}(a it:Addr):Turn P w K tg (Itt K a) [it] it (fun i h=>h.IsTupleIter it a i) where
 mem:=by simp
 obj:=fun i h st b hb=>by
  have e:b=it:=by simpa using hb
  subst e;obtain⟨o,e,c,d⟩:=st;exact⟨o,e,fun v z=>by rw[d]at z;cases z⟩
 keep:=fun i h h' st k=>st.at fun o e=>k it (by simp) o e
 item:=by
  intro X hP hw hK hc i pins s σ H E I hf st hg;subst hP hw hK;obtain⟨xs,x,hq,hx⟩:=hg;obtain⟨its,rv,p,hz⟩:=I.tuple hq;obtain⟨u,hu,ru⟩:=rv.get hx;obtain⟨f0,f1,f2,f3,f4,f5⟩:=hf it (by simp);refine wpAny_pyNext_tuple_item st (show s.heap.IsTuple a its.toArray from p) (x:=u) (by simpa using hu) fun h' st' sb=>?_;have I1:Inv X pins σ H { s with heap:=h' }:=I.turned (t':=s.toks) (fun b o hb e=>(sb.2 b hb).trans e) f0 f1 f3 f4 f5;obtain⟨o,e,c,d⟩:=id st';exact⟨u,rfl,aGt (s:={ s with heap:=h' }) e c d (by decide) ⟨x,H,I1,ru,⟨rfl,fun ys hy=>by rw[I.tuple_inj hy hq];exact hx⟩,st',fun b hb=>(hf b hb).1⟩⟩
 done:=by
  intro X hP hw hK hc i pins s σ H E I hf st hg;subst hP hw hK;obtain⟨xs,hq,hx⟩:=hg;obtain⟨its,rv,p,hz⟩:=I.tuple hq;obtain⟨f0,f1,f2,f3,f4,f5⟩:=hf it (by simp);have hl:=rv.length;exact wpAny_pyNext_tuple_end (I.ok.hd hc) st (show s.heap.IsTuple a its.toArray from p) (by simp;omega) fun h' eb=>⟨rfl,I.turned (t':=s.toks) (fun b o hb e=>eb b o hb e) f0 f1 f3 f4 f5⟩
 self:=fun _ _ _ _ _ st h=>wpAny_pyIter_tupleiter st h
theorem aEv{K:Ω}(it:Addr)(lo:Int)(n:Nat):Turn P w K tg (Itr lo n) [it] it (fun i h=>IsRangeIter h it (lo+(i:Nat)*1) ((n:Int)-(i:Nat)) 1) where
 mem:=by simp
 obj:=fun i h st b hb=>by
  have e:b=it:=by simpa using hb
  subst e;exact⟨_,st,fun v z=>by
   have z':Data.fields _=Data.cell v:=z;cases z'⟩
 keep:=fun i h h' st k=>k it (by simp) _ st
 item:=by
  intro X hP hw hK hc i pins s σ H E I hf st hg;subst hP hw hK;obtain⟨f0,f1,f2,f3,f4,f5⟩:=hf it (by simp);have W:=Walks.range (prog:=X.prog) (w:=X.w) (I.ok.hd hc) it lo 1 n;refine W.item i s _ _ hg st fun v h' tk hv st' kk=>?_;obtain⟨t,rfl⟩:=hv;have I1:Inv X pins σ H { s with heap:=h',toks:=tk }:=I.turned (fun b o hb e=>kk b o (by simpa using hb) e) f0 f1 f3 f4 f5;refine⟨_,rfl,aGt (s:={ s with heap:=h',toks:=tk }) (n:="range_iterator") st' rfl rfl (by decide) ⟨.int (lo+i),H,I1,⟨t,?_⟩,⟨rfl,rfl⟩,st',fun b hb=>(hf b hb).1⟩⟩;rw[Int.mul_one]
 done:=by
  intro X hP hw hK hc i pins s σ H E I hf st hg;subst hP hw hK;obtain⟨f0,f1,f2,f3,f4,f5⟩:=hf it (by simp);exact wpAny_pyNext_range_end (I.ok.hd hc) st (by have:n<=i:=hg;omega) fun h' eb=>⟨rfl,I.turned (t':=s.toks) (fun b o hb e=>eb b o hb e) f0 f1 f3 f4 f5⟩
 self:=fun _ _ _ _ _ st h=>wpAny_pyIter_rangeiter st h
section
variable {X:Cx}{tg:Expr}
inductive aGq (K:Ω) (R:It->Hp->Prop) (x:V) (H1:Hp):Prop|mk:∀a,x=.ref a->((∃xs,SqL K H1 a xs))->R (Itl K a) H1->aGq K R x H1
def iList (K:Ω) (tl:TE):TI:=fun σ H R=>tl σ H fun x H1=>aGq K R x H1
def iTup (K:Ω) (tl:TE):TI:=fun σ H R=>tl σ H fun x H1=>∃a,x=.ref a/\(∃xs,SqT K H1 a xs)/\R (Itt K a) H1
theorem vO(hl:PE X l tl):PI X tg l (iList X.K tl):=by
 intro pins s σ H R I h;refine thn (hl pins s σ H _ I h) fun v s1 zq=>?_;obtain⟨x,H1,I1,r1,q1⟩:=zq;obtain⟨a,e,⟨xs,hq⟩,q⟩:=q1;subst e;cases r1;obtain⟨its,rv,p,hz⟩:=I1.list hq;refine Ax p.isList ?_;refine⟨s1.heap.objs.size,[s1.heap.objs.size],_,_,H1,rfl,I1.kept (t':=s1.toks) fun b o e=>ξ _ e,tH a _,⟨_,xb _ rfl,rfl,rfl⟩,fun b hb=>?_,q⟩;have e:b=s1.heap.objs.size:=by simpa using hb
 subst e;exact I1.fpOk (μ _) (I1.hok.fresh (μ _))
theorem dL(hl:PE X l tl):PI X tg l (iTup X.K tl):=by
 intro pins s σ H R I h;refine thn (hl pins s σ H _ I h) fun v s1 zq=>?_;obtain⟨x,H1,I1,r1,q1⟩:=zq;obtain⟨a,e,⟨xs,hq⟩,q⟩:=q1;subst e;cases r1;obtain⟨its,rv,p,hz⟩:=I1.tuple hq;refine Br (show s1.heap.IsTuple a its.toArray from p) ?_;refine⟨s1.heap.objs.size,[s1.heap.objs.size],_,_,H1,rfl,I1.kept (t':=s1.toks) fun b o e=>ξ _ e,rC a _,⟨_,xb _ rfl,rfl,rfl⟩,fun b hb=>?_,q⟩;have e:b=s1.heap.objs.size:=by simpa using hb
 subst e;exact I1.fpOk (μ _) (I1.hok.fresh (μ _))
theorem aJh{s:ι}{R:It->Hp->Prop}{lo hi:Int}{tk:Nat}(I:Inv X pins σ H s)(h1 : -(2 ^ 62)<=lo)(h2:lo<2 ^ 62)(h3 : -(2 ^ 62)<=hi)(h4:hi<2 ^ 62)
  (q:R (Itr lo (hi-lo).toNat) H):Φ (xj X.prog X.w) X.A (pyIter (.ref s.heap.objs.size)) (PIE X pins σ tg R) E { s with heap:=s.heap.push { cls:=.type "range",data:=.fields #[.int lo t,.int hi u,.int 1 v] },toks:=tk }:=by
 refine wpAny_pyIter_range (IsRange.new ..) (small_one h1 h2 h3 h4) ?_;have I1:Inv X pins σ H { s with heap:=s.heap.push { cls:=.type "range",data:=.fields #[.int lo t,.int hi u,.int 1 v] },toks:=tk }:=I.kept fun b o e=>ξ _ e;refine⟨(s.heap.push { cls:=.type "range",data:=.fields #[.int lo t,.int hi u,.int 1 v] }).objs.size,[(s.heap.push { cls:=.type "range",data:=.fields #[.int lo t,.int hi u,.int 1 v] }).objs.size],_,_,H,rfl,
  I1.kept (t':=tk) fun b o e=>ξ _ e,aEv _ lo (hi-lo).toNat,?_,fun b hb=>?_,q⟩
 ·have e1:lo+((0:Nat):Int)*1=lo:=by simp
  have e2:(((hi-lo).toNat:Nat):Int)-((0:Nat):Int)=AH.Range.rangeSize lo hi 1:=by rw[rangeSize_one];split <;> omega
  show IsRangeIter _ _ (lo+((0:Nat):Int)*1) ((((hi-lo).toNat:Nat):Int)-((0:Nat):Int)) 1;rw[e1,e2];exact xb _ rfl
 ·have e:b=(s.heap.push { cls:=.type "range",data:=.fields #[.int lo t,.int hi u,.int 1 v] }).objs.size:=by simpa using hb
  subst e;exact I1.fpOk (μ _) (I1.hok.fresh (μ _))
inductive aGv (R:It->Hp->Prop) (vs:List V) (H1:Hp):Prop|mk:∀j:Int,vs=[.int j]->-(2 ^ 62)<=j->j<2 ^ 62->R (Itr 0 j.toNat) H1->aGv R vs H1
def iRng1 (ta:TA):TI:=fun σ H R=>ta σ H fun vs H1=>aGv R vs H1
theorem cB{a:Expr}(hg:Gl X "range")(hm:X.mg "range" = none)(ha:PA X [a] ta)(hs:xi [a] X.env=[(false,eval a X.env)]:=by rfl):PI X tg (.Call (.Name "range" p) [a] [] pos) (iRng1 ta):=by
 intro pins s σ H R I h;refine Call_ (eR I hg hm boot_range (Ao (thn (ha pos pins s σ H _ I h) fun us s1 zq=>?_) hs rfl));obtain⟨vs,H1,I1,r1,q1⟩:=zq;obtain⟨j,e,q1,q2,q⟩:=q1;subst e;cases r1 with
 |cons r rr =>
  cases rr;obtain⟨t,rfl⟩:=r;exact call_range_1 (aJh I1 (by omega) (by omega) q1 q2 (by simpa using q))
def tFor (wi:TI) (g:TG) (tb:TS):TS:=fun D σ H=>wi σ H fun J H1=>∃W:Nat->Nat->St->Hp->Prop,(∃m,W 0 m σ H1)/\∀i m σ H,W i m σ H →
 (J.stop i H/\D.nx σ H)\/(J.go i H/\∃N:St->Hp->Prop,(∀σ' H',N σ' H'->∃m',m'<m/\W (i+1) m' σ' H')/\∀x H',J.yld i H x H'->g x σ H' fun σ2 H2=>tb { D with nx:=N,ct:=N,bk:=D.nx } σ2 H2)
def eO (fp:List Addr) (h:yp):List (Addr×Obj):=fp.filterMap fun b=>(h.get? b).map fun o=>(b,o)
theorem yP{fp:List Addr}{h:yp}{b:Addr}(hb:b∈fp)(e:h.get? b=some o):(b,o)∈eO fp h:=List.mem_filterMap.mpr ⟨b,hb,by rw[e];rfl⟩
theorem aIb{p:Addr×Obj}(hp:p∈eO fp h):p.1∈fp/\h.get? p.1=some p.2:=by
 obtain⟨b,hb,e⟩:=List.mem_filterMap.mp hp;cases q:h.get? b with
 |none=>rw[q]at e;cases e
 |some o =>
  rw[q]at e;have e':(b,o)=p:=zv e;subst e';exact⟨hb,q⟩
theorem Inv.pinned{fp:List Addr}(I:Inv X pins σ H s)(hf:∀b∈fp,dD X pins H b)(ho:∀b∈fp,∃o,s.heap.get? b=some o/\∀v,o.data≠.cell v):Inv X (pins++eO fp s.heap) σ H s :=
 I.pins_of fun p hp=>(xu.mp hp).elim (fun z=>I.pin p (xx _ z)) fun z=>by
  obtain⟨hb,e⟩:=aIb z;obtain⟨f0,f1,f2,_⟩:=hf p.1 hb;obtain⟨o,e',d⟩:=ho p.1 hb;rw[e]at e';cases e';exact⟨e,f0,f1,f2,d⟩
theorem Inv.unpinned{pins pl:List (Addr×Obj)}(I:Inv X (pins++pl) σ H s):Inv X pins σ H s:=I.pins_of fun p hp=>I.pin p (xx _ (Aq _ hp))
theorem xC(hp:PassesOwn (xj X.prog X.w) X.A X.env X.xe)(hc:X.calm=true)(hi:PI X tg iter wi)(hg:PG X tg g)(hb:PSs X body tb)
  (hs:∀x,Cc iter X.env x=pure x:=by intro _;rfl):PS X (.For tg iter body [] pos) (tFor wi g tb):=by
 intro pins s σ H D I h;refine wpAny_For (thn (hi pins s σ H _ I h) fun v s1 h1=>thn h1 fun itv s2 h2=>?_) hs;obtain⟨it,fp,tn,J,H2,e,I2,T,st2,f2,W,⟨m0,w0⟩,turn⟩:=h2;subst e;have stat:∀{H':Hp},(∀b∈fp,H' b=none)->∀b∈fp,dD X pins H' b:=fun hn b hb=>⟨hn b hb,(f2 b hb).2⟩;refine codeAny_forLoop_any (fun n s'=>∃i σ' H',Inv X pins σ' H' s'/\tn i s'.heap/\(∀b∈fp,H' b=none)/\W i n σ' H') ?_ m0 ⟨0,σ,H2,I2,st2,fun b hb=>(f2 b hb).1,w0⟩;rintro n s3 ⟨i,σ3,H3,I3,st3,fr3,w3⟩;rcases turn i n σ3 H3 w3 with⟨stop,qn⟩|⟨go,N,hN,step⟩
 ·refine Bz hp (thn (T.done X rfl rfl rfl hc i pins s3 σ3 H3 X.xe I3 (stat fr3) st3 stop) fun r s4 zq=>?_);obtain⟨hr,I4⟩:=zq;subst hr;exact CV ⟨σ3,H3,I4,qn⟩
 ·refine Bz hp (thn (T.item X rfl rfl rfl hc i pins s3 σ3 H3 X.xe I3 (stat fr3) st3 go) fun r s4 zq=>?_);obtain⟨u,hr,h4⟩:=zq;subst hr;refine Bz hp (thn h4 fun _ s5 zq=>?_);obtain⟨x,H5,I5,r5,y5,st5,fr5⟩:=zq;have I5':=I5.pinned (stat fr5) (T.obj _ _ st5);refine Bz hp (thn (hg _ s5 σ3 H5 x u _ I5' r5 (step x H5 y5)) fun _ s6 zq=>?_);obtain⟨σ6,H6,I6,q6⟩:=zq;refine Bz hp (thn (hb _ s6 σ6 H6 _ I6 q6) fun f s7 q7=>?_);have again:∀{σ7:St}{H7:Hp},Inv X (pins++eO fp s5.heap) σ7 H7 s7->N σ7 H7->∃m,m<n/\∃i σ' H',Inv X pins σ' H' s7/\tn i s7.heap/\(∀b∈fp,H' b=none)/\W i m σ' H':=fun {σ7 H7} I7 n7=>by
   obtain⟨m',hm,w7⟩:=hN σ7 H7 n7;refine⟨m',hm,i+1,σ7,H7,I7.unpinned,T.keep _ _ _ st5 fun b hb o e=>(I7.pin (b,o) (xx _ (xx _ (yP hb e)))).1,fun b hb=>?_,w7⟩;obtain⟨o,e,d⟩:=T.obj _ _ st5 b hb;exact(I7.pin (b,o) (xx _ (xx _ (yP hb e)))).2.1
  cases f with
  |next=>obtain⟨σ7,H7,I7,n7⟩:=q7;exact again I7 n7
  |cont=>obtain⟨σ7,H7,I7,n7⟩:=q7;exact again I7 n7
  |brk=>obtain⟨σ7,H7,I7,q7⟩:=q7;exact⟨σ7,H7,I7.unpinned,q7⟩
  |ret v=>obtain⟨x7,σ7,H7,I7,r7,q7⟩:=q7;exact⟨x7,σ7,H7,I7.unpinned,r7,q7⟩
end
theorem eH{K:Ω}{xs:List V}{g:TG}{tb:TS}{D:Ends}{σ:St}(Pv:Nat->St->Hp->Prop)(h0:Pv 0 σ H)(hl:∀i σ H,i<=xs.length->Pv i σ H->SqL K H a xs)
  (hs:∀i x σ H,xs[i]?=some x->Pv i σ H->g x σ H fun σ2 H2=>tb { D with nx:=Pv (i+1),ct:=Pv (i+1),bk:=D.nx } σ2 H2)(hd:∀σ H,Pv xs.length σ H->D.nx σ H):
  ∃W:Nat->Nat->St->Hp->Prop,(∃m,W 0 m σ H)/\∀i m σ H,W i m σ H →
   ((Itl K a).stop i H/\D.nx σ H)\/((Itl K a).go i H/\∃N:St->Hp->Prop,(∀σ' H',N σ' H'->∃m',m'<m/\W (i+1) m' σ' H')/\∀x H',(Itl K a).yld i H x H'->g x σ H' fun σ2 H2=>tb { D with nx:=N,ct:=N,bk:=D.nx } σ2 H2):=by
 refine⟨fun i m σ H=>m=xs.length-i/\i<=xs.length/\Pv i σ H,⟨xs.length,by simp,xy _,h0⟩,?_⟩;rintro i m σ H ⟨rfl,hi,p⟩;have q:=hl i σ H hi p
 by_cases hlt:i<xs.length
 ·refine .inr ⟨⟨xs,xs[i],q,by simp[hlt]⟩,Pv (i+1),fun σ' H' p'=>⟨xs.length-(i+1),by omega,rfl,hlt,p'⟩,fun x H' y=>?_⟩;obtain⟨e,y⟩:=y;subst e;exact hs i x σ _ (y xs q) p
 ·have e:i=xs.length:=by omega
  subst e;exact .inl ⟨⟨xs,q,μ _⟩,hd σ H p⟩
theorem uM{K:Ω}{xs:List V}{g:TG}{tb:TS}{D:Ends}{σ:St}(Pv:Nat->St->Hp->Prop)(h0:Pv 0 σ H)(hl:∀i σ H,i<=xs.length->Pv i σ H->SqT K H a xs)
  (hs:∀i x σ H,xs[i]?=some x->Pv i σ H->g x σ H fun σ2 H2=>tb { D with nx:=Pv (i+1),ct:=Pv (i+1),bk:=D.nx } σ2 H2)(hd:∀σ H,Pv xs.length σ H->D.nx σ H):
  ∃W:Nat->Nat->St->Hp->Prop,(∃m,W 0 m σ H)/\∀i m σ H,W i m σ H →
   ((Itt K a).stop i H/\D.nx σ H)\/((Itt K a).go i H/\∃N:St->Hp->Prop,(∀σ' H',N σ' H'->∃m',m'<m/\W (i+1) m' σ' H')/\∀x H',(Itt K a).yld i H x H'->g x σ H' fun σ2 H2=>tb { D with nx:=N,ct:=N,bk:=D.nx } σ2 H2):=by
 refine⟨fun i m σ H=>m=xs.length-i/\i<=xs.length/\Pv i σ H,⟨xs.length,by simp,xy _,h0⟩,?_⟩;rintro i m σ H ⟨rfl,hi,p⟩;have q:=hl i σ H hi p
 by_cases hlt:i<xs.length
 ·refine .inr ⟨⟨xs,xs[i],q,by simp[hlt]⟩,Pv (i+1),fun σ' H' p'=>⟨xs.length-(i+1),by omega,rfl,hlt,p'⟩,fun x H' y=>?_⟩;obtain⟨e,y⟩:=y;subst e;exact hs i x σ _ (y xs q) p
 ·have e:i=xs.length:=by omega
  subst e;exact .inl ⟨⟨xs,q,μ _⟩,hd σ H p⟩
theorem tI{lo:Int}{n:Nat}{g:TG}{tb:TS}{D:Ends}{σ:St}(Pv:Nat->St->Hp->Prop)(h0:Pv 0 σ H)
  (hs:∀i σ H,i<n->Pv i σ H->g (.int (lo+i)) σ H fun σ2 H2=>tb { D with nx:=Pv (i+1),ct:=Pv (i+1),bk:=D.nx } σ2 H2)(hd:∀σ H,Pv n σ H->D.nx σ H):
  ∃W:Nat->Nat->St->Hp->Prop,(∃m,W 0 m σ H)/\∀i m σ H,W i m σ H →
   ((Itr lo n).stop i H/\D.nx σ H)\/((Itr lo n).go i H/\∃N:St->Hp->Prop,(∀σ' H',N σ' H'->∃m',m'<m/\W (i+1) m' σ' H')/\∀x H',(Itr lo n).yld i H x H'->g x σ H' fun σ2 H2=>tb { D with nx:=N,ct:=N,bk:=D.nx } σ2 H2):=by
 refine⟨fun i m σ H=>m=n-i/\i<=n/\Pv i σ H,⟨n,by simp,xy _,h0⟩,?_⟩;rintro i m σ H ⟨rfl,hi,p⟩
 by_cases hlt:i<n
 ·refine .inr ⟨hlt,Pv (i+1),fun σ' H' p'=>⟨n-(i+1),by omega,rfl,hlt,p'⟩,fun x H' y=>?_⟩;obtain⟨e,y⟩:=y;subst e y;exact hs i σ _ hlt p
 ·have e:i=n:=by omega
  subst e;exact .inl ⟨μ _,hd σ H p⟩
abbrev R2:=V->V->Hp->VK->Prop
def OpR (X:Cx) (f:Value->Value->Sem Value) (r:R2):Prop :=
 ∀(pins:List (Addr×Obj)) (s:ι) (σ:St) (H:Hp) (x y:V) (v u:Value) (Q:VK),Inv X pins σ H s->RelV x v->RelV y u->r x y H Q →
  Φ (xj X.prog X.w) X.A (f v u) (EP X pins σ Q) X.xe s
def UnR (X:Cx) (f:Value->Sem Value) (r:V->Hp->VK->Prop):Prop :=
 ∀(pins:List (Addr×Obj)) (s:ι) (σ:St) (H:Hp) (x:V) (v:Value) (Q:VK),Inv X pins σ H s->RelV x v->r x H Q →
  Φ (xj X.prog X.w) X.A (f v) (EP X pins σ Q) X.xe s
def vP (X:Cx) (f:Value) (r:List V->Hp->VK->Prop):Prop :=
 ∀(pins:List (Addr×Obj)) (s:ι) (σ:St) (H:Hp) (xs:List V) (us:List Value) (Q:VK),Inv X pins σ H s->kG xs us->r xs H Q →
  Φ (xj X.prog X.w) X.A (call f us) (EP X pins σ Q) X.xe s
def TruR (X:Cx) (r:V->Hp->(Bool->Hp->Prop)->Prop):Prop :=
 ∀(pins:List (Addr×Obj)) (s:ι) (σ:St) (H:Hp) (x:V) (v:Value) (Q:Bool->Hp->Prop),Inv X pins σ H s->RelV x v->r x H Q →
  Φ (xj X.prog X.w) X.A (truthy v) (TP X pins σ Q) X.xe s
def tOp (r:R2) (ta tb:TE):TE:=fun σ H Q=>ta σ H fun x H1=>tb σ H1 fun y H2=>r x y H2 Q
def tUn (r:V->Hp->VK->Prop) (ta:TE):TE:=fun σ H Q=>ta σ H fun x H1=>r x H1 Q
inductive rI_i (C:Int->Int->Prop) (g:Int->Int->V) (x:V) (y:V) (H:Hp) (Q:VK):Prop|mk:∀i j,x=.int i->y=.int j->C i j->Q (g i j) H->rI_i C g x y H Q
def rI (C:Int->Int->Prop) (g:Int->Int->V):R2:=fun x y H Q=>rI_i C g x y H Q
inductive aQi (g:Int->Int->V) (x:V) (y:V) (H:Hp) (Q:VK):Prop|mk:∀i j,x=.int i->y=.int j->Q (g i j) H->aQi g x y H Q
def rI0 (g:Int->Int->V):R2:=fun x y H Q=>aQi g x y H Q
def rU (g:Int->V):V->Hp->VK->Prop:=fun x H Q=>∃i,x=.int i/\Q (g i) H
section
variable {X:Cx}{a b c:Expr}{ta tb tc:TE}{pos:Pos}
theorem binT(ha:PE X a ta)(hb:PE X b tb){R:V->V->Hp->Prop}(I:Inv X pins σ H s)
  (h:ta σ H fun x H1=>tb σ H1 fun y H2=>R x y H2){f:Value->Value->Sem Value}
  (hf:∀v u s2 x y H2,Inv X pins σ H2 s2->RelV x v->RelV y u->R x y H2->Φ (xj X.prog X.w) X.A (f v u) Q X.xe s2):
  Φ (xj X.prog X.w) X.A (eval a X.env) (fun v s₁=>Φ (xj X.prog X.w) X.A (eval b X.env) (fun u s₂=>Φ (xj X.prog X.w) X.A (f v u) Q X.xe s₂) X.xe s₁) X.xe s:=by
 refine thn (ha pins s σ H _ I h) fun v s1 zq=>?_;obtain⟨x,H1,I1,r1,q1⟩:=zq;refine thn (hb pins s1 σ H1 _ I1 q1) fun u s2 zq=>?_;obtain⟨y,H2,I2,r2,q2⟩:=zq;exact hf v u s2 x y H2 I2 r1 r2 q2
theorem jP(ho:OpR X (BG op) r)(ha:PE X a ta)(hb:PE X b tb):PE X (.BinOp a op b pos) (tOp r ta tb):=by
 intro pins s σ H Q I h;exact wpAny_BinOp (binT ha hb I h fun v u s2 x y H2 I2 rx ry q=>ho pins s2 σ H2 x y v u Q I2 rx ry q)
theorem cI(ho:UnR X (unaryOp op) r)(ha:PE X a ta):PE X (.UnaryOp op a pos) (tUn r ta):=by
 intro pins s σ H Q I h;exact UnaryOp_ (thn (ha pins s σ H _ I h) fun v s1 ⟨x,H1,I1,r1,q1⟩=>ho pins s1 σ H1 x v Q I1 r1 q1)
theorem opI{f:Value->Value->Sem Value}{C:Int->Int->Prop}{g:Int->Int->Int}
  (rule:∀(i j:Int) (t u:Tok) (s:ι) (Q:Value->ι->Prop) (E:Value->ι->Prop),C i j->Q (.int (g i j) s.toks) { s with toks:=s.toks+1 }->Φ (xj X.prog X.w) X.A (f (.int i t) (.int j u)) Q E s):
  OpR X f (rI C fun i j=>.int (g i j)):=by
 intro pins s σ H x y v u Q I rx ry h;obtain⟨i,j,rfl,rfl,hc,q⟩:=h;obtain⟨t,rfl⟩:=rx;obtain⟨t',rfl⟩:=ry;exact rule i j t t' s _ _ hc ⟨.int (g i j),H,I.tok _,⟨_,rfl⟩,q⟩
theorem opI0{f:Value->Value->Sem Value}{g:Int->Int->Int}
  (rule:∀(i j:Int) (t u:Tok) (s:ι) (Q:Value->ι->Prop) (E:Value->ι->Prop),Q (.int (g i j) s.toks) { s with toks:=s.toks+1 }->Φ (xj X.prog X.w) X.A (f (.int i t) (.int j u)) Q E s):
  OpR X f (rI0 fun i j=>.int (g i j)):=by
 intro pins s σ H x y v u Q I rx ry h;obtain⟨i,j,rfl,rfl,q⟩:=h;obtain⟨t,rfl⟩:=rx;obtain⟨t',rfl⟩:=ry;exact rule i j t t' s _ _ ⟨.int (g i j),H,I.tok _,⟨_,rfl⟩,q⟩
theorem opB0{f:Value->Value->Sem Value}{g:Int->Int->Bool}
  (rule:∀(i j:Int) (t u:Tok) (s:ι) (Q:Value->ι->Prop) (E:Value->ι->Prop),Q (.bool (g i j)) s->Φ (xj X.prog X.w) X.A (f (.int i t) (.int j u)) Q E s):
  OpR X f (rI0 fun i j=>.bl (g i j)):=by
 intro pins s σ H x y v u Q I rx ry h;obtain⟨i,j,rfl,rfl,q⟩:=h;obtain⟨t,rfl⟩:=rx;obtain⟨t',rfl⟩:=ry;exact rule i j t t' s _ _ ⟨.bl (g i j),H,I,rfl,q⟩
def CDiv (i j:Int):Prop:=0<j/\j<1073741824
def CPow (i j:Int):Prop:=0<=j/\j<=1000000/\i.natAbs<2 ^ 64
def CMul (i j:Int):Prop:=(-(2 ^ 64)<i/\i<2 ^ 64)\/(-(2 ^ 64)<j/\j<2 ^ 64)
theorem CMul.ok(h:CMul i j):IntMulOk i j:=by
 rcases h with⟨h1,h2⟩|⟨h1,h2⟩
 ·exact .of_left (intBits_le_64 h1 h2)
 ·exact .of_right (intBits_le_64 h1 h2)
theorem qI:OpR X (BG .Add) (rI0 fun i j=>.int (i+j)):=opI0 fun _ _ _ _ _ _ _ q=>add_int q
theorem gJ:OpR X (BG .Sub) (rI0 fun i j=>.int (i-j)):=opI0 fun _ _ _ _ _ _ _ q=>sub_int q
theorem zR:OpR X (BG .Mult) (rI CMul fun i j=>.int (i*j)):=opI fun _ _ _ _ _ _ _ hc q=>mul_int q hc.ok
theorem oG:OpR X (BG .FloorDiv) (rI CDiv fun i j=>.int (i / j)):=opI fun i j _ _ _ _ _ hc q=>by
 have h1:(0:Int)<j:=hc.1;have h2:j<1073741824:=hc.2;exact floordiv_int (by omega) (by rw[Int.fdiv_eq_ediv_of_nonneg i (by omega)];exact q) (.inl (PyProof.noPylong_small (by omega)))
theorem eK:OpR X (BG .Mod) (rI (fun _ j=>0<j) fun i j=>.int (i % j)):=opI fun i j _ _ _ _ _ hc q=>by
 have h1:(0:Int)<j:=hc;exact mod_int' (by omega) (by rw[Int.fmod_eq_emod_of_nonneg i (by omega)];exact q)
theorem aRc:OpR X (BG .Pow) (rI CPow fun i j=>.int (i ^ j.toNat)):=opI fun _ _ _ _ _ _ _ hc q=>pow_int_small hc.1 hc.2.1 hc.2.2 q
theorem aRe:OpR X (BG .LShift) (rI CPow fun i j=>.int (i*2 ^ j.toNat)):=opI fun _ _ _ _ _ _ _ hc q=>lshift_int_small hc.1 hc.2.1 hc.2.2 q
theorem unI{f:Value->Sem Value}{g:Int->Int}
  (rule:∀(i:Int) (t:Tok) (s:ι) (Q:Value->ι->Prop) (E:Value->ι->Prop),Q (.int (g i) s.toks) { s with toks:=s.toks+1 }->Φ (xj X.prog X.w) X.A (f (.int i t)) Q E s):
  UnR X f (rU fun i=>.int (g i)):=by
 intro pins s σ H x v Q I rx h;obtain⟨i,rfl,q⟩:=h;obtain⟨t,rfl⟩:=rx;exact rule i t s _ _ ⟨.int (g i),H,I.tok _,⟨_,rfl⟩,q⟩
theorem yR:UnR X (unaryOp .USub) (rU fun i=>.int (-i)):=unI fun _ _ _ _ _ q=>neg_int q
end
def scal:V->V->Bool
 |.non,.non=>true | .non,.int _=>true | .int _,.non=>true | .non,.bl _=>true | .bl _,.non=>true | .non,.str _=>true | .str _,.non=>true
 |.int _,.int _=>true | .bl _,.bl _=>true | .str _,.str _=>true | .byt _,.byt _=>true
 |.int _,.str _=>true | .str _,.int _=>true | .bl _,.str _=>true | .str _,.bl _=>true
 |_,_=>false
inductive aPt (x:V) (y:V) (H:Hp) (Q:VK):Prop|mk:scal x y=true->Q (.bl (decide (x=y))) H->aPt x y H Q
def rEq:R2:=fun x y H Q=>aPt x y H Q
inductive aQh (x:V) (y:V) (H:Hp) (Q:VK):Prop|mk:scal x y=true->Q (.bl (!decide (x=y))) H->aQh x y H Q
def rNe:R2:=fun x y H Q=>aQh x y H Q
theorem aFe : decide (V.int i=V.int j)=(i == j):=by
 rw[Bj];simp
theorem aKh : decide (V.bl i=V.bl j)=(i == j):=by
 rw[Bj];simp
theorem aFh : decide (V.str i=V.str j)=(i == j):=by
 rw[Bj];simp
theorem aGg : decide (V.byt i=V.byt j)=(i.toList == j.toList):=by
 rw[Bj];cases i;cases j;simp
section
variable {X:Cx}{a b c:Expr}{ta tb tc:TE}{pos:Pos}
theorem kY{Q:VK}{k':Bool}(I:Inv X pins σ H s)(q:Q (.bl k) H)(e:k=k'):EP X pins σ Q (.bool k') s:=by
 subst e;exact⟨.bl k,H,I,rfl,q⟩
theorem qZ:OpR X (Ab .Eq) rEq:=by
 intro pins s σ H x y v u Q I rx ry h;obtain⟨hs,q⟩:=h;cases x with
 |non =>
  cases rx;cases y with
  |non=>cases ry;exact PySem.EqNone.eq_none_none (kY I q (by simp))
  |bl j=>cases ry;exact PySem.EqNone.eq_none_bool (kY I q (by simp))
  |int j=>obtain⟨t',rfl⟩:=ry;exact PySem.EqNone.eq_none_int (kY I q (by simp))
  |str j=>obtain⟨t',rfl⟩:=ry;exact PySem.EqNone.eq_none_str (kY I q (by simp))
  |_=>exact absurd (show false=true from hs) ρ
 |bl i =>
  cases rx;cases y with
  |non=>cases ry;exact PySem.EqNone.eq_bool_none (kY I q (by simp))
  |bl j=>cases ry;exact eq_bool (kY I q aKh)
  |str j=>obtain⟨t',rfl⟩:=ry;exact PySem.EqMixed.eq_bool_str (kY I q (by simp))
  |_=>exact absurd (show false=true from hs) ρ
 |int i =>
  obtain⟨t,rfl⟩:=rx;cases y with
  |non=>cases ry;exact PySem.EqNone.eq_int_none (kY I q (by simp))
  |int j=>obtain⟨t',rfl⟩:=ry;exact eq_int (kY I q aFe)
  |str j=>obtain⟨t',rfl⟩:=ry;exact PySem.EqMixed.eq_int_str (kY I q (by simp))
  |_=>exact absurd (show false=true from hs) ρ
 |str i =>
  obtain⟨t,rfl⟩:=rx;cases y with
  |non=>cases ry;exact PySem.EqNone.eq_str_none (kY I q (by simp))
  |bl j=>cases ry;exact PySem.EqMixed.eq_str_bool (kY I q (by simp))
  |int j=>obtain⟨t',rfl⟩:=ry;exact PySem.EqMixed.eq_str_int (kY I q (by simp))
  |str j=>obtain⟨t',rfl⟩:=ry;exact eq_str (kY I q aFh)
  |_=>exact absurd (show false=true from hs) ρ
 |byt i =>
  obtain⟨t,rfl⟩:=rx;cases y with
  |byt j=>obtain⟨t',rfl⟩:=ry;exact PySem.W.eq_bytes (kY I q aGg)
  |_=>exact absurd (show false=true from hs) ρ
 |_=>cases y <;> exact absurd (show false=true from hs) ρ
theorem aFf:OpR X (Ab .NotEq) rNe:=by
 intro pins s σ H x y v u Q I rx ry h;obtain⟨hs,q⟩:=h;cases x with
 |non =>
  cases rx;cases y with
  |non=>cases ry;exact PySem.EqNone.ne_none_none (kY I q (by simp))
  |bl j=>cases ry;exact PySem.EqNone.ne_none_bool (kY I q (by simp))
  |int j=>obtain⟨t',rfl⟩:=ry;exact PySem.EqNone.ne_none_int (kY I q (by simp))
  |str j=>obtain⟨t',rfl⟩:=ry;exact PySem.EqNone.ne_none_str (kY I q (by simp))
  |_=>exact absurd (show false=true from hs) ρ
 |bl i =>
  cases rx;cases y with
  |non=>cases ry;exact PySem.EqNone.ne_bool_none (kY I q (by simp))
  |bl j=>cases ry;exact ne_bool (kY I q (congrArg not aKh))
  |str j=>obtain⟨t',rfl⟩:=ry;exact PySem.EqMixed.ne_bool_str (kY I q (by simp))
  |_=>exact absurd (show false=true from hs) ρ
 |int i =>
  obtain⟨t,rfl⟩:=rx;cases y with
  |non=>cases ry;exact PySem.EqNone.ne_int_none (kY I q (by simp))
  |int j=>obtain⟨t',rfl⟩:=ry;exact ne_int (kY I q (congrArg not aFe))
  |str j=>obtain⟨t',rfl⟩:=ry;exact PySem.EqMixed.ne_int_str (kY I q (by simp))
  |_=>exact absurd (show false=true from hs) ρ
 |str i =>
  obtain⟨t,rfl⟩:=rx;cases y with
  |non=>cases ry;exact PySem.EqNone.ne_str_none (kY I q (by simp))
  |bl j=>cases ry;exact PySem.EqMixed.ne_str_bool (kY I q (by simp))
  |int j=>obtain⟨t',rfl⟩:=ry;exact PySem.EqMixed.ne_str_int (kY I q (by simp))
  |str j=>obtain⟨t',rfl⟩:=ry;exact ne_str (kY I q (congrArg not aFh))
  |_=>exact absurd (show false=true from hs) ρ
 |byt i =>
  obtain⟨t,rfl⟩:=rx;cases y with
  |byt j=>obtain⟨t',rfl⟩:=ry;exact PySem.W.ne_bytes (kY I q (congrArg not aGg))
  |_=>exact absurd (show false=true from hs) ρ
 |_=>cases y <;> exact absurd (show false=true from hs) ρ
theorem aPy:OpR X (Ab .Lt) (rI0 fun i j=>.bl (decide (i<j))):=opB0 fun _ _ _ _ _ _ _ q=>lt_int q
theorem uB:OpR X (Ab .LtE) (rI0 fun i j=>.bl (decide (i<=j))):=opB0 fun _ _ _ _ _ _ _ q=>le_int q
theorem fK:OpR X (Ab .Gt) (rI0 fun i j=>.bl (decide (j<i))):=opB0 fun _ _ _ _ _ _ _ q=>gt_int q
theorem aQg:OpR X (Ab .GtE) (rI0 fun i j=>.bl (decide (j<=i))):=opB0 fun _ _ _ _ _ _ _ q=>ge_int q
theorem aHa:OpR X (Ab .In) (fun x y H Q=>∃i j,x=.str i/\y=.str j/\Q (.bl (!(zp j i 0 j.length 1).isEmpty)) H):=by
 intro pins s σ H x y v u Q I rx ry h;obtain⟨i,j,rfl,rfl,q⟩:=h;obtain⟨t,rfl⟩:=rx;obtain⟨t',rfl⟩:=ry;exact in_str (kY I q rfl)
theorem aDk:OpR X (Ab .Is) (fun x y H Q=>y=.non/\Q (.bl (decide (x=.non))) H):=by
 intro pins s σ H x y v u Q I rx ry h;obtain⟨rfl,q⟩:=h;cases ry;refine is_none_gen (kY I q ?_);cases x <;> first
  | (cases rx;rfl)
  | (obtain⟨t,rfl⟩:=rx;rfl)
theorem uT:OpR X (Ab .IsNot) (fun x y H Q=>y=.non/\Q (.bl (!decide (x=.non))) H):=by
 intro pins s σ H x y v u Q I rx ry h;obtain⟨rfl,q⟩:=h;cases ry;refine isnot_none_gen (kY I q ?_);cases x <;> first
  | (cases rx;rfl)
  | (obtain⟨t,rfl⟩:=rx;rfl)
theorem OpR.or{r r':R2}(h:OpR X f r)(h':OpR X f r'):OpR X f (fun x y H Q=>r x y H Q\/r' x y H Q):=by
 intro pins s σ H x y v u Q I rx ry q;rcases q with q|q
 ·exact h pins s σ H x y v u Q I rx ry q
 ·exact h' pins s σ H x y v u Q I rx ry q
theorem kB(b:Expr){op:CmpOp}(h:op≠.In:=by decide)(h2:op≠.NotIn:=by decide):BX op b=false:=by
 have e1:(op == CmpOp.In)=false:=by cases op <;> first|rfl|exact absurd rfl h
 have e2:(op == CmpOp.NotIn)=false:=by cases op <;> first|rfl|exact absurd rfl h2
 cases b <;> simp[BX,e1,e2]
theorem qY(ho:OpR X (Ab op) r)(ha:PE X a ta)(hb:PE X b tb)(hm:BX op b=false):PE X (.Compare a [op] [b] pos) (tOp r ta tb):=by
 intro pins s σ H Q I h;exact wpAny_Compare1 (binT ha hb I h fun v u s2 x y H2 I2 rx ry q=>ho pins s2 σ H2 x y v u Q I2 rx ry q) hm
inductive aGu (Q:Bool->Hp->Prop) (x:V) (H':Hp):Prop|mk:∀k,x=.bl k->Q k H'->aGu Q x H'
def aPs (t:TE):TT:=fun σ H Q=>t σ H fun x H'=>aGu Q x H'
theorem jV(ho:OpR X (Ab op) r)(ha:PE X a ta)(hb:PE X b tb)(hm:BX op b=false):PT X (.Compare a [op] [b] pos) (aPs (tOp r ta tb)):=by
 intro pins s σ H Q I h;refine wpAny_isTrue_Compare1 (thn (ha pins s σ H _ I h) fun v s1 ⟨x,H1,I1,r1,q1⟩=>thn (hb pins s1 σ H1 _ I1 q1) fun u s2 ⟨y,H2,I2,r2,q2⟩ =>
  thn (ho pins s2 σ H2 x y v u _ I2 r1 r2 q2) fun c s3 ⟨z,H3,I3,r3,k,e,q3⟩=>?_) hm
 subst e;cases r3;exact An ⟨H3,I3,q3⟩
def aJv (r r':R2) (ta tb tc:TE):TE:=fun σ H Q=>ta σ H fun x H1=>tb σ H1 fun y H2=>r x y H2 fun z H3=>∃k,z=.bl k ∧
 (if k=true then tc σ H3 fun w' H4=>r' y w' H4 Q else Q (.bl false) H3)
theorem aMv(ho:OpR X (Ab op) r)(ho':OpR X (Ab op') r')(ha:PE X a ta)(hb:PE X b tb)(hc:PE X c tc)
  (hm:lastMarks [op,op'] [b,c]=false:=by with_unfolding_all rfl):PE X (.Compare a [op,op'] [b,c] pos) (aJv r r' ta tb tc):=by
 intro pins s σ H Q I h;refine Compare_chain (thn (ha pins s σ H _ I h) fun v s1 ⟨x,H1,I1,r1,q1⟩=>chain_link (thn (hb pins s1 σ H1 _ I1 q1) fun u s2 ⟨y,H2,I2,r2,q2⟩ =>
  thn (ho pins s2 σ H2 x y v u _ I2 r1 r2 q2) fun d s3 ⟨z,H3,I3,r3,k,e,q3⟩=>?_)) hm
 subst e;cases r3;refine An ?_;cases k with
 |false=>exact ite_ff ⟨.bl false,H3,I3,rfl,q3⟩
 |true=>exact ite_tt (chain_last (thn (hc pins s3 σ H3 _ I3 q3) fun w' s4 ⟨z',H4,I4,r4,q4⟩=>ho' pins s4 σ H4 y z' u w' Q I4 r2 r4 q4))
theorem aCp(ho:OpR X (Ab op) r)(ho':OpR X (Ab op') r')(ha:PE X a ta)(hb:PE X b tb)(hc:PE X c tc)
  (hm:lastMarks [op,op'] [b,c]=false:=by with_unfolding_all rfl):PT X (.Compare a [op,op'] [b,c] pos) (aPs (aJv r r' ta tb tc)):=by
 intro pins s σ H Q I h;refine isTrue_chain (thn (ha pins s σ H _ I h) fun v s1 ⟨x,H1,I1,r1,q1⟩=>test_link (thn (hb pins s1 σ H1 _ I1 q1) fun u s2 ⟨y,H2,I2,r2,q2⟩ =>
  thn (ho pins s2 σ H2 x y v u _ I2 r1 r2 q2) fun d s3 ⟨z,H3,I3,r3,k,e,q3⟩=>?_)) hm
 subst e;cases r3;refine An ?_;cases k with
 |false =>
  obtain⟨k',e',q'⟩:=q3;cases e';exact ite_ff ⟨H3,I3,q'⟩
 |true =>
  refine ite_tt (test_last (thn (hc pins s3 σ H3 _ I3 q3) fun w' s4 ⟨z',H4,I4,r4,q4⟩=>thn (ho' pins s4 σ H4 y z' u w' _ I4 r2 r4 q4) fun d' s5 zq=>?_));obtain⟨z2,H5,I5,r5,k2,e2,q5⟩:=zq;subst e2;cases r5;exact An ⟨H5,I5,q5⟩
def TruV (K:Ω) (x:V) (H:Hp) (k:Bool):Prop :=
 match x with
 |.non=>k=false
 |.bl b=>k=b
 |.int i=>k=(i != 0)
 |.str y=>y.length<=Δ/\k=((y.length:Int) != 0)
 |.byt y=>y.size<=Δ/\k=((y.size:Int) != 0)
 |.ref p=>(∃xs,SqL K H p xs/\k = !xs.isEmpty)\/(∃xs,SqT K H p xs/\k = !xs.isEmpty)\/∃kvs,H p=some (.dK kvs)/\k = !kvs.isEmpty
 |_=>False
theorem aEc{κ : Type}{kvs:List (κ×V)}{vs:List (κ×Value)}(r:KV kvs vs):(!vs.isEmpty) = !kvs.isEmpty:=by
 cases r <;> rfl
theorem pJ(r:kG xs its):(!its.toArray.isEmpty) = !xs.isEmpty:=by
 cases r <;> simp
theorem fQ:(Δ:Nat)<2 ^ 63:=by rw[ς];decide
theorem aTf:TruR X (fun x H Q=>∃k,TruV X.K x H k/\Q k H):=by
 intro pins s σ H x v Q I rx h;obtain⟨k,e,q⟩:=h;have hl:=fQ;have hs:Δ=16777216:=ς;cases x with
 |non =>
  cases rx;have e':k=false:=e;subst e';exact truthy_none ⟨H,I,q⟩
 |bl b =>
  cases rx;have e':k=b:=e;subst e';exact An ⟨H,I,q⟩
 |int i =>
  obtain⟨t,rfl⟩:=rx;have e':k=(i != 0):=e;subst e';exact PySem.P.truthy_int ⟨H,I,q⟩
 |str y =>
  obtain⟨t,rfl⟩:=rx;obtain⟨hy,e'⟩ : y.length<=Δ/\k=((y.length:Int) != 0):=e;subst e';exact PySem.P.truthy_str (by omega) ⟨H,I.tok _,q⟩
 |byt y =>
  obtain⟨t,rfl⟩:=rx;obtain⟨hy,e'⟩ : y.size<=Δ/\k=((y.size:Int) != 0):=e;subst e';exact PySem.W.truthy_bytes (by omega) ⟨H,I.tok _,q⟩
 |ref p =>
  cases rx;have e':(∃xs,SqL X.K H p xs/\k = !xs.isEmpty)\/(∃xs,SqT X.K H p xs/\k = !xs.isEmpty)\/∃kvs,H p=some (.dK kvs)/\k = !kvs.isEmpty:=e;rcases e' with⟨xs,hx,e'⟩|⟨xs,hx,e'⟩|⟨kvs,hx,e'⟩
  ·subst e';obtain⟨its,r,pl,hz⟩:=I.list hx;have hlen:=r.length;exact wpAny_truthy_list pl.isList (by simp only[ψ];omega) ⟨H,I.tok _,by rw[pJ r];exact q⟩
  ·subst e';obtain⟨its,r,pl,hz⟩:=I.tuple hx;have hlen:=r.length;exact truthy_tuple pl (by simp only[ψ];omega) ⟨H,I.tok _,by rw[pJ r];exact q⟩
  ·subst e';obtain⟨hz,hS,vs,r,m⟩ : kvs.length<=Δ/\(p == BF)=false/\∃vs,KV kvs vs/\s.heap.DictOf (kU X.prog X.w) p vs:=I.hok p _ hx;have hlen:kvs.length=vs.length:=CH r;exact wpAny_truthy_dict hS m (by omega) ⟨H,I.tok _,by rw[aEc r];exact q⟩
 |_=>exact(show False from e).elim
theorem yZ(ha:PE X a ta)(he:∀whole,isTrue a X.env whole=(do let v ←whole;standAt a.pos;CU [v] (truthy v))):
  PT X a (fun σ H Q=>ta σ H fun x H'=>∃k,TruV X.K x H' k/\Q k H'):=by
 intro pins s σ H Q I h;exact isTrue_plain (thn (ha pins s σ H _ I h) fun v s1 ⟨x,H1,I1,r1,q1⟩=>aTf pins s1 σ H1 x v Q I1 r1 q1) (he _)
theorem jQ:OpR X (BG .Add) (fun x y H Q=>∃i j,x=.str i/\y=.str j/\i.length+j.length<=Δ/\Q (.str (i++j)) H):=by
 intro pins s σ H x y v u Q I rx ry h;obtain⟨i,j,rfl,rfl,hz,q⟩:=h;obtain⟨t,rfl⟩:=rx;obtain⟨t',rfl⟩:=ry;exact add_str (fun t' tk=>⟨.str (i++j),H,I.tok _,⟨_,rfl⟩,q⟩) hz
theorem vals1{x:V}(r:kG [x] us):∃u,us=[u]/\RelV x u:=by
 cases r with
 |cons r1 r2=>cases r2;exact⟨_,rfl,r1⟩
theorem vals2{x y:V}(r:kG [x,y] us):∃u w',us=[u,w']/\RelV x u/\RelV y w':=by
 cases r with
 |cons r1 r2 =>
  cases r2 with
  |cons r3 r4=>cases r4;exact⟨_,_,rfl,r1,r3⟩
theorem aHg(hc:X.calm=true):vP X (.builtin "max") (fun xs H Q=>∃i j,xs=[.int i,.int j]/\Q (.int (if j > i then j else i)) H):=by
 intro pins s σ H xs us Q I r h;obtain⟨i,j,rfl,q⟩:=h;obtain⟨u,w',rfl,⟨t,rfl⟩,⟨t',rfl⟩⟩:=vals2 r;refine max_two_ints (I.ok.hd hc) fun h' tk k=>⟨_,H,I.kept k,?_,q⟩
 by_cases hj:j > i
 ·rw[if_pos hj,if_pos hj];exact⟨_,rfl⟩
 ·rw[if_neg hj,if_neg hj];exact⟨_,rfl⟩
theorem aHo(hc:X.calm=true):vP X (.builtin "min") (fun xs H Q=>∃i j,xs=[.int i,.int j]/\Q (.int (if j<i then j else i)) H):=by
 intro pins s σ H xs us Q I r h;obtain⟨i,j,rfl,q⟩:=h;obtain⟨u,w',rfl,⟨t,rfl⟩,⟨t',rfl⟩⟩:=vals2 r;refine min_two_ints (I.ok.hd hc) fun h' tk k=>⟨_,H,I.kept k,?_,q⟩
 by_cases hj:j<i
 ·rw[if_pos hj,if_pos hj];exact⟨_,rfl⟩
 ·rw[if_neg hj,if_neg hj];exact⟨_,rfl⟩
def LenV (K:Ω) (x:V) (H:Hp) (n:Nat):Prop :=
 match x with
 |.str y=>y.length<=Δ/\n=y.length
 |.byt y=>y.size<=Δ/\n=y.size
 |.ref p=>(∃xs,SqL K H p xs/\n=xs.length)\/∃xs,SqT K H p xs/\n=xs.length
 |_=>False
theorem aCf:vP X (.builtin "len") (fun xs H Q=>∃x n,xs=[x]/\LenV X.K x H n/\Q (.int n) H):=by
 intro pins s σ H xs us Q I r h;obtain⟨x,n,rfl,e,q⟩:=h;obtain⟨u,rfl,rx⟩:=vals1 r;have hl:=fQ;have hs:Δ=16777216:=ς;cases x with
 |str y =>
  obtain⟨t,rfl⟩:=rx;obtain⟨hy,e'⟩ : y.length<=Δ/\n=y.length:=e;subst e';exact len_str (by omega) ⟨.int _,H,I.tok _,⟨_,rfl⟩,q⟩
 |byt y =>
  obtain⟨t,rfl⟩:=rx;obtain⟨hy,e'⟩ : y.size<=Δ/\n=y.size:=e;subst e';exact PySem.W.len_bytes (by omega) ⟨.int _,H,I.tok _,⟨_,rfl⟩,q⟩
 |ref p =>
  cases rx;have e':(∃xs,SqL X.K H p xs/\n=xs.length)\/∃xs,SqT X.K H p xs/\n=xs.length:=e;rcases e' with⟨xs,hx,e'⟩|⟨xs,hx,e'⟩
  ·subst e';obtain⟨its,r',pl,hz⟩:=I.list hx;have hlen:=r'.length;exact Calls.call_len_list pl.isList (by simp only[ψ];omega) ⟨.int xs.length,H,I.tok _,⟨_,by simp only[ψ];rw[hlen]⟩,q⟩
  ·subst e';obtain⟨its,r',pl,hz⟩:=I.tuple hx;have hlen:=r'.length;exact len_tuple pl (by simp only[ψ];omega) ⟨.int xs.length,H,I.tok _,⟨_,by simp only[ψ];rw[hlen]⟩,q⟩
 |_=>exact(show False from e).elim
end
structure aDd (h:yp) (x dx C:Addr) (mA:Str->Option Value):Prop where
 obj:h.get? x=some (Bh C dx)
 ns:h.Ns1 dx mA
 ne:dx≠x
theorem tE{h:yp}{mA:Str->Option Value}(n:h.Ns1 dx mA):∃od,h.get? dx=some od/\∀name,PySem.W.lookIn name od=some (mA name):=by
 obtain⟨o,es,ep,ho,hd,hk,_,hm⟩:=n;refine⟨o,ho,fun name=>?_⟩;have e:=hm name;unfold nsFind findBy at e;rw[←Array.find?_toList]at e;unfold PySem.W.lookIn;rw[hd];dsimp only
 split
 ·rename_i y q;rw[q]at e;exact congrArg some e
 ·rename_i q;rw[q]at e;have a:es.toList.any (·.refKey)=false:=by
   rw[List.any_eq_false];intro y hy;obtain⟨z,t,hkey⟩:=hk y (Array.mem_toList_iff.mp hy);simp[DictEntry.refKey,hkey]
  have a':¬ es.toList.any (·.refKey)=true:=by rw[a];exact ρ
  rw[if_neg a'];exact congrArg some e
theorem aDd.look{mA:Str->Option Value}(I:aDd h x dx C mA):∃od,PySem.W.InstAt h x (Bh C dx) C (some od)/\∀name,PySem.W.lookIn name od=some (mA name) :=
 let ⟨od,ho,hl⟩:=tE I.ns
 ⟨od,⟨I.obj,rfl,rfl,ho⟩,hl⟩
section
variable {prog:za}{w:Af}{A:yr}{E:Value->ι->Prop}{s:ι}{K:Ω}{x dx C f:Addr}{mA:Str->Option Value}{name:Str}{v:Value}
theorem aNi{Q:Value->ι->Prop}(X:K.In s.heap)(I:aDd s.heap x dx C mA)(hg:DH K C name=true)(hh:Cd K C=true)
  (ha:zj K (.ref C) name=some none)(hv:mA name=some v)(hv':PySem.W.handedIn v=true)(h:Q v { s with toks:=s.toks+1 }):
  Φ (xj prog w) A (getAttr (.ref x) name expr) Q E s:=by
 obtain⟨od,J,hl⟩:=I.look;exact PySem.W.get_value X J (PySem.W.plainGet_of hg).1 (PySem.W.findObj_own hh ha rfl (by rw[hl,hv])) hv' h
theorem aKg{Q:Value×List Value->ι->Prop}(X:K.In s.heap)(I:aDd s.heap x dx C mA)(hg:DH K C name=true)
  (hf:zj K (.ref C) name=some (some (.ref f)))(ht:isFn K (.ref f)=true)(hv:mA name=none)(h:Q (.ref f,[.ref x]) s):
  Φ (xj prog w) A (Dj (.ref x) name pl) Q E s:=by
 obtain⟨od,J,hl⟩:=I.look;exact PySem.W.method_fn X J (PySem.W.plainGet_of hg).1 (PySem.W.plainGet_of hg).2 hf (beq_iff_eq.mp ht) (by show(PySem.W.lookIn name od).map (·.isSome)=some false;rw[hl,hv];rfl) h
theorem aMy{Q:Unit->ι->Prop}(X:K.In s.heap)(I:aDd s.heap x dx C mA)
  (hs:zj K (.ref C) "__setattr__" = some (some (.builtin "object.__setattr__")))(hp:PySem.W.plainOver K C=true)(ht:PySem.W.takerIn K C name=some none)(hh:Cd K C=true)
  (hw:AY mA ns)(hsz:ns.length<=Δ)
  (h:∀h',aDd h' x dx C (fun y=>if y=name then some v else mA y)->Ac dx s.heap h'->Q () { s with heap:=h',toks:=s.toks+2 }):
  Φ (xj prog w) A (setAttr (.ref x) name v) Q E s:=by
 obtain⟨od,J,hl⟩:=I.look;refine PySem.W.set_plain X J hs (PySem.W.osa_open (s:={ s with toks:=s.toks+1 }) (r:=none) X J hp ht fun b=>?_);obtain⟨cd,hc,hd'⟩:=PySem.W.any_some hh;have hx:s.heap.get? x=some ⟨.ref C,some dx,.plain,#[]⟩:=I.obj;refine ζ (τ (ζ (ζ (wpAny_loadPart hx (ζ (AU (s:={ s with toks:=s.toks+1 }) (Cy X hc) ?_))))));rw[hd'];refine τ (a:=some dx) (ζ (τ (ζ ?_)));refine wpAny_nsSet1 (s:={ s with toks:=s.toks+1 }) I.ns fun h' hn2 hs2=>?_;obtain⟨oD,esD,epD,hoD,hdD,hcD⟩:=hn2.count (AY.cons name v hw);refine ζ (wpAny_lookBehind hoD (by rw[hdD];exact pastItsLine_dict (yb hcD (by rw[Ξ];omega))) ?_);exact τ (h _ ⟨(hs2.2 _ (Ag I.ne)).trans I.obj,hn2,I.ne⟩ hs2)
theorem aJi{vs:List Value}{kw:List (Str×Value)}(X:K.In s.heap)(hm:PySem.W.makesIn K C=true)
  (hi:zj K (.ref C) "__init__" = some (some (.ref f)))(hf:PySem.W.typeIn K (.ref f)=some (.type "function"))
  (h:Cu (xj prog w) (A.under (.builtin "type.__call__" ⟨.ref C::vs,kw⟩)) (.call (.ref f) ⟨.ref (s.heap.objs.size+1)::vs,kw⟩) (PySem.W.InitBack (s.heap.objs.size+1) R)
   { s with heap:=(s.heap.push PySem.W.emptyDict).push (Bh C s.heap.objs.size) }):
  Cu (xj prog w) A (.call (.ref C) ⟨vs,kw⟩) R s:=by
 obtain⟨hh,g,d,t,os⟩:=s;exact PySem.W.make_core (PySem.W.makes_of X hm) (Ci X hi) (fun self=>PySem.W.bind_fn X self hf) (.inl rfl) h
end
def aR (f:Str) (v:V):List (Str×V)->List (Str×V)
 |[]=>[(f,v)]
 | (g,x)::r=>if g=f then (g,v)::r else (g,x)::aR f v r
theorem eA(f g:Str)(v:V):∀fs:List (Str×V),(aR f v fs).lookup g=if g=f then some v else fs.lookup g
 |[]=>by
  show BD g [(f,v)]=_
  by_cases h:g=f
  ·have hb:(g == f)=true:=beq_iff_eq.mpr h;simp only[BD,hb,if_pos h]
  ·have hb:(g == f)=false:=beq_eq_false_iff_ne.mpr h;simp only[BD,hb,if_neg h]
 | (k,x)::r=>by
  have ih:=eA f g v r;rw[show aR f v ((k,x)::r)=(if k=f then (k,v)::r else (k,x)::aR f v r) from rfl]
  by_cases hk:k=f
  ·rw[if_pos hk]
   by_cases h:g=k
   ·have hb:(g == k)=true:=beq_iff_eq.mpr h;simp only[BD,hb,if_pos (h.trans hk)]
   ·have hb:(g == k)=false:=beq_eq_false_iff_ne.mpr h;simp only[BD,hb,if_neg (fun e:g=f=>h (e.trans hk.symm))]
  ·rw[if_neg hk]
   by_cases h:g=k
   ·have hb:(g == k)=true:=beq_iff_eq.mpr h;simp only[BD,hb,if_neg (fun e:g=f=>hk (h.symm.trans e))]
   ·have hb:(g == k)=false:=beq_eq_false_iff_ne.mpr h;simp only[BD,hb];exact ih
theorem cA(f:Str)(v:V):∀fs:List (Str×V),f∈(aR f v fs).map (·.1)/\∀g,g∈fs.map (·.1)->g∈(aR f v fs).map (·.1)
 |[]=>⟨by simp[aR],fun g h=>by simp at h⟩
 | (k,x)::r=>by
  obtain⟨i1,i2⟩:=cA f v r;rw[show aR f v ((k,x)::r)=(if k=f then (k,v)::r else (k,x)::aR f v r) from rfl]
  by_cases hk:k=f
  ·rw[if_pos hk];subst hk;exact⟨by simp,fun g h=>by simpa using h⟩
  ·rw[if_neg hk];refine⟨?_,fun g h=>?_⟩
   ·rw[zc];exact π _ i1
   ·rw[zc]at h ⊢;rcases χ.mp h with e|e
    ·exact χ.mpr (.inl e)
    ·exact π _ (i2 g e)
theorem mM(f:Str)(v:V):∀fs:List (Str×V),(aR f v fs).length<=fs.length+1
 |[]=>by simp[aR]
 | (k,x)::r=>by
  have ih:=mM f v r;rw[show aR f v ((k,x)::r)=(if k=f then (k,v)::r else (k,x)::aR f v r) from rfl]
  by_cases hk:k=f
  ·rw[if_pos hk,Ξ,Ξ];omega
  ·rw[if_neg hk,Ξ,Ξ];omega
theorem zW.some_of(r:zW (some v) o):∃u,o=some u/\RelV v u:=by
 cases o with
 |none=>exact(show False from r).elim
 |some u=>exact⟨u,rfl,r⟩
theorem zW.none_of(r:zW none o):o=none:=by
 cases o with
 |none=>rfl
 |some u=>exact(show False from r).elim
theorem tN(r:RelV v u):PySem.W.handedIn u=true:=by
 cases v with
 |non=>cases (show u=zr from r);rfl
 |bl b=>cases (show u=Value.bool b from r);rfl
 |int i=>obtain⟨t,e⟩:=(show ∃t,u=Value.int i t from r);cases e;rfl
 |str x=>obtain⟨t,e⟩:=(show ∃t,u=Value.str x t from r);cases e;rfl
 |byt b=>obtain⟨t,e⟩:=(show ∃t,u=Value.bytes b t from r);cases e;rfl
 |flt b=>obtain⟨t,e⟩:=(show ∃t,u=Value.float b t from r);cases e;rfl
 |ref a=>cases (show u=xg a from r);rfl
 |ty n=>cases (show u=De n from r);rfl
section
variable {P:za}{w:Af}{H H':Hp}{h h':yp}{a C dx:Addr}{fs fs':List (Str×V)}
theorem oB(hok:HOk P w H h)(e:H a=some (.ins C dx fs)):∃mA,aDd h a dx C mA/\(∀f,zW (fs.lookup f) (mA f))/\AY mA (fs.map (·.1))/\fs.length<=1000/\H dx=some (.own a):=by
 obtain⟨d,z,ne,ob,mA,n,r,q⟩:=(show qK P w H h a (.ins C dx fs) from hok a _ e);exact⟨mA,⟨ob,n,ne⟩,r,q,z,d⟩
end
structure Cls (K:Ω) (C:Addr):Prop where
 pg:DH K C Str.empty=true
 hd:Cd K C=true
 po:PySem.W.plainOver K C=true
 sa:zj K (.ref C) "__setattr__" = some (some (.builtin "object.__setattr__"))
theorem Cls.get{K:Ω}(c:Cls K C)(f:Str):DH K C f=true:=c.pg
def aN (K:Ω) (C:Addr) (f:Str):Prop:=zj K (.ref C) f=some none
theorem aN.taker{K:Ω}(n:aN K C f):PySem.W.takerIn K C f=some none:=by
 unfold PySem.W.takerIn;rw[show zj K (.ref C) f=some none from n];rfl
structure Meth (K:Ω) (C:Addr) (m:Str) (f:Addr):Prop where
 at_:zj K (.ref C) m=some (some (.ref f))
 fn:isFn K (.ref f)=true
 kp:keepIn K (.ref f)=true
section
variable {X:Cx}{pins:List (Addr×Obj)}{σ:St}{H:Hp}{s:ι}{a C dx:Addr}{fs:List (Str×V)}{f:Str}{v:V}{A:yr}{E:Value->ι->Prop}
theorem aEo{Q:Value->ι->Prop}(I:Inv X pins σ H s)(e:H a=some (.ins C dx fs))(c:Cls X.K C)(n:aN X.K C f)(l:fs.lookup f=some v)
  (h:∀u s',Inv X pins σ H s'->RelV v u->Q u s'):Φ (xj X.prog X.w) A (getAttr (.ref a) f b) Q E s:=by
 obtain⟨mA,O,r,_,_,_⟩:=oB I.hok e;obtain⟨u,hu,ru⟩:=zW.some_of (v:=v) (o:=mA f) (by rw[←l];exact r f);exact aNi I.kIn O (c.get f) c.hd n hu (tN ru) (h u _ (I.tok _) ru)
theorem fO{Q:Value×List Value->ι->Prop}(I:Inv X pins σ H s)(e:H a=some (.ins C dx fs))(c:Cls X.K C)(k:Meth X.K C m g)(l:fs.lookup m=none)
  (h:Q (.ref g,[.ref a]) s):Φ (xj X.prog X.w) A (Dj (.ref a) m pl) Q E s:=by
 obtain⟨mA,O,r,_,_,_⟩:=oB I.hok e;have hn:mA m=none:=zW.none_of (by rw[←l];exact r m);exact aKg I.kIn O (c.get m) k.at_ k.fn hn h
theorem aDy{Q:Unit->ι->Prop}(I:Inv X pins σ H s)(e:H a=some (.ins C dx fs))(c:Cls X.K C)(n:aN X.K C f)(hl:fs.length<1000)(ry:RelV y u)
  (h:∀s',Inv X pins σ (upd H a (.ins C dx (aR f y fs))) s'->Q () s'):Φ (xj X.prog X.w) A (setAttr (.ref a) f u) Q E s:=by
 obtain⟨mA,O,r,wi,_,ho⟩:=oB I.hok e;have hz:(fs.map (·.1)).length<=Δ:=by rw[ε,ς];omega
 refine aMy I.kIn O c.sa c.po n.taker c.hd wi hz fun h' O' sb=>h _ ?_;have hd:∃o,h'.get? dx=some o:=let ⟨o,_,_,e',_⟩:=O'.ns; ⟨o,e'⟩;refine I.write (x:=a) (e:=dx) (by rw[e];exact yg) (.inr ho) (fun b q hb z=>(sb.2 b hb).trans z) hd ?_;refine⟨by rw[jR O.ne];exact ho,?_,O.ne,O'.obj,_,O'.ns,fun g=>?_,fun g hg=>?_⟩
 ·have:=mM f y fs;omega
 ·show zW ((aR f y fs).lookup g) (if g=f then some u else mA g);rw[eA]
  by_cases q:g=f
  ·rw[if_pos q,if_pos q];exact ry
  ·rw[if_neg q,if_neg q];exact r g
 ·by_cases q:g=f
  ·rw[q];exact(cA f y fs).1
  ·refine(cA f y fs).2 g (wi g fun z=>hg ?_);show(if g=f then some u else mA g)=none;rw[if_neg q];exact z
theorem Inv.made(I:Inv X pins σ H s):Inv X pins σ (upd (upd H s.heap.objs.size (.own (s.heap.objs.size+1))) (s.heap.objs.size+1) (.ins C s.heap.objs.size []))
  { s with heap:=(s.heap.push PySem.W.emptyDict).push (Bh C s.heap.objs.size) }:=by
 have e1:(s.heap.push PySem.W.emptyDict).get? s.heap.objs.size=some PySem.W.emptyDict:=xb s.heap rfl;have e2:((s.heap.push PySem.W.emptyDict).push (Bh C s.heap.objs.size)).get? (s.heap.objs.size+1)=some (Bh C s.heap.objs.size):=by
  have:=xb (s.heap.push PySem.W.emptyDict) (o:=Bh C s.heap.objs.size) rfl
  rwa [ze]at this
 have e3:(s.heap.push PySem.W.emptyDict).Ns s.heap.objs.size (fun _=>none):=⟨PySem.W.emptyDict,#[],_,e1,rfl,(fun e he=>absurd he (by simp)),fun _=>rfl⟩;have I1:=I.laid (a:=s.heap.objs.size) (o:=.own (s.heap.objs.size+1)) (h':=s.heap.push PySem.W.emptyDict) (t':=s.toks) (fun b u q=>ξ _ q) (μ _) ⟨_,e1⟩;refine I1.laid (a:=s.heap.objs.size+1) (o:=.ins C s.heap.objs.size []) (t':=s.toks) (fun b u q=>ξ _ q) (Nat.le_of_eq (ze _ _)) ?_;have ne:s.heap.objs.size≠s.heap.objs.size+1:=wz (Bq _);refine⟨by rw[jR ne,jF],xy _,ne,e2,fun _=>none,(yp.Ns1.of_empty e3).at fun o q=>ξ _ q,fun _=>yg,fun y hy=>absurd rfl hy⟩
theorem aFo(hb:AZ e f env (eval e env)=eval e env)
  (h:Φ (xj prog w) A (eval e env) (fun o s₁=>Φ (xj prog w) A (getAttr o f true) Q E s₁) E s):Φ (xj prog w) A (eval (.Attribute e f pos) env) Q E s :=
 Attribute_any_ h (by rw[arm_eval_Attribute,hb])
end
inductive aLi (K:Ω) (f:Str) (Q:VK) (x:V) (H1:Hp):Prop|mk:∀a C dx fs v,x=.ref a->H1 a=some (.ins C dx fs)->Cls K C->aN K C f->fs.lookup f=some v->Q v H1->aLi K f Q x H1
def tFld (K:Ω) (ta:TE) (f:Str):TE:=fun σ H Q=>ta σ H fun x H1=>aLi K f Q x H1
def sFld (K:Ω) (ta tv:TE) (f:Str):TS:=fun D σ H=>tv σ H fun y H1=>ta σ H1 fun x H2=>∃a C dx fs,x=.ref a/\H2 a=some (.ins C dx fs)/\Cls K C/\aN K C f/\fs.length<1000 ∧
 D.nx σ (upd H2 a (.ins C dx (aR f y fs)))
section
variable {X:Cx}{o e value:Expr}{f:Str}{pos pos' tpos:Pos}{ta tv:TE}
theorem kK(he:PE X e ta)(hb:AZ e f X.env (eval e X.env)=eval e X.env):PE X (.Attribute e f pos) (tFld X.K ta f):=by
 intro pins s σ H Q I h;refine aFo hb (thn (he pins s σ H _ I h) fun u s1 zq=>?_);obtain⟨x,H1,I1,rx,a,C,dx,fs,v,ex,ea,c,n,l,q⟩:=zq;subst ex;obtain rfl:u=xg a:=rx;exact aEo I1 ea c n l fun u' s2 I2 ru=>⟨v,H1,I2,ru,q⟩
theorem qD(ha:PE X o ta)(hv:PE X value tv)(hs:swapsWith value (some (.Attribute o f pos')) pos.line X.env=pure false):PS X (.Assign [.Attribute o f pos'] value pos) (sFld X.K ta tv f):=by
 intro pins s σ H D I h;refine plainObj_wpAny_Assign_Attribute (thn (hv pins s σ H _ I h) fun u s1 ⟨y,H1,I1,ry,q⟩=>thn (ha pins s1 σ H1 _ I1 q) fun ov s2 zq=>?_) hs;obtain⟨x,H2,I2,rx,a,C,dx,fs,ex,ea,c,n,l,q2⟩:=zq;subst ex;obtain rfl:ov=xg a:=rx;exact aDy I2 ea c n l ry fun s3 I3=>⟨σ,_,I3,q2⟩
end
section
variable {X:Cx}{pins:List (Addr×Obj)}{σ:St}{H:Hp}{s:ι}{A:yr}{E:Value->ι->Prop}{Q:Value->ι->Prop}{c:Value}{b:Bool}
inductive gD (K:Ω) (H:Hp):V->Value->Prop where
 |non:gD K H .non (.type "NoneType")
 |bl (x:Bool):gD K H (.bl x) (.type "bool")
 |int (i:Int):gD K H (.int i) (.type "int")
 |str (x:Str):gD K H (.str x) (.type "str")
 |flt (x:UInt64):gD K H (.flt x) (.type "float")
 |lst {a:Addr}{xs:List V}(e:H a=some (.lst xs)):gD K H (.ref a) (.type "list")
 |frz {a:Addr}{o:Obj}{xs:List V}(e:H a=some (.frz o (.lst xs))):gD K H (.ref a) (.type "list")
 |tup {a:Addr}{xs:List V}(e:H a=some (.tup xs)):gD K H (.ref a) (.type "tuple")
 |dK {a:Addr}{kvs:List (Key×V)}(e:H a=some (.dK kvs)):gD K H (.ref a) (.type "dict")
 |dT {a:Addr}{kvs:List (List Key×V)}(e:H a=some (.dT kvs)):gD K H (.ref a) (.type "dict")
 |ins {a C dx:Addr}{fs:List (Str×V)}(e:H a=some (.ins C dx fs)) (cl:Cls K C) (ha:zj K (.ref C) "__class__" = some (some (.builtin "object.__class__")))
   (hn:Ce K (.builtin "object.__class__") "__get__" = some (some (.builtin "getset_descriptor.__get__"))) (htk:PySem.W.takesIn K (.builtin "object.__class__")=some true)
   (hm:AF K C (.type "object")=some true):gD K H (.ref a) (.ref C)
theorem aIm(I:Inv X pins σ H s)(rx:RelV x u)(ty:gD X.K H x t)(e:yi X.K t c=some b)(h:∀tk,Q (.bool b) { s with toks:=tk }):
  Φ (xj X.prog X.w) A (call (.builtin "isinstance") [u,c]) Q E s:=by
 cases ty with
 |non=>cases (show u=zr from rx);exact Ar PySem.W.kitx_none I.kIn yg e (fun z=>nomatch z) h
 |bl y=>cases (show u=Value.bool y from rx);exact Ar PySem.W.kitx_bool I.kIn yg e (fun z=>nomatch z) h
 |int i=>obtain⟨t,q⟩:=(show ∃t,u=Value.int i t from rx);cases q;exact Ar PySem.W.kitx_int I.kIn yg e (fun z=>nomatch z) h
 |str y=>obtain⟨t,q⟩:=(show ∃t,u=Value.str y t from rx);cases q;exact Ar PySem.W.kitx_str I.kIn yg e (fun z=>nomatch z) h
 |flt y=>obtain⟨t,q⟩:=(show ∃t,u=Value.float y t from rx);cases q;exact Ar PySem.W.kitx_float I.kIn yg e (fun z=>nomatch z) h
 | @lst a xs ea =>
  cases (show u=xg a from rx);obtain⟨_,_,n,_,h1⟩:=(show qK X.prog X.w H s.heap a (.lst xs) from I.hok a _ ea);exact Ar PySem.W.kitx_list I.kIn ⟨_,h1,rfl⟩ e (fun z=>nomatch z) h
 | @frz a ob xs ea =>
  cases (show u=xg a from rx);obtain⟨_,_,_,n,_,h1⟩:=(show qK X.prog X.w H s.heap a (.frz ob (.lst xs)) from I.hok a _ ea);exact Ar PySem.W.kitx_list I.kIn ⟨_,h1,rfl⟩ e (fun z=>nomatch z) h
 | @tup a xs ea =>
  cases (show u=xg a from rx);obtain⟨_,_,_,p⟩:=(show qK X.prog X.w H s.heap a (.tup xs) from I.hok a _ ea);obtain⟨o,h1,h2,_⟩:=p;exact Ar PySem.W.kitx_tuple I.kIn ⟨o,h1,h2⟩ e (fun z=>nomatch z) h
 | @dK a kvs ea =>
  cases (show u=xg a from rx);obtain⟨_,_,vs,_,p⟩:=(show qK X.prog X.w H s.heap a (.dK kvs) from I.hok a _ ea);obtain⟨o,es,ep,h1,h2,_⟩:=p;exact Ar PySem.W.kitx_dict I.kIn ⟨o,h1,h2.1⟩ e (fun z=>nomatch z) h
 | @dT a kvs ea =>
  cases (show u=xg a from rx);obtain⟨_,_,xs,_,o,es,ep,h1,h2,_⟩:=(show qK X.prog X.w H s.heap a (.dT kvs) from I.hok a _ ea);exact Ar PySem.W.kitx_dict I.kIn ⟨o,h1,h2.1⟩ e (fun z=>nomatch z) h
 | @ins a C dx fs ea cl ha hn htk hm =>
  cases (show u=xg a from rx);obtain⟨mA,O,_⟩:=oB I.hok ea;obtain⟨od,J,_⟩:=O.look;exact Ar (PySem.W.kitx_own (cl.get _) cl.hd ha hn htk hm) I.kIn J e (fun z=>nomatch z) h
end
structure vB (k:Nat) (A:yr):Prop where
 hd:A.handled=none
 dp:A.depth+3*k+5<recursionLimit
 un:A.units+16*k+200<cLine
 gd:A.guards=some []
theorem vB.mono{j:Nat}(r:vB k A)(h:j<=k):vB j A:=⟨r.hd,by have:=r.dp;omega,by have:=r.un;omega,r.gd⟩
theorem vB.deeper{k:Nat}(r:vB (k+1) A)(env:Env):vB k (A.deeper env) :=
 ⟨r.hd,by have:=r.dp;show A.depth+1+3*k+5<_;omega,by have:=r.un;show A.units+3+16*k+200<_;omega,r.gd⟩
theorem vB.in1{k:Nat}(r:vB (k+1) A):vB k A.in1 :=
 ⟨r.hd,by have:=r.dp;show A.depth+3*k+5<_;omega,by have:=r.un;show A.units+1+16*k+200<_;omega,r.gd⟩
theorem aDb{A:yr}{us:List Value}{kw:List (Str×Value)}: (A.under (.builtin "type.__call__" ⟨.ref C::us,kw⟩)).depth=A.depth+1:=by
 first|rfl|simp[yr.under,Code.weight,Code.isCreation,Code.isGuard,Code.isCaller,Code.frames,Code.isFrame,guardIds]
theorem aDc{A:yr}{us:List Value}{kw:List (Str×Value)}: (A.under (.builtin "type.__call__" ⟨.ref C::us,kw⟩)).units=A.units+1:=by
 first|rfl|simp[yr.under,Code.cUnits,Code.frames,Code.isFrame]
theorem aBa{A:yr}{us:List Value}{kw:List (Str×Value)}: (A.under (.builtin "type.__call__" ⟨.ref C::us,kw⟩)).guards=A.guards:=by
 have hg:guardIds.contains "type.__call__" = false:=by ac_rfl
 have e:Code.guards (.builtin "type.__call__" ⟨.ref C::us,kw⟩)=[]:=by
  unfold Code.guards;rw[if_neg (fun z=>by rw[show Code.isGuard (.builtin "type.__call__" ⟨.ref C::us,kw⟩)=guardIds.contains "type.__call__" from rfl,hg]at z;cases z)]
 unfold yr.under;rw[e];rfl
theorem vB.make{k:Nat}(r:vB (k+1) A)(C:Addr)(us:List Value)(kw:List (Str×Value)):vB k (A.under (.builtin "type.__call__" ⟨.ref C::us,kw⟩)) :=
 ⟨r.hd,by have:=r.dp;rw[aDb];omega,by have:=r.un;rw[aDc];omega,aBa.trans r.gd⟩
theorem vB.depth(r:vB k A):A.depth<recursionLimit:=by have:=r.dp;omega
theorem vB.units(r:vB k A):A.units+64<cLine:=by have:=r.un;omega
def tNil:TA:=fun _ H Q=>Q [] H
def aQn (ta:TE) (tr:TA):TA:=fun σ H Q=>ta σ H fun x H1=>tr σ H1 fun xs H2=>Q (x::xs) H2
section
variable {X:Cx}{e:Expr}{es:List Expr}{te:TE}{t:TA}{pos:Pos}
theorem jB:PA X [] tNil:=fun _ _ _ _ H Q I h=>Dr ⟨[],H,I,.nil,h⟩
theorem jA(ha:PE X e te)(hr:PA X es t)(hs:xi (e::es) X.env=(false,eval e X.env)::xi es X.env:=by rfl):PA X (e::es) (aQn te t):=by
 intro pos pins s σ H Q I h;rw[hs];show Φ _ _ (spliced ((false,eval e X.env)::AQ pos (xi es X.env))) _ _ s;refine Bs (thn (ha pins s σ H _ I h) fun u s1 zq=>?_);obtain⟨x,H1,I1,r1,q1⟩:=zq;exact thn (hr pos pins s1 σ H1 _ I1 q1) fun us s2 ⟨xs,H2,I2,r2,q2⟩=>⟨x::xs,H2,I2,.cons r1 r2,q2⟩
inductive aLw (Q:VK) (xs:List V) (H1:Hp):Prop|mk:xs.length<=Δ->(∀p,H1 p=none->Q (.ref p) (upd H1 p (.tup xs)))->aLw Q xs H1
def tTup (t:TA):TE:=fun σ H Q=>t σ H fun xs H1=>aLw Q xs H1
inductive aKc (Q:VK) (xs:List V) (H1:Hp):Prop|mk:xs.length<=Δ->(∀p,H1 p=none->Q (.ref p) (upd H1 p (.lst xs)))->aKc Q xs H1
def tLst (t:TA):TE:=fun σ H Q=>t σ H fun xs H1=>aKc Q xs H1
theorem zO{x1}(h:PA X es t):PE X (.Tuple es x1 pos) (tTup t):=by
 intro pins s σ H Q I hq;refine wpAny_Tuple_spliced (thn (h pos pins s σ H _ I hq) fun us s1 ⟨xs,H1,I1,r,z,q⟩=>⟨by rw[←r.length];exact z,?_⟩);have hf:H1 s1.heap.objs.size=none:=I1.hok.fresh (μ _);refine⟨.ref s1.heap.objs.size,upd H1 s1.heap.objs.size (.tup xs),I1.laid (t':=s1.toks) (fun b u e=>ξ _ e) (μ _) ?_,rfl,q _ hf⟩;exact⟨z,us,r,⟨_,xb _ rfl,rfl,_,rfl⟩⟩
theorem kH(h:PA X es t):PE X (.List es pos) (tLst t):=by
 intro pins s σ H Q I hq;refine wpAny_List_spliced (thn (h pos pins s σ H _ I hq) fun us s1 ⟨xs,H1,I1,r,z,q⟩=>⟨by rw[←r.length];exact z,?_⟩);have hf:H1 s1.heap.objs.size=none:=I1.hok.fresh (μ _);refine⟨.ref s1.heap.objs.size,upd H1 s1.heap.objs.size (.lst xs),I1.laid (t':=s1.toks) (fun b u e=>ξ _ e) (μ _) ?_,rfl,q _ hf⟩;exact⟨z,us,0,r,xb _ rfl⟩
end
abbrev Sp:=List V->Hp->VK->XK->Prop
abbrev CXT:=List Env->Hp->ι->XK->Value->ι->Prop
structure sJ (P:za) (w:Af) (K:Ω) (mg:Str->Option Value) (base:yp) (A:yr) (outer:List Env) (s:ι) (H:Hp):Prop where
 frames:A.frames=some outer
 mod:Mod K mg base
 bs:∀b o,base.get? b=some o->s.heap.get? b=some o/\H b=none
 bsz:base.objs.size<=s.heap.objs.size
 funs:s.heap.FunFrames base outer
 frf:∀b∈frs outer,H b=none
 hok:HOk P w H s.heap
 bare:AllBare s.gens
def CE (outer:List Env) (P:za) (w:Af) (H:Hp) (s:ι) (Q:VK) (u:Value) (s':ι):Prop :=
 ∃v H',s'.os=s.os/\AllBare s'.gens/\Un (frs outer) [] H H' s.heap s'.heap/\HOk P w H' s'.heap/\RelV v u/\Q v H'
def CR (CX:CXT) (outer:List Env) (P:za) (w:Af) (H:Hp) (s:ι) (Q:VK) (E:XK) (r:Result) (s':ι):Prop :=
 match r with
 |.ok (.ret u)=>CE outer P w H s Q u s'
 |.ok _=>False
 |.error e=>CX outer H s E e s'
structure jK (P:za) (w:Af) (K:Ω) (mg:Str->Option Value) (base:yp) (CX:CXT) (k:Nat) (f:Addr) (fd:yn) (ps:List Str) (sp:Sp):Prop where
 len:∀vs H Q E,sp vs H Q E->vs.length=ps.length
 run:∀(A:yr) (outer:List Env) (s:ι) (H:Hp) (args:Args) (us:List Value) (vs:List V) (Q:VK) (E:XK),vB k A->sJ P w K mg base A outer s H->BindsTo s fd args (ps.zip us)->kG vs us->sp vs H Q E →
  Cu (xj P w) A (.call (.ref f) args) (CR CX outer P w H s Q E) s
theorem jK.mono{K:Ω}{k:Nat}(F:jK P w K mg base CX j f fd ps sp)(h:j<=k):
  jK P w K mg base CX k f fd ps sp:=⟨F.len,fun A outer s H args us vs Q E hr=>F.run A outer s H args us vs Q E (hr.mono h)⟩
theorem jK.imp{K:Ω}{sp sp':Sp}(F:jK P w K mg base CX k f fd ps sp)
  (h:∀vs H Q E,sp' vs H Q E->sp vs H Q E):jK P w K mg base CX k f fd ps sp' :=
 ⟨fun vs H Q E q=>F.len vs H Q E (h _ _ _ _ q),fun A outer s H args us vs Q E hr he hb hv hs=>F.run A outer s H args us vs Q E hr he hb hv (h _ _ _ _ hs)⟩
theorem sJ.make{K:Ω}(e:sJ P w K mg base A outer s H)(C:Addr)(us:List Value)(kw:List (Str×Value)):
  sJ P w K mg base (A.under (.builtin "type.__call__" ⟨.ref C::us,kw⟩)) outer s H:=⟨by first|exact e.frames|(simpa [yr.under,Code.envs,Code.isFrame,pushEnvs] using e.frames),e.mod,e.bs,e.bsz,e.funs,e.frf,e.hok,e.bare⟩
theorem sJ.in1{K:Ω}(e:sJ P w K mg base A outer s H):
  sJ P w K mg base A.in1 outer s H:=⟨e.frames,e.mod,e.bs,e.bsz,e.funs,e.frf,e.hok,e.bare⟩
section
variable {X:Cx}{pins:List (Addr×Obj)}{σ:St}{H:Hp}{s s':ι}
theorem Inv.env0(I:Inv X pins σ H s):sJ X.prog X.w X.K X.mg X.base X.A X.stack s H :=
 ⟨I.ok.frames,I.ok.mod,I.bs,yb I.ok.bsz I.sz,I.stack,I.stkFree,I.hok,I.bare⟩
theorem Inv.after(I:Inv X pins σ H s)(h:CE X.stack X.prog X.w H s Q u s'):EP X pins σ Q u s':=by
 obtain⟨v,H',os,bare,un,hok,r,q⟩:=h;obtain⟨hh,g,d,t,os'⟩:=s';obtain rfl:os'=s.os:=os;exact⟨v,H',I.call (h':=hh) (g':=g) (d':=d) (t':=t) (ch:=[]) un hok bare (fun b z=>absurd z (by simp)),r,q⟩
end
def aLs (sp:Sp) (dvs:List V) (E:XK) (t:TA):TE:=fun σ H Q=>t σ H fun vs H1=>sp (vs++dvs) H1 Q E
def tMeth (C:Addr) (m:Str) (sp:Sp) (dvs:List V) (E:XK) (ta:TE) (t:TA):TE:=fun σ H Q=>ta σ H fun x H1=>∃a dx fs,x=.ref a/\H1 a=some (.ins C dx fs)/\fs.lookup m=none ∧
 t σ H1 fun vs H2=>sp (x::(vs++dvs)) H2 Q E
def tMake (C:Addr) (sp:Sp) (dvs:List V) (E:XK) (t:TA):TE:=fun σ H Q=>t σ H fun vs H1=>∀x dx,H1 x=none->H1 dx=none->dx≠x →
 sp (.ref x::(vs++dvs)) (upd (upd H1 dx (.own x)) x (.ins C dx [])) (fun v H2=>v=.non/\Q (.ref x) H2) E
def Binds (K:Ω) (fd:yn) (ps:List Str) (ds:List Value):Prop :=
 ∀(s:ι) (us:List Value),K.In s.heap->(us++ds).length=ps.length->BindsTo s fd ⟨us,[]⟩ (ps.zip (us++ds))
theorem Binds.all{K:Ω}{ps:List Str}(h:∀us:List Value,us.length=ps.length->bindArgs fd ⟨us,[]⟩=pure (ps.zip us)):Binds K fd ps []:=fun s us _ hl=>by
 rw[ya]at hl ⊢;exact .of_eq (h us hl)
def zH (CX:CXT) (X:Cx) (E:XK):Prop:=∀(pins:List (Addr×Obj)) (σ:St) (H:Hp) (s:ι) (e:Value) (s':ι),Inv X pins σ H s->CX X.stack H s E e s'->X.xe e s'
section
variable {X:Cx}{CX:CXT}{k:Nat}{f C:Addr}{fd:yn}{ps:List Str}{sp:Sp}{dvs:List V}{ds:List Value}{E:XK}{x m:Str}{p pos apos:Pos}{e o:Expr}{es:List Expr}{ta:TE}{t:TA}
theorem pF{Q:VK}(F:jK X.prog X.w X.K X.mg X.base CX k f fd ps sp)(hr:vB k X.A)(hb:Binds X.K fd ps ds)(hd:kG dvs ds)(hx:zH CX X E)
  (I:Inv X pins σ H s)(r:kG vs us)(h:sp (vs++dvs) H Q E):Φ (xj X.prog X.w) X.A (call (.ref f) us) (EP X pins σ Q) X.xe s:=by
 have r2:kG (vs++dvs) (us++ds):=r.append hd;have hl:(us++ds).length=ps.length:=by rw[←r2.length];exact F.len _ _ _ _ h
 refine Dh (BM (F.run X.A X.stack s H ⟨us,[]⟩ (us++ds) (vs++dvs) Q E hr I.env0 (hb s us I.kIn hl) r2 h) fun r s' hq=>?_);cases r with
 |error e=>exact hx pins σ H s e s' I hq
 |ok fl =>
  cases fl with
  |ret u=>exact I.after hq
  |next=>exact yf hq
  |brk=>exact yf hq
  |cont=>exact yf hq
theorem jN(F:jK X.prog X.w X.K X.mg X.base CX k f fd ps sp)(hr:vB k X.A)(hg:Gl X x)(hm:X.mg x=some (.ref f))(hk:keepIn X.K (.ref f)=true)(hb:Binds X.K fd ps ds)(hd:kG dvs ds)(hx:zH CX X E)
  (ha:PA X (e::es) t)(hdb:(x == ("__debug__" : Str))=false:=by decide)(he:xi (e::es) X.env=(false,eval e X.env)::xi es X.env:=by rfl)(hpl:(AQ pos (xi es X.env)).any (·.1)=false:=by rfl):
  PE X (.Call (.Name x p) (e::es) [] pos) (aLs sp dvs E t):=by
 intro pins s σ H Q I h;refine AA (fA I hg hm ?_ hdb);refine Bt (h₀:=X.base) I.ok.mod.kin hk (thn (ha pos pins s σ H _ I h) fun us s1 ⟨vs,H1,I1,r,q⟩=>⟨I1.kIn,?_⟩) he hpl;exact pF F hr hb hd hx I1 r q
theorem xJ(he:PE X o ta)(c:Cls X.K C)(hm:Meth X.K C m f)(F:jK X.prog X.w X.K X.mg X.base CX k f fd ps sp)(hr:vB k X.A)(hb:Binds X.K fd ps ds)(hd:kG dvs ds)(hx:zH CX X E)
  (ht:eval (.Call (.Attribute o m apos) [] [] pos) X.env=(do
   let ov ←eval o X.env
   standAt apos.atName
   let (f,first) ←CU [ov] (Dj ov m pl)
   callWith pos f first (AQ pos (xi [] X.env)) (Ds pos (BE [] X.env))):=by rfl):
  PE X (.Call (.Attribute o m apos) [] [] pos) (tMeth C m sp dvs E ta tNil):=by
 intro pins s σ H Q I h;refine Bv (pl:=pl) (thn (he pins s σ H _ I h) fun u s1 zq=>?_) ht;obtain⟨x,H1,I1,rx,a,dx,fs,ex,ea,l,q⟩:=zq;subst ex;obtain rfl:u=xg a:=rx;refine fO I1 ea c hm l ?_;exact PySem.W.callWith_K0 (first:=[.ref a]) I1.kIn hm.kp (pF (us:=[.ref a]) (vs:=[.ref a]) F hr hb hd hx I1 (.cons rfl .nil) q)
structure Mk (K:Ω) (C f:Addr):Prop where
 makes:PySem.W.makesIn K C=true
 init:zj K (.ref C) "__init__" = some (some (.ref f))
 fn:isFn K (.ref f)=true
 kp:keepIn K (.ref C)=true
theorem aJx{H:Hp}{Q:VK}(M:Mk X.K C f)(F:jK X.prog X.w X.K X.mg X.base CX k f fd ps sp)(hr:vB (k+1) X.A)(hb:Binds X.K fd ps ds)(hd:kG dvs ds)
  (hx:zH CX X E)(I:Inv X pins σ H s)(r:kG vs us)
  (h:∀x dx,H x=none->H dx=none->dx≠x->sp (.ref x::(vs++dvs)) (upd (upd H dx (.own x)) x (.ins C dx [])) (fun v H2=>v=.non/\Q (.ref x) H2) E):
  Φ (xj X.prog X.w) X.A (call (.ref C) us) (EP X pins σ Q) X.xe s:=by
 have hq:=h (s.heap.objs.size+1) s.heap.objs.size (I.hok.fresh (Be _)) (I.hok.fresh (μ _)) (wz (Bq _));have I2:=Inv.made (C:=C) I;have r2:kG (V.ref (s.heap.objs.size+1)::(vs++dvs)) (xg (s.heap.objs.size+1)::(us++ds)):=.cons rfl (r.append hd);have hl:(xg (s.heap.objs.size+1)::us++ds).length=ps.length:=by
  have e:=r2.length;rw[F.len _ _ _ _ hq]at e;exact e.symm
 refine Dh (aJi (f:=f) I.kIn M.makes M.init (beq_iff_eq.mp M.fn) (BM (F.run _ X.stack _ _ ⟨xg (s.heap.objs.size+1)::us,[]⟩ (xg (s.heap.objs.size+1)::(us++ds)) _ _ E (hr.make C us [])
  (I2.env0.make C us []) (hb _ (xg (s.heap.objs.size+1)::us) I2.kIn hl) r2 hq) fun r s' hq'=>?_))
 cases r with
 |error e=>exact hx pins σ _ _ e s' I2 hq'
 |ok fl =>
  cases fl with
  |ret u =>
   obtain⟨v,H',I3,rv,ev,q3⟩:=I2.after hq';subst ev;exact⟨rv,⟨V.ref (s.heap.objs.size+1),H',I3,rfl,q3⟩⟩
  |next=>exact yf hq'
  |brk=>exact yf hq'
  |cont=>exact yf hq'
theorem vJ(M:Mk X.K C f)(F:jK X.prog X.w X.K X.mg X.base CX k f fd ps sp)(hr:vB (k+1) X.A)(hg:Gl X x)(hm:X.mg x=some (.ref C))(hb:Binds X.K fd ps ds)(hd:kG dvs ds)(hx:zH CX X E)
  (ha:PA X (e::es) t)(hdb:(x == ("__debug__" : Str))=false:=by decide)(he:xi (e::es) X.env=(false,eval e X.env)::xi es X.env:=by rfl)(hpl:(AQ pos (xi es X.env)).any (·.1)=false:=by rfl):
  PE X (.Call (.Name x p) (e::es) [] pos) (tMake C sp dvs E t):=by
 intro pins s σ H Q I h;refine AA (fA I hg hm ?_ hdb);refine Bt (h₀:=X.base) I.ok.mod.kin M.kp (thn (ha pos pins s σ H _ I h) fun us s1 ⟨vs,H1,I1,r,q⟩=>⟨I1.kIn,?_⟩) he hpl;exact aJx M F hr hb hd hx I1 r q
end
structure jL (N P:List Str) (sc:Scope):Prop where
 kind:sc.kind=.function
 co:sc.isCoroutine=false
 gen:sc.isGenerator=false
 nd:N.Nodup
 pre:N.take P.length=P
 par:∀x∈P,sc.names.lookup x=some .local\/sc.names.lookup x=some .cell
 nofree:∀y∈sc.names,y.2≠.free
theorem uA{kindOf:Str->Option NameKind}{x:Str}: ∀{binds:List (Str×Value)}{m:Str->Option Value},(∀v,(x,v)∉binds)->bindL kindOf binds m x=m x
 |[],_,_=>rfl
 | (n,v)::r,m,h=>by
  unfold bindL;rw[uA fun w hw=>h w (π _ hw)]
  split
  ·have:x≠n:=by rintro rfl;exact h v ο
   simp[this]
  ·rfl
theorem tY{kindOf:Str->Option NameKind}{x:Str}: ∀{binds:List (Str×Value)}{m:Str->Option Value},(∀v,(x,v)∉binds)->bindC kindOf binds m x=m x
 |[],_,_=>rfl
 | (n,v)::r,m,h=>by
  unfold bindC;rw[tY fun w hw=>h w (π _ hw)]
  split
  ·rfl
  ·have:x≠n:=by rintro rfl;exact h v ο
   simp[this]
theorem tW{kindOf:Str->Option NameKind}: ∀{P:List Str}{vs:List Value}{i:Nat}{m:Str->Option Value},P.Nodup->P[i]?=some x->vs[i]?=some v->kindOf x=some .local →
  bindL kindOf (P.zip vs) m x=some v
 |[],_,_,_,_,h,_,_=>by simp at h
 |_::_,[],_,_,_,_,h,_=>by simp at h
 |p::P,w::vs,0,m,nd,h1,h2,hk=>by
  simp at h1 h2;subst h1;subst h2;show bindL kindOf ((p,w)::P.zip vs) m p=_;unfold bindL;rw[uA fun v hv=>(Bk.mp nd).1 (List.of_mem_zip hv).1,if_pos hk];simp
 |p::P,w::vs,i+1,m,nd,h1,h2,hk=>by
  show bindL kindOf ((p,w)::P.zip vs) m x=_;unfold bindL;exact tW (i:=i) (Bk.mp nd).2 (by simpa using h1) (by simpa using h2) hk
theorem tP{kindOf:Str->Option NameKind}: ∀{P:List Str}{vs:List Value}{i:Nat}{m:Str->Option Value},P.Nodup->P[i]?=some x->vs[i]?=some v->kindOf x≠some .local →
  bindC kindOf (P.zip vs) m x=some v
 |[],_,_,_,_,h,_,_=>by simp at h
 |_::_,[],_,_,_,_,h,_=>by simp at h
 |p::P,w::vs,0,m,nd,h1,h2,hk=>by
  simp at h1 h2;subst h1;subst h2;show bindC kindOf ((p,w)::P.zip vs) m p=_;unfold bindC;rw[tY fun v hv=>(Bk.mp nd).1 (List.of_mem_zip hv).1,if_neg hk];simp
 |p::P,w::vs,i+1,m,nd,h1,h2,hk=>by
  show bindC kindOf ((p,w)::P.zip vs) m x=_;unfold bindC;exact tP (i:=i) (Bk.mp nd).2 (by simpa using h1) (by simpa using h2) hk
def start (N:List Str) (vs:List V):St:=vs.map some++Cj (N.length-vs.length) none
def dF (CX:CXT) (P:za) (w:Af) (K:Ω) (mg:Str->Option Value) (base:yp) (N:List Str) (qual:Str) (scope:Scope) (f:Addr) (cd:Value) (A:yr) (outer:List Env) (s:ι) (H:Hp) (E:XK):Cx where
 prog:=P
 w:=w
 K:=K
 mg:=mg
 base:=base
 A:=A.deeper (envOfC qual scope s.heap.objs.size f cd)
 N:=N
 s₀:=s
 H₀:=H
 env:=envOfC qual scope s.heap.objs.size f cd
 outer:=outer
 stack:=envOfC qual scope s.heap.objs.size f cd::outer
 ex:=[]
 calm:=true
 fn:=fun _=>true
 pn:=[]
 xe:=fun e s'=>Φ (xj P w) (A.deeper (envOfC qual scope s.heap.objs.size f cd)) (leaving (envOfC qual scope s.heap.objs.size f cd) e) (fun _ s''=>CX outer H s E e s'') (fun e' s''=>CX outer H s E e' s'') s'
theorem aBn{sc:Scope}(h:sc.names.lookup x=some .cell):∃c,(cellsFrom n sc.names []).lookup x=some c:=by
 have q:=Dt sc.names n [] (.inl h);exact Ba.mp q
theorem uE{K:Ω}{A:yr}{vs:List V}
  (S:jL N ps scope)(hd:A.handled=none)(e0:sJ P w K mg base A outer s H)(hl:vs.length=ps.length)(r:kG vs us)
  (x:InCallC s s.heap.objs.size (bindL (envOfC qual scope s.heap.objs.size f cd).kindOf (ps.zip us) fun _=>none) (cellsFrom (s.heap.objs.size+1) scope.names []) (bindC (envOfC qual scope s.heap.objs.size f cd).kindOf (ps.zip us) fun _=>none) s1):
  Inv (dF CX P w K mg base N qual scope f cd A outer s H E) [] (start N vs) H s1:=by
 have hpl:ps.length<=N.length:=by have:=congrArg List.length S.pre;rw[wy]at this;omega
 obtain⟨h1,tk,rfl,hk⟩:=x.done;have noA:∀b:Addr,b∉(dF CX P w K mg base N qual scope f cd A outer s H E).ex:=fun b z=>absurd (show b∈([]:List Addr) from z) (by simp);refine⟨⟨e0.mod,S.kind,rfl,rfl,μ _,fun y z c h1 h2=>?_,fun y hy=>?_,fun y c _ h=>?_,fun _=>hd,yr.frames_deeper e0.frames,.inr ⟨rfl,rfl⟩,fun b z=>absurd z (noA b),e0.bs,e0.bsz,fun b _ _=>noA b,fun b z=>absurd z (noA b),e0.funs,e0.frf⟩,
  rfl,e0.bare,Un.kept hk,⟨_,x.toInCall.ns,fun i y v h1 h2 h3=>?_⟩,fun y c h=>⟨_,x.cell y c h⟩,e0.hok.fresh (μ _),fun y c h=>?_,fun p hp=>absurd (show p∈([]:List (Addr×Obj)) from hp) (by simp),e0.hok.kept hk,?_⟩
 ·exact name_of_addr x.apart (Ad h1) (Ad h2)
 ·have hy:scope.names.lookup y=some .cell\/scope.names.lookup y=some .free:=hy;rcases hy with hy|hy
  ·exact aBn hy
  ·exact absurd rfl (S.nofree _ (Ad hy))
 ·exact BL (x.above y c (Ad h))
 ·have hi:i<vs.length:=by
   unfold start at h2
   by_cases hi:i<vs.length
   ·exact hi
   ·rw[xa (by simpa using hi)]at h2;rw[List.getElem?_replicate]at h2
    split at h2 <;> cases h2
  have ha:vs[i]?=some v:=by
   unfold start at h2;rw[xo (by simpa using hi),xw]at h2;cases e:vs[i]? with
   |none=>rw[e]at h2;cases h2
   |some a=>rw[e]at h2;cases h2;rfl
  obtain⟨u,hu,rv⟩:=r.get ha;have hp:ps[i]?=some y:=by
   rw[←S.pre,CI (by omega)];exact h1
  have ndP:ps.Nodup:=by rw[←S.pre];exact S.nd.sublist (List.take_sublist _ _)
  refine⟨u,rv,?_⟩;rcases S.par y (xk hp) with k|k
  ·exact .inl ⟨k,tW ndP hp hu k⟩
  ·obtain⟨c,e⟩:=aBn (n:=s.heap.objs.size+1) k;refine .inr ⟨.inl k,c,e,?_⟩;have q:=x.cell y c e;rw[tP ndP hp hu (by show scope.names.lookup y≠_;rw[k];decide)]at q;exact q
 ·exact e0.hok.fresh (BL (x.above y c (Ad h)))
 ·unfold start;show _=N.length;rw[η,ε,AR];omega
theorem aQc{CX:CXT}{P:za}{w:Af}{K:Ω}{mg:Str->Option Value}{base:yp}{k:Nat}{f:Addr}{name qual:Str}{params:Arguments}{body:List Stmt}{scope:Scope}{dV kV doc pm cdv ct oc:Value}{an od:Option Addr}
  {osl:Array (Option Value)}{N ps:List Str}{sp:Sp}(lk:K.lookup f=some ⟨oc,od,.func (fnOf name qual params body scope dV kV doc pm an cdv ct),osl⟩)(hcd:codeIn K cdv qual=true)(S:jL N ps scope)
  (len:∀vs H Q E,sp vs H Q E->vs.length=ps.length)
  (hbody:∀(A:yr) (outer:List Env) (s:ι) (H:Hp) (vs:List V) (Q:VK) (E:XK),vB k (A.deeper (envOfC qual scope s.heap.objs.size f cdv))->sp vs H Q E →
   ∃t,PSs (dF CX P w K mg base N qual scope f cdv A outer s H E) body t/\t { nx:=fun _ H'=>Q .non H',rt:=Q } (start N vs) H):
  jK P w K mg base CX (k+1) f (fnOf name qual params body scope dV kV doc pm an cdv ct) ps sp:=by
 refine⟨len,fun A outer s H args us vs Q E hr e0 hb r hsp=>?_⟩;have hl:=len _ _ _ _ hsp;have KX:K.In s.heap:=e0.mod.kin.keeps fun b o e=>(e0.bs b o e).1;have lim:s.heap.NoLimit:=e0.mod.nolimit.keeps fun b o e=>(e0.bs b o e).1;have hkind:∀y∈ps.zip us,scope.names.lookup y.1=some .local\/(scope.names.lookup y.1=some .cell/\((cellsFrom (s.heap.objs.size+1) scope.names []).lookup y.1).isSome=true):=fun ⟨n,v⟩ hy=>by
  rcases S.par n (List.of_mem_zip hy).1 with q|q
  ·exact .inl q
  ·exact .inr ⟨q,Dt _ _ _ (.inl q)⟩
 refine codeAny_call_function hr.depth (KX _ _ lk) rfl S.co S.gen rfl (PySem.W.codeRec_of KX hcd) (hb _ _ _ _ ?_);refine wpAny_newFunctionEnv_cells S.kind hkind fun env he s1 x=>?_;subst he;refine⟨lim.keeps x.toInCall.keep,codeAny_func ?_⟩;obtain⟨t,ht,hq⟩:=hbody A outer s H vs Q E (hr.deeper _) hsp;have I:Inv (dF CX P w K mg base N qual scope f cdv A outer s H E) [] (start N vs) H s1:=uE S hr.hd e0 hl r x;refine ym (ht [] s1 (start N vs) H _ I hq) (fun fl s' hs=>?_) fun e s' hs=>hs;have fin:∀{σ':St}{H':Hp}{v:V}{u:Value},Inv (dF CX P w K mg base N qual scope f cdv A outer s H E) [] σ' H' s'->RelV v u->Q v H'->CE outer P w H s Q u s' :=
  fun {σ' H' v u} J rv q=>⟨v,H',J.os,J.bare,J.base,J.hok,rv,q⟩
 cases fl with
 |ret u =>
  obtain⟨v,σ',H',J,rv,q⟩:=hs;exact fin J rv q
 |next =>
  obtain⟨σ',H',J,q⟩:=hs;exact fin (v:=V.non) (u:=zr) J rfl q
 |brk =>
  obtain⟨_,_,_,q⟩:=hs;exact yf q
 |cont =>
  obtain⟨_,_,_,q⟩:=hs;exact yf q
section
variable {X:Cx}{x:Str}{p pos:Pos}{e:Expr}{es:List Expr}{t:TA}{id T:String}{r:List V->Hp->VK->Prop}
def tCB (r:List V->Hp->VK->Prop) (t:TA):TE:=fun σ H Q=>t σ H fun vs H1=>r vs H1 Q
theorem kA(hc:vP X (.builtin id) r)(hg:Gl X x)(hm:X.mg x=none)(hv:AG x=some (.builtin id))(ha:PA X (e::es) t)(hn:x ≠ "__name__":=by decide)(hdb:(x == ("__debug__" : Str))=false:=by decide)
  (he:xi (e::es) X.env=(false,eval e X.env)::xi es X.env:=by rfl)(hpl:(AQ pos (xi es X.env)).any (·.1)=false:=by rfl):PE X (.Call (.Name x p) (e::es) [] pos) (tCB r t):=by
 intro pins s σ H Q I h;refine AA (eR I hg hm hv ?_ hn hdb);exact DI (thn (ha pos pins s σ H _ I h) fun us s1 ⟨vs,H1,I1,r1,q1⟩=>hc pins s1 σ H1 vs us Q I1 r1 q1) he hpl
theorem vY(hc:vP X (.type T) r)(hg:Gl X x)(hm:X.mg x=none)(hv:AG x=some (.type T))(ha:PA X (e::es) t)(hn:x ≠ "__name__":=by decide)(hdb:(x == ("__debug__" : Str))=false:=by decide)
  (he:xi (e::es) X.env=(false,eval e X.env)::xi es X.env:=by rfl)(hpl:(AQ pos (xi es X.env)).any (·.1)=false:=by rfl):PE X (.Call (.Name x p) (e::es) [] pos) (tCB r t):=by
 intro pins s σ H Q I h;refine AA (eR I hg hm hv ?_ hn hdb);exact Ao (thn (ha pos pins s σ H _ I h) fun us s1 ⟨vs,H1,I1,r1,q1⟩=>hc pins s1 σ H1 vs us Q I1 r1 q1) he hpl
end
end L2
namespace HT
open PySem PyProof.Rows
section
open PySem.SeqAt
open PySem.AutoSeq1 (wpAny_loadPart')
open PySem.MeetsSeq PySem.MeetsSeq2 PySem.MeetsSeq3
end
section
variable {prog:za}{w:Af}{A:yr}{E:Value->ι->Prop}{s:ι}
theorem cat_tup{vs ws:List Value}{Q:Value->ι->Prop}(ht:IsTup s.heap t vs.toArray)(hb:IsTup s.heap b ws.toArray)(hv:vs≠[])
  (h1:ws=[]->Q (.ref t) s)(h2:ws≠[]->Q (.ref s.heap.objs.size) { s with heap:=s.heap.push { cls:=.type "tuple",data:=.seq (vs++ws).toArray } })
  (hsz:vs.length+ws.length<=Δ):Φ (xj prog w) A (BG .Add (.ref t) (.ref b)) Q E s:=by
 obtain⟨⟨cls,dd,data,sl⟩,ho,hc,n,hd⟩:=id ht;obtain⟨⟨cls2,dd2,data2,sl2⟩,ho2,hc2,n2,hd2⟩:=id hb;simp only at hc hd hc2 hd2;subst hc hd hc2 hd2;have e:vs.toArray++ws.toArray=(vs++ws).toArray:=by simp
 by_cases hw:ws=[]
 ·exact concat_meets ⟨_,ho,rfl⟩ ⟨_,ho2,rfl⟩ noFill_tuple_add seq_tuple_add Du Dk (CJ _ _)
   (tuple_addW1 t b vs.toArray ws.toArray n n2 dd dd2 sl sl2 (by simpa using hv) (by simp[hw])) ⟨ho,ho2,h1 hw⟩
 ·refine concat_meets ⟨_,ho,rfl⟩ ⟨_,ho2,rfl⟩ noFill_tuple_add seq_tuple_add Du Dk (CJ _ _)
   (tuple_addW2 t b vs.toArray ws.toArray n n2 dd dd2 sl sl2 (by simpa using hv) (by simpa using hw) (by rw[ψ,ψ];exact hsz)) ⟨ho,ho2,?_⟩
  rw[e];exact h2 hw
def sIx (n d:Nat):Option Int->Nat
 |none=>d
 |some v=>if v<0 then (v+(n:Int)).toNat else min v.toNat n
theorem sIx_none(n d:Nat):sIx n d none=d:=rfl
theorem sIx_nat(n d k:Nat):sIx n d (some (k:Int))=min k n:=by
 show(if (k:Int)<0 then ((k:Int)+(n:Int)).toNat else min (k:Int).toNat n)=min k n;rw[if_neg (by omega),Int.toNat_natCast]
end
end HT
namespace L2
open PySem PySem.Spec PyProof.Rows
abbrev TO:=St->Hp->(Option Int->Hp->Prop)->Prop
def PO (X:Cx) (e:Option Expr) (t:TO):Prop :=
 ∀(pins:List (Addr×Obj)) (s:ι) (σ:St) (H:Hp) (Q:Option Int->Hp->Prop),Inv X pins σ H s->t σ H Q →
  Φ (xj X.prog X.w) X.A (evalPart e X.env) (fun u s'=>∃o H',Inv X pins σ H' s'/\IsPart u o/\Q o H') X.xe s
def aNo:TO:=fun _ H Q=>Q none H
inductive aGk (Q:Option Int->Hp->Prop) (x:V) (H1:Hp):Prop|mk:∀i,x=.int i->Q (some i) H1->aGk Q x H1
def tPart (t:TE):TO:=fun σ H Q=>t σ H fun x H1=>aGk Q x H1
theorem intsAre_of{ns:List Int}: ∀{us:List Value},kG (ns.map V.int) us->IntsAre us ns:=by
 induction ns with
 |nil=>intro us r;rw[List.map_nil]at r;cases r;exact .nil
 |cons n ns ih =>
  intro us r;rw[zc]at r;cases r with
  |cons r1 r2 =>
   obtain⟨t,e⟩:=r1;subst e;exact .cons n t (ih r2)
section
variable {X:Cx}{e:Expr}{te:TE}{lo hi:Option Expr}{tl th:TO}{pos p2:Pos}
theorem qJ:PO X none aNo:=by
 intro pins s σ H Q I h;rw[evalPart_none];exact τ ⟨none,H,I,.none,h⟩
theorem qC(h:PE X e te):PO X (some e) (tPart te):=by
 intro pins s σ H Q I hw;rw[evalPart_some];refine thn (h pins s σ H _ I hw) fun u s1 zq=>?_;obtain⟨x,H1,I1,r1,q1⟩:=zq;obtain⟨i,rfl,q⟩:=q1;obtain⟨t,rfl⟩:=r1;exact⟨some i,H1,I1,.int i t,q⟩
def SlR (X:Cx) (r:V->Option Int->Option Int->Hp->VK->Prop):Prop :=
 ∀(pins:List (Addr×Obj)) (s:ι) (σ:St) (H:Hp) (x:V) (v vl vu:Value) (lo hi:Option Int) (sl:Addr) (Q:VK),Inv X pins σ H s->RelV x v->s.heap.IsSliceOf sl vl vu .none->IsPart vl lo->IsPart vu hi->r x lo hi H Q →
  ∃T id,Ck (.type T) "__getitem__" = pure (some (.builtin id))/\s.TypeIs v T/\Φ (xj X.prog X.w) X.A (getItem v (.ref sl)) (EP X pins σ Q) X.xe s
theorem SlR.or{r r':V->Option Int->Option Int->Hp->VK->Prop}(h:SlR X r)(h':SlR X r'):SlR X (fun x lo hi H Q=>r x lo hi H Q\/r' x lo hi H Q):=by
 intro pins s σ H x v vl vu lo hi sl Q I rx hs pl pu q;rcases q with q|q
 ·exact h pins s σ H x v vl vu lo hi sl Q I rx hs pl pu q
 ·exact h' pins s σ H x v vl vu lo hi sl Q I rx hs pl pu q
def tSl (r:V->Option Int->Option Int->Hp->VK->Prop) (te:TE) (tl th:TO):TE:=fun σ H Q=>te σ H fun x H1=>tl σ H1 fun l H2=>th σ H2 fun u H3=>r x l u H3 Q
theorem kS(hr:SlR X r)(he:PE X e te)(hl:PO X lo tl)(hu:PO X hi th):PE X (.Subscript e (.Slice lo hi none p2) pos) (tSl r te tl th):=by
 intro pins s σ H Q I h;refine Subscript_ (thn (he pins s σ H _ I h) fun v s1 zq=>?_);obtain⟨x,H1,I1,r1,q1⟩:=zq;refine wpAny_Slice (thn (hl pins s1 σ H1 _ I1 q1) fun vl s2 ⟨l,H2,I2,pl,q2⟩=>thn (hu pins s2 σ H2 _ I2 q2) fun vu s3 zq=>?_);obtain⟨u,H3,I3,pu,q3⟩:=zq;rw[evalPart_none];refine τ ?_;have I4:Inv X pins σ H3 { s3 with heap:=s3.heap.push { cls:=.type "slice",data:=.fields #[vl,vu,.none] } }:=I3.kept (t':=s3.toks) fun b ob q=>ξ _ q;obtain⟨T,id,hT,ht,hg⟩:=hr pins { s3 with heap:=s3.heap.push { cls:=.type "slice",data:=.fields #[vl,vu,.none] } } σ H3 x v vl vu l u s3.heap.objs.size Q I4 r1 (yp.IsSliceOf.new ..) pl pu q3;show Φ (xj X.prog X.w) X.A (subscriptTail e (.Slice lo hi none p2) v (.ref s3.heap.objs.size)) (EP X pins σ Q) X.xe { s3 with heap:=s3.heap.push { cls:=.type "slice",data:=.fields #[vl,vu,.none] } };exact tail_any (ops:=[.ref s3.heap.objs.size,v]) ht hT hg (by with_unfolding_all rfl)
def zF (xs:List V) (lo hi:Option Int):List V:=(xs.drop (HT.sIx xs.length 0 lo)).take (HT.sIx xs.length xs.length hi-HT.sIx xs.length 0 lo)
theorem aCw(xs:List V)(lo hi:Option Int):(zF xs lo hi).length<=xs.length:=by
 unfold zF;rw[wy,yo];omega
def rCatT (K:Ω):R2:=fun x y H Q=>∃a b xs ys,x=.ref a/\y=.ref b/\SqT K H a xs/\SqT K H b ys/\xs≠[]/\xs.length+ys.length<=Δ ∧
 (ys=[]->Q (.ref a) H)/\(ys≠[]->∀p,H p=none->Q (.ref p) (upd H p (.tup (xs++ys))))
theorem kG.nil_iff(r:kG xs us):us=[] ↔ xs=[]:=by
 cases r with
 |nil=>simp
 |cons _ _=>simp
theorem aOs:OpR X (BG .Add) (rCatT X.K):=by
 intro pins s σ H x y v u Q I rx ry h;obtain⟨a,b,xs,ys,rfl,rfl,ha,hb,hx,hz,q1,q2⟩:=h;cases rx;cases ry;obtain⟨its,r1,p1,_⟩:=I.tuple ha;obtain⟨its2,r2,p2,_⟩:=I.tuple hb;refine HT.cat_tup p1 p2 (fun z=>hx (r1.nil_iff.mp z)) (fun z=>⟨.ref a,H,I,rfl,q1 (r2.nil_iff.mp z)⟩) (fun z=>?_) (by rw[←r1.length,←r2.length];exact hz);refine⟨.ref s.heap.objs.size,_,I.laid (t':=s.toks) (o:=.tup (xs++ys)) (fun b ob q=>ξ _ q) (μ _) ?_,rfl,q2 (fun w=>z (r2.nil_iff.mpr w)) _ (I.hok.fresh (μ _))⟩;exact⟨by rw[η];exact hz,_,r1.append r2,IsTup.new _ _⟩
end
def ixN (n:Nat) (i:Int):Option Nat:=if 0<=i then (if i<n then some i.toNat else none) else if -(n:Int)<=i then some (i+n).toNat else none
def atI {α : Type}(xs:List α) (i:Int):Option α:=(ixN xs.length i).bind fun j=>xs[j]?
theorem aFn{i:Int}(h:ixN n i=some j):seqIndex? i n=some j/\j<n/\-(n:Int)<=i/\i<n:=by
 unfold ixN at h
 by_cases h0 : 0<=i
 ·rw[if_pos h0]at h
  by_cases h1:i<n
  ·rw[if_pos h1]at h;have e:i.toNat=j:=zv h;exact⟨by rw[seqIndex_of h0 h1,e],by omega,by omega,h1⟩
  ·rw[if_neg h1]at h;cases h
 ·rw[if_neg h0]at h
  by_cases h1 : -(n:Int)<=i
  ·rw[if_pos h1]at h;have e:(i+n).toNat=j:=zv h;exact⟨by rw[seqIndex_neg (by omega) h1,e],by omega,h1,by omega⟩
  ·rw[if_neg h1]at h;cases h
theorem wJ{α : Type}{xs:List α}{i:Int}{v : α}(h:atI xs i=some v):∃j,seqIndex? i xs.length=some j/\xs[j]?=some v/\j<xs.length/\-(xs.length:Int)<=i/\i<xs.length:=by
 unfold atI at h;cases e:ixN xs.length i with
 |none=>rw[e]at h;cases h
 |some j =>
  rw[e]at h;obtain⟨h1,h2,h3,h4⟩:=aFn e;exact⟨j,h1,h,h2,h3,h4⟩
theorem zY{α : Type}{xs:List α}{j:Nat}{v : α}(h:xs[j]?=some v):atI xs (j:Int)=some v:=by
 have hj:j<xs.length:=(θ.mp h).1;have e:ixN xs.length (j:Int)=some j:=by
  unfold ixN;rw[if_pos (by omega),if_pos (by omega)];simp
 unfold atI;rw[e];exact h
theorem aBd{α : Type}(xs:List α)(v : α):atI (xs++[v]) (-1)=some v:=by
 have hl:(xs++[v]).length=xs.length+1:=by simp
 have e:ixN (xs++[v]).length (-1)=some xs.length:=by
  unfold ixN;rw[hl,if_neg (by decide),if_pos (by omega)]
  congr 1
  omega
 unfold atI;rw[e];show(xs++[v])[xs.length]?=some v;simp
def aPk (b:Expr):Prop:=∀o i,subscripted b false o i=operate [o,i] (getItem o i)
def IxR (X:Cx) (r:R2):Prop :=
 ∀(value slice:Expr) (pins:List (Addr×Obj)) (s:ι) (σ:St) (H:Hp) (x y:V) (v u:Value) (Q:VK),Inv X pins σ H s->RelV x v->RelV y u->r x y H Q →
  subscripted slice false v u=operate [v,u] (getItem v u)->Φ (xj X.prog X.w) X.A (subscriptTail value slice v u) (EP X pins σ Q) X.xe s
def MtR (X:Cx) (id:String) (r:V->List V->Hp->VK->Prop):Prop :=
 ∀(pins:List (Addr×Obj)) (s:ι) (σ:St) (H:Hp) (x:V) (xs:List V) (v:Value) (us:List Value) (Q:VK),Inv X pins σ H s->RelV x v->kG xs us->r x xs H Q →
  Φ (xj X.prog X.w) X.A (call (.builtin id) (v::us)) (EP X pins σ Q) X.xe s
section
variable {X:Cx}{a b:Expr}{ta tb:TE}{pos:Pos}
theorem IxR.or{r r':R2}(h:IxR X r)(h':IxR X r'):IxR X (fun x y H Q=>r x y H Q\/r' x y H Q):=by
 intro value slice pins s σ H x y v u Q I rx ry q hs;rcases q with q|q
 ·exact h value slice pins s σ H x y v u Q I rx ry q hs
 ·exact h' value slice pins s σ H x y v u Q I rx ry q hs
theorem MtR.or{id:String}{r r':V->List V->Hp->VK->Prop}(h:MtR X id r)(h':MtR X id r'):MtR X id (fun x xs H Q=>r x xs H Q\/r' x xs H Q):=by
 intro pins s σ H x xs v us Q I rx rs q;rcases q with q|q
 ·exact h pins s σ H x xs v us Q I rx rs q
 ·exact h' pins s σ H x xs v us Q I rx rs q
theorem kO(hr:IxR X r)(ha:PE X a ta)(hb:PE X b tb)(hs:aPk b):PE X (.Subscript a b pos) (tOp r ta tb):=by
 intro pins s σ H Q I h;exact Subscript_ (binT ha hb I h fun v u s2 x y H2 I2 rx ry q=>hr a b pins s2 σ H2 x y v u Q I2 rx ry q (hs _ _))
inductive aMt (K:Ω) (x:V) (y:V) (H:Hp) (Q:VK):Prop|mk:∀p xs i v,x=.ref p->y=.int i->SqL K H p xs->atI xs i=some v->Q v H->aMt K x y H Q
def rIxL (K:Ω):R2:=fun x y H Q=>aMt K x y H Q
inductive aKa (K:Ω) (x:V) (y:V) (H:Hp) (Q:VK):Prop|mk:∀p xs i v,x=.ref p->y=.int i->SqT K H p xs->atI xs i=some v->Q v H->aKa K x y H Q
def rIxT (K:Ω):R2:=fun x y H Q=>aKa K x y H Q
def rIxS:R2:=fun x y H Q=>∃z i c,x=.str z/\y=.int i/\z.length<=Δ/\atI z.cps.toList i=some c/\Q (.str ⟨#[c]⟩) H
theorem jZ:IxR X (rIxL X.K):=by
 intro value slice pins s σ H x y v u Q I rx ry h hs;obtain⟨p,xs,i,z,rfl,rfl,hq,he,q⟩:=h;cases rx;obtain⟨t,rfl⟩:=ry;obtain⟨its,r,pl,hz⟩:=I.list hq;obtain⟨j,h1,h2,h3,h4,h5⟩:=wJ he;obtain⟨w,ew,rw'⟩:=r.get h2;have hl:=r.length;have hn:=fQ;have fin:EP X pins σ Q w s:=⟨z,H,I,rw',q⟩
 by_cases h0 : 0<=i
 ·have hj:i.toNat=j:=by
   rw[seqIndex_of h0 h5]at h1;exact zv h1
  exact item_listR pl.isList h0 (by omega) (by rw[hj];simpa using ew) fin hs
 ·have hj:(i+(its.toArray.size:Int)).toNat=j:=by
   rw[seqIndex_neg (by omega) h4]at h1;rw[ψ,←hl];exact zv h1
  exact subscriptTail_builtinR (x:=w) pl.isList.typeIs slot_list_getitem.lookup
   (wpAny_getItem_list_neg (Q:=fun r s'=>r=w/\EP X pins σ Q r s') pl.isList (by omega) (by rw[ψ] <;> omega) (by omega) (by rw[hj];simpa using ew) ⟨rfl,fin⟩) hs
theorem aJp:IxR X (rIxT X.K):=by
 intro value slice pins s σ H x y v u Q I rx ry h hs;obtain⟨p,xs,i,z,rfl,rfl,hq,he,q⟩:=h;cases rx;obtain⟨t,rfl⟩:=ry;obtain⟨its,r,pl,hz⟩:=I.tuple hq;obtain⟨j,h1,h2,h3,h4,h5⟩:=wJ he;obtain⟨w,ew,rw'⟩:=r.get h2;have hl:=r.length;have hn:=fQ;have fin:EP X pins σ Q w s:=⟨z,H,I,rw',q⟩;exact subscriptTail_builtinR (x:=w) pl.typeIs slot_tuple_getitem.lookup
  (getItem_tuple (j:=j) (Q:=fun r s'=>r=w/\EP X pins σ Q r s') pl (by omega) (by omega) (by rw[ψ,←hl];exact h1) (by simpa using ew) ⟨rfl,fin⟩) hs
theorem aSy:IxR X rIxS:=by
 intro value slice pins s σ H x y v u Q I rx ry h hs;obtain⟨z,i,c,rfl,rfl,hz,he,q⟩:=h;obtain⟨t,rfl⟩:=rx;obtain⟨t',rfl⟩:=ry;obtain⟨j,h1,h2,h3,h4,h5⟩:=wJ he;have hl:z.cps.toList.length=z.length:=by simp[Str.length]
 rw[hl]at h1 h4 h5;have hn:=fQ;exact tail_any (typeIs_str s z t) slot_str_getitem.lookup (getItem_str (c:=c) (by
  have e1:decide (i < -(2 ^ 63:Int))=false:=decide_eq_false (by omega);have e2:decide (i≥2 ^ 63)=false:=decide_eq_false (by omega);rw[e1,e2,Bool.or_false]) (by rw[h1];simpa using h2) ⟨.str ⟨#[c]⟩,H,I.tok _,⟨_,rfl⟩,q⟩) hs
theorem aDw(its:List Value)(n j:Nat)(u:Value):Obj.mapSeq (·.setIfInBounds j u) { cls:=.type "list",data:=.seq its.toArray n }={ cls:=.type "list",data:=.seq (its.set j u).toArray n }:=by
 simp[Obj.mapSeq]
theorem Inv.lst{pins:List (Addr×Obj)}{σ:St}{H:Hp}{s:ι}{p:Addr}{xs:List V}(I:Inv X pins σ H s)(h:H p=some (.lst xs)):
  ∃(its:List Value) (n:Nat),kG xs its/\s.heap.get? p=some { cls:=.type "list",data:=.seq its.toArray n }/\xs.length<=Δ:=by
 obtain⟨z,its,n,r,e⟩:=I.hok p _ h;exact⟨its,n,r,e,z⟩
theorem Inv.lstUpd{H:Hp}{s:ι}{its its':List Value}{f:Obj->Obj}(I:Inv X pins σ H s)(h:H p=some (.lst xs))
  (ho:s.heap.get? p=some { cls:=.type "list",data:=.seq its.toArray n })(hf:f { cls:=.type "list",data:=.seq its.toArray n }={ cls:=.type "list",data:=.seq its'.toArray n' })(r:kG ys its')(hz:ys.length<=Δ)(t:Nat):
  Inv X pins σ (upd H p (.lst ys)) { s with heap:=s.heap.update p f,toks:=t }:=by
 have e:(s.heap.update p f).get? p=some { cls:=.type "list",data:=.seq its'.toArray n' }:=by
  rw[AS f ho (by rw[hf] <;> rfl),hf]
 refine I.write (x:=p) (e:=p) (by rw[h];trivial) (.inl rfl) (fun b u hb q=>(zg _ _ (Ag hb)).trans q) ⟨_,e⟩ ?_;exact⟨hz,its',n',r,e⟩
def rSetL:V->V->V->Hp->(Hp->Prop)->Prop:=fun o i v H Q=>∃p xs k j,o=.ref p/\i=.int k/\H p=some (.lst xs)/\ixN xs.length k=some j/\Q (upd H p (.lst (xs.set j v)))
theorem set_list:PSet X rSetL:=by
 intro pins s σ H o i v ov iv u Q I ro ri rv h;obtain⟨p,xs,k,j,rfl,rfl,hp,hj,q⟩:=h;cases ro;obtain⟨t,rfl⟩:=ri;obtain⟨its,n,r,ho,hz⟩:=I.lst hp;obtain⟨h1,h2,h3,h4⟩:=aFn hj;have hl:=r.length;have hn:=fQ;have I':Inv X pins σ (upd H p (.lst (xs.set j v))) { s with heap:=s.heap.update p (Obj.mapSeq (·.setIfInBounds j u)) } :=
  I.lstUpd hp ho (aDw its n j u) (r.set rv j) (by rw[List.length_set];exact hz) s.toks
 by_cases h0 : 0<=k
 ·have hk:k.toNat=j:=by
   rw[seqIndex_of h0 h4]at h1;exact zv h1
  exact PySem.W.ki_setAt ho h0 (by omega) (by rw[ψ,←hl];exact h4) (by rw[hk];exact⟨_,I',q⟩)
 ·have hk:(k+(its.toArray.size:Int)).toNat=j:=by
   rw[seqIndex_neg (by omega) h3]at h1;rw[ψ,←hl];exact zv h1
  exact PySem.W.ki_setBack ho (by omega) (by rw[ψ,←hl];exact h3) (by omega) (by rw[hk];exact⟨_,I',q⟩)
theorem aAe(lo hi:Option Int)(n:Nat):(Dl lo hi none n).1=((HT.sIx n 0 lo:Nat):Int)/\(Dl lo hi none n).2.1=((HT.sIx n n hi:Nat):Int)/\(Dl lo hi none n).2.2=1:=by
 refine⟨?_,?_,rfl⟩
 ·cases lo with
  |none=>simp[Dl,HT.sIx]
  |some i =>
   simp only[Dl,HT.sIx,Option.getD_none,show(1:Int) > 0 by decide,if_true]
   by_cases h:i<0
   ·simp only[h,if_true] <;> omega
   ·simp only[h,if_false] <;> omega
 ·cases hi with
  |none=>simp[Dl,HT.sIx]
  |some i =>
   simp only[Dl,HT.sIx,Option.getD_none,show(1:Int) > 0 by decide,if_true]
   by_cases h:i<0
   ·simp only[h,if_true] <;> omega
   ·simp only[h,if_false] <;> omega
theorem sK(its:List Value)(lo hi:Option Int):slicePick its.toArray lo hi none=((its.drop (HT.sIx its.length 0 lo)).take (HT.sIx its.length its.length hi-HT.sIx its.length 0 lo)).toArray:=by
 obtain⟨h1,h2,h3⟩:=aAe lo hi its.toArray.size;unfold slicePick;rw[h1,h2,h3];simp only[sliceRange_one,pick_run,ψ] <;> rfl
inductive aJy (K:Ω) (x:V) (lo:Option Int) (hi:Option Int) (H:Hp) (Q:VK):Prop|mk:∀a xs,x=.ref a->SqL K H a xs->(∀p,H p=none->Q (.ref p) (upd H p (.lst (zF xs lo hi))))->aJy K x lo hi H Q
def rSlL (K:Ω):V->Option Int->Option Int->Hp->VK->Prop:=fun x lo hi H Q=>aJy K x lo hi H Q
theorem qF:SlR X (rSlL X.K):=by
 intro pins s σ H x v vl vu lo hi sl Q I rx hs pl pu h;obtain⟨a,xs,rfl,hx,q⟩:=h;cases rx;obtain⟨its,r,ht,hz⟩:=I.list hx;have hlen:=r.length;refine⟨"list",_,slot_list_getitem.lookup,ht.isList.typeIs,?_⟩;refine wpAny_getItem_list_slice ht.isList hs pl pu .none (by simp) ?_ (by rw[ψ] <;> omega);rw[sK,←hlen];refine⟨.ref s.heap.objs.size,_,I.laid (t':=s.toks) (o:=.lst (zF xs lo hi)) (fun b ob q=>ξ _ q) (μ _) ?_,rfl,q _ (I.hok.fresh (μ _))⟩;exact⟨yb (aCw xs lo hi) hz,_,0,(r.drop (HT.sIx xs.length 0 lo)).take (HT.sIx xs.length xs.length hi-HT.sIx xs.length 0 lo),xb _ rfl⟩
def dI:V->Bool
 |.non=>true
 |.bl _=>true
 |.int _=>true
 |.str _=>true
 |_=>false
def eqV:V->V->Bool
 |.non,.non=>true
 |.bl a,.bl b=>a == b
 |.bl a,.int b=>(if a then 1 else 0) == b
 |.int a,.bl b=>a == (if b then 1 else 0)
 |.int a,.int b=>a == b
 |.str a,.str b=>a == b
 |_,_=>false
theorem aMi(ry:RelV y u)(rx:RelV x v)(fy:dI y=true)(fx:dI x=true):yq A s u v (eqV y x):=by
 cases y with
 |non =>
  cases ry;cases x with
  |non=>cases rx;exact yq.same _
  |bl b=>cases rx;exact yq.none_bool b
  |int b=>obtain⟨t,rfl⟩:=rx;exact yq.none_int b t
  |str b=>obtain⟨t,rfl⟩:=rx;exact yq.none_str b t
  |_=>exact absurd (show false=true from fx) ρ
 |bl a =>
  cases ry;cases x with
  |non=>cases rx;exact yq.bool_none a
  |bl b=>cases rx;exact yq.bool_bool a b
  |int b=>obtain⟨t,rfl⟩:=rx;exact yq.bool_int a b t
  |str b=>obtain⟨t,rfl⟩:=rx;exact yq.bool_str a b t
  |_=>exact absurd (show false=true from fx) ρ
 |int a =>
  obtain⟨t',rfl⟩:=ry;cases x with
  |non=>cases rx;exact yq.int_none a t'
  |bl b=>cases rx;exact yq.int_bool a t' b
  |int b=>obtain⟨t,rfl⟩:=rx;exact yq.int_int a t' b t
  |str b=>obtain⟨t,rfl⟩:=rx;exact yq.int_str a t' b t
  |_=>exact absurd (show false=true from fx) ρ
 |str a =>
  obtain⟨t',rfl⟩:=ry;cases x with
  |non=>cases rx;exact yq.str_none a t'
  |bl b=>cases rx;exact yq.str_bool a t' b
  |int b=>obtain⟨t,rfl⟩:=rx;exact yq.str_int a t' b t
  |str b=>obtain⟨t,rfl⟩:=rx;exact yq.str_str a t' b t
  |_=>exact absurd (show false=true from fx) ρ
 |_=>exact absurd (show false=true from fy) ρ
def eqU (x:V) (u:Value):Bool:=match u with
 |.none=>eqV .non x
 |.bool b=>eqV (.bl b) x
 |.int i _=>eqV (.int i) x
 |.str z _=>eqV (.str z) x
 |_=>false
theorem aJa(r:RelV y u)(f:dI y=true):eqU x u=eqV y x:=by
 cases y with
 |non=>cases r;rfl
 |bl b=>cases r;rfl
 |int i=>obtain⟨t,rfl⟩:=r;rfl
 |str z=>obtain⟨t,rfl⟩:=r;rfl
 |_=>exact absurd (show false=true from f) ρ
theorem iI : ∀{xs:List V}{us:List Value},kG xs us->xs.all dI=true->us.any (eqU x)=xs.any fun y=>eqV y x
 |_,_,.nil,_=>rfl
 |y::xs,u::us,.cons r t,f=>by
  rw[List.all_cons,yt]at f;rw[DR,DR,aJa r f.1,iI t f.2]
theorem dO(rx:RelV x v)(fx:dI x=true):∀{xs:List V}{us:List Value},kG xs us->xs.all dI=true->∀u∈us,yq A s u v (eqU x u)
 |_,_,.nil,_=>fun u hu=>by cases hu
 |y::xs,u::us,.cons r t,f=>fun u' hu=>by
  rw[List.all_cons,yt]at f;rcases χ.mp hu with rfl|hu
  ·rw[aJa r f.1];exact aMi r rx f.1 fx
  ·exact dO rx fx t f.2 u' hu
def inV (x:V) (xs:List V):Bool:=xs.any fun y=>eqV y x
def rIn (K:Ω) (neg:Bool):R2:=fun x y H Q=>∃p xs,y=.ref p/\(SqL K H p xs\/SqT K H p xs)/\dI x=true/\xs.all dI=true/\Q (.bl (if neg then !inV x xs else inV x xs)) H
theorem vN:OpR X (Ab .In) (rIn X.K false):=by
 intro pins s σ H x y v u Q I rx ry h;obtain⟨p,xs,rfl,hq,fx,fs,q⟩:=h;cases ry;rcases hq with hq|hq
 ·obtain⟨its,r,pl,hz⟩:=I.list hq;refine SeqAt.in_listAt (eqU x) pl.isList (fun w hw=>dO rx fx r fs w (by simpa using hw)) ⟨.bl _,H,I,rfl,?_⟩;rw[show its.toArray.any (eqU x)=its.any (eqU x) by simp,iI r fs];exact q
 ·obtain⟨its,r,pl,hz⟩:=I.tuple hq;refine SeqAt.in_tupleAt (eqU x) pl (fun w hw=>dO rx fx r fs w (by simpa using hw)) ⟨.bl _,H,I,rfl,?_⟩;rw[show its.toArray.any (eqU x)=its.any (eqU x) by simp,iI r fs];exact q
theorem xA:OpR X (Ab .NotIn) (rIn X.K true):=by
 intro pins s σ H x y v u Q I rx ry h;obtain⟨p,xs,rfl,hq,fx,fs,q⟩:=h;cases ry;rcases hq with hq|hq
 ·obtain⟨its,r,pl,hz⟩:=I.list hq;refine SeqAt.notIn_listAt (eqU x) pl.isList (fun w hw=>dO rx fx r fs w (by simpa using hw)) ⟨.bl _,H,I,rfl,?_⟩;rw[show its.toArray.any (eqU x)=its.any (eqU x) by simp,iI r fs];exact q
 ·obtain⟨its,r,pl,hz⟩:=I.tuple hq;refine SeqAt.notIn_tupleAt (eqU x) pl (fun w hw=>dO rx fx r fs w (by simpa using hw)) ⟨.bl _,H,I,rfl,?_⟩;rw[show its.toArray.any (eqU x)=its.any (eqU x) by simp,iI r fs];exact q
theorem kE:vP X (.builtin "len") (fun xs H Q=>∃p ys,xs=[.ref p]/\(SqL X.K H p ys\/SqT X.K H p ys)/\Q (.int ys.length) H):=by
 intro pins s σ H xs us Q I r h;obtain⟨p,ys,rfl,hq,q⟩:=h;obtain⟨u,rfl,rx⟩:=vals1 r;cases rx;have hn:=fQ;rcases hq with hq|hq
 ·obtain⟨its,r',pl,hz⟩:=I.list hq;have hlen:=r'.length;exact Calls.call_len_list pl.isList (by simp only[ψ] <;> omega) ⟨.int ys.length,H,I.tok _,⟨s.toks+1,by rw[ψ,hlen]⟩,q⟩
 ·obtain⟨its,r',pl,hz⟩:=I.tuple hq;have hlen:=r'.length;exact len_tuple pl (by simp only[ψ] <;> omega) ⟨.int ys.length,H,I.tok _,⟨s.toks+1,by rw[ψ,hlen]⟩,q⟩
theorem vP.or{r r':List V->Hp->VK->Prop}(h:vP X f r)(h':vP X f r'):vP X f (fun xs H Q=>r xs H Q\/r' xs H Q):=by
 intro pins s σ H xs us Q I rs q;rcases q with q|q
 ·exact h pins s σ H xs us Q I rs q
 ·exact h' pins s σ H xs us Q I rs q
theorem wQ:vP X (.type "list") (fun xs H Q=>∃p ys,xs=[.ref p]/\(SqL X.K H p ys\/SqT X.K H p ys)/\∀l,H l=none->Q (.ref l) (upd H l (.lst ys))):=by
 intro pins s σ H xs us Q I r h;obtain⟨p,ys,rfl,hq,q⟩:=h;obtain⟨u,rfl,rx⟩:=vals1 r;cases rx;have fin:∀(its:List Value),kG ys its->ys.length<=Δ->∀(h':yp) (c':Nat),(∀b o',s.heap.get? b=some o'->h'.get? b=some o') →
   h'.get? s.heap.objs.size=some { cls:=.type "list",dict:=none,data:=.seq its.toArray c',slots:=#[] }->EP X pins σ Q (.ref s.heap.objs.size) { s with heap:=h' }:=fun its r' hz h' c' kp e =>
  ⟨.ref s.heap.objs.size,_,I.laid (t':=s.toks) kp (μ _) (show qK X.prog X.w _ h' _ (.lst ys) from⟨hz,its,c',r',e⟩),rfl,q _ (I.hok.fresh (μ _))⟩
 rcases hq with hq|hq
 ·obtain⟨its,r',pl,hz⟩:=I.list hq;have hlen:=r'.length;obtain⟨o,ho,hc,n,hd⟩:=pl.isList;exact call_list_seq p (.inl rfl) ho hc hd (fun h' c' kp e=>fin its r' hz h' c' kp e) (by simp only[ψ] <;> omega)
 ·obtain⟨its,r',pl,hz⟩:=I.tuple hq;have hlen:=r'.length;obtain⟨o,ho,hc,n,hd⟩:=pl;exact call_list_seq p (.inr rfl) ho hc hd (fun h' c' kp e=>fin its r' hz h' c' kp e) (by simp only[ψ] <;> omega)
theorem bK:vP X (.type "tuple") (fun xs H Q=>∃p ys,xs=[.ref p]/\((SqL X.K H p ys/\∀l,H l=none->Q (.ref l) (upd H l (.tup ys)))\/(SqT X.K H p ys/\Q (.ref p) H))):=by
 intro pins s σ H xs us Q I r h;obtain⟨p,ys,rfl,h⟩:=h;obtain⟨u,rfl,rx⟩:=vals1 r;cases rx;rcases h with⟨hq,q⟩|⟨hq,q⟩
 ·obtain⟨its,r',pl,hz⟩:=I.list hq;have hlen:=r'.length;refine call_tuple_list pl.isList (fun h' kp=>?_) (by simp only[ψ] <;> omega);have I1:Inv X pins σ H { s with heap:=h' }:=I.kept (t':=s.toks) kp;have I2:Inv X pins σ (upd H h'.objs.size (.tup ys)) { s with heap:=h'.push { cls:=.type "tuple",data:=.seq its.toArray } } :=
   I1.laid (t':=s.toks) (fun b o e=>ξ _ e) (μ _) (show qK X.prog X.w _ _ _ (.tup ys) from⟨hz,its,r',IsTup.new _ _⟩)
  exact⟨.ref h'.objs.size,_,I2,rfl,q _ (I1.hok.fresh (μ _))⟩
 ·obtain⟨its,r',pl,hz⟩:=I.tuple hq;exact call_tuple_same pl ⟨.ref p,H,I,rfl,q⟩
def tyV (K:Ω) (T:String) (x:V) (H:Hp):Prop:=match x with
 |.str _=>T = "str"
 |.int _=>T = "int"
 |.ref p=>(T = "list"/\∃xs,SqL K H p xs)\/(T = "tuple"/\∃o,K.lookup p=some o/\o.cls=.type "tuple"/\o.dict=none) ∨
   (T = "dict"/\((∃kvs,H p=some (.dK kvs))\/∃kvs,H p=some (.dT kvs)))\/(T = "set"/\∃S n,H p=some (.set S n))
 |_=>False
theorem aEh(I:Inv X pins σ H s)(r:RelV x v)(ty:tyV X.K T x H):
  s.TypeIs v T/\∀a,v=.ref a->∃ob,s.heap.get? a=some ob/\ob.dict=none:=by
 cases x with
 |str z =>
  obtain⟨t,rfl⟩:=r;cases (show T = "str" from ty);exact⟨typeIs_str s z t,fun _ e=>nomatch e⟩
 |int i =>
  obtain⟨t,rfl⟩:=r;cases (show T = "int" from ty);exact⟨typeIs_int s i t,fun _ e=>nomatch e⟩
 |ref p =>
  cases r;rcases ty with⟨rfl,xs,hq⟩|⟨rfl,o,hk,hc,hd⟩|⟨rfl,hk⟩|⟨rfl,S,n,hk⟩
  ·obtain⟨its,_,pl,_⟩:=I.list hq;refine⟨pl.isList.typeIs,fun a e=>?_⟩;cases e;obtain⟨o,n,e,c,hd,_⟩:=pl;exact⟨o,e,hd⟩
  ·refine⟨⟨o,I.kIn p o hk,hc⟩,fun a e=>?_⟩;cases e;exact⟨o,I.kIn _ o hk,hd⟩
  ·have z:∃o,s.heap.get? p=some o/\o.ExactDict:=by
    rcases hk with⟨kvs,hk⟩|⟨kvs,hk⟩
    ·obtain⟨_,_,_,_,o,_,_,e,ex,_⟩:=I.hok p _ hk;exact⟨o,e,ex⟩
    ·obtain⟨_,_,_,_,o,_,_,e,ex,_⟩:=I.hok p _ hk;exact⟨o,e,ex⟩
   obtain⟨o,e,ex⟩:=z;refine⟨⟨o,e,ex.1⟩,fun a e2=>?_⟩;cases e2;exact⟨o,e,ex.2.1⟩
  ·obtain⟨o,_,_,_,e,ex,_⟩:=I.hok p _ hk;refine⟨⟨o,e,ex.1⟩,fun a e2=>?_⟩;cases e2;exact⟨o,e,ex.2.1⟩
 |_=>exact yf ty
inductive aQk (K:Ω) (T:String) (r:V->List V->Hp->VK->Prop) (t:TA) (σ:St) (Q:VK) (x:V) (H1:Hp):Prop|mk:tyV K T x H1->(t σ H1 fun xs H2=>r x xs H2 Q)->aQk K T r t σ Q x H1
def tBM (K:Ω) (T:String) (r:V->List V->Hp->VK->Prop) (to:TE) (t:TA):TE:=fun σ H Q=>to σ H fun x H1=>aQk K T r t σ Q x H1
variable {o e:Expr}{es:List Expr}{to:TE}{t:TA}{name:Str}{apos cpos:Pos}{T id:String}{r:V->List V->Hp->VK->Prop}
theorem zV(pa:PlainAttrs T)(slot:Slot T name id)(hty:typeOf (.builtin id)=pure (.type "method_descriptor"))(hm:MtR X id r)(ho:PE X o to)(ha:PA X (e::es) t)
  (hbase:AZ o name X.env (eval o X.env)=eval o X.env:=by rfl)
  (hfew:((AQ cpos (xi (e::es) X.env)).all (fun x=>!x.1)&&(Ds cpos (BE [] X.env)).all (fun x=>x.1.isSome)
   && decide ((e::es).length+([]:List Keyword).length+(if ([]:List Keyword).isEmpty then 0 else 1)<30))=true:=by rfl)
  (hline:(apos.endLine == cpos.line)=true:=by rfl)(hs:xi (e::es) X.env=(false,eval e X.env)::xi es X.env:=by rfl)(hplain:(AQ cpos (xi es X.env)).any (·.1)=false:=by rfl):
  PE X (.Call (.Attribute o name apos) (e::es) [] cpos) (tBM X.K T r to t):=by
 intro pins s σ H Q I h;refine Dv hbase hfew hline rfl (thn (ho pins s σ H _ I h) fun v s1 zq=>?_);obtain⟨x,H1,I1,r1,ty,q1⟩:=zq;obtain⟨h1,h2⟩:=aEh I1 r1 ty;refine⟨T,id,pa,slot,hty,h1,h2,?_⟩;have hA:=ha cpos pins s1 σ H1 _ I1 q1;rw[hs]at hA ⊢;refine BN (by show(false||(AQ cpos (xi es X.env)).any (·.1))=false;rw[hplain] <;> rfl) (Cm ?_);exact thn hA fun us s2 ⟨vs,H2,I2,r2,q2⟩=>hm pins s2 σ H2 x vs v us Q I2 r1 r2 q2
end
def MtM (X:Cx) (id:String) (r:V->List V->Hp->VK->Prop):Prop :=
 ∀(pins:List (Addr×Obj)) (s:ι) (σ:St) (H:Hp) (x:V) (xs:List V) (v:Value) (us:List Value) (Q:VK),Inv X pins σ H s->RelV x v->kG xs us->r x xs H Q →
  Φ (xj X.prog X.w) X.A (call (.builtin id) (v::us)) (EP X pins σ Q) X.xe s
theorem kG.one:∀{x:V}{us:List Value},kG [x] us->∃u,us=[u]/\RelV x u
 |_,_,.cons r .nil=>⟨_,rfl,r⟩
theorem kG.two:∀{x y:V}{us:List Value},kG [x,y] us->∃u v,us=[u,v]/\RelV x u/\RelV y v
 |_,_,_,.cons r (.cons q .nil)=>⟨_,_,rfl,r,q⟩
theorem kG.zero:∀{us:List Value},kG [] us->us=[]
 |_,.nil=>rfl
theorem kG.dropLast(h:kG xs us):kG xs.dropLast us.dropLast:=by
 induction h with
 |nil=>exact .nil
 |cons r t ih =>
  cases t with
  |nil=>exact .nil
  |cons q t'=>exact .cons r ih
section
variable {X:Cx}{pins:List (Addr×Obj)}{σ:St}{H:Hp}{s:ι}{l b:Addr}{xs ys zs:List V}
theorem Inv.lset{its its':List Value}{f:Array Value->Array Value}{t':Nat}(I:Inv X pins σ H s)(hH:H l=some (.lst xs))
  (e:s.heap.get? l=some { cls:=.type "list",data:=.seq its.toArray n })(hf:f its.toArray=its'.toArray)(hv:kG ys its')(hz:ys.length<=Δ):
  Inv X pins σ (upd H l (.lst ys)) { s with heap:=s.heap.update l (Obj.mapSeq f),toks:=t' }:=by
 have q:=PySem.IsL.update e f;rw[hf]at q;refine I.write (x:=l) (e:=l) (by rw[hH];exact trivial) (.inl rfl) (fun b' u hb hu=>(zg s.heap (Obj.mapSeq f) (Ag hb)).trans hu) ⟨_,q⟩ ?_;exact⟨hz,its',_,hv,q⟩
theorem Inv.lnew{t':Nat}(I:Inv X pins σ H s)(hv:kG ys its)(hz:ys.length<=Δ):
  Inv X pins σ (upd H s.heap.objs.size (.lst ys)) { s with heap:=s.heap.push { cls:=.type "list",data:=.seq its.toArray },toks:=t' } :=
 I.laid (fun _ _ q=>ξ _ q) (μ _) ⟨hz,its,0,hv,xb _ rfl⟩
theorem Inv.fresh(I:Inv X pins σ H s):H s.heap.objs.size=none:=I.hok.fresh (μ _)
theorem Inv.lstM(I:Inv X pins σ H s)(hH:H l=some (.lst xs)):xs.length<=Δ/\∃(its:List Value) (n:Nat),kG xs its/\xs.length=its.length/\s.heap.get? l=some { cls:=.type "list",data:=.seq its.toArray n }:=by
 obtain⟨z,its,n,r,e⟩:=I.hok l _ hH;exact⟨z,its,n,r,r.length,e⟩
theorem aLx{n:Nat}(h:n<=Δ):CL n=false:=by
 unfold CL;exact decide_eq_false (by omega)
end
section
variable {X:Cx}
inductive uD (x:V) (vs:List V) (H:Hp) (Q:VK):Prop|mk:∀l xs y,x=.ref l->vs=[y]->H l=some (.lst xs)->xs.length<Δ->Q .non (upd H l (.lst (xs++[y])))->uD x vs H Q
def aPj:V->List V->Hp->VK->Prop:=fun x vs H Q=>uD x vs H Q
theorem xS:MtM X "list.append" aPj:=by
 intro pins s σ H x vs v us Q I rx rv h;obtain⟨l,xs,y,rfl,rfl,hH,hz,q⟩:=h;cases rx;obtain⟨u,rfl,ru⟩:=rv.one;obtain⟨z,its,n,r,hl,e⟩:=I.lstM hH;refine call_meets F.slot_list_append ⟨_,e,rfl⟩ F.entry_list_append (F.args_list_append_2 _ _) (PySem.list_append l its.toArray n u (by rw[ψ];omega)) ⟨e,?_⟩;refine⟨.non,_,I.lset (its':=its++[u]) hH e (by simp) (r.append (.cons ru .nil)) ?_,rfl,q⟩;rw[η,xm];omega
def aPn:V->List V->Hp->VK->Prop:=fun x vs H Q=>∃l b xs zs,x=.ref l/\vs=[.ref b]/\H l=some (.lst xs)/\H b=some (.lst zs)/\xs.length+zs.length<=Δ/\Q .non (upd H l (.lst (xs++zs)))
theorem tU:MtM X "list.extend" aPn:=by
 intro pins s σ H x vs v us Q I rx rv h;obtain⟨l,b,xs,zs,rfl,rfl,hH,hB,hz,q⟩:=h;cases rx;obtain⟨u,rfl,ru⟩:=rv.one;cases ru;obtain⟨z,its,n,r,hl,e⟩:=I.lstM hH;obtain⟨z2,its2,n2,r2,hl2,e2⟩:=I.lstM hB;have hsz:its.toArray.size+its2.toArray.size<=Δ:=by rw[ψ,ψ];omega
 have hlong:¬ (!its.toArray.isEmpty&&CL (its.toArray.size+its2.toArray.size))=true:=by
  rw[aLx hsz,Bool.and_false];exact ρ
 refine call_meets F.slot_list_extend ⟨_,e,rfl⟩ F.entry_list_extend (F.args_list_extend_2 _ _)
  (AutoSeq1.list_extend_list_list_0 l its.toArray n b its2.toArray n2 hlong (by rw[ψ];omega) (by omega)) ⟨e,e2,?_⟩
 refine⟨.non,_,I.lset (its':=its++its2) hH e (by simp) (r.append r2) ?_,rfl,q⟩;rw[η];omega
end
end L2
namespace Att
open PySem PySem.W PySem.Calls PyProof.Rows
theorem nU : ∀(ns:List Int) (vs:List Value),WellAll P h vs (ns.map WData.int)->IntsAre vs ns:=by
 intro ns
 induction ns with
 |nil =>
  intro vs w;rw[List.map_nil]at w;cases w;exact .nil
 |cons n ns ih =>
  intro vs w;rw[zc]at w;cases w with
  |cons a b =>
   cases a;exact .cons _ _ (ih _ b)
theorem aIr{l:OpenLaw}(hn:l.most=some n)
  (hpre:l.row.toRowW.claim.pre args=true)(hwl:WellAll P h vals args):
  ∃a vs ns,vals=[xg a]/\args=[WData.list (ns.map WData.int)]/\h.get? a=some { cls:=.type "list",data:=.seq vs.toArray }/\IntsAre vs ns/\ns.length<=n:=by
 have hsh:WShape.hasAll [] args [.list .int]=true:=(pre_splitW hpre).1;have hc:l.pre.holds [] { args:=args }=true:=(pre_splitW hpre).2;obtain⟨d,r,rfl,h1,h2⟩:=hasAllW_cons hsh;obtain rfl:=hasAllW_nil h2;obtain⟨xs,rfl,h3⟩:=hasW_list h1;obtain⟨ns,rfl⟩:=items_int h3;have hlen:ns.length<=n:=by
  unfold OpenLaw.pre at hc;have h4:(WTm.not (.lt (.lit (.int (n:Int))) (.len (.arg 0)))).holds [] { args:=[.list (ns.map .int)] }=true:=by
   have h4:=(holds_andW hc).1;rw[hn]at h4;exact h4
  have h5:=condW_of h4 (w_not (w_lt w_lit (w_len_list (w_arg rfl))));rw[ε]at h5;refine Nat.le_of_not_lt fun q=>?_;have q':(n:Int)<((ns.length:Nat):Int):=by omega
  first
   | (rw[decide_eq_true q']at h5;exact absurd h5 (by decide))
   | (simp at h5;omega)
 cases hwl with
 |cons w1 w2 =>
  cases w2;cases w1 with
  |list ho hall=>exact⟨_,_,ns,rfl,rfl,ho,nU ns _ hall,hlen⟩
theorem aIk(l:OpenLaw)(args:List WData):l.row.toRowW.claim.post args (.bool true) args=true :=
 postW_of (r:=l.row.toRowW) (X:=(true == true))
  (show WShape.has [] (.bool true) .bool=true by first|rfl|decide|simp[WShape.has,WShape.arms,WShape.armsAll])
  (show(WTm.eq .res (.lit (.bool true))).value [] { args:=args,res:=some (.bool true),after:=args }=some (.bool (true == true)) from w_eq_bool (w_res rfl) w_lit) rfl
theorem attach_call{l:OpenLaw}{YP:Af->yp->Prop}{d:DefRec}
  (hn:l.most=some n)(hdf:d.params.defaults=[])
  (call:∀(w:Af) (s₀ s₁ : ι) (mg mb:Str->Option Value) (fa:Addr) (o:Obj) (pm cd doc:Value) (a:Addr) (vs:List Value) (ns:List Int),
   Ground q loose [] XP w s₀ mg mb s₁.heap->YP w s₁.heap →
   s₁.heap.get? fa=some o->o.data=.func (docDef d.name d.params d.body d.scope pm cd doc)->s₁.heap.CodeRec cd d.name->mg d.name=some (.ref fa) →
   s₁.heap.get? a=some { cls:=.type "list",data:=.seq vs.toArray }->IntsAre vs ns->ns.length<=n->s₁.gens = #[] →
   Cu (xj l.prog w) callerA (.call (.ref fa) ⟨[.ref a],[]⟩) (fun r s'=>r=.ok (.ret (.bool true))/\OldK s₁.heap s'.heap/\s'.os=s₁.os/\AllBare s'.gens) s₁):
  WalkO q loose XP YP l.row.toRowW d [] (fun f vs=>PySem.call f vs):=by
 intro w s₀ s₁ mg mb G Y fa o pm cd doc dV kV ho hd hcd hD hmg hg args vals as hpre hlay hrd hwl hlo;obtain rfl:dV=.none:=Dflts.none hD hdf;obtain rfl:kV=.none:=Dflts.noKw hD;obtain⟨a,vs,ns,rfl,rfl,hobj,hints,hlen⟩:=aIr hn hpre hwl;refine enter_call (BM (call w s₀ s₁ mg mb fa o pm cd doc a vs ns G Y ho (fd_plain hd) hcd hmg hobj hints hlen hg) fun r s' hq=>?_);obtain⟨rfl,h2,h3,h4⟩:=hq;exact⟨.inl ⟨.bool true,.bool true,[],rfl,fun _=>rfl,.bool true,aIk l _,fun _=>⟨Dw,fun _ hm=>(nomatch hm)⟩⟩,h2,h3,h4⟩
section
variable {prog:za}{w:Af}{A:yr}{E:Value->ι->Prop}{s:ι}{K:Ω}
end
end Att
namespace L2
open PySem PySem.Spec PyProof.Rows
theorem tJ:∀{vs:List Value}{ns:List Int},IntsAre vs ns->kG (ns.map V.int) vs
 |_,_,.nil=>.nil
 |_,_,.cons n t h=>.cons ⟨t,rfl⟩ (tJ h)
def Only (H:Hp):Prop:=∀b,H b=none\/∃o xs,H b=some (.frz o (.lst xs))
theorem aMs{K:Ω}{mb:Str->Option Value}{CX:CXT}{a:Addr}{x:Str}{sp:Sp}{s₁: ι}{vs:List Value}
  (KX:K.In s₁.heap)(hns:s₁.heap.Ns ww mg)(hb:s₁.heap.Ns builtinsNs mb)(hbb:∀x:Str,x ≠ "__name__"->mb x=AG x)(hlim:s₁.heap.NoLimit)(hg:s₁.gens = #[])
  (ha:s₁.heap.get? a=some { cls:=.type "list",data:=.seq vs.toArray })(hi:IntsAre vs ns)(hl:ns.length<=Δ)(hr:vB k callerA)
  (F:∀base:yp,K.In base->base.Ns ww mg->jK P w K mg base CX k fa fd [x] sp)(hbind:∀(s:ι) (u:Value),BindsTo s fd ⟨[u],[]⟩ [(x,u)])
  (hsp:∀H:Hp,Only H->SqL K H a (ns.map V.int)->sp [.ref a] H (fun v _=>v=.bl true) fun _ _ _=>False)
  (hCX:∀H e s',CX [] H s₁ (fun _ _ _=>False) e s'->False):
  Cu (xj P w) callerA (.call (.ref fa) ⟨[.ref a],[]⟩) (fun r s'=>r=.ok (.ret (.bool true))/\OldK s₁.heap s'.heap/\s'.os=s₁.os/\AllBare s'.gens) s₁:=by
 have rv:=tJ hi;have lenV:=hi.length;have core:∀H:Hp,Only H->SqL K H a (ns.map V.int)->HOk P w H s₁.heap->(∀b,H b≠none->b=a)->(H a≠none->K.lookup a=none) →
   Cu (xj P w) callerA (.call (.ref fa) ⟨[.ref a],[]⟩) (fun r s'=>r=.ok (.ret (.bool true))/\OldK s₁.heap s'.heap/\s'.os=s₁.os/\AllBare s'.gens) s₁:=by
  intro H hO hS hok hA hK;have base_of:∀{b:Addr}{o:Obj},s₁.heap.get? b=some o->H b=none->(aAj s₁.heap H).get? b=some o:=fun e n=>aLr e n;have noA:∀{b:Addr}{o:Obj}{es:Array DictEntry}{ep:Nat},s₁.heap.get? b=some o->o.data=.dict es ep->H b=none:=fun {b o es ep} e d=>by
   cases q:H b with
   |none=>rfl
   |some u =>
    have e':b=a:=hA b (by rw[q];simp);subst e';rw[ha]at e;cases e;have d':Data.seq vs.toArray _=Data.dict es ep:=d;cases d'
  have nsK:∀{b:Addr}{m:Str->Option Value},s₁.heap.Ns b m->(aAj s₁.heap H).Ns b m:=fun {b m} ⟨o,es,ep,e,d,r⟩=>⟨o,es,ep,base_of e (noA e d),d,r⟩;have hKb:K.In (aAj s₁.heap H):=fun b o e=>base_of (KX b o e) (by
   cases q:H b with
   |none=>rfl
   |some u =>
    have e':b=a:=hA b (by rw[q];simp);subst e';rw[hK (by rw[q];simp)]at e;cases e)
  have hM:Mod K mg (aAj s₁.heap H):=⟨hKb,nsK hns,⟨mb,nsK hb,hbb⟩,let ⟨mc,h1,h2⟩:=hlim; ⟨mc,nsK h1,h2⟩⟩;have e0:sJ P w K mg (aAj s₁.heap H) callerA [] s₁ H:=⟨rfl,hM,fun b o e=>aPq e,Nat.le_of_eq (aIl _ _),trivial,fun b hb=>absurd (show b∈([]:List Addr) from hb) (by simp),hok,.of_eq hg⟩;refine BM ((F _ hKb (nsK hns)).run callerA [] s₁ H ⟨[.ref a],[]⟩ [.ref a] [.ref a] _ _ hr e0 (hbind s₁ (.ref a)) (.cons rfl .nil) (hsp H hO hS)) fun r s' h=>?_;cases r with
  |error e=>exact(hCX H e s' h).elim
  |ok fl =>
   cases fl with
   |next=>exact yf h
   |brk=>exact yf h
   |cont=>exact yf h
   |ret u =>
    obtain⟨v,H',os,bare,un,hok',r',q⟩:=h;have q':v=.bl true:=q;subst q';obtain rfl:u=Value.bool true:=r';refine⟨rfl,OldK.of_keep fun b o e=>?_,os,bare⟩;cases q:H b with
    |none=>exact un.keep b o e q (by intro z;exact absurd (show b∈([]:List Addr) from z) (by simp)) (by simp)
    |some u =>
     rcases hO b with z|⟨ob,xs,z⟩
     ·rw[q]at z;cases z
     ·have z2:=un.frzs b ob _ z;obtain⟨e1,_⟩:=hok b _ z;obtain⟨e2,_⟩:=hok' b _ z2;rw[e]at e1;cases e1;exact e2
 cases hk:K.lookup a with
 |some o =>
  have e:=KX a o hk;rw[ha]at e;cases e;refine core (fun _=>none) (fun _=>.inl rfl) (.inr ⟨_,vs.toArray,_,hk,rfl,rfl,rfl,by rw[ψ,lenV];exact hl,by simpa using rv⟩) (fun b u z=>by have z':(none:Option HO)=some u:=z;cases z') (fun b z=>absurd rfl z) fun z=>absurd rfl z
 |none =>
  refine core (fun b=>if b=a then some (.frz { cls:=.type "list",data:=.seq vs.toArray } (.lst (ns.map V.int))) else none) (fun b=>?_) (.inl (.inr ⟨{ cls:=.type "list",data:=.seq vs.toArray },if_pos rfl⟩)) (fun b u z=>?_) (fun b z=>?_) fun _=>hk
  ·by_cases hb:b=a
   ·exact .inr ⟨_,_,if_pos hb⟩
   ·exact .inl (if_neg hb)
  ·by_cases hb:b=a
   ·have z':=(if_pos hb).symm.trans z;cases z';subst hb;exact⟨ha,by rw[ε];exact hl,vs,_,rv,ha⟩
   ·have z':=(if_neg hb).symm.trans z;cases z'
  ·by_cases hb:b=a
   ·exact hb
   ·exact absurd (if_neg hb) z
theorem aOj{l:PySem.W.OpenLaw}{YP:Af->yp->Prop}{d:DefRec}{K:Params->Ω}{CX:Af->CXT}{sp:Af->Sp}{x:Str}
  (hn:l.most=some n)(hn2:n<=Δ)(hdf:d.params.defaults=[])(hr:vB k callerA)
  (hY:∀(w:Af) (h:yp),YP w h->(K w.params).In h)
  (F:∀(w:Af) (mg:Str->Option Value) (fa:Addr) (h:yp),(K w.params).In h->h.Ns ww mg->mg d.name=some (.ref fa) →
   ∃fd:yn,(∀(s:ι) (u:Value),BindsTo s fd ⟨[u],[]⟩ [(x,u)]) ∧
    ∀base:yp,(K w.params).In base->base.Ns ww mg->jK l.prog w (K w.params) mg base (CX w) k fa fd [x] (sp w))
  (hsp:∀(w:Af) (H:Hp) (a:Addr) (ns:List Int),ns.length<=n->Only H->SqL (K w.params) H a (ns.map V.int)->sp w [.ref a] H (fun v _=>v=.bl true) fun _ _ _=>False)
  (hCX:∀(w:Af) (H:Hp) (s:ι) (e:Value) (s':ι),CX w [] H s (fun _ _ _=>False) e s'->False):
  PySem.W.WalkO q loose XP YP l.row.toRowW d [] (fun f vs=>PySem.call f vs):=by
 refine Att.attach_call hn hdf fun w s₀ s₁ mg mb fa o pm cd doc a vs ns G Y ho hd hcd hmg hobj hints hlen hg=>?_;have KX:=hY w _ Y;obtain⟨fd,hb,hF⟩:=F w mg fa _ KX G.T.g hmg;exact aMs KX G.T.g G.T.b G.T.builtins G.T.nolimit hg hobj hints (yb hlen hn2) hr hF hb (fun H hO hS=>hsp w H a ns hlen hO hS) fun H e s'=>hCX w H s₁ e s'
def inClass (s:Stmt) (j:Nat):Stmt:=match s with
 |.ClassDef _ _ _ body _ _ _ _ _ _ _=>body.getD j (.Pass ⟨0,0,0,0⟩)
 |_=>.Pass ⟨0,0,0,0⟩
def cS (s:Stmt):Arguments:=match s with
 |.FunctionDef _ a _ _ _ _ _ _ _ _=>a
 |_=>{ posonlyargs:=[],args:=[],vararg:=none,kwonlyargs:=[],kw_defaults:=[],kwarg:=none,defaults:=[] }
def vW (s:Stmt):List Stmt:=match s with
 |.FunctionDef _ _ b _ _ _ _ _ _ _=>b
 |_=>[]
def jG (s:Stmt):Scope:=match s with
 |.FunctionDef _ _ _ _ _ _ sc _ _ _=>sc
 |_=>{ kind:=.function,names:=[],isGenerator:=false,isCoroutine:=false }
abbrev CX0:CXT:=fun _ _ _ _ _ _=>False
abbrev E0:XK:=fun _ _ _=>False
theorem jS : zH CX0 X E0:=fun _ _ _ _ _ _ _ h=>h.elim
structure Fun (K:Ω) (x qual:Str) (st:Stmt) (f:Addr) (fd:yn):Prop where
 ex:∃(oc:Value) (od:Option Addr) (kV doc pm:Value) (an:Option Addr) (cdv ct:Value) (osl:Array (Option Value)),
  fd=fnOf x qual (cS st) (vW st) (jG st) .none kV doc pm an cdv ct/\K.lookup f=some ⟨oc,od,.func fd,osl⟩/\codeIn K cdv qual=true
 kp:keepIn K (.ref f)=true
section
variable {P:za}{w:Af}{K:Ω}{mg:Str->Option Value}{base:yp}
theorem Fun.ok{x qual:Str}{st:Stmt}{f:Addr}{fd:yn}{N ps:List Str}{k:Nat}{sp:Sp}(F:Fun K x qual st f fd)(S:jL N ps (jG st))(len:∀vs H Q E,sp vs H Q E->vs.length=ps.length)
  (hbody:∀(cdv:Value) (A:yr) (outer:List Env) (s:ι) (H:Hp) (vs:List V) (Q:VK) (E:XK),vB k (A.deeper (envOfC qual (jG st) s.heap.objs.size f cdv))->sp vs H Q E →
   ∃t,PSs (dF CX0 P w K mg base N qual (jG st) f cdv A outer s H E).nox (vW st) t/\t { nx:=fun _ H'=>Q .non H',rt:=Q } (start N vs) H):jK P w K mg base CX0 (k+1) f fd ps sp:=by
 obtain⟨oc,od,kV,doc,pm,an,cdv,ct,osl,rfl,lk,hcd⟩:=F.ex;refine aQc lk hcd S len fun A outer s H vs Q E hr hsp=>?_;obtain⟨t,h,q⟩:=hbody cdv A outer s H vs Q E hr hsp;exact⟨t,h.nox,q⟩
theorem Fun.binds{x qual:Str}{st:Stmt}{f:Addr}{fd:yn}{ps:List Str}(F:Fun K x qual st f fd)
  (h:∀(kV doc pm:Value) (an:Option Addr) (cdv ct:Value) (us:List Value),us.length=ps.length->bindArgs (fnOf x qual (cS st) (vW st) (jG st) .none kV doc pm an cdv ct) ⟨us,[]⟩=pure (ps.zip us)):Binds K fd ps []:=by
 obtain⟨oc,od,kV,doc,pm,an,cdv,ct,osl,rfl,lk,hcd⟩:=F.ex;exact .all (h kV doc pm an cdv ct)
theorem aLj{x qual:Str}{st:Stmt}{f:Addr}{oc:Value}{od an:Option Addr}{osl:Array (Option Value)}{kV doc pm cdv ct:Value}(l:K.lookup f=some ⟨oc,od,.func (fnOf x qual (cS st) (vW st) (jG st) .none kV doc pm an cdv ct),osl⟩)
  (c:codeIn K cdv qual=true)(k:keepIn K (.ref f)=true):Fun K x qual st f (fnOf x qual (cS st) (vW st) (jG st) .none kV doc pm an cdv ct):=⟨⟨oc,od,kV,doc,pm,an,cdv,ct,osl,rfl,l,c⟩,k⟩
end
theorem qG{n:Nat}(h:n<=1000):n<Δ:=zx h (by decide)
section
variable {X:Cx}
theorem pv(i:Nat)(hN:X.N[i]?=some x:=by rfl)(hv:Vis X.env.scope x:=by first|exact yl rfl|exact Or.inr (yl rfl)|exact Or.inr (Or.inr rfl))(hd:(x == ("__debug__" : Str))=false:=by decide)
  (hcd:(x == ("__classdict__" : Str))=false:=by decide):PE X (.Name x pos) (tVar i):=aQv hN hv hd hcd
end
theorem pV{A B:Prop}(h:B):if false=true then A else B:=by
 rw[if_neg ρ];exact h
theorem aIh{A B:Prop}(h:A):if true=true then A else B:=by
 rw[if_pos rfl];exact h
theorem qP{c A B:Prop}[Decidable c](h1:c->A)(h2:¬ c->B):if c then A else B:=by
 by_cases h:c
 ·rw[if_pos h];exact h1 h
 ·rw[if_neg h];exact h2 h
def jJ (H H':Hp):Prop:=∀b o,H b=some o->H' b=some o
theorem jJ.refl(H:Hp):jJ H H:=fun _ _ h=>h
theorem jJ.trans(a:jJ H H1)(b:jJ H1 H2):jJ H H2:=fun c o h=>b c o (a c o h)
theorem jJ.free{H H':Hp}(e:jJ H H')(h:H' l=Option.none):H l=Option.none:=by
 cases q:H l with
 |none=>rfl
 |some o =>
  rw[e l o q]at h;cases h
theorem jJ.seq{K:Ω}(e:jJ H H')(h:SqL K H a xs):SqL K H' a xs:=by
 rcases h with (h|⟨o,h⟩)|h
 ·exact .inl (.inl (e _ _ h))
 ·exact .inl (.inr ⟨o,e _ _ h⟩)
 ·exact .inr h
end L2
set_option maxHeartbeats 4000000
namespace L2
open PySem PySem.Spec PyProof.Rows
theorem kG.getR:∀{xs:List V}{us:List Value}{i:Nat}{u:Value},kG xs us->us[i]?=some u->∃x,xs[i]?=some x/\RelV x u
 |_,_,_,_,.nil,e=>by simp at e
 |_,_,0,_,.cons r _,e=>by simp at e;subst e;exact⟨_,rfl,r⟩
 |_,_,i+1,u,.cons _ t,e=>by
  obtain⟨x,h1,h2⟩:=kG.getR (i:=i) (u:=u) t (by simpa using e);exact⟨x,by simpa using h1,h2⟩
def isa (t T:String):Bool:=t == T||(t == "bool" && T == "int")
def tyN (K:Ω) (x:V) (H:Hp) (t:String):Prop :=
 match x with
 |.non=>t = "NoneType"
 |.bl _=>t = "bool"
 |.int _=>t = "int"
 |.str _=>t = "str"
 |.ref p=>(t = "list"/\∃xs,SqL K H p xs)\/(t = "tuple"/\∃xs,SqT K H p xs)
 |_=>False
def tO:List String:=["int","bool","str","list","tuple","dict"]
section
variable {X:Cx}
theorem iF:vP X (.builtin "isinstance") (fun xs H Q=>∃x T t,xs=[x,.ty T]/\T∈tO/\tyN X.K x H t/\Q (.bl (isa t T)) H):=by
 intro pins s σ H xs us Q I r h;obtain⟨x,T,t,rfl,hT,ht,q⟩:=h;obtain⟨u,w',rfl,rx,rT⟩:=vals2 r;cases rT;have hT':T = "int" ∨ T = "bool" ∨ T = "str" ∨ T = "list" ∨ T = "tuple" ∨ T = "dict":=by simpa [tO] using hT
 have fin:∀{k:Bool}{s':ι},isa t T=k->Inv X pins σ H s'->EP X pins σ Q (.bool k) s':=fun {k s'} e I'=>by subst e;exact⟨.bl _,H,I',rfl,q⟩
 cases x with
 |non =>
  cases rx;have ht':t = "NoneType":=ht;subst ht';rcases hT' with rfl|rfl|rfl|rfl|rfl|rfl
  ·exact IsiPair.NoneType_int (fin (by decide) (I.tok _))
  ·exact IsiPair.NoneType_bool (fin (by decide) (I.tok _))
  ·exact IsiPair.NoneType_str (fin (by decide) (I.tok _))
  ·exact IsiPair.NoneType_list (fin (by decide) (I.tok _))
  ·exact IsiPair.NoneType_tuple (fin (by decide) (I.tok _))
  ·exact IsiPair.NoneType_dict (fin (by decide) (I.tok _))
 |bl b =>
  cases rx;have ht':t = "bool":=ht;subst ht';rcases hT' with rfl|rfl|rfl|rfl|rfl|rfl
  ·exact IsiPair.bool_int (fin (by decide) I)
  ·exact IsiPair.bool_bool (fin (by decide) I)
  ·exact IsiPair.bool_str (fin (by decide) (I.tok _))
  ·exact IsiPair.bool_list (fin (by decide) (I.tok _))
  ·exact IsiPair.bool_tuple (fin (by decide) (I.tok _))
  ·exact IsiPair.bool_dict (fin (by decide) (I.tok _))
 |int i =>
  obtain⟨tk,rfl⟩:=rx;have ht':t = "int":=ht;subst ht';rcases hT' with rfl|rfl|rfl|rfl|rfl|rfl
  ·exact IsiPair.int_int (fin (by decide) I)
  ·exact IsiPair.int_bool (fin (by decide) (I.tok _))
  ·exact IsiPair.int_str (fin (by decide) (I.tok _))
  ·exact IsiPair.int_list (fin (by decide) (I.tok _))
  ·exact IsiPair.int_tuple (fin (by decide) (I.tok _))
  ·exact IsiPair.int_dict (fin (by decide) (I.tok _))
 |str y =>
  obtain⟨tk,rfl⟩:=rx;have ht':t = "str":=ht;subst ht';rcases hT' with rfl|rfl|rfl|rfl|rfl|rfl
  ·exact IsiPair.str_int (fin (by decide) (I.tok _))
  ·exact IsiPair.str_bool (fin (by decide) (I.tok _))
  ·exact IsiPair.str_str (fin (by decide) I)
  ·exact IsiPair.str_list (fin (by decide) (I.tok _))
  ·exact IsiPair.str_tuple (fin (by decide) (I.tok _))
  ·exact IsiPair.str_dict (fin (by decide) (I.tok _))
 |ref p =>
  cases rx;have ht':(t = "list"/\∃xs,SqL X.K H p xs)\/(t = "tuple"/\∃xs,SqT X.K H p xs):=ht;rcases ht' with⟨rfl,ys,hy⟩|⟨rfl,ys,hy⟩
  ·obtain⟨its,rv,⟨o,n,e,hc,_,_⟩,hz⟩:=I.list hy;rcases hT' with rfl|rfl|rfl|rfl|rfl|rfl
   ·exact IsiPair.list_int e hc (fin (by decide) (I.tok _))
   ·exact IsiPair.list_bool e hc (fin (by decide) (I.tok _))
   ·exact IsiPair.list_str e hc (fin (by decide) (I.tok _))
   ·exact IsiPair.list_list e hc (fin (by decide) I)
   ·exact IsiPair.list_tuple e hc (fin (by decide) (I.tok _))
   ·exact IsiPair.list_dict e hc (fin (by decide) (I.tok _))
  ·obtain⟨its,rv,⟨o,e,hc,n,_⟩,hz⟩:=I.tuple hy;rcases hT' with rfl|rfl|rfl|rfl|rfl|rfl
   ·exact IsiPair.tuple_int e hc (fin (by decide) (I.tok _))
   ·exact IsiPair.tuple_bool e hc (fin (by decide) (I.tok _))
   ·exact IsiPair.tuple_str e hc (fin (by decide) (I.tok _))
   ·exact IsiPair.tuple_list e hc (fin (by decide) (I.tok _))
   ·exact IsiPair.tuple_tuple e hc (fin (by decide) I)
   ·exact IsiPair.tuple_dict e hc (fin (by decide) (I.tok _))
 |_=>exact(show False from ht).elim
end
section
variable {prog:za}{w:Af}{A:yr}{E:Value->ι->Prop}
theorem tK{it t:Addr}(hne:t≠it):∀(n i:Nat) (s:ι) (Q:List Value->ι->Prop),s.heap.IsListIter it t i->s.heap.IsList t items->i+n<=items.size →
  (∀h':yp,h'.IsListIter it t (i+n)->Ac it s.heap h'->Q ((items.toList.drop i).take n) { s with heap:=h' })->Φ (xj prog w) A (draw (.ref it) n) Q E s
 |0,i,s,Q,hit,_,_,hQ=>by
  show Φ _ _ (pure []) Q E s;exact τ (by simpa using hQ s.heap hit (Ac.refl ..))
 |n+1,i,s,Q,hit,ht,hle,hQ=>by
  have hlt:i<items.size:=by omega
  show Φ _ _ (BY (.ref it) >>= _) Q E s;refine ζ (wpAny_pyNext_list_item hit ht (x:=items[i]) (by simp[hlt]) fun h1 hit1 hs1=>?_);refine ζ (yv (tK hne n (i+1) _ _ hit1 (ht.extBut hs1.extBut hne) (by omega) fun h2 hit2 hs2=>τ ?_));have hd:items.toList.drop i=items[i]::items.toList.drop (i+1):=by simp[zu,hlt]
  have:=hQ h2 (by rw[show i+(n+1)=i+1+n by omega];exact hit2) (hs1.trans hs2);rw[hd,List.take_succ_cons]at this;exact this
theorem lF{s:ι}{Q:List Value->ι->Prop}(hh:A.handled=none)(ht:s.heap.IsList t items)
  (hQ:∀h':yp,yp.ExtBut s.heap.objs.size s.heap h'->Q items.toList { s with heap:=h' }):Φ (xj prog w) A (unpackItems (.ref t) items.size none) Q E s:=by
 have hlt:t≠s.heap.objs.size:=by obtain⟨o,ho,_⟩:=ht;exact wz (Θ ho)
 unfold unpackItems;refine ζ ?_
 ·unfold notIterableAtAll;refine ζ (wpAny_specialOf ht.typeIs slot_list_iter.lookup ?_);refine τ ?_;simp only[AB,if_false];refine ζ (yv (Ax ht ?_));refine ζ (yv (tK hlt items.size 0 _ _ ⟨_,xb _ rfl,rfl,rfl⟩ (ht.push _) (by omega) fun h1 hit1 hs1=>?_));have hall:List.take items.size (List.drop 0 items.toList)=items.toList:=by
   rw[Dx];exact zh (by simp)
  rw[hall];rw[if_neg (by simp)];have ht1:h1.IsList t items:=(ht.push _).extBut hs1.extBut hlt;refine ζ (yv (wpAny_pyNext_list_end hh hit1 ht1 (by simp) fun h2 he2=>?_));simp only[Option.isSome_none,AB,if_false];refine τ (hQ h2 fun b o hb e=>he2 b o hb (hs1.extBut b o hb (ξ _ e)))
theorem iX{s:ι}{x1}(hh:A.handled=none)(ht:s.heap.IsList t items)
  (hn:(Bi elts env).length=items.size)(hstar:(Bi elts env).findIdx? (·.1)=none)
  (h:∀h':yp,yp.ExtBut s.heap.objs.size s.heap h'->Φ (xj prog w) A (assignInOrder ((Bi elts env).map (·.2)) items.toList) Q E { s with heap:=h' }):
  Φ (xj prog w) A (assign (.Tuple elts x1 pos) env (.ref t)) Q E s:=by
 rw[assign_Tuple];refine ζ (Bp ?_);unfold unpack;rw[hn,hstar];exact ζ (yv (lF hh ht h))
end
section
variable {X:Cx}{pos:Pos}
def gLst (K:Ω) (n:Nat) (t:TGs):TG:=fun v σ H Q=>∃a xs,v=.ref a/\SqL K H a xs/\xs.length=n/\t xs σ H Q
theorem aSg{n:Nat}(hc:X.calm=true)(h:PGs X es t)
  (hn:(Bi es X.env).length=n:=by rfl)(hst:(Bi es X.env).findIdx? (·.1)=none:=by rfl):PG X (.Tuple es k pos) (gLst X.K n t):=by
 intro pins s σ H v u Q I r hw;obtain⟨a,xs,e1,hq,hl,hw⟩:=hw;subst e1;cases r;obtain⟨its,rv,ht,hz⟩:=I.list hq;refine iX (I.ok.hd hc) ht.isList (by simp[hn,←hl,rv.length]) hst fun h' hx=>?_;have I1:Inv X pins σ H { s with heap:=h' }:=I.kept (t':=s.toks) fun b o e=>hx b o (wz (Θ e)) e;exact h pins _ σ H xs _ Q I1 (by simpa using rv) hw
theorem nB(bs:List Bool):(zt bs.length).all (fun i=>bs.getD i false)=bs.all id:=by
 rw[Bj];simp only[yh,List.mem_range,id];constructor
 ·intro h x hx;obtain⟨i,hi,rfl⟩:=List.mem_iff_getElem.mp hx;have:=h i hi;simpa [xh,ν hi] using this
 ·intro h i hi;have:=h bs[i] (Cv hi);simpa [xh,ν hi] using this
theorem sB(hc:X.calm=true):vP X (.builtin "all") (fun xs H Q=>∃(a:Addr) (bs:List Bool),xs=[.ref a]/\SqL X.K H a (bs.map V.bl)/\Q (.bl (bs.all id)) H):=by
 intro pins s σ H xs us Q I r h;obtain⟨a,bs,rfl,ha,q⟩:=h;obtain⟨u,rfl,rx⟩:=vals1 r;cases rx;obtain⟨its,rv,pl,hz⟩:=I.list ha;have hlen:bs.length=its.length:=by have:=rv.length;simpa using this
 have hlt:a≠s.heap.objs.size:=by obtain⟨o,n,ho,_⟩:=pl;exact wz (Θ ho)
 refine call_all_walk (Ax pl.isList ?_);refine⟨s.heap.objs.size,_,_,_,_,_,fun i=>bs.getD i false,rfl,Walks.list (show X.A.in1.handled=none from I.ok.hd hc) _ a hlt its.toArray,⟨⟨_,xb _ rfl,rfl,rfl⟩,pl.isList.push _⟩,?_,fun h' tk hk=>?_⟩
 ·intro i v s' Q' E' hP hQ;have hv:its[i]?=some v:=by simpa using hP
  obtain⟨x,hx,rxv⟩:=rv.getR hv;rw[xw]at hx;cases hb:bs[i]? with
  |none=>rw[hb]at hx;cases hx
  |some b =>
   rw[hb]at hx;cases hx;cases rxv;have e:bs.getD i false=b:=by simp[xh,hb]
   have hQ':Q' (bs.getD i false) s':=hQ;rw[e]at hQ';exact An hQ'
 ·refine⟨.bl (bs.all id),H,I.kept fun b o e=>hk b o (by simp;exact wz (Θ e)) (ξ _ e),?_,q⟩;show Value.bool _=Value.bool _;rw[←nB bs,hlen];simp
end
abbrev Cx.comp (X:Cx) (scope:Scope) (cl:List (Str×Addr)) (N:List Str) (s:ι) (H:Hp) (fp:List Addr) (C:Addr):Cx where
 prog:=X.prog
 w:=X.w
 K:=X.K
 mg:=X.mg
 base:=X.base
 A:=X.A
 N:=N
 s₀:=s
 H₀:=H
 env:=compEnvC scope cl C X.env
 outer:=X.stack
 stack:=X.stack
 ex:=fp
 fn:=fun _=>false
 calm:=X.calm
 pn:=[]
 xe:=fun _ _=>False
def eU (env:Env):List (Str×Addr)->Prop
 |[]=>True
 |p::r=>env.cells.lookup p.1=some p.2/\eU env r
theorem eU.all : ∀{cl:List (Str×Addr)},eU env cl->∀p∈cl,env.cells.lookup p.1=some p.2
 |[],_,p,hp=>by simp at hp
 |_::_,h,p,hp=>(χ.mp hp).elim (fun e=>e ▸ h.1) (eU.all h.2 p)
theorem eU.at(h:eU env cl)(e:cl.lookup x=some c):env.cells.lookup x=some c :=
 h.all (x,c) (Ad e)
def nR (X:Cx) (scope:Scope) (cl:List (Str×Addr)):List Str->List Nat->Prop
 |[],[]=>True
 |y::ys,j::js=>(X.N[j]?=some y/\X.env.kindOf y=some .cell/\(relabel scope X.env).names.lookup y=some .cell/\∃c,cl.lookup y=some c)/\nR X scope cl ys js
 |_,_=>False
theorem nR.get : ∀{ys:List Str}{js:List Nat}{k:Nat}{y:Str},nR X scope cl ys js->ys[k]?=some y →
  ∃j,js[k]?=some j/\X.N[j]?=some y/\X.env.kindOf y=some .cell/\(relabel scope X.env).names.lookup y=some .cell/\∃c,cl.lookup y=some c
 |[],[],k,y,_,e=>by simp at e
 |y'::ys,j::js,0,y,h,e=>by
  simp at e;subst e;exact⟨j,rfl,h.1⟩
 |y'::ys,j::js,k+1,y,h,e=>by
  obtain⟨j',e1,r⟩:=nR.get (k:=k) h.2 (by simpa using e);exact⟨j',by simpa using e1,r⟩
 |[],_::_,_,_,h,_=>h.elim
 |_::_,[],_,_,h,_=>h.elim
theorem nR.len : ∀{ys:List Str}{js:List Nat},nR X scope cl ys js->ys.length=js.length
 |[],[],_=>rfl
 |_::_,_::_,h=>by rw[Ξ,Ξ,nR.len h.2]
 |[],_::_,h=>h.elim
 |_::_,[],h=>h.elim
def iA (k:Nat) (js:List Nat) (σ:St):St:=Cj k none++js.map fun j=>σ.getD j none
def PIf (X:Cx) (ifs:List Expr) (t:TT):Prop :=
 ∀(pins:List (Addr×Obj)) (s:ι) (σ:St) (H:Hp) (Q:Bool->Hp->Prop),Inv X pins σ H s->t σ H Q →
  Φ (xj X.prog X.w) X.A (forIn ifs true fun c r=>if r=true then do let ok ←isTrue c X.env (eval c X.env);pure (BU ok) else pure (BU r)) (TP X pins σ Q) X.xe s
def tYes:TT:=fun _ H Q=>Q true H
theorem qX : PIf X [] tYes:=fun _ _ _ H _ I h=>wpAny_tests_nil ⟨H,I,h⟩
theorem gV(h:PT X c t):PIf X [c] t:=fun pins s σ H Q I hq=>wpAny_tests_one (h pins s σ H Q I hq)
def hJ (J:It) (k:Nat) (js:List Nat) (g:TG) (tc:TT) (te:TE) (σ:St) (Q:VK) (H1:Hp):Prop :=
 ∃W:Nat->Nat->St->List V->Hp->Prop,(∃m,W 0 m (iA k js σ) [] H1)/\∀i m σ' xs H',W i m σ' xs H' →
  (J.stop i H'/\∀p,H' p=none->Q (.ref p) (upd H' p (.lst xs))) ∨
  (J.go i H'/\xs.length<Δ/\∃N:St->List V->Hp->Prop,(∀σ' ys H',N σ' ys H'->∃m',m'<m/\W (i+1) m' σ' ys H') ∧
   ∀x H2,J.yld i H' x H2->g x σ' H2 fun σ3 H3=>tc σ3 H3 fun b H4=>if b=true then te σ3 H4 fun v H5=>N σ3 (xs++[v]) H5 else N σ3 xs H4)
def aJc (wi:TI) (k:Nat) (js:List Nat) (g:TG) (tc:TT) (te:TE):TE:=fun σ H Q=>wi σ H fun J H1=>hJ J k js g tc te σ Q H1
section
variable {prog:za}{w:Af}{A:yr}{R:Result->ι->Prop}{s:ι}
theorem wS{iter:Expr}{acc:Value}(I:Nat->ι->Prop)
  (turn:∀n s,I n s->Φ (xj prog w) A (BY it) (fun r s₁=>match r with
   |none=>R (.ok .next) s₁
   |some v=>Φ (xj prog w) A (CY target it v) (fun _ s₀=>Φ (xj prog w) A (assign target env v) (fun _ s₂ =>
     Φ (xj prog w) A (forIn ifs true fun c r=>if r=true then do let ok ←isTrue c env (eval c env);pure (BU ok) else pure (BU r)) (fun ok s₃ =>
      if ok=true then Φ (xj prog w) A (eval elt env) (fun x s₄ =>
       Φ (xj prog w) A (call (.builtin "list.append") [acc,x]) (fun _ s₅=>∃m,m<n/\I m s₅) (fun _ _=>False) s₄) (fun _ _=>False) s₃
      else ∃m,m<n/\I m s₃) (fun _ _=>False) s₂) (fun _ _=>False) s₀) (fun _ _=>False) s₁) (fun _ _=>False) s)
  (n:Nat)(h:I n s):Cu (xj prog w) A (.compLoop (.ListComp elt [⟨target,iter,ifs,0⟩] scope pos) 0 it acc env) R s:=by
 refine codeAny_loop rfl I (fun n s hI=>?_) n h;show Φ _ A ((compTurn (.ListComp elt [⟨target,iter,ifs,0⟩] scope pos) 0 it acc env).onRaise (fun x=>do noteFrame x env;theTreesLotGoes x)) _ _ s;refine wpAny_noted ?_;rw[compTurn_list];refine ζ (Bp (ζ (ym (turn n s hI) (fun r s₁ h₁=>?_) fun _ _ z=>yf z)));cases r with
 |none=>exact τ h₁
 |some v =>
  refine ζ (ym h₁ (fun _ s₀ h₀=>?_) fun _ _ z=>yf z);refine ζ (ym h₀ (fun _ s₂ h₂=>ζ (ym h₂ (fun ok s₃ h₃=>?_) fun _ _ z=>yf z)) fun _ _ z=>yf z);cases ok with
  |false=>exact τ ⟨rfl,h₃⟩
  |true =>
   exact ζ (ζ (ym h₃ (fun x s₄ h₄=>ζ (ym h₄ (fun _ s₅ h₅=>τ (τ ⟨rfl,h₅⟩)) fun _ _ z=>yf z)) fun _ _ z=>yf z))
end
theorem HOk.but{H:Hp}{h':yp}(x:HOk P w H h)(hn:H C=none)(k:∀b o,b≠C->h.get? b=some o->h'.get? b=some o):HOk P w H h':=fun b u e =>
 (x b u e).stay (fun c v hc q=>k c v (by
  rcases hc with z|z
  ·intro y;rw[←z,y,hn]at e;cases e
  ·intro y;rw[y,hn]at z;cases z) q) (fun _ q=>q) fun _ _ q=>q
theorem HOk.track{H:Hp}(x:HOk P w H h)(hn:H a=none)(new:qK P w (upd H a o) h a o):HOk P w (upd H a o) h:=fun b u e=>by
 by_cases hb:b=a
 ·subst hb;rw[jF]at e;cases e;exact new
 ·rw[jR hb]at e;exact(x b u e).stay (fun _ _ _ q=>q) (fun c q=>by rw[jR (jI q hn)];exact q) fun c xs q=>by rw[jR (jI q hn)];exact q
section
variable {X:Cx}{elt tg iter:Expr}{ifs:List Expr}{scope:Scope}{cl:List (Str×Addr)}{ts ys:List Str}{js:List Nat}{pos:Pos}{wi:TI}{g:TG}{tc:TT}{te:TE}
theorem aHh{i:Nat}(h:(iA k js σ)[i]?=some (some v)):∃n j,i=k+n/\js[n]?=some j/\σ[j]?=some (some v):=by
 unfold iA at h
 by_cases hi:i<k
 ·rw[xo (by simpa using hi),List.getElem?_replicate]at h
  split at h <;> cases h
 ·rw[xa (by simpa using hi),xw,AR]at h;cases e:js[i-k]? with
  |none=>rw[e]at h;cases h
  |some j =>
   rw[e]at h;have h' : σ.getD j none=some v:=zv h;refine⟨i-k,j,by omega,e,?_⟩;rw[xh]at h';cases q : σ[j]? with
   |none=>rw[q]at h';cases h'
   |some o=>rw[q]at h';exact congrArg some h'
theorem aCt{s:ι}{fp:List Addr}{C:Addr}{h1:yp}{t':Nat}(I:Inv X pins σ H s)(hsub:eU X.env cl)(hcap:nR X scope cl ys js)
  (hkind:scope.kind=.function)(hhas:∀x,((relabel scope X.env).names.lookup x=some .cell\/(relabel scope X.env).names.lookup x=some .free)->∃c,cl.lookup x=some c)
  (f2:∀b∈fp,dD X pins H b)(fl:∀b∈fp,b<s.heap.objs.size)(hC:s.heap.objs.size<=C)(hn:h1.Ns C m)(old:∀b o,s.heap.get? b=some o->h1.get? b=some o):
  Inv (X.comp scope cl (ts++ys) s H fp C) [] (iA ts.length js σ) H { s with heap:=h1,toks:=t' }:=by
 obtain⟨mo,hno,hlo⟩:=id I.loc;refine⟨⟨I.ok.mod,hkind,I.ok.glob,I.ok.blt,hC,fun x y c e1 e2=>I.ok.inj x y c (hsub.at e1) (hsub.at e2),fun x hx=>hhas x hx,fun x c z _=>(by cases z),I.ok.hd,I.ok.frames,.inl rfl,
   fun b hb=>⟨wz (υ (fl b hb) hC),fun x c e=>(f2 b hb).2.2.2.2.1 x c (hsub.at e)⟩,I.bs,yb I.ok.bsz I.sz,fun b o e hb=>?_,fun b hb z=>?_,I.stack,I.stkFree⟩,
  rfl,I.bare,Un.kept old,⟨m,hn,fun i x v e1 e2 e3=>?_⟩,fun x c e=>?_,I.hok.fresh hC,fun x c e=>I.freeC x c (hsub.at e),fun p hp=>absurd (show p∈([]:List (Addr×Obj)) from hp) (by simp),I.hok.kept old,?_⟩
 ·-- an object of the base is none of the iterator's
  obtain⟨_,_,_,h3,_⟩:=f2 b hb;rcases h3 with z|z
  ·exact I.ok.noex b o e z
  ·exact absurd (υ (Θ e) (yb I.ok.bsz z)) (Ak _)
 ·obtain⟨_,h1',h2',_⟩:=f2 b hb;rcases χ.mp (I.stkSub b z) with e|e
  ·exact h1' e
  ·exact h2' e
 ·obtain⟨n,j,rfl,ej,es⟩:=aHh e2;have ey:ys[n]?=some x:=by
   have e1':(ts++ys)[ts.length+n]?=some x:=e1;rw[xa (by omega)]at e1';simpa using e1'
  obtain⟨j',ej',hN,hk,hr,c,hc⟩:=hcap.get ey;rw[ej]at ej';cases ej';obtain⟨u,ru,l⟩:=hlo j x v hN es (.inr (.inl hk));refine⟨u,ru,.inr ⟨.inl hr,c,hc,?_⟩⟩;rcases l with⟨k1,_⟩|⟨_,c',hc',⟨o,ho,hd⟩⟩
  ·rw[hk]at k1;cases k1
  ·have:=hsub.at hc;rw[hc']at this;cases this;exact⟨o,old _ o ho,hd⟩
 ·obtain⟨v,o,ho,hd⟩:=I.cell x c (hsub.at e);exact⟨v,o,old _ o ho,hd⟩
 ·show(iA ts.length js σ).length=(ts++ys).length;unfold iA;rw[η,η,AR,ε,hcap.len]
theorem aCo{H3:Hp}{s4:ι}{fp:List Addr}{D:Addr}(I2:Inv X pins σ H2 s2)(f2:∀b∈fp,dD X pins H2 b)
  (I4:Inv (X.comp scope cl N s2 H2 fp C) pins' σ' H3 s4)(hC:s2.heap.objs.size<=C)(hD:s2.heap.objs.size<=D)(hDC:D≠C)(hs':Ac C s4.heap h')(rv:kG xs its)(hz:xs.length<=Δ)(e4:s4.heap.get? D=some { cls:=.type "list",data:=.seq its.toArray n })(hn:H3 D=none):
  Inv X pins σ (upd H3 D (.lst xs)) { s4 with heap:=h' }:=by
 have ext:=hs'.extBut;have neC:∀b o,s2.heap.get? b=some o->b≠C:=fun b o e=>wz (υ (Θ e) hC);have neD:∀b o,s2.heap.get? b=some o->b≠D:=fun b o e=>wz (υ (Θ e) hD);have hok:HOk X.prog X.w (upd H3 D (.lst xs)) h':=by
  have h1:HOk X.prog X.w H3 h':=HOk.but (C:=C) I4.hok I4.free fun b o hb e=>ext b o hb e;exact HOk.track h1 hn ⟨hz,its,n,rv,ext D _ hDC e4⟩
 have B:Un (frs X.stack) fp H2 H3 s2.heap s4.heap:=I4.base;have u:Un (frs X.stack) fp H2 (upd H3 D (.lst xs)) s2.heap h':=by
  refine⟨fun b o e q hb hx=>ext b o (neC b o e) (B.keep b o e q hb hx),fun b o e q hb hx=>?_,fun b o e q hx=>?_,fun b o e hx=>?_,fun b ys q=>?_,fun b o ys q=>?_,fun b ps q=>?_⟩
  ·obtain⟨sl,e1⟩:=B.slot b o e q hb hx;exact⟨sl,ext b _ (neC b o e) e1⟩
  ·rw[jR (neD b o e)];exact B.free b o e q hx
  ·obtain⟨o',e1⟩:=B.there b o e hx;exact⟨o',ext b _ (neC b o e) e1⟩
  ·have:=B.tups b ys q;rw[jR (jI this hn)];exact this
  ·have:=B.frzs b o ys q;rw[jR (jI this hn)];exact this
  ·obtain⟨m1,e1⟩:=B.tbls b ps q;exact⟨m1,by rw[jR (jI e1 hn)];exact e1⟩
 have os:s4.os=s2.os:=I4.os;have gb:=I4.bare;obtain⟨hh,gg,dd,tt,os'⟩:=s4;obtain rfl:os'=s2.os:=os;have fin:=I2.call (h':=h') (g':=gg) (d':=dd) (t':=tt) (ch:=fp) u hok gb fun b hb=>⟨(f2 b hb).2.2.2.1,(f2 b hb).2.1,(f2 b hb).2.2.2.2.1,(f2 b hb).2.2.2.2.2⟩;exact fin
end
abbrev vI (js:List Nat) (σ:St):St:=js.map fun j=>σ.getD j none
def aW (P:Nat->List V->Hp->Prop) (i:Nat) (js:List Nat) (σ:St):St->List V->Hp->Prop:=fun σ' ys H=>P (i+1) ys H/\∃o,σ'=o::vI js σ
theorem xT{K:Ω}{xs:List V}{k:Nat}{tc:TT}{te:TE}{Q:VK}(P:Nat->List V->Hp->Prop)(h0:P 0 [] H1)(hl:∀i ys H,i<=xs.length->P i ys H->SqL K H a xs/\ys.length<=i)(hz:xs.length<Δ)
  (hs:∀i x ys H,xs[i]?=some x->P i ys H->tc (some x::vI js σ) H fun b H2=>if b=true then te (some x::vI js σ) H2 fun v H3=>aW P i js σ (some x::vI js σ) (ys++[v]) H3 else aW P i js σ (some x::vI js σ) ys H2)
  (hd:∀ys H,P xs.length ys H->∀p,H p=none->Q (.ref p) (upd H p (.lst ys)))(hk:k=1:=by rfl):
  hJ (Itl K a) k js (cZ 0) tc te σ Q H1:=by
 subst hk;refine⟨fun i m σ' ys H=>m=xs.length-i/\i<=xs.length/\P i ys H/\∃o,σ'=o::vI js σ,⟨xs.length,by simp,xy _,h0,none,rfl⟩,?_⟩;rintro i m σ' ys H ⟨rfl,hi,p,o,rfl⟩;obtain⟨q,hy⟩:=hl i ys H hi p
 by_cases hlt:i<xs.length
 ·refine .inr ⟨⟨xs,xs[i],q,by simp[hlt]⟩,by omega,aW P i js σ,fun σ3 zs H3 z=>⟨xs.length-(i+1),by omega,rfl,hlt,z.1,z.2⟩,fun x H' y=>?_⟩;obtain⟨e,y⟩:=y;subst e;exact hs i x ys _ (y xs q) p
 ·have e:i=xs.length:=by omega
  subst e;exact .inl ⟨⟨xs,q,μ _⟩,hd ys H p⟩
theorem aCj{K:Ω}{xs:List V}{k:Nat}{tc:TT}{te:TE}{Q:VK}(P:Nat->List V->Hp->Prop)(h0:P 0 [] H1)(hl:∀i ys H,i<=xs.length->P i ys H->SqT K H a xs/\ys.length<=i)(hz:xs.length<Δ)
  (hs:∀i x ys H,xs[i]?=some x->P i ys H->tc (some x::vI js σ) H fun b H2=>if b=true then te (some x::vI js σ) H2 fun v H3=>aW P i js σ (some x::vI js σ) (ys++[v]) H3 else aW P i js σ (some x::vI js σ) ys H2)
  (hd:∀ys H,P xs.length ys H->∀p,H p=none->Q (.ref p) (upd H p (.lst ys)))(hk:k=1:=by rfl):
  hJ (Itt K a) k js (cZ 0) tc te σ Q H1:=by
 subst hk;refine⟨fun i m σ' ys H=>m=xs.length-i/\i<=xs.length/\P i ys H/\∃o,σ'=o::vI js σ,⟨xs.length,by simp,xy _,h0,none,rfl⟩,?_⟩;rintro i m σ' ys H ⟨rfl,hi,p,o,rfl⟩;obtain⟨q,hy⟩:=hl i ys H hi p
 by_cases hlt:i<xs.length
 ·refine .inr ⟨⟨xs,xs[i],q,by simp[hlt]⟩,by omega,aW P i js σ,fun σ3 zs H3 z=>⟨xs.length-(i+1),by omega,rfl,hlt,z.1,z.2⟩,fun x H' y=>?_⟩;obtain⟨e,y⟩:=y;subst e;exact hs i x ys _ (y xs q) p
 ·have e:i=xs.length:=by omega
  subst e;exact .inl ⟨⟨xs,q,μ _⟩,hd ys H p⟩
theorem fV{lo:Int}{n:Nat}{k:Nat}{tc:TT}{te:TE}{Q:VK}(P:Nat->List V->Hp->Prop)(h0:P 0 [] H1)(hl:∀i ys H,i<=n->P i ys H->ys.length<=i)(hz:n<Δ)
  (hs:∀i ys H,i<n->P i ys H->tc (some (.int (lo+i))::vI js σ) H fun b H2=>if b=true then te (some (.int (lo+i))::vI js σ) H2 fun v H3=>aW P i js σ (some (.int (lo+i))::vI js σ) (ys++[v]) H3 else aW P i js σ (some (.int (lo+i))::vI js σ) ys H2)
  (hd:∀ys H,P n ys H->∀p,H p=none->Q (.ref p) (upd H p (.lst ys)))(hk:k=1:=by rfl):
  hJ (Itr lo n) k js (cZ 0) tc te σ Q H1:=by
 subst hk;refine⟨fun i m σ' ys H=>m=n-i/\i<=n/\P i ys H/\∃o,σ'=o::vI js σ,⟨n,by simp,xy _,h0,none,rfl⟩,?_⟩;rintro i m σ' ys H ⟨rfl,hi,p,o,rfl⟩;have hy:=hl i ys H hi p
 by_cases hlt:i<n
 ·refine .inr ⟨hlt,by omega,aW P i js σ,fun σ3 zs H3 z=>⟨n-(i+1),by omega,rfl,hlt,z.1,z.2⟩,fun x H' y=>?_⟩;obtain⟨e,y⟩:=y;subst e;subst y;exact hs i ys _ hlt p
 ·have e:i=n:=by omega
  subst e;exact .inl ⟨μ _,hd ys H p⟩
section
variable {X:Cx}
theorem aOc(K:Ω)(h:X.K=K):IxR X (rIxT K):=h ▸ aJp
theorem rK(K:Ω)(h:X.K=K):IxR X (rIxL K):=h ▸ jZ
end
section
variable {κ : Type} [DecidableEq κ]
def xR (kvs:List (κ×V)) (k : κ):Option V:=(kvs.find? fun kv=>decide (kv.1=k)).map (·.2)
def putK (kvs:List (κ×V)) (k : κ) (v:V):List (κ×V) :=
 if (kvs.any fun kv=>decide (kv.1=k))=true then kvs.map (fun kv=>if kv.1=k then (kv.1,v) else kv) else kvs++[(k,v)]
def aPx (kvs:List (κ×V)) (k : κ):List (κ×V):=kvs.filter fun kv=>decide (kv.1≠k)
theorem eC{p: κ×V}{r:List (κ×V)}{k: κ}(e:p.1=k):xR (p::r) k=some p.2:=by simp[xR,Bl,e]
theorem vU{p: κ×V}{r:List (κ×V)}{k: κ}(e:¬ p.1=k):xR (p::r) k=xR r k:=by simp[xR,Bl,e]
theorem rG(k : κ):∀kvs:List (κ×V),(kvs.any fun kv=>decide (kv.1=k))=(xR kvs k).isSome
 |[]=>rfl
 |p::r=>by
  rw[DR]
  by_cases e:p.1=k
  ·simp only[eC e,decide_eq_true e,Bool.true_or,Option.isSome_some]
  ·rw[vU e,decide_eq_false e,Bool.false_or];exact rG k r
theorem mQ(kvs:List (κ×V))(k : κ)(v:V):(putK kvs k v).length<=kvs.length+1:=by
 unfold putK
 split
 ·rw[ε];omega
 ·rw[η,Ξ,Bm];omega
theorem iO{kvs:List (κ×V)}{k : κ}(v:V)(h:xR kvs k=none):putK kvs k v=kvs++[(k,v)]:=by
 unfold putK;rw[rG,h];exact if_neg (by decide)
theorem zW.isSome_eq(r:zW o u):o.isSome=u.isSome:=by
 cases o with
 |none=>cases u with
  |none=>rfl
  |some _=>exact(show False from r).elim
 |some _=>cases u with
  |none=>exact(show False from r).elim
  |some _=>rfl
theorem zW.getD(r:zW o u)(rd:RelV d d'):RelV (o.getD d) (u.getD d'):=by
 cases o with
 |none=>cases u with
  |none=>exact rd
  |some _=>exact(show False from r).elim
 |some _=>cases u with
  |none=>exact(show False from r).elim
  |some _=>exact r
theorem KV.val(r:KV kvs vs)(k : κ):zW (xR kvs k) (valueAt vs k):=by
 unfold KV at r
 induction r with
 |nil=>exact yg
 | @cons p q ps qs h t ih =>
  obtain⟨h1,h2⟩:=h
  by_cases e:p.1=k
  ·have e':q.1=k:=h1.symm.trans e;have b:valueAt (q::qs) k=some q.2:=by simp[valueAt,Bl,e']
   rw[eC e,b];exact h2
  ·have e':¬ q.1=k:=fun z=>e (h1.trans z);have b:valueAt (q::qs) k=valueAt qs k:=by simp[valueAt,Bl,e']
   rw[vU e,b];exact ih
theorem KV.any(r:KV kvs vs)(k : κ):(kvs.any fun kv=>decide (kv.1=k))=vs.any fun kv=>decide (kv.1=k):=by
 unfold KV at r
 induction r with
 |nil=>rfl
 |cons h t ih=>rw[DR,DR,ih,h.1]
theorem KV.repl(r:KV kvs vs)(k : κ)(ry:RelV y u):
  KV (kvs.map fun kv=>if kv.1=k then (kv.1,y) else kv) (vs.map fun kv=>if kv.1=k then (kv.1,u) else kv):=by
 unfold KV at r ⊢
 induction r with
 |nil=>exact .nil
 | @cons p q ps qs h t ih =>
  rw[zc,zc];refine .cons ?_ ih;obtain⟨h1,h2⟩:=h
  by_cases e:p.1=k
  ·rw[if_pos e,if_pos (h1.symm.trans e)];exact⟨h1,ry⟩
  ·rw[if_neg e,if_neg (fun z=>e (h1.trans z))];exact⟨h1,h2⟩
theorem KV.put(r:KV kvs vs)(k : κ)(ry:RelV y u):KV (putK kvs k y) (stored vs k u):=by
 unfold putK stored;rw[r.any k]
 by_cases e:(vs.any fun kv=>decide (kv.1=k))=true
 ·rw[if_pos e,if_pos e];exact r.repl k ry
 ·rw[if_neg e,if_neg e];exact Do.snoc r ⟨rfl,ry⟩
theorem KV.drop(r:KV kvs vs)(k : κ):KV (aPx kvs k) (without vs k):=by
 unfold KV at r ⊢;unfold aPx without
 induction r with
 |nil=>exact .nil
 | @cons p q ps qs h t ih =>
  obtain⟨h1,h2⟩:=h;rw[DJ,DJ]
  by_cases e:p.1=k
  ·have a:¬ decide (p.1≠k)=true:=by simp[e]
   have b:¬ decide (q.1≠k)=true:=by simp[h1.symm.trans e]
   rw[if_neg a,if_neg b];exact ih
  ·have e':¬ q.1=k:=fun z=>e (h1.trans z);have a:decide (p.1≠k)=true:=by simp[e]
   have b:decide (q.1≠k)=true:=by simp[e']
   rw[if_pos a,if_pos b];exact .cons ⟨h1,h2⟩ ih
theorem KV.keys{kvs:List (κ×V)}{vs:List (κ×Value)}(r:KV kvs vs):kvs.map (·.1)=vs.map (·.1):=by
 unfold KV at r
 induction r with
 |nil=>rfl
 |cons h t ih=>rw[zc,zc,ih,h.1]
theorem KV.length(r:KV kvs vs):kvs.length=vs.length:=CH r
end
theorem mT(r:RelV (kV k) u):(kU P w).is k u=true:=by
 cases k with
 |inl i=>obtain⟨t,e⟩:=(show ∃t,u=Value.int i t from r);subst e;exact aCb P w i t
 |inr x=>obtain⟨t,e⟩:=(show ∃t,u=Value.str x t from r);subst e;exact aCv P w x t
theorem tF : ∀{ks:List Key}{us:List Value},kG (ks.map kV) us->ItemsAre (kU P w) ks us
 |[],_,r=>by rw[List.map_nil]at r;cases r;exact .nil
 |k::ks,_,r=>by
  rw[zc]at r;cases r with
  |cons h t=>exact .cons (mT h) (tF t)
abbrev KT (H:Hp):List (List Key×V)->List (List Key×Addr×Value)->Prop:=Do fun p q=>p.1=q.1/\H q.2.1=some (.tup (p.1.map kV))/\RelV p.2 q.2.2
theorem KT.val(r:KT H kvs xs)(k:List Key):zW (xR kvs k) ((atKey xs k).map (·.2)):=by
 induction r with
 |nil=>exact yg
 | @cons p q ps qs h t ih =>
  obtain⟨h1,_,h2⟩:=h
  by_cases e:p.1=k
  ·have e':q.1=k:=h1.symm.trans e;have b:atKey (q::qs) k=some q.2:=by simp[atKey,Bl,e']
   rw[eC e,b];exact h2
  ·have e':¬ q.1=k:=fun z=>e (h1.trans z);have b:atKey (q::qs) k=atKey qs k:=by simp[atKey,Bl,e']
   rw[vU e,b];exact ih
theorem KT.repl(r:KT H kvs xs)(k:List Key)(ry:RelV y u):
  KT H (kvs.map fun kv=>if kv.1=k then (kv.1,y) else kv) (xs.map (putAt k u)):=by
 induction r with
 |nil=>exact .nil
 | @cons p q ps qs h t ih =>
  rw[zc,zc];refine .cons ?_ ih;obtain⟨h1,h2,h3⟩:=h;unfold putAt
  by_cases e:p.1=k
  ·rw[if_pos e,if_pos (h1.symm.trans e)];exact⟨h1,h2,ry⟩
  ·rw[if_neg e,if_neg (fun z=>e (h1.trans z))];exact⟨h1,h2,h3⟩
theorem KT.put{H:Hp}(r:KT H kvs xs)(k:List Key)(hb:H b=some (.tup (k.map kV)))(ry:RelV y u):
  KT H (putK kvs k y) (storedH xs k b u):=by
 have e:(kvs.any fun kv=>decide (kv.1=k))=(atKey xs k).isSome:=by
  rw[rG,(r.val k).isSome_eq,Option.isSome_map]
 unfold putK storedH;rw[e]
 by_cases q:(atKey xs k).isSome=true
 ·rw[if_pos q,if_pos q];exact r.repl k ry
 ·rw[if_neg q,if_neg q];exact Do.snoc r ⟨rfl,hb,ry⟩
theorem KT.keeps{H H':Hp}(r:KT H kvs xs)(ht:∀b ys,H b=some (.tup ys)->H' b=some (.tup ys)):KT H' kvs xs :=
 Paired.mapP r fun _ _ z=>⟨z.1,ht _ _ z.2.1,z.2.2⟩
section
variable {P:za}{w:Af}{H:Hp}{h:yp}{a:Addr}
theorem aQo(ok:HOk P w H h)(e:Rd H a u):qK P w H h a u:=e.ok ok
theorem oR(ok:HOk P w H h)(e:Rd H a (.dK kvs)):kvs.length<=Δ/\(a == BF)=false/\∃vs,KV kvs vs/\h.DictOf (kU P w) a vs :=
 show qK P w H h a (.dK kvs) from aQo ok e
theorem aAr(ok:HOk P w H h)(e:H a=some (.dK kvs)):kvs.length<=Δ/\(a == BF)=false/\∃vs,KV kvs vs/\h.DictOf (kU P w) a vs:=oR ok (.inl e)
theorem pT{ks:List Key}(ok:HOk P w H h)(e:H a=some (.tup (ks.map kV))):(tupleKind (kU P w)).is h ks a:=by
 obtain⟨_,its,r,o,h1,h2,n,h3⟩:=(show qK P w H h a (.tup (ks.map kV)) from ok a _ e);exact⟨o,its.toArray,n,h1,h2,h3,by simpa using tF r⟩
theorem tZ(ok:HOk P w H h)(e:Rd H a (.dT kvs)):kvs.length<=Δ/\(a == BF)=false ∧
  ∃xs,KT H kvs xs/\h.DictOfH (tupleKind (kU P w)) a xs:=by
 obtain⟨z,y,xs,r,o,es,ep,h1,h2,h3,h4,h5⟩:=(show qK P w H h a (.dT kvs) from aQo ok e);refine⟨z,y,xs,r,o,es,ep,h1,h2,h3,h4,fun x hx=>?_,h5⟩;have all:∀{l:List (List Key×V)}{m:List (List Key×Addr×Value)},KT H l m->∀x∈m,(tupleKind (kU P w)).is h x.1 x.2.1:=by
  intro l m q
  induction q with
  |nil=>intro x hx;exact nomatch hx
  | @cons p q ps qs hq t ih =>
   intro x hx;rcases χ.mp hx with e|hx
   ·subst e;exact pT ok (by rw[←hq.1];exact hq.2.1)
   ·exact ih x hx
 exact all r x hx
end
def zZ (H:Hp) (a:Addr) (y:V) (r:Option V):Prop :=
 (∃kvs k,Rd H a (.dK kvs)/\y=kV k/\r=xR kvs k)\/∃kvs k b,Rd H a (.dT kvs)/\y=.ref b/\H b=some (.tup (k.map kV))/\r=xR kvs k
theorem zZ.k{H:Hp}{a:Addr}{kvs:List (Key×V)}{k:Key}(e:H a=some (.dK kvs)):zZ H a (kV k) (xR kvs k):=.inl ⟨kvs,k,.inl e,rfl,rfl⟩
theorem zZ.t{H:Hp}{k:List Key}(e:H a=some (.dT kvs))(eb:H b=some (.tup (k.map kV))):zZ H a (.ref b) (xR kvs k):=.inr ⟨kvs,k,b,.inl e,rfl,eb,rfl⟩
section
variable {X:Cx}{pins:List (Addr×Obj)}{σ:St}{H:Hp}{s:ι}{a:Addr}{y v:V}{u r:Value}{o:Option V}{A:yr}{E:Value->ι->Prop}
theorem Inv.big(I:Inv X pins σ H s):BF<s.heap.objs.size:=by
 have h:ww<s.heap.objs.size:=(I.mod.glob.keeps I.bk).lt;exact Nat.lt_trans (by decide) h
theorem aIu{Q:Value->ι->Prop}(hu:A.units+1<cLine)(I:Inv X pins σ H s)(g:zZ H a y (some v))(ry:RelV y u)(h:∀w' s',Inv X pins σ H s'->RelV v w'->Q w' s'):
  Φ (xj X.prog X.w) A (getItem (.ref a) u) Q E s:=by
 rcases g with⟨kvs,k,e,ey,l⟩|⟨kvs,k,b,e,ey,eb,l⟩
 ·subst ey;obtain⟨z,hd,vs,rel,dd⟩:=oR I.hok e;obtain⟨w',hw,rw'⟩:=zW.some_of (v:=v) (o:=valueAt vs k) (by rw[l];exact rel.val k);exact wpAny_getItem_of (mT ry) dd.mapOf hw (h w' _ (I.tok _) rw')
 ·subst ey;cases (show u=xg b from ry);obtain⟨z,hd,xs,rel,dd⟩:=tZ I.hok e;obtain⟨w',hw,rw'⟩:=zW.some_of (v:=v) (o:=(atKey xs k).map (·.2)) (by rw[l];exact rel.val k);obtain⟨p,hp,hp2⟩:=Option.map_eq_some_iff.mp hw;refine wpAny_getItem_heap (Di hu) (pT I.hok eb) dd hp ?_;rw[hp2];exact h w' _ (I.tok _) rw'
theorem d_in{Q:Value->ι->Prop}(hu:A.units+1<cLine)(I:Inv X pins σ H s)(g:zZ H a y o)(ry:RelV y u)(h:∀s',Inv X pins σ H s'->Q (.bool o.isSome) s'):
  Φ (xj X.prog X.w) A (Ab .In u (.ref a)) Q E s:=by
 rcases g with⟨kvs,k,e,ey,l⟩|⟨kvs,k,b,e,ey,eb,l⟩
 ·subst ey;obtain⟨z,hd,vs,rel,dd⟩:=oR I.hok e;refine wpAny_in_of (mT ry) hd dd.mapOf ?_;rw[←(rel.val k).isSome_eq,←l];exact h _ (I.tok _)
 ·subst ey;cases (show u=xg b from ry);obtain⟨z,hd,xs,rel,dd⟩:=tZ I.hok e;refine wpAny_in_heap (Di hu) (pT I.hok eb) hd dd ?_;have q:=(rel.val k).isSome_eq;rw[Option.isSome_map]at q;rw[←q,←l];exact h _ (I.tok _)
theorem aNa{Q:Value->ι->Prop}(hu:A.units+1<cLine)(I:Inv X pins σ H s)(g:zZ H a y o)(ry:RelV y u)(h:∀s',Inv X pins σ H s'->Q (.bool (!o.isSome)) s'):
  Φ (xj X.prog X.w) A (Ab .NotIn u (.ref a)) Q E s:=by
 rcases g with⟨kvs,k,e,ey,l⟩|⟨kvs,k,b,e,ey,eb,l⟩
 ·subst ey;obtain⟨z,hd,vs,rel,dd⟩:=oR I.hok e;refine wpAny_notIn_of (mT ry) hd dd.mapOf ?_;rw[←(rel.val k).isSome_eq,←l];exact h _ (I.tok _)
 ·subst ey;cases (show u=xg b from ry);obtain⟨z,hd,xs,rel,dd⟩:=tZ I.hok e;refine wpAny_notIn_heap (Di hu) (pT I.hok eb) hd dd ?_;have q:=(rel.val k).isSome_eq;rw[Option.isSome_map]at q;rw[←q,←l];exact h _ (I.tok _)
theorem wA{t':Nat}{ob:HO}(I:Inv X pins σ H s)(mu:Mut (H a))(hs:Ac a s.heap h')(he:∃q,h'.get? a=some q)(new:qK X.prog X.w (upd H a ob) h' a ob):
  Inv X pins σ (upd H a ob) { s with heap:=h',toks:=t' } :=
 I.write (x:=a) (e:=a) mu (.inl rfl) (fun b q hb z=>(hs.2 b hb).trans z) he new
theorem pB{h':yp}{kvs:List (Key×V)}(z:kvs.length<=Δ)(hd:(a == BF)=false)(rel:KV kvs vs)(dd:h'.DictOf (kU P w) a vs):
  qK P w H' h' a (.dK kvs):=⟨z,hd,vs,rel,dd⟩
end
def NoSl (i:Expr):Prop:=∀ov iv,subscripted i false ov iv=operate [ov,iv] (getItem ov iv)
theorem aPm{prog:za}{w:Af}{A:yr}{E:Value->ι->Prop}{s:ι}{env:Env}{value slice:Expr}{pos:Pos}{T id:String}{Q:Value->ι->Prop}
  (hl:Ck (.type T) "__getitem__" = pure (some (.builtin id)))(hs:NoSl slice)
  (h:Φ (xj prog w) A (eval value env) (fun o s₁=>Φ (xj prog w) A (eval slice env) (fun i s₂=>s₂.TypeIs o T/\Φ (xj prog w) A (getItem o i) Q E s₂) E s₁) E s):
  Φ (xj prog w) A (eval (.Subscript value slice pos) env) Q E s:=by
 refine Subscript_ (ym h (fun o s₁ h₁=>ym h₁ (fun i s₂ h₂=>?_) fun _ _ x=>x) fun _ _ x=>x);obtain⟨hT,h₂⟩:=h₂;unfold subscriptTail;refine ζ ?_;rw[getitemInPython_of_ne hT.not_modules];refine ζ (wpAny_specialOf hT hl ?_);have fin:Φ (xj prog w) A (subscripted slice false o i) (fun r s₃=>Φ (xj prog w) A (letTemporaryGo value o r >>= fun _=>pure r) Q E s₃) E s₂:=by
  rw[hs o i];exact wpAny_operating (ym h₂ (fun r s₃ h₃=>ζ (wpAny_letTemporaryGo (τ h₃))) fun _ _ x=>x)
 first
  |exact τ (ζ fin)
  |exact ζ (τ (ζ fin))
  |exact ζ fin
theorem aBi(I:Inv X pins σ H s)(g:zZ H a y o):s.TypeIs (.ref a) "dict":=by
 rcases g with⟨kvs,k,e,_,_⟩|⟨kvs,k,b,e,_,_,_⟩
 ·obtain⟨_,_,vs,_,dd⟩:=oR I.hok e;exact dd.typeIs
 ·obtain⟨_,_,xs,_,dd⟩:=tZ I.hok e;exact dd.typeIs
def tDGet (td ty:TE):TE:=fun σ H Q=>td σ H fun x H1=>ty σ H1 fun y H2=>∃a v,x=.ref a/\zZ H2 a y (some v)/\Q v H2
def tDIn (ty td:TE):TE:=fun σ H Q=>ty σ H fun y H1=>td σ H1 fun x H2=>∃a o,x=.ref a/\zZ H2 a y o/\Q (.bl o.isSome) H2
def aNf (ty td:TE):TE:=fun σ H Q=>ty σ H fun y H1=>td σ H1 fun x H2=>∃a o,x=.ref a/\zZ H2 a y o/\Q (.bl (!o.isSome)) H2
section
variable {X:Cx}{o i e value:Expr}{pos pos' tpos:Pos}{td ty tv:TE}
theorem cW(hu:X.A.units+1<cLine)(ho:PE X o td)(hi:PE X i ty)(hs:NoSl i):PE X (.Subscript o i pos) (tDGet td ty):=by
 intro pins s σ H Q I h;refine aPm PySem.F.slot_dict_getitem.lookup hs (thn (ho pins s σ H _ I h) fun u s1 ⟨x,H1,I1,rx,q1⟩=>thn (hi pins s1 σ H1 _ I1 q1) fun iv s2 zq=>?_);obtain⟨y,H2,I2,ry,a,v,ex,g,q2⟩:=zq;subst ex;obtain rfl:u=xg a:=rx;exact⟨aBi I2 g,aIu hu I2 g ry fun w' s3 I3 rw'=>⟨v,H2,I3,rw',q2⟩⟩
theorem uO(hu:X.A.units+1<cLine)(hi:PE X i ty)(ho:PE X o td):PC X .In i o (tDIn ty td):=by
 intro pins s σ H Q I h;refine thn (hi pins s σ H _ I h) fun iv s1 ⟨y,H1,I1,ry,q1⟩=>thn (ho pins s1 σ H1 _ I1 q1) fun u s2 zq=>?_;obtain⟨x,H2,I2,rx,a,ov,ex,g,q2⟩:=zq;subst ex;obtain rfl:u=xg a:=rx;exact d_in hu I2 g ry fun s3 I3=>⟨.bl ov.isSome,H2,I3,rfl,q2⟩
theorem aIs(hu:X.A.units+1<cLine)(hi:PE X i ty)(ho:PE X o td):PC X .NotIn i o (aNf ty td):=by
 intro pins s σ H Q I h;refine thn (hi pins s σ H _ I h) fun iv s1 ⟨y,H1,I1,ry,q1⟩=>thn (ho pins s1 σ H1 _ I1 q1) fun u s2 zq=>?_;obtain⟨x,H2,I2,rx,a,ov,ex,g,q2⟩:=zq;subst ex;obtain rfl:u=xg a:=rx;exact aNa hu I2 g ry fun s3 I3=>⟨.bl (!ov.isSome),H2,I3,rfl,q2⟩
end
theorem aCc(h:yp)(hb:BF<h.objs.size):qK P w H (h.push { cls:=.type "dict",data:=.dict #[] }) h.objs.size (.dK []) :=
 ⟨xy _,beq_eq_false_iff_ne.mpr (Ag (wz hb)),[],.nil,yp.DictOf.new h⟩
def aEl:List (TE×TE)->St->Hp->(List (V×V)->Hp->Prop)->Prop
 |[],_,H,Q=>Q [] H
 | (tk,tv)::r,σ,H,Q=>tk σ H fun x H1=>tv σ H1 fun y H2=>aEl r σ H2 fun ps H3=>Q ((x,y)::ps) H3
abbrev VV:List (V×V)->List (Value×Value)->Prop:=Do fun p q=>RelV p.1 q.1/\RelV p.2 q.2
def PPs (X:Cx) (pos:Pos) (keys:List (Option Expr)) (values:List Expr) (trs:List (TE×TE)):Prop :=
 ∀(pins:List (Addr×Obj)) (s:ι) (σ:St) (H:Hp) (Q:List (V×V)->Hp->Prop),Inv X pins σ H s->aEl trs σ H Q →
  Φ (xj X.prog X.w) X.A (evalPairs (pairTrees keys values X.env pos)) (fun vs s'=>∃ps H',Inv X pins σ H' s'/\VV ps vs/\Q ps H') X.xe s
theorem aFx : PPs X pos [] [] []:=fun pins s σ H Q I h=>pairTrees_nil_walk ⟨[],H,I,.nil,h⟩
theorem iY(hk:PE X k tk)(hv:PE X v tv)(hr:PPs X pos ks vs trs):
  PPs X pos (some k::ks) (v::vs) ((tk,tv)::trs):=fun pins s σ H Q I h =>
 pairTrees_cons_walk (thn (hk pins s σ H _ I h) fun u s1 ⟨x,H1,I1,rx,q1⟩=>thn (hv pins s1 σ H1 _ I1 q1) fun w2 s2 ⟨y,H2,I2,ry,q2⟩ =>
  thn (hr pins s2 σ H2 _ I2 q2) fun ws s3 ⟨ps,H3,I3,rel,q3⟩=>⟨(x,y)::ps,H3,I3,.cons ⟨rx,ry⟩ rel,q3⟩)
def vT (kvs more:List (Key×V)):List (Key×V):=more.foldl (fun acc kv=>putK acc kv.1 kv.2) kvs
theorem KV.merge:∀{more:List (Key×V)}{rs:List (Key×Value)}{kvs:List (Key×V)}{vs:List (Key×Value)},KV more rs->KV kvs vs->KV (vT kvs more) (merged vs rs):=by
 intro more rs kvs vs r;unfold KV at r
 induction r generalizing kvs vs with
 |nil=>intro q;exact q
 | @cons p q ps qs h t ih =>
  intro r0;have e:KV (putK kvs p.1 p.2) (stored vs q.1 q.2):=by
   have:=r0.put p.1 h.2;rw[←h.1];exact this
  exact ih e
theorem yX:∀(more kvs:List (Key×V)),(vT kvs more).length<=kvs.length+more.length
 |[],kvs=>by show kvs.length<=kvs.length+0;omega
 |p::r,kvs=>by
  have h1:=yX r (putK kvs p.1 p.2);have h2:=mQ kvs p.1 p.2;show(vT (putK kvs p.1 p.2) r).length<=_;rw[Ξ];omega
theorem pP : ∀{kvs:List (Key×V)}{ws:List (Value×Value)},VV (kvs.map fun kv=>(kV kv.1,kv.2)) ws->∃rs,Carries (kU P w) ws rs/\KV kvs rs
 |[],_,r=>by rw[List.map_nil]at r;cases r;exact⟨[],yg,.nil⟩
 |p::kvs,_,r=>by
  rw[zc]at r;cases r with
  | @cons a b as bs h t =>
   obtain⟨rs,c,q⟩:=pP (P:=P) (w:=w) t;obtain⟨b1,b2⟩:=b;exact⟨(p.1,b2)::rs,⟨mT h.1,rfl,c⟩,.cons ⟨rfl,h.2⟩ q⟩
def tDisp (trs:List (TE×TE)):TE:=fun σ H Q=>∀p,H p=none->aEl trs σ (upd H p (.dK [])) fun ps H2=>H2 p=some (.dK [])/\∃kvs:List (Key×V),ps=kvs.map (fun kv=>(kV kv.1,kv.2))/\kvs.length<=15/\Q (.ref p) (upd H2 p (.dK (vT [] kvs)))
theorem aFk(h:PPs X pos keys values trs)(hall:keys.all (·.isSome)=true)(hl:keys.length=values.length)(h0:keys≠[])
  (h15:keys.length<=15):PE X (.Dict keys values pos) (tDisp trs):=by
 intro pins s σ H Q I q;have hn:=I.hok.fresh (μ s.heap.objs.size);have I1:=I.laid (a:=s.heap.objs.size) (o:=.dK []) (h':=s.heap.push { cls:=.type "dict",data:=.dict #[] }) (t':=s.toks) (fun _ _ q=>ξ _ q) (μ _) (aCc s.heap I.big);refine wpAny_Dict_walk (knd:=kU X.prog X.w) hall hl h0 h15 (thn (h pins _ σ _ _ I1 (q _ hn)) fun ws s2 zq=>?_);obtain⟨ps,H2,I2,rel,e,kvs,ep,lk,q2⟩:=zq;subst ep;obtain⟨rs,c,rk⟩:=pP (P:=X.prog) (w:=X.w) rel;obtain⟨z,hd,vs0,r0,dd⟩:=aAr I2.hok e;cases r0;refine⟨rs,c,dd,fun h' dd' hs=>⟨.ref s.heap.objs.size,_,?_,rfl,q2⟩⟩;have hz:(vT [] kvs).length<=Δ:=by
  have h1:=yX kvs [];rw[Bm]at h1;rw[ς];omega
 have he:∃q,h'.get? s.heap.objs.size=some q:=let ⟨q,_,_,hq,_⟩:=dd'; ⟨q,hq⟩;exact wA I2 (by rw[e];exact yg) hs he (pB hz hd (rk.merge .nil) dd')
structure M2 (X:Cx) (o:Expr) (m:Str) (apos:Pos) (e f:Expr) (cpos:Pos):Prop where
 base:AZ o m X.env (eval o X.env)=eval o X.env
 few:((AQ cpos (xi [e,f] X.env)).all (fun x=>!x.1)&&(Ds cpos (BE [] X.env)).all (fun x=>x.1.isSome)
  && decide (([e,f]:List Expr).length+([]:List Keyword).length+(if ([]:List Keyword).isEmpty then 0 else 1)<30))=true
 line:(apos.endLine == cpos.line)=true
 trees:AQ cpos (xi [e,f] X.env)=[(false,eval e X.env),(false,eval f X.env)]
def IsD (H:Hp) (a:Addr):Prop:=(∃kvs,Rd H a (.dK kvs))\/∃kvs,Rd H a (.dT kvs)
theorem aQs(I:Inv X pins σ H s)(d:IsD H a):
  s.TypeIs (.ref a) "dict"/\(∀b,xg a=.ref b->∃ob,s.heap.get? b=some ob/\ob.dict=none)/\(a == BF)=false:=by
 rcases d with⟨kvs,e⟩|⟨kvs,e⟩
 ·obtain⟨_,hd,vs,_,dd⟩:=oR I.hok e;refine⟨dd.typeIs,fun b q=>?_,hd⟩;cases q;obtain⟨ob,_,_,h1,h2,_⟩:=dd;exact⟨ob,h1,h2.2.1⟩
 ·obtain⟨_,hd,xs,_,dd⟩:=tZ I.hok e;refine⟨dd.typeIs,fun b q=>?_,hd⟩;cases q;obtain⟨ob,_,_,h1,h2,_⟩:=dd;exact⟨ob,h1,h2.2.1⟩
section
variable {X:Cx}{pins:List (Addr×Obj)}{σ:St}{H:Hp}{s:ι}{a:Addr}{y d:V}{u r:Value}{o:Option V}{A:yr}{E:Value->ι->Prop}
theorem aQw{Q:Value->ι->Prop}(hu:A.units+1<cLine)(I:Inv X pins σ H s)(g:zZ H a y o)(ry:RelV y u)(rd:RelV d r)(h:∀w' s',Inv X pins σ H s'->RelV (o.getD d) w'->Q w' s'):
  Φ (xj X.prog X.w) A (call (.builtin "dict.get") [.ref a,u,r]) Q E s:=by
 rcases g with⟨kvs,k,e,ey,l⟩|⟨kvs,k,b,e,ey,eb,l⟩
 ·subst ey;obtain⟨z,hd,vs,rel,dd⟩:=oR I.hok e;refine call_meetsIn DD dd.typeIs PySem.F.entry_dict_get (PySem.F.args_dict_get_3 _ _ _) (meets_dict_get_default (kU X.prog X.w) a (mT ry) hd r) ⟨_,dd.mapOf,h _ _ (I.tok _) ?_⟩;rw[l];exact(rel.val k).getD rd
 ·subst ey;cases (show u=xg b from ry);obtain⟨z,hd,xs,rel,dd⟩:=tZ I.hok e;refine call_meetsIn DD dd.typeIs PySem.F.entry_dict_get (PySem.F.args_dict_get_3 _ _ _) (meetsH_dict_get_default (tupleKind (kU X.prog X.w)) a b hd r) ⟨Di hu,k,xs,pT I.hok eb,dd,h _ _ (I.tok _) ?_⟩;rw[l];exact(rel.val k).getD rd
end
def aRl (td ty tx:TE):TE:=fun σ H Q=>td σ H fun x H1=>∃a,x=.ref a/\IsD H1 a/\ty σ H1 fun y H2=>tx σ H2 fun z H3=>∃o,zZ H3 a y o/\Q (o.getD z) H3
section
variable {X:Cx}{o e f:Expr}{apos cpos:Pos}{td ty tx:TE}
theorem aKi(hu:X.A.units+1<cLine)(ho:PE X o td)(he:PE X e ty)(hf:PE X f tx)(m:M2 X o "get" apos e f cpos):PE X (.Call (.Attribute o "get" apos) [e,f] [] cpos) (aRl td ty tx):=by
 intro pins s σ H Q I h;refine wpAny_Call_method m.base m.few m.line PySem.F.plainAttrs_dict DD PySem.F.type_dict_get (thn (ho pins s σ H _ I h) fun u s1 zq=>?_);obtain⟨x,H1,I1,rx,a,ex,d,q1⟩:=zq;subst ex;obtain rfl:u=xg a:=rx;obtain⟨t1,t2,_⟩:=aQs I1 d;refine⟨t1,t2,?_⟩;rw[m.trees];refine BN rfl (Cm (Bs (thn (he pins s1 σ H1 _ I1 q1) fun iv s2 ⟨y,H2,I2,ry,q2⟩ =>
  Bs (thn (hf pins s2 σ H2 _ I2 q2) fun fv s3 ⟨z,H3,I3,rz,ov,g,q3⟩=>Dr ?_))))
 exact aQw hu I3 g ry rz fun w' s4 I4 rw'=>⟨_,H3,I4,rw',q3⟩
end
section
variable {X:Cx}
theorem tL:vP X (.builtin "isinstance") (fun xs H Q=>∃p T kvs,xs=[.ref p,.ty T]/\T∈tO/\H p=some (.dK kvs)/\Q (.bl (isa "dict" T)) H):=by
 intro pins s σ H xs us Q I r h;obtain⟨p,T,kvs,rfl,hT,ht,q⟩:=h;obtain⟨u,w',rfl,rx,rT⟩:=vals2 r;cases rT;cases rx;have hT':T = "int" ∨ T = "bool" ∨ T = "str" ∨ T = "list" ∨ T = "tuple" ∨ T = "dict":=by simpa [tO] using hT
 have fin:∀{k:Bool}{s':ι},isa "dict" T=k->Inv X pins σ H s'->EP X pins σ Q (.bool k) s':=fun {k s'} e I'=>by subst e;exact⟨.bl _,H,I',rfl,q⟩
 obtain⟨_,_,vs,_,o,es,ep,e,hx,_⟩:=I.hok p _ ht;have hc:o.cls=.type "dict":=hx.1;rcases hT' with rfl|rfl|rfl|rfl|rfl|rfl
 ·exact IsiPair.dict_int e hc (fin (by decide) (I.tok _))
 ·exact IsiPair.dict_bool e hc (fin (by decide) (I.tok _))
 ·exact IsiPair.dict_str e hc (fin (by decide) (I.tok _))
 ·exact IsiPair.dict_list e hc (fin (by decide) (I.tok _))
 ·exact IsiPair.dict_tuple e hc (fin (by decide) (I.tok _))
 ·exact IsiPair.dict_dict e hc (fin (by decide) I)
def Itx (x:Str):It:=⟨fun i _=>i<x.cps.size,fun i H v H'=>H'=H/\∃c,x.cps[i]?=some c/\v=.str ⟨#[c]⟩,fun i _=>x.cps.size<=i⟩
theorem aKw{K:Ω}(it:Addr)(x:Str)(t:Tok)(ty:String)
  (hty : ["enumerate","zip","dict_itemiterator","dict_reverseitemiterator","odict_iterator","itertools.zip_longest","itertools.pairwise"].contains ty=false)
  (W:∀A:yr,A.handled=none->Walks P w A it [it] [it] x.cps.size (SignAt x) (fun i h=>h.IsStrIter it ty x t i))
  (hself:∀(A:yr) (i:Nat) (s:ι) (Q:Value->ι->Prop) (E:Value->ι->Prop),s.heap.IsStrIter it ty x t i->Q (.ref it) s->Φ (xj P w) A (pyIter (.ref it)) Q E s):Turn P w K tg (Itx x) [it] it (fun i h=>h.IsStrIter it ty x t i/\i<=x.cps.size) where
 mem:=by simp
 obj:=fun i h st b hb=>by
  have e:b=it:=by simpa using hb
  subst e;obtain⟨⟨o,e,c,d⟩,_⟩:=st;exact⟨o,e,fun v z=>by rw[d]at z;cases z⟩
 keep:=fun i h h' st k=>⟨let ⟨o,ho,r⟩:=st.1; ⟨o,k it (by simp) o ho,r⟩,st.2⟩
 item:=by
  intro X hP hw hK hc i pins s σ H E I hf st hg;subst hP hw hK;obtain⟨f0,f1,f2,f3,f4,f5⟩:=hf it (by simp);refine(W X.A (I.ok.hd hc)).item i s _ _ hg st.1 fun v h' tk hv st' kk=>?_;obtain⟨c,u,hcc,rfl⟩:=hv;have I1:Inv X pins σ H { s with heap:=h',toks:=tk }:=I.turned (fun b o hb e=>kk b o (by simpa using hb) e) f0 f1 f3 f4 f5;obtain⟨o,e,cc,d⟩:=id st';exact⟨_,rfl,aGt (s:={ s with heap:=h',toks:=tk }) e cc d hty ⟨.str ⟨#[c]⟩,H,I1,⟨u,rfl⟩,⟨rfl,c,hcc,rfl⟩,⟨st',hg⟩,fun b hb=>(hf b hb).1⟩⟩
 done:=by
  intro X hP hw hK hc i pins s σ H E I hf st hg;subst hP hw hK;obtain⟨f0,f1,f2,f3,f4,f5⟩:=hf it (by simp);have hi:i=x.cps.size:=Nat.le_antisymm st.2 hg;subst hi;exact(W X.A (I.ok.hd hc)).done s _ _ st.1 fun h' tk eb=>⟨rfl,I.turned (fun b o hb e=>eb b o (by simpa using hb) e) f0 f1 f3 f4 f5⟩
 self:=fun A i s Q E st h=>hself A i s Q E st.1 h
def iStr (tl:TE):TI:=fun σ H R=>tl σ H fun v H1=>∃x,v=.str x/\R (Itx x) H1
theorem aMd(hl:PE X l tl):PI X tg l (iStr tl):=by
 intro pins s σ H R I h;refine thn (hl pins s σ H _ I h) fun v s1 zq=>?_;obtain⟨y,H1,I1,r1,q1⟩:=zq;obtain⟨x,e,q⟩:=q1;subst e;obtain⟨t,rfl⟩:=r1;have fin:∀(ty:String) (o:Obj),["enumerate","zip","dict_itemiterator","dict_reverseitemiterator","odict_iterator","itertools.zip_longest","itertools.pairwise"].contains ty=false →
   (∀A:yr,A.handled=none->Walks X.prog X.w A s1.heap.objs.size [s1.heap.objs.size] [s1.heap.objs.size] x.cps.size (SignAt x) (fun i h=>h.IsStrIter s1.heap.objs.size ty x t i)) →
   (∀(A:yr) (i:Nat) (s:ι) (Q:Value->ι->Prop) (E:Value->ι->Prop),s.heap.IsStrIter s1.heap.objs.size ty x t i->Q (.ref s1.heap.objs.size) s->Φ (xj X.prog X.w) A (pyIter (.ref s1.heap.objs.size)) Q E s) →
   (s1.heap.push o).IsStrIter s1.heap.objs.size ty x t 0->PIE X pins σ tg R (.ref s1.heap.objs.size) { s1 with heap:=s1.heap.push o }:=fun ty o hty W hs st=>by
  refine⟨s1.heap.objs.size,[s1.heap.objs.size],_,_,H1,rfl,I1.kept (t':=s1.toks) fun b o e=>ξ _ e,aKw _ x t ty hty W hs,⟨st,xy _⟩,fun b hb=>?_,q⟩;have e:b=s1.heap.objs.size:=by simpa using hb
  subst e;exact I1.fpOk (μ _) (I1.hok.fresh (μ _))
 cases ha:x.cps.all (·<128)
 ·exact wpAny_pyIter_wide ha (fin "str_iterator" _ (by decide) (fun A hA=>Walks.strWide hA _ x t) (fun A i s Q E st h=>wpAny_pyIter_striter_wide st h) ⟨_,xb _ rfl,rfl,rfl⟩)
 ·exact wpAny_pyIter_ascii ha (fin "str_ascii_iterator" _ (by decide) (fun A hA=>Walks.strAscii hA _ x t) (fun A i s Q E st h=>wpAny_pyIter_striter_ascii st h) ⟨_,xb _ rfl,rfl,rfl⟩)
theorem aCe{x:Str}{k:Nat}{tc:TT}{te:TE}{Q:VK}(P:Nat->List V->Hp->Prop)(h0:P 0 [] H1)(hl:∀i ys H,i<=x.length->P i ys H->ys.length<=i)(hz:x.length<Δ)
  (hs:∀i c ys H,x.cps.toList[i]?=some c->P i ys H->tc (some (.str ⟨#[c]⟩)::vI js σ) H fun b H2=>if b=true then te (some (.str ⟨#[c]⟩)::vI js σ) H2 fun v H3=>aW P i js σ (some (.str ⟨#[c]⟩)::vI js σ) (ys++[v]) H3 else aW P i js σ (some (.str ⟨#[c]⟩)::vI js σ) ys H2)
  (hd:∀ys H,P x.length ys H->∀p,H p=none->Q (.ref p) (upd H p (.lst ys)))(hk:k=1:=by rfl):
  hJ (Itx x) k js (cZ 0) tc te σ Q H1:=by
 subst hk;refine⟨fun i m σ' ys H=>m=x.cps.size-i/\i<=x.cps.size/\P i ys H/\∃o,σ'=o::vI js σ,⟨x.cps.size,by simp,xy _,h0,none,rfl⟩,?_⟩;rintro i m σ' ys H ⟨rfl,hi,p,o,rfl⟩;have hy:=hl i ys H hi p;have hz':x.cps.size<Δ:=hz
 by_cases hlt:i<x.cps.size
 ·refine .inr ⟨hlt,by omega,aW P i js σ,fun σ3 zs H3 z=>⟨x.cps.size-(i+1),by omega,rfl,hlt,z.1,z.2⟩,fun v H' y=>?_⟩;obtain⟨e,c,hc,y⟩:=y;subst e;subst y;exact hs i c ys _ (by simpa using hc) p
 ·have e:i=x.cps.size:=by omega
  subst e;exact .inl ⟨μ _,hd ys H p⟩
theorem aRt(x:Str)(c:Nat):(!(zp x ⟨#[c]⟩ 0 x.length 1).isEmpty)=decide (c∈x.cps.toList):=by
 rw[PyProof.Rows.empty_one,Bool.not_not]
theorem aDi{ys:List Str}: ∀{us:List Value},kG (ys.map V.str) us->StrsAre us ys:=by
 induction ys with
 |nil=>intro us r;cases r;exact .nil
 |cons y ys ih =>
  intro us r;cases r with
  |cons a b=>obtain⟨t,rfl⟩:=a;exact .cons _ _ (ih b)
theorem tM:∀(tk:Nat) (ps:List Str),kG (ps.map V.str) (strsFrom tk ps)
 |_,[]=>.nil
 |tk,p::ps=>.cons ⟨_,rfl⟩ (tM (tk+1) ps)
theorem aA:vP X (.type "int") (fun xs H Q=>∃(x:Str) (n:Int),xs=[.str x]/\PySem.intText? x=some n/\x.length<=640/\Q (.int n) H):=by
 intro pins s σ H xs us Q I r h;obtain⟨x,n,rfl,h1,h2,q⟩:=h;obtain⟨u,rfl,t,rfl⟩:=vals1 r;exact PySem.W.KIN.call_text h1 h2 ⟨.int n,H,I.tok _,⟨_,rfl⟩,q⟩
end
end L2
namespace L2
open PySem
theorem aBp{c k p}{es:List Expr}: xi (.Constant c k p::es) env=(false,eval (.Constant c k p) env)::xi es env:=rfl
theorem aNs{xs p}{es:List Expr}: xi (.List xs p::es) env=(false,eval (.List xs p) env)::xi es env:=rfl
end L2
namespace L2
open PySem PySem.Spec PyProof.Rows
structure PEx (X:Cx) (e:Expr) (t:TE):Prop where
 h:PE X e t
structure PAx (X:Cx) (es:List Expr) (t:TA):Prop where
 h:PA X es t
structure aId (X:Cx) (st:Stmt) (t:TS):Prop where
 h:PS X st t
structure PSx (X:Cx) (sts:List Stmt) (t:TS):Prop where
 h:PSs X sts t
section
variable {X:Cx}{e:Expr}{es:List Expr}{te:TE}{t:TA}{st:Stmt}{rest:List Stmt}{ts us:TS}
theorem aFr:PAx X [] tNil:=⟨jB⟩
theorem xZ(ha:PEx X e te)(hr:PAx X es t)(hs:xi (e::es) X.env=(false,eval e X.env)::xi es X.env):PAx X (e::es) (aQn te t):=⟨jA ha.h hr.h hs⟩
theorem yN(h:PE X e te):PEx X e te:=⟨h⟩
theorem vV(h:PS X st ts):aId X st ts:=⟨h⟩
theorem qL(h1:aId X st ts)(h2:PSx X rest us):PSx X (st::rest) (qV ts us):=⟨jC h1.h h2.h⟩
theorem oH(h1:aId X st ts):PSx X [st] ts:=⟨jD h1.h⟩
end
section
variable {X:Cx}
inductive aFl (K:Ω) (x:V) (y:V) (H:Hp) (Q:VK):Prop|mk:∀l b xs zs,x=.ref l->y=.ref b->SqL K H l xs->SqL K H b zs->xs.length+zs.length<=Δ->(∀p,H p=none->Q (.ref p) (upd H p (.lst (xs++zs))))->aFl K x y H Q
def rCatS (K:Ω):R2:=fun x y H Q=>aFl K x y H Q
theorem aAa(l:Addr)(items:Array Value)(n:Nat)(b:Addr)(items2:Array Value)(n2:Nat)(sl sl2:Array (Option Value))(hc0:items.size+items2.size<=Δ):
  Meets (AH.«list.__add__» ⟨[.ref l,.ref b],[]⟩) (fun _ R s=>s.heap.get? l=some { cls:=.type "list",dict:=none,data:=.seq items n,slots:=sl }/\s.heap.get? b=some { cls:=.type "list",dict:=none,data:=.seq items2 n2,slots:=sl2 }/\R (.ok (.ret (xg s.heap.objs.size))) { s with heap:=s.heap.push { cls:=De "list",data:=Data.seq (items++items2) },toks:=s.toks }) :=
 .of_wp fun prog w A R s h=>by obtain⟨hp,g,d,tk,os⟩:=s;obtain⟨hl,hb,h⟩:=h;have f1:=AutoSeq1.idx_int;have f2:=AutoSeq1.sub_tuple_tuple;have f3:=AutoSeq1.sub_list_list;have f4:=AutoSeq1.sub_tuple_list;have f5:=AutoSeq1.sub_list_tuple;wp_walk using AutoSeq1.wpAny_loadPart' hl,AutoSeq1.wpAny_loadPart' hb;exact⟨_,rfl,h⟩
theorem qN:OpR X (BG .Add) (rCatS X.K):=by
 intro pins s σ H x y v u Q I rx ry h;obtain⟨l,b,xs,zs,rfl,rfl,hH,hB,hz,q⟩:=h;cases rx;cases ry;obtain⟨its,r,⟨o,n,e,hc,hdn,hd⟩,_⟩:=I.list hH;obtain⟨its2,r2,⟨o2,n2,e2,hc2,hdn2,hd2⟩,_⟩:=I.list hB;obtain⟨c,d,dt,sl⟩:=o;obtain⟨c2,d2,dt2,sl2⟩:=o2;cases hc;cases hdn;cases hd;cases hc2;cases hdn2;cases hd2;have l1:=r.length;have l2:=r2.length;refine concat_meets ⟨_,e,rfl⟩ ⟨_,e2,rfl⟩ PySem.noFill_list_add PySem.seq_list_add F.slot_list_add F.entry_list_add (F.args_list_add_2 _ _) (aAa l its.toArray n b its2.toArray n2 sl sl2 (by rw[ψ,ψ];omega)) ⟨e,e2,?_⟩;have ea:its.toArray++its2.toArray=(its++its2).toArray:=by simp
 rw[ea];exact⟨.ref _,_,I.lnew (t':=s.toks) (r.append r2) (by rw[η];omega),rfl,q _ I.fresh⟩
mutual
inductive Dat (K:Ω) (H:Hp):V->Cz->Prop
 |non:Dat K H .non .none
 |bl (b:Bool):Dat K H (.bl b) (.bool b)
 |int (i:Int):Dat K H (.int i) (.int i)
 |str (x:Str):Dat K H (.str x) (.str x)
 |lst {a:Addr}{xs:List V}{ds:List Cz} : SqL K H a xs->DatAll K H xs ds->Dat K H (.ref a) (.list ds)
 |tup {a:Addr}{xs:List V}{ds:List Cz} : SqT K H a xs->DatAll K H xs ds->Dat K H (.ref a) (.tuple ds)
inductive DatAll (K:Ω) (H:Hp):List V->List Cz->Prop
 |nil:DatAll K H [] []
 |cons {x:V}{xs:List V}{d:Cz}{ds:List Cz} : Dat K H x d->DatAll K H xs ds->DatAll K H (x::xs) (d::ds)
end
mutual
theorem Inv.reads(I:Inv X pins σ H s):∀{x:V}{d:Cz}{u:Value},Dat X.K H x d->RelV x u->∃as,Reads s.heap u d as
 |_,_,_,.non,r=>by cases r;exact⟨_,.none⟩
 |_,_,_,.bl b,r=>by cases r;exact⟨_,.bool b⟩
 |_,_,_,.int i,r=>by obtain⟨t,rfl⟩:=r;exact⟨_,.int i t⟩
 |_,_,_,.str x,r=>by obtain⟨t,rfl⟩:=r;exact⟨_,.str x t⟩
 |_,_,_,.lst h ds,r=>by
  cases r;obtain⟨its,rv,⟨o,n,e,hc,_,hd⟩,_⟩:=I.list h;obtain⟨as,ra⟩:=Inv.readsAll I ds rv;exact⟨_,.list e hc hd ra⟩
 |_,_,_,.tup h ds,r=>by
  cases r;obtain⟨its,rv,⟨o,e,hc,n,hd⟩,_⟩:=I.tuple h;obtain⟨as,ra⟩:=Inv.readsAll I ds rv;exact⟨_,.tuple e hc hd ra⟩
theorem Inv.readsAll(I:Inv X pins σ H s):∀{xs:List V}{ds:List Cz}{us:List Value},DatAll X.K H xs ds->kG xs us->∃as,ReadsAll s.heap us ds as
 |_,_,_,.nil,r=>by cases r;exact⟨_,.nil⟩
 |_,_,_,.cons h t,r=>by
  cases r with
  |cons r1 r2 =>
   obtain⟨a1,e1⟩:=Inv.reads I h r1;obtain⟨a2,e2⟩:=Inv.readsAll I t r2;exact⟨_,.cons e1 e2⟩
end
end
mutual
theorem Dat.same{K:Ω}(g:jJ H H'):∀{x:V}{d:Cz},Dat K H x d->Dat K H' x d
 |_,_,.non=>.non
 |_,_,.bl b=>.bl b
 |_,_,.int i=>.int i
 |_,_,.str x=>.str x
 |_,_,.lst h t=>.lst (g.seq h) (DatAll.same g t)
 |_,_,.tup h t=>.tup (by
   rcases h with (h|⟨o,h⟩)|h
   ·exact .inl (.inl (g _ _ h))
   ·exact .inl (.inr ⟨o,g _ _ h⟩)
   ·exact .inr h) (DatAll.same g t)
theorem DatAll.same{K:Ω}(g:jJ H H'):∀{xs:List V}{ds:List Cz},DatAll K H xs ds->DatAll K H' xs ds
 |_,_,.nil=>.nil
 |_,_,.cons h t=>.cons (Dat.same g h) (DatAll.same g t)
end
section
variable {X:Cx}
theorem aKd(hc:X.calm=true):vP X (.builtin "sum") (fun xs H Q=>∃(a:Addr) (ns:List Int),xs=[.ref a]/\SqL X.K H a (ns.map V.int)/\Q (.int ns.sum) H):=by
 intro pins s σ H xs us Q I r h;obtain⟨a,ns,rfl,ha,q⟩:=h;obtain⟨u,rfl,rx⟩:=vals1 r;cases rx;obtain⟨its,rv,pl,_⟩:=I.list ha;have hi:=intsAre_of rv;obtain⟨ys,hy⟩:=hi.allInts.items;refine sum_intListG (I.ok.hd hc) (hy ▸ pl.isList) fun h' tk t' hk=>?_;have e1:ns=ys.toList.map (·.1):=by
  rw[←nums_intItems,←hy];exact(show numsOf its.toArray.toList=ns from hi.numsOf).symm
 rw[preSum_eq,zh (by simp),←e1];exact⟨.int ns.sum,H,I.kept hk,⟨_,rfl⟩,q⟩
end
section
variable {X:Cx}{elt tg iter:Expr}{ifs:List Expr}{scope:Scope}{cl:List (Str×Addr)}{ts ys:List Str}{js:List Nat}{pos:Pos}{wi:TI}{g:TG}{tc:TT}{te:TE}
theorem aCd(ts ys:List Str)(js:List Nat)(hc:X.calm=true)(hi:PI X tg iter wi)(hclos:closureFor scope X.env=pure cl)(hsub:eU X.env cl)(hcap:nR X scope cl ys js)
  (hg:∀s H fp C,PG (X.comp scope cl (ts++ys) s H fp C) tg g)(ht:∀s H fp C,PIf (X.comp scope cl (ts++ys) s H fp C) ifs tc)(he:∀s H fp C,PE (X.comp scope cl (ts++ys) s H fp C) elt te)
  (hkind:scope.kind=.function)(hcell:(scope.names.all fun y=>y.2 != .cell)=true)
  (hnames:(scope.names.all fun y=>y.2 != .local||scope.names.lookup y.1 == some .local)=true)
  (hhas:((relabel scope X.env).names.all fun p=>(p.2 != .cell&&p.2 != .free)||(cl.lookup p.1).isSome)=true)
  (hs:∀x,Cc iter X.env x=pure x){s:ι}{H:Hp}{Q:VK}(I:Inv X pins σ H s)(h:aJc wi ts.length js g tc te σ H Q)
  (hfin:∀{H2 H3:Hp}{s2 s4:ι}{fp:List Addr}{C:Addr}{pins':List (Addr×Obj)}{σ':St}{its:List Value}{xs:List V}{n:Nat},Inv X pins σ H2 s2->(∀b∈fp,dD X pins H2 b)->Inv (X.comp scope cl (ts++ys) s2 H2 fp C) pins' σ' H3 s4->s2.heap.objs.size<=C->s2.heap.objs.size≠C->kG xs its->xs.length<=Δ →
   s4.heap.get? s2.heap.objs.size=some { cls:=.type "list",data:=.seq its.toArray n }->H3 s2.heap.objs.size=none->(∀p,H3 p=none->Q (.ref p) (upd H3 p (.lst xs)))->compPost (xj X.prog X.w) X.A X.xe use QV (.ref s2.heap.objs.size) C (.ok .next) s4):
  Φ (xj X.prog X.w) X.A (comprehension (.ListComp elt [⟨tg,iter,ifs,0⟩] scope pos) scope X.env p0 (newList []) false (eval iter X.env) use) QV X.xe s:=by
 have hcell':∀y∈scope.names,y.2≠.cell:=fun y hy z=>by
  have:=yh.mp hcell y hy;rw[z]at this;exact absurd this (by decide)
 have hnames':∀y∈scope.names,y.2=.local->scope.names.lookup y.1=some .local:=fun y hy z=>by
  have:=yh.mp hnames y hy;rw[z]at this;simpa using this
 have hhas':∀x,((relabel scope X.env).names.lookup x=some .cell\/(relabel scope X.env).names.lookup x=some .free)->∃c,cl.lookup x=some c:=fun x hx=>by
  rcases hx with hx|hx
  ·have:=yh.mp hhas _ (Ad hx);exact Ba.mp (by simpa using this)
  ·have:=yh.mp hhas _ (Ad hx);exact Ba.mp (by simpa using this)
 refine wpAny_comprehension_free (use:=use) rfl hs hclos hkind hnames' (thn (hi pins s σ H _ I h) fun v s1 h1=>thn h1 fun itv s2 h2=>?_);obtain⟨it,fp,tn,J,H2,e,I2,T,st2,f2,W,⟨m0,w0⟩,turn⟩:=h2;subst e;have fl:∀b∈fp,b<s2.heap.objs.size:=fun b hb=>by
  obtain⟨o,e,_⟩:=T.obj _ _ st2 b hb;exact Θ e
 refine Cf (wpAny_newFunctionEnv hcell' (by intro y hy;simp at hy) (fun h₁ hns₁ hsb₁=>?_) hkind);dsimp only at hns₁ hsb₁ ⊢;generalize hHH:s2.heap.push { cls:=.type "list",dict:=none,data:=.seq ([]:List Value).toArray }=HH at hns₁ hsb₁ ⊢;have hC:HH.objs.size=s2.heap.objs.size+1:=by rw[←hHH,ze]
 have hDC:s2.heap.objs.size≠HH.objs.size:=by rw[hC];exact wz (Bq _)
 have hCle:s2.heap.objs.size<=HH.objs.size:=by rw[hC];exact Be _
 have old:∀b o,s2.heap.get? b=some o->h₁.get? b=some o:=fun b o e =>
  hsb₁.extBut b o (wz (υ (Θ e) hCle)) (ξ _ (hHH ▸ ξ _ e))
 have hacc:h₁.get? s2.heap.objs.size=some { cls:=.type "list",data:=.seq ([]:List Value).toArray }:=hsb₁.extBut _ _ hDC (ξ _ (hHH ▸ xb _ rfl));have nofs:∀b,s2.heap.objs.size<=b->b∉frs X.stack:=fun b hb z=>by
  rcases χ.mp (I2.stkSub b z) with e|e
  ·exact absurd (υ I2.lt (e ▸ hb)) (Ak _)
  ·exact I2.nofs hb e
 have nocell:∀b,s2.heap.objs.size<=b->∀x c,cl.lookup x=some c->c≠b:=fun b hb x c e z=>by
  obtain⟨v,q⟩:=I2.cell x c (hsub.at e);exact absurd (υ q.lt (z ▸ hb)) (Ak _)
 have I':Inv (X.comp scope cl (ts++ys) s2 H2 fp HH.objs.size) [] (iA ts.length js σ) H2 { s2 with heap:=h₁,toks:=s2.toks+([]:List (Str×Value)).length } :=
  aCt I2 hsub hcap hkind hhas' f2 fl hCle hns₁ old
 have addPin:∀{σ':St}{H':Hp}{s':ι}{o:Obj},Inv (X.comp scope cl (ts++ys) s2 H2 fp HH.objs.size) [] σ' H' s'->s'.heap.get? s2.heap.objs.size=some o->H' s2.heap.objs.size=none->(∀v,o.data≠.cell v) →
   Inv (X.comp scope cl (ts++ys) s2 H2 fp HH.objs.size) [(s2.heap.objs.size,o)] σ' H' s':=fun {σ' H' s' o} J e n d=>J.pins_of fun p hp=>by
  have e':p=(s2.heap.objs.size,o):=by simpa using hp
  subst e';exact⟨e,n,hDC,nofs _ (μ _),d⟩
 have stat:∀{pins':List (Addr×Obj)}{H':Hp},(∀p∈pins',p.1=s2.heap.objs.size)->(∀b∈fp,H' b=none)->∀b∈fp,dD (X.comp scope cl (ts++ys) s2 H2 fp HH.objs.size) pins' H' b:=fun {pins' H'} hp hn b hb =>
  ⟨hn b hb,wz (υ (fl b hb) hCle),I'.ok.exfs b hb,.inl hb,(I'.ok.exf b hb).2,fun p hq z=>by
   have hq':p∈pins':=by simpa using hq
   exact absurd (fl b hb) (by rw[←z,hp p hq'];exact Ak _)⟩
 have tn1:tn 0 h₁:=T.keep _ _ _ st2 fun b _ o e=>old b o e;have loop:∀s₃ : ι,s₃ = { s2 with heap:=h₁,toks:=s2.toks+([]:List (Str×Value)).length } →
   Cu (xj X.prog X.w) X.A (.compLoop (.ListComp elt [⟨tg,iter,ifs,0⟩] scope pos) 0 (.ref it) (.ref s2.heap.objs.size) (compEnvC scope cl HH.objs.size X.env))
    (compPost (xj X.prog X.w) X.A X.xe use QV (.ref s2.heap.objs.size) HH.objs.size) s₃:=by
  rintro s₃ rfl;refine wS (fun n s'=>∃i σ' xs H' its nn,Inv (X.comp scope cl (ts++ys) s2 H2 fp HH.objs.size) [] σ' H' s'/\kG xs its/\xs.length<=Δ/\s'.heap.get? s2.heap.objs.size=some { cls:=.type "list",data:=.seq its.toArray nn }/\H' s2.heap.objs.size=none ∧
   tn i s'.heap/\(∀b∈fp,H' b=none)/\W i n σ' xs H') ?_ m0 ⟨0,_,[],H2,[],0,I',.nil,xy _,hacc,I2.hok.fresh (μ _),tn1,fun b hb=>(f2 b hb).1,w0⟩
  rintro n s3 ⟨i,σ3,xs,H3,its,nn,I3,rv,hz3,ac3,nD3,st3,fr3,w3⟩;have nd:∀v,({ cls:=.type "list",data:=.seq its.toArray nn } : Obj).data≠.cell v:=fun v z=>by
   have z':Data.seq its.toArray nn=Data.cell v:=z;cases z'
  have I3p:=addPin I3 ac3 nD3 nd;have pinD:∀p∈[(s2.heap.objs.size,({ cls:=.type "list",data:=.seq its.toArray nn } : Obj))],p.1=s2.heap.objs.size:=fun p hp=>by
   rw[ω]at hp;rw[hp]
  rcases turn i n σ3 xs H3 w3 with⟨stop,qn⟩|⟨go,hz,N,hN,step⟩
  ·refine thn (T.done (X.comp scope cl (ts++ys) s2 H2 fp HH.objs.size) rfl rfl rfl hc i _ s3 σ3 H3 (fun _ _=>False) I3p (stat pinD fr3) st3 stop) fun r s4 zq=>?_;obtain⟨hr,I4⟩:=zq;subst hr;have ac4:=(I4.pin _ (xx _ (ω.mpr rfl))).1;exact hfin I2 f2 I4 hCle hDC rv hz3 ac4 nD3 qn
  ·refine thn (T.item (X.comp scope cl (ts++ys) s2 H2 fp HH.objs.size) rfl rfl rfl hc i _ s3 σ3 H3 (fun _ _=>False) I3p (stat pinD fr3) st3 go) fun r s4 zq=>?_;obtain⟨u,hr,h4⟩:=zq;subst hr;refine thn h4 fun _ s5 zq=>?_;obtain⟨x,H5,I5,r5,y5,st5,fr5⟩:=zq;have I5':=I5.pinned (stat pinD fr5) (T.obj _ _ st5);refine thn (hg _ _ _ _ _ s5 σ3 H5 x u _ I5' r5 (step x H5 y5)) fun _ s6 zq=>?_;obtain⟨σ6,H6,I6,q6⟩:=zq;refine thn (ht _ _ _ _ _ s6 σ6 H6 _ I6 q6) fun b s7 zq=>?_;obtain⟨H7,I7,q7⟩:=zq;have facts:∀{σ':St}{H':Hp}{s':ι},Inv (X.comp scope cl (ts++ys) s2 H2 fp HH.objs.size) ([(s2.heap.objs.size,({ cls:=.type "list",data:=.seq its.toArray nn } : Obj))]++eO fp s5.heap) σ' H' s' →
     s'.heap.get? s2.heap.objs.size=some { cls:=.type "list",data:=.seq its.toArray nn }/\H' s2.heap.objs.size=none/\tn (i+1) s'.heap/\(∀b∈fp,H' b=none):=fun {σ' H' s'} J=>by
    have p1:=J.pin (s2.heap.objs.size,({ cls:=.type "list",data:=.seq its.toArray nn } : Obj)) (by simp);refine⟨p1.1,p1.2.1,T.keep _ _ _ st5 fun b hb o e=>(J.pin (b,o) (xx _ (xx _ (yP hb e)))).1,fun b hb=>?_⟩;obtain⟨o,e,d⟩:=T.obj _ _ st5 b hb;exact(J.pin (b,o) (xx _ (xx _ (yP hb e)))).2.1
   have bare:∀{σ':St}{H':Hp}{s':ι},Inv (X.comp scope cl (ts++ys) s2 H2 fp HH.objs.size) ([(s2.heap.objs.size,({ cls:=.type "list",data:=.seq its.toArray nn } : Obj))]++eO fp s5.heap) σ' H' s' →
     Inv (X.comp scope cl (ts++ys) s2 H2 fp HH.objs.size) [] σ' H' s':=fun J=>J.pins_of fun p hp=>absurd hp (by simp)
   cases b with
   |false =>
    have q7':N σ6 xs H7:=by simpa using q7
    obtain⟨m',hm,w7⟩:=hN _ _ _ q7';obtain⟨a1,a2,a3,a4⟩:=facts I7;show ∃m,m<n/\_;exact⟨m',hm,i+1,σ6,xs,H7,its,nn,bare I7,rv,hz3,a1,a2,a3,a4,w7⟩
   |true =>
    have q7':te σ6 H7 fun v H5=>N σ6 (xs++[v]) H5:=by
     rw[if_pos rfl]at q7;exact q7
    show Φ _ _ (eval elt _) _ _ s7;refine thn (he _ _ _ _ _ s7 σ6 H7 _ I7 q7') fun xv s8 zq=>?_;obtain⟨v,H8,I8,r8,n8⟩:=zq;obtain⟨m',hm,w8⟩:=hN _ _ _ n8;obtain⟨a1,a2,a3,a4⟩:=facts I8;have hl:=rv.length;refine call_meets F.slot_list_append ⟨_,a1,rfl⟩ F.entry_list_append (F.args_list_append_2 _ _) (PySem.list_append s2.heap.objs.size its.toArray nn xv (by rw[ψ];omega)) ⟨a1,?_⟩;obtain⟨n9,q9⟩ : ∃n9,(s8.heap.update s2.heap.objs.size (Obj.mapSeq fun a=>a.push xv)).get? s2.heap.objs.size=some { cls:=.type "list",data:=.seq (its++[xv]).toArray n9 } :=
     ⟨_,by rw[show(its++[xv]).toArray=its.toArray.push xv by simp];exact PySem.IsL.update a1 (fun a=>a.push xv)⟩
    have I9:Inv (X.comp scope cl (ts++ys) s2 H2 fp HH.objs.size) [] σ6 H8 { s8 with heap:=s8.heap.update s2.heap.objs.size (Obj.mapSeq fun a=>a.push xv),toks:=s8.toks } :=
     (bare I8).turned (it:=s2.heap.objs.size) (fun b o hb e=>(zg s8.heap _ (Ag hb)).trans e) a2 hDC (.inr (μ _)) (nocell _ (μ _)) fun p hp=>absurd (show p∈([]:List (Addr×Obj)) from hp) (by simp)
    refine⟨m',hm,i+1,σ6,xs++[v],H8,its++[xv],n9,I9,rv.append (.cons r8 .nil),?_,q9,a2,?_,a4,w8⟩
    ·rw[η,xm];omega
    ·exact T.keep _ _ _ a3 fun b hb o e=>(zg s8.heap _ (Ag (wz (fl b hb)))).trans e
 exact codeAny_compStart_list (loop _ rfl) (T.self _ 0 _ _ _ tn1 (loop _ rfl))
theorem qT(ts ys:List Str)(js:List Nat)(hc:X.calm=true)(hi:PI X tg iter wi)(hclos:closureFor scope X.env=pure cl)(hsub:eU X.env cl)(hcap:nR X scope cl ys js)
    (hg:∀s H fp C,PG (X.comp scope cl (ts++ys) s H fp C) tg g)(ht:∀s H fp C,PIf (X.comp scope cl (ts++ys) s H fp C) ifs tc)(he:∀s H fp C,PE (X.comp scope cl (ts++ys) s H fp C) elt te)
    (hkind:scope.kind=.function:=by rfl)(hcell:(scope.names.all fun y=>y.2 != .cell)=true:=by rfl)
    (hnames:(scope.names.all fun y=>y.2 != .local||scope.names.lookup y.1 == some .local)=true:=by rfl)
    (hhas:((relabel scope X.env).names.all fun p=>(p.2 != .cell&&p.2 != .free)||(cl.lookup p.1).isSome)=true:=by rfl)
    (hs:∀x,Cc iter X.env x=pure x:=by intro _;rfl):PE X (.ListComp elt [⟨tg,iter,ifs,0⟩] scope pos) (aJc wi ts.length js g tc te):=by
  intro pins s σ H Q I h;rw[eval_ListComp];refine aCd (use:=none) (QV:=EP X pins σ Q) ts ys js hc hi hclos hsub hcap hg ht he hkind hcell hnames hhas hs I h ?_;intro H2 H3 s2 s4 fp C pins' σ' its xs n I2 f2 I4 hC hDC rv hz e4 nD q;obtain⟨m,hm,_⟩:=I4.loc;exact⟨m,hm,fun h' hs'=>⟨.ref _,_,aCo I2 f2 I4 hC (μ _) hDC hs' rv hz e4 nD,rfl,q _ nD⟩⟩
theorem aAg{i:Nat}{spos:Pos}(ts ys:List Str)(js:List Nat)(hN:X.N.Nodup)(hiN:X.N[i]?=some y)(hy:X.env.scope.names.lookup y=some .local)(hc:X.calm=true)(hi:PI X tg iter wi)(hclos:closureFor scope X.env=pure cl)(hsub:eU X.env cl)(hcap:nR X scope cl ys js)
  (hg:∀s H fp C,PG (X.comp scope cl (ts++ys) s H fp C) tg g)(ht:∀s H fp C,PIf (X.comp scope cl (ts++ys) s H fp C) ifs tc)(he:∀s H fp C,PE (X.comp scope cl (ts++ys) s H fp C) elt te)
  (hkind:scope.kind=.function:=by rfl)(hcell:(scope.names.all fun y=>y.2 != .cell)=true:=by rfl)
  (hnames:(scope.names.all fun y=>y.2 != .local||scope.names.lookup y.1 == some .local)=true:=by rfl)
  (hhas:((relabel scope X.env).names.all fun p=>(p.2 != .cell&&p.2 != .free)||(cl.lookup p.1).isSome)=true:=by rfl)
  (hs:∀x,Cc iter X.env x=pure x:=by intro _;rfl)
  (hsw:swapsWith (.ListComp elt [⟨tg,iter,ifs,0⟩] scope pos) (some (.Name y py)) spos.line X.env=pure true:=by rfl):
  PS X (.Assign [.Name y py] (.ListComp elt [⟨tg,iter,ifs,0⟩] scope pos) spos) (aMc (aJc wi ts.length js g tc te) (cZ i)):=by
 intro pins s σ H D I h;rw[exec_Assign_Name_used _ _ _ _ hsw];refine ζ (Bp (ζ ?_));show Φ _ _ (do let _ ←comprehension (.ListComp elt [⟨tg,iter,ifs,0⟩] scope pos) scope X.env _ (newList []) false (eval iter X.env) (some (assign (.Name y py) X.env))) _ _ s;refine ζ (ym (aCd (QV:=fun _ s'=>SP X pins D .next s') ts ys js hc hi hclos hsub hcap hg ht he hkind hcell hnames hhas hs I h ?_) (fun _ s' q=>τ (τ q)) fun _ _ z=>z);intro H2 H3 s2 s4 fp C pins' σ' its xs n I2 f2 I4 hC hDC rv hz e4 nD q;have J:Inv X pins σ (upd H3 s2.heap.objs.size (.lst xs)) { s4 with heap:=s4.heap }:=aCo I2 f2 I4 hC (μ _) hDC (Ac.refl _ _) rv hz e4 nD;obtain⟨m,hm,_⟩:=I4.loc;have hm':s4.heap.Ns C m:=hm;have hL:C≠X.env.locals:=fun z=>absurd (υ I2.lt (z ▸ hC)) (Ak _);have hn:upd H3 s2.heap.objs.size (.lst xs) C=none:=by
  rw[jR (Ag hDC)];exact I4.free
 have hcl:∀x c,X.env.cells.lookup x=some c->c≠C:=fun x c e z=>by
  obtain⟨v,q⟩:=I2.cell x c e;exact absurd (υ q.lt (z ▸ hC)) (Ak _)
 have hpin:∀p∈X.pn++pins,p.1≠C:=fun p hp z=>absurd (υ (Θ (I2.pin p hp).1) (z ▸ hC)) (Ak _);show Φ _ _ (assign (.Name y py) X.env _) _ _ _;refine wpAny_assign_Name (fE J hN hiN (.inl hy) (v:=.ref s2.heap.objs.size) rfl (fun s5 J5 zq=>?_) (.inr hy));obtain⟨a,sb,ha⟩:=zq;have hCa:C≠a:=by
  rcases ha with z|z
  ·rw[z];exact hL
  ·exact Ag (hcl _ _ z)
 refine⟨m,hm'.sameBut sb hCa,fun h' hs'=>?_⟩;exact⟨_,_,J5.turned (h':=h') (t':=s5.toks) (fun b o hb e=>hs'.extBut b o hb e) hn hL (.inr (yb I2.sz hC)) hcl hpin,q _ nD⟩
end
section
variable {X:Cx}
theorem iM{K:Ω}{n:Nat}(hK:X.K=K)(hc:X.calm=true)(h:PGs X es t)
  (hn:(Bi es X.env).length=n:=by rfl)(hst:(Bi es X.env).findIdx? (·.1)=none:=by rfl):PG X (.Tuple es k pos) (gTup K n t):=hK ▸ yU hc h hn hst
end
def iU (P:Nat->List V->Hp->Prop) (i k:Nat) (js:List Nat) (σ:St):St->List V->Hp->Prop:=fun σ' ys H=>P (i+1) ys H/\∃os:St,os.length=k/\σ'=os++vI js σ
theorem aDr{K:Ω}{xs:List V}{k:Nat}{g:TG}{tc:TT}{te:TE}{Q:VK}(P:Nat->List V->Hp->Prop)(h0:P 0 [] H1)(hl:∀i ys H,i<=xs.length->P i ys H->SqL K H a xs/\ys.length<=i)(hz:xs.length<Δ)
  (hs:∀i x ys H (os:St),os.length=k->xs[i]?=some x->P i ys H->g x (os++vI js σ) H fun σ3 H3=>tc σ3 H3 fun b H2=>if b=true then te σ3 H2 fun v H3=>iU P i k js σ σ3 (ys++[v]) H3 else iU P i k js σ σ3 ys H2)
  (hd:∀ys H,P xs.length ys H->∀p,H p=none->Q (.ref p) (upd H p (.lst ys))):
  hJ (Itl K a) k js g tc te σ Q H1:=by
 refine⟨fun i m σ' ys H=>m=xs.length-i/\i<=xs.length/\P i ys H/\∃os:St,os.length=k/\σ'=os++vI js σ,⟨xs.length,by simp,xy _,h0,Cj k none,AR,rfl⟩,?_⟩;rintro i m σ' ys H ⟨rfl,hi,p,os,ho,rfl⟩;obtain⟨q,hy⟩:=hl i ys H hi p
 by_cases hlt:i<xs.length
 ·refine .inr ⟨⟨xs,xs[i],q,by simp[hlt]⟩,by omega,iU P i k js σ,fun σ3 zs H3 z=>⟨xs.length-(i+1),by omega,rfl,hlt,z.1,z.2⟩,fun x H' y=>?_⟩;obtain⟨e,y⟩:=y;subst e;exact hs i x ys _ os ho (y xs q) p
 ·have e:i=xs.length:=by omega
  subst e;exact .inl ⟨⟨xs,q,μ _⟩,hd ys H p⟩
def But (l:Addr) (H H':Hp):Prop:=∀b o,b≠l->H b=some o->H' b=some o
theorem But.trans(a:But l H H1)(b:But l H1 H2):But l H H2:=fun x o n q=>b x o n (a x o n q)
theorem But.refl : But l H H:=fun _ _ _ q=>q
theorem But.of(g:jJ H H'):But l H H':=fun x o _ q=>g x o q
theorem But.same{H:Hp}(a:But l H H')(h:H l=none):jJ H H':=fun x o q=>a x o (jI q h) q
theorem But.upd : But l H (upd H l o):=fun x u n q=>by rw[jR n];exact q
theorem But.tup{K:Ω}{l:Addr}{H H':Hp}{zs:List V}(e:But l H H')(hl:H l=some (.lst zs)){a:Addr}{xs:List V}(h:SqT K H a xs):SqT K H' a xs:=by
 rcases h with (h|⟨o,h⟩)|h
 ·exact .inl (.inl (e _ _ (mK h hl (by intro z;cases z)) h))
 ·exact .inl (.inr ⟨o,e _ _ (mK h hl (by intro z;cases z)) h⟩)
 ·exact .inr h
end L2
namespace L2
open PySem
def Xc (h:yp) (e C:Addr) (dx:Option Addr) (T:Addr) (fl:Option Value):Prop :=
 ∃oe vs,h.get? e=some oe/\oe.cls=.ref C/\oe.dict=dx/\oe.data=.fields vs/\1<vs.size ∧
  ((fl=none/\T=e/\vs[1]?=some .none)\/∃oT ts v,fl=some v/\T≠e/\vs[1]?=some (.ref T)/\h.get? T=some oT/\oT.data=.fields ts/\ts[3]?=some v)
def Mv (S:List Addr) (e T:Addr) (h h':yp):Prop :=
 ∀b o,h.get? b=some o->b≠e->b≠T->(b∉S->h'.get? b=some o)/\∃sl,h'.get? b=some { o with slots:=sl }
theorem Mv.refl(S:List Addr)(e T:Addr)(h:yp):Mv S e T h h:=fun b o q _ _=>⟨fun _=>q,o.slots,q⟩
theorem Mv.ff(m:Mv S e T h h')(ff:h.FunFrames base l)(he:∀o,h.get? e=some o->∃vs,o.data=.fields vs)(hT:∀o,h.get? T=some o->∃vs,o.data=.fields vs):h'.FunFrames base l :=
 ff.of_keeps fun b o q nf=>by
  obtain⟨_,sl,q'⟩:=m b o q (fun z=>by subst z;obtain⟨vs,z⟩:=he o q;exact nf vs z) (fun z=>by subst z;obtain⟨vs,z⟩:=hT o q;exact nf vs z);exact⟨_,q',rfl⟩
theorem Xc.fe(x:Xc h e C dx T fl):∀o,h.get? e=some o->∃vs,o.data=.fields vs:=fun o q=>by
 obtain⟨oe,vs,he,_,_,hd,_⟩:=x;rw[he]at q;cases q;exact⟨vs,hd⟩
theorem Xc.fT(x:Xc h e C dx T fl):∀o,h.get? T=some o->∃vs,o.data=.fields vs:=fun o q=>by
 have fe:=x.fe;obtain⟨oe,vs,he,_,_,hd,_,⟨_,rfl,_⟩|⟨oT,ts,v,_,_,_,hT,hd',_⟩⟩:=x
 ·exact fe o q
 ·rw[hT]at q;cases q;exact⟨ts,hd'⟩
theorem oZ(o:Obj)(f:Array Value->Array Value):(o.mapFields f).dict=o.dict:=by
 obtain⟨c,d,dt,sl⟩:=o;cases dt <;> rfl
section
variable {M:Model}{A:yr}{E:Value->ι->Prop}{s:ι}{base:yp}{env:Env}{outer:List Env}{L e C:Addr}{dx:Option Addr}{T:Addr}{fl:Option Value}{Q:Unit->ι->Prop}
theorem aBw{s1:ι}{head:Value}{had:Bool}(hA:A.frames=some (env::outer))(hL:env.frame=some L)(ff:s1.heap.FunFrames base (env::outer))
  (he:s1.heap.get? e=some oe)(hc:oe.cls=.ref C)(hx:oe.dict=dx)(hd:oe.data=.fields vs)(h1 : 1<vs.size)
  (hQ:∀h' T',s1.heap.get? T'=none->s1.heap.objs.size<=T'->Xc h' e C dx T' (some (Bc L))->Mv ((env::outer).filterMap (·.frame)) e e s1.heap h'->Q () { s1 with heap:=h' }):
  Φ M A (do let a ←frameOf env;let pl ←entryPlaceOf L had;let b ←EntryCells.newEntry head a .none (Bc L) .none pl;setField (.ref e) 1 b) Q E s1:=by
 have nfr:e∉(env::outer).filterMap (·.frame):=fun z=>by
  obtain⟨_,o,q,nf⟩:=ff.mem z;rw[he]at q;cases q;exact nf vs hd
 refine ζ (wpAny_frameOf_fun hA ff hL fun g so=>ζ (wpAny_entryPlaceOf fun pl isp=>?_));unfold EntryCells.newEntry newFields;refine ζ (Cf ?_ (isp.sizeOk5 _ _ _ _ _));have e1:g.get? e=some oe:=(so.2.1 e nfr).trans he;generalize hob:({ cls:=.type "traceback",dict:=none,data:=.fields ([head,.ref L,.none,Bc L,.none]++(if pl.isEmpty then Cj 6 zr else pl)).toArray } : Obj)=ob;have e2:=ξ ob e1;refine Co e2 hd h1 ?_;have nT:g.objs.size≠e:=zf (Θ e1);have d3:=BO hd (·.setIfInBounds 1 (xg g.objs.size));have e3:=AS (Bb (·.setIfInBounds 1 (xg g.objs.size))) e2 (DE d3);have t3:((g.push ob).update e (Bb (·.setIfInBounds 1 (xg g.objs.size)))).get? g.objs.size=some ob :=
  (zg _ _ (Ag nT)).trans (xb g (by rw[←hob];rfl))
 refine hQ _ g.objs.size (BC (by rw[so.1];exact μ _)) (by rw[so.1];exact μ _) ⟨_,_,e3,(Obj.cls_mapFields _ _).trans hc,(oZ _ _).trans hx,d3,by simpa using h1,.inr ⟨ob,_,Bc L,rfl,nT,by simp[h1],t3,by rw[←hob],?_⟩⟩ fun b o q ne _=>?_
 ·first
   | (simp;done)
   | (rcases isp with rfl|⟨_,_,_,_,_,_,_,rfl⟩ <;> simp)
 ·have keep:∀u,g.get? b=some u->((g.push ob).update e (Bb (·.setIfInBounds 1 (xg g.objs.size)))).get? b=some u:=fun u z=>by
   rw[zg _ _ (Ag ne)];exact ξ _ z
  exact⟨fun nb=>keep _ ((so.2.1 b nb).trans q),let ⟨sl,z⟩:=so.2.2 b o q; ⟨sl,keep _ z⟩⟩
theorem aFt(hA:A.frames=some (env::outer))(hL:env.frame=some L)(ff:s.heap.FunFrames base (env::outer))(x:Xc s.heap e C dx T fl)(hf:fl=none\/fl=some .none\/fl=some (Bc L))
  (hQ:∀h' T',(T'=T\/s.heap.objs.size<=T')->Xc h' e C dx T' (some (Bc L))->Mv ((env::outer).filterMap (·.frame)) e T s.heap h'->Q () { s with heap:=h' }):
  Φ M A (noteFrame (.ref e) env) Q E s:=by
 have x0:=x;obtain⟨oe,vs,he,hc,hx,hd,h1,ht⟩:=x;unfold noteFrame;simp only[hL];rcases ht with⟨rfl,rfl,hv⟩|⟨oT,ts,v,rfl,nT,hv,hT,hdT,h3⟩
 ·refine ζ (yw he hd hv ?_);rw[if_neg (by decide)];exact aBw hA hL ff he hc hx hd h1 fun h' T' _ q2 q3 q4=>hQ h' T' (.inr q2) q3 q4
 ·refine ζ (yw he hd hv ?_);rw[if_pos (show(xg T != zr)=true from by simp)];refine ζ (yw hT hdT h3 ?_)
  by_cases hvL:v=Bc L
  ·subst hvL;rw[if_pos (show(Bc L == Bc L)=true from by simp)];exact τ (hQ s.heap T (.inl rfl) x0 (Mv.refl _ _ _ _))
  ·have hv0:v=.none:=by
    rcases hf with z|z|z
    ·cases z
    ·exact zv z
    ·exact absurd (zv z) hvL
   subst hv0;rw[if_neg (show ¬ ((zr == Bc L)=true) from by simp[Bc])];refine ζ (Co hT hdT (Array.getElem?_eq_some_iff.mp h3).1 ?_);have oth:∀b,b≠T->(s.heap.update T (Bb (·.setIfInBounds 3 zr))).get? b=s.heap.get? b:=fun b hb=>zg _ _ (Ag hb);have mv:Mv ((env::outer).filterMap (·.frame)) e T s.heap (s.heap.update T (Bb (·.setIfInBounds 3 zr))):=fun b o q _ nb=>⟨fun _=>(oth b nb).trans q,o.slots,(oth b nb).trans q⟩;refine aBw (s1:={ s with heap:=s.heap.update T (Bb (·.setIfInBounds 3 zr)) }) hA hL (mv.ff ff x0.fe x0.fT) ((oth e (Ag nT)).trans he) hc hx hd h1 fun h' T' q1 q2 q3 q4=>hQ h' T' (.inr ?_) q3 fun b o q ne nb=>?_
   ·have:(s.heap.update T (Bb (·.setIfInBounds 3 zr))).objs.size=s.heap.objs.size:=yp.size_after_update ..;rw[←this];exact q2
   ·exact q4 b o ((oth b nb).trans q) ne ne
theorem lY{v:Value}{fr:Option Addr}(x:Xc s.heap e C dx T (some v))
  (hQ:∀h',Xc h' e C dx T (some (fr.elim .none fun f=>Bc f))->Mv [] e T s.heap h'->Q () { s with heap:=h' }):Φ M A (setFlight (.ref e) fr) Q E s:=by
 obtain⟨oe,vs,he,hc,hx,hd,h1,⟨z,_⟩|⟨oT,ts,v',_,nT,hv,hT,hdT,h3⟩⟩:=x
 ·cases z
 have hsz:=(Array.getElem?_eq_some_iff.mp h3).1;unfold setFlight;refine ζ (yw he hd hv ?_);rw[if_pos (show(xg T != zr)=true from by simp)];refine Co hT hdT hsz (hQ _ ?_ fun b o q _ nb=>?_)
 ·exact⟨oe,vs,(zg _ _ nT).trans he,hc,hx,hd,h1,.inr ⟨_,_,_,rfl,nT,hv,AS _ hT (DE (BO hdT _)),BO hdT _,by simp[hsz]⟩⟩
 ·have:=(zg s.heap (Bb (·.setIfInBounds 3 (fr.elim zr fun f=>Bc f))) (Ag nb)).trans q;exact⟨fun _=>this,o.slots,this⟩
theorem Mv.trans(a:Mv S e T h h1)(b:Mv S' e T' h1 h2)(hT:T'=T\/h.get? T'=none)(hS:∀x∈S',x∈S):Mv S e T h h2:=fun c o q ne nT=>by
 obtain⟨k1,sl,k2⟩:=a c o q ne nT;have nT':c≠T':=fun z=>by
  rcases hT with y|y
  ·exact nT (z.trans y)
  ·rw[←z,q]at y;cases y
 refine⟨fun nS=>(b c o (k1 nS) ne nT').1 fun z=>nS (hS c z),?_⟩;obtain⟨_,sl',k3⟩:=b c _ k2 ne nT';exact⟨sl',k3⟩
theorem aKs(hA:A.frames=some (env::outer))(hL:env.frame=some L)(ff:s.heap.FunFrames base (env::outer))(x:Xc s.heap e C dx T fl)(hf:fl=none\/fl=some .none\/fl=some (Bc L))
  (hQ:∀h' T',(T'=T\/s.heap.objs.size<=T')->Xc h' e C dx T' (some .none)->Mv ((env::outer).filterMap (·.frame)) e T s.heap h'->Q () { s with heap:=h' }):
  Φ M A (leaving env (.ref e)) Q E s:=by
 unfold leaving;refine ζ (aFt hA hL ff x hf fun h1 T1 q1 x1 m1=>lY x1 fun h2 x2 m2=>hQ h2 T1 q1 x2 (m1.trans m2 ?_ (by simp)));exact q1.imp id fun z=>BC z
end
structure zB (bm:List Value):Prop where
 v:bm.contains (.type "ValueError")=true
 b:bm.contains (.type "BaseException")=true
 a:bm.contains (.type "AttributeError")=false
 n:bm.contains (.type "NameError")=false
section
variable {prog:za}{w:Af}{M:Model}{A:yr}{E:Value->ι->Prop}{h:yp}{g:Array GenState}{d:Drawn}{t:Nat}{os:OsState}
 {nm qn:Str}{C N:Addr}{bs bm:List Value}{hdct:Bool}{sn:List Str}{sub:List Value}{ab:Bool}{col:Option Bool}{dd:Option Addr}{k0 k1 k2 k3 k5:Option Value}
abbrev hV (nm qn:Str) (C N:Addr) (bs bm:List Value) (hdct:Bool) (sn:List Str) (sub:List Value) (ab:Bool) (col:Option Bool) (dd:Option Addr) (k0 k1 k2 k3 k5:Option Value):Obj :=
 excClassObj nm qn C N bs bm hdct sn sub ab col dd k0 k1 k2 k3 k5 "ValueError.__new__"
theorem zB.cv(x:zB bm):(xg C::bm).contains (.type "ValueError")=true:=by rw[BP,x.v,Bool.or_true]
theorem zB.cb(x:zB bm):(xg C::bm).contains (.type "BaseException")=true:=by rw[BP,x.b,Bool.or_true]
theorem zB.ca(x:zB bm):(xg C::bm).contains (.type "AttributeError")=false:=by rw[BP,x.a];rfl
theorem zB.cn(x:zB bm):(xg C::bm).contains (.type "NameError")=false:=by rw[BP,x.n];rfl
theorem aDg(x:zB bm){rest:List Value}{Q:Unit->ι->Prop}(hC:h.get? C=some (hV nm qn C N bs bm hdct sn sub ab col dd k0 k1 k2 k3 k5))(hq:Q () ⟨h,g,d,t,os⟩):
  Φ M A (DK "ValueError.__new__" ⟨.ref C::rest,[]⟩) Q E ⟨h,g,d,t,os⟩:=by
 have c1:=x.cv (C:=C);have B:=AI;have c2:=B.noStar;simp only[DK,B.newSplit,B.newKind,B.newRow]
 repeat (first
  |refine Ah hC ?_
  | (refine AL hC ?_;rw[c1])
  |refine wpAny_madeBy_exc hC ?_
  |refine wpAny_staticBase_exc hC ?_
  |simp only[bne_self_eq_false,if_false,AB]
  |wp_step)
 exact hq
theorem aLc(x:zB bm){rest:List Value}{R:Result->ι->Prop}(hC:h.get? C=some (hV nm qn C N bs bm hdct sn sub ab col dd k0 k1 k2 k3 k5))(hz:rest.length<=Δ)
  (hq:R (.ok (.ret (.ref (h.objs.size+1)))) ⟨(h.push { cls:=.type "tuple",data:=.seq rest.toArray }).push { cls:=.ref C,data:=.fields #[.ref h.objs.size,.none,.none,.none,.bool false,.none] },g,d,t,os⟩):
  Cu (xj prog w) A (.builtin "ValueError.__new__" ⟨.ref C::rest,[]⟩) R ⟨h,g,d,t,os⟩:=by
 have B:=AI;have c0:=B.ends;have c1:=x.cv (C:=C);have c2:=x.ca (C:=C);have c3:=x.cn (C:=C);refine codeAny_builtinAt B.entry ?_;unfold AH.«BaseException.__new__»;refine wpAt_bind ?_;show wpAt _ _ _ (stack >>= _) _ _ _;refine wpAt_bind (wpAt_stack fun p below=>wpAt_of_wpAny ?_)
 wp_walk
 refine wpAt_of_wpAny ?_;rw[B.owner]
 repeat (first
  |with_reducible refine Ah hC ?_
  |with_reducible refine wpAny_madeHere_exc B.canon hC ?_
  | (with_reducible refine AL hC ?_;first|rw[c1]|rw[c2]|rw[c3])
  |wp_step)
 show R _ _;rw[ze];exact hq
theorem aEx(x:zB bm){mN:Str->Option Value}{rest:List Value}{Q:Fin->ι->Prop}(hC:h.get? C=some (hV nm qn C N bs bm hdct sn sub ab col dd k0 k1 k2 k3 k5))
  (hn:h.Ns N mN)(hi:mN "__init__" = some (.ref fI))(hf:h.get? fI=some oI)(hfc:oI.cls=.type "function")(hz:rest.length<=Δ)
  (hq:∀h' e,yp.MadeExcOf h h' e (.ref C) rest->h.objs.size<=e->Φ (xj prog w) A (call (.ref fI) (.ref e::rest)) (fun r s'=>r=.none/\Q (.done (.ret (.ref e))) s') E ⟨h',g,d,t,os⟩):
  Φ (xj prog w) A (AH.«type.__call__» ⟨.ref C::rest,[]⟩) Q E ⟨h,g,d,t,os⟩:=by
 repeat (first
  |with_reducible refine wpAny_madeBy_exc hC ?_
  |with_reducible refine Ah hC ?_
  |wp_step)
 have B:=AI;refine codeAny_call_builtin_code (Code.quiet_builtin _ B.quiet) (aDg x hC (aLc x hC hz ?_));show Φ _ _ _ _ _ _;generalize htu:({ cls:=.type "tuple",data:=.seq rest.toArray } : Obj)=otu;generalize hex:({ cls:=.ref C,data:=.fields #[.ref h.objs.size,.none,.none,.none,.bool false,.none] } : Obj)=oex;have kp:∀b o,h.get? b=some o->((h.push otu).push oex).get? b=some o:=fun b o z=>ξ _ (ξ _ z);have ge:((h.push otu).push oex).get? (h.objs.size+1)=some oex:=by
  have:=xb (h.push otu) (o:=oex) (by rw[←hex];rfl)
  rwa [ze]at this
 have gt:((h.push otu).push oex).get? h.objs.size=some otu:=ξ _ (xb h (by rw[←htu];rfl));have oc:oex.cls=.ref C:=by rw[←hex]
 have hC1:=kp _ _ hC;have hn1:((h.push otu).push oex).Ns N mN:=let ⟨o,es,ep,z,r⟩:=hn; ⟨o,es,ep,kp _ _ z,r⟩;have c0:(xg C::bm).contains (.ref C)=true:=by simp
 unfold isInstance
 repeat (first
  | (with_reducible refine Ah ge ?_;rw[oc])
  | (with_reducible refine AL hC1 ?_;rw[c0])
  |wp_step)
 show Φ _ _ (Ck (.ref C) _) _ _ _;rw[typeLookup_eq];refine ζ (wpAny_mroOf_exc hC1 ?_);rw[lookupAlong_cons];refine ζ (wpAny_classOwn_exc hC1 hn1 ?_);rw[hi];refine τ (yv (ζ ?_));unfold bindSpecial;refine ζ (wpAny_typeOf (T:="function") ⟨_,kp _ _ hf,hfc⟩ ?_);rw[if_pos (by decide)];refine τ (ζ (ym (hq _ (h.objs.size+1) ⟨kp,BC (Be _),h.objs.size,by rw[ge,←hex],BC (μ _),by rw[gt,←htu]⟩ (Be _)) (fun r s' z=>?_) fun _ _ y=>y));obtain⟨rfl,z⟩:=z
 wp_walk
 exact z
theorem xmake(x:zB bm){mN:Str->Option Value}{rest:List Value}{Q:Value->ι->Prop}(hC:h.get? C=some (hV nm qn C N bs bm hdct sn sub ab col dd k0 k1 k2 k3 k5))
  (hn:h.Ns N mN)(hi:mN "__init__" = some (.ref fI))(hf:h.get? fI=some oI)(hfc:oI.cls=.type "function")(hz:rest.length<=Δ)
  (hq:∀h' e,yp.MadeExcOf h h' e (.ref C) rest->h.objs.size<=e->Φ (xj prog w) (A.under (.builtin "type.__call__" ⟨.ref C::rest,[]⟩)) (call (.ref fI) (.ref e::rest)) (fun r s'=>r=.none/\Q (.ref e) s') E ⟨h',g,d,t,os⟩):
  Φ (xj prog w) A (call (.ref C) rest) Q E ⟨h,g,d,t,os⟩:=by
 have b1:=tc_lookup;have b2:=tc_bind (.ref C);have b3:(⟨h,g,d,t,os⟩ : ι).TypeIs (.ref C) "type":=⟨_,hC,rfl⟩;refine Dh (codeAny_of_tree ?_);show Φ _ _ (callAny (.ref C) _) _ _ _
 repeat (any_goals (first|assumption|with_reducible refine Ah hC ?_|wp_step))
 refine⟨rfl,codeAny_call_builtin_at (Code.quiet_builtin _ (by ac_rfl)) entry_typeCall (wpAny_check_type_call_sub hC (aEx x hC hn hi hf hfc hz hq))⟩
theorem aRp(hh:A.handled=none)
  (hx:Φ M A x (fun v s1=>∃(e C N:Addr) (nm qn:Str) (bs bm:List Value) (hdct:Bool) (sn:List Str) (sub:List Value) (ab:Bool) (col:Option Bool) (dd:Option Addr) (k0 k1 k2 k3 k5:Option Value) (dx:Option Addr) (vs:Array Value) (sl:Array (Option Value)),
   v=.ref e/\zB bm/\s1.heap.get? C=some (hV nm qn C N bs bm hdct sn sub ab col dd k0 k1 k2 k3 k5)/\s1.heap.get? e=some ⟨.ref C,dx,.fields vs,sl⟩/\vs[1]?=some .none/\E (.ref e) s1) E s):
  Φ M A (raiseStmt env (some x) none) Q E s:=by
 unfold raiseStmt;refine ζ (ym hx (fun v s1 z=>?_) fun _ _ y=>y);obtain⟨e,C,N,nm,qn,bs,bm,hdct,sn,sub,ab,col,dd,k0,k1,k2,k3,k5,dx,vs,sl,rfl,xt,hC,he,hv,hE⟩:=z;have c1:=xt.cb (C:=C);obtain⟨hp,g,d,tk,os⟩:=s1
 repeat (first
  |with_reducible refine Ah he ?_
  |with_reducible refine Ah hC ?_
  |with_reducible refine yw he rfl hv ?_
  | (with_reducible refine AL hC ?_;rw[c1])
  |wp_step)
 exact wpAny_raiseNew_none hh hE
theorem aSu(hh:A.handled=none)
  (hx:Φ M A (eval x env) (fun v s1=>∃(e C N:Addr) (nm qn:Str) (bs bm:List Value) (hdct:Bool) (sn:List Str) (sub:List Value) (ab:Bool) (col:Option Bool) (dd:Option Addr) (k0 k1 k2 k3 k5:Option Value) (dx:Option Addr) (vs:Array Value) (sl:Array (Option Value)),
   v=.ref e/\zB bm/\s1.heap.get? C=some (hV nm qn C N bs bm hdct sn sub ab col dd k0 k1 k2 k3 k5)/\s1.heap.get? e=some ⟨.ref C,dx,.fields vs,sl⟩/\vs[1]?=some .none/\E (.ref e) s1) E s):
  Φ M A (exec (.Raise (some x) none pos) env) Q E s:=by
 rw[arm_exec_Raise];have key:=aRp (Q:=Q) (env:=env) (x:=do let v ←eval x env;standAt pos;pure v) hh (ζ (ym hx (fun v s1 z=>ζ (Bp (τ z))) fun _ _ y=>y))
 first
  |exact ζ (Bp key)
  | (simp only[evalOpt,Option.map];exact ζ (Bp key))
theorem aAs(x:zB bm){e:Addr}{rest:List Value}{Q:Unit->ι->Prop}(hC:h.get? C=some (hV nm qn C N bs bm hdct sn sub ab col dd k0 k1 k2 k3 k5))(he:h.get? e=some oe)(oc:oe.cls=.ref C)
  (hq:Q () ⟨h,g,d,t,os⟩):Φ M A (DK "ValueError.__init__" ⟨.ref e::rest,[]⟩) Q E ⟨h,g,d,t,os⟩:=by
 have c1:=x.cv (C:=C);have B:=AI;have c2:=B.noStar;simp only[DK,B.initSplit,B.initKind,B.initRow]
 repeat (first
  |with_reducible refine Ah hC ?_
  | (with_reducible refine Ah he ?_;rw[oc])
  | (with_reducible refine AL hC ?_;rw[c1])
  |wp_step)
 refine CO ?_;rw[show ∀(a b:String) (n:Nat),Bind.check ⟨.positional,"*","ValueError",.self,[⟨"args",.varPos,false⟩]⟩ a b n (List.map (fun y=>y.fst) ({ pos:=xg e::rest } : Args).kw)=pure () from fun a b n=>check_star_args _ _ _ _ _ _];exact τ hq
theorem xinit(x:zB bm){e:Addr}{v:Value}{Q:Value->ι->Prop}(hC:h.get? C=some (hV nm qn C N bs bm hdct sn sub ab col dd k0 k1 k2 k3 k5))(he:h.get? e=some oe)(oc:oe.cls=.ref C)
  (hd:oe.data=.fields vs)(h1 : 1<vs.size)
  (hq:∀h' oe' vs',(∀b o,b≠e->h.get? b=some o->h'.get? b=some o)->h'.get? e=some oe'->oe'.cls=oe.cls->oe'.dict=oe.dict->oe'.data=.fields vs'->vs'.size=vs.size->vs'[1]?=vs[1]?->Q .none ⟨h',g,d,t,os⟩):
  Φ (xj prog w) A (call (.builtin "ValueError.__init__") [.ref e,v]) Q E ⟨h,g,d,t,os⟩:=by
 have B:=AI;refine Dh (Cp B.init.plain B.initEntry (aAs x hC he oc ?_));obtain⟨c,dx,dt,sl⟩:=oe;cases hd
 wp_walk
 have h0:vs[0]?=some vs[0]:=by simp
 rw[h0];refine τ (ζ (Co (ξ _ he) rfl (by omega) ?_));have e2:=ξ { cls:=De "tuple",data:=Data.seq #[v] } he;have fin:=hq _ _ _ (fun b o nb z=>(zg (h.push { cls:=De "tuple",data:=Data.seq #[v] }) (Bb (·.setIfInBounds 0 (xg h.objs.size))) (Ag nb)).trans (ξ _ z))
  (AS (Bb (·.setIfInBounds 0 (xg h.objs.size))) e2 rfl) rfl rfl rfl (by simp) (by simp)
 generalize vs[0]=a0;cases a0 <;> first
  |exact τ (τ fin)
  |exact wpAny_letGo (τ fin)
theorem aQy{e Cn:Addr}{b:Bool}{Q:Bool->ι->Prop}{nm1 nm2:Str}(hC:h.get? C=some (excClassObj nm1 q1 C N1 bs1 bm1 hd1 sn1 sub1 ab1 co1 dd1 j0 j1 j2 j3 j5 ni1))(hD:h.get? Cn=some (excClassObj nm2 q2 Cn N2 bs2 bm2 hd2 sn2 sub2 ab2 co2 dd2 l0 l1 l2 l3 l5 ni2))
  (hb:bm2.contains (.type "BaseException")=true)(he:h.get? e=some oe)(oc:oe.cls=.ref C)(hs:(xg C::bm1).contains (.ref Cn)=b)(hq:Q b ⟨h,g,d,t,os⟩):Φ M A (excMatches (.ref e) (.ref Cn)) Q E ⟨h,g,d,t,os⟩:=by
 have c1:(xg Cn::bm2).contains (.type "BaseException")=true:=by rw[BP,hb,Bool.or_true]
 have c2:=tc_notTuple;unfold excMatches
 repeat (first
  |with_reducible refine Ah hD ?_
  | (with_reducible refine Ah he ?_;rw[oc])
  | (with_reducible refine AL hD ?_;rw[c1])
  | (with_reducible refine AL hC ?_;rw[hs])
  |wp_step)
 cases b <;> (wp_walk;exact hq)
end
end L2
namespace L2
open PySem PyProof.Rows
abbrev VB:List Value:=[.type "ValueError",.type "Exception",.type "BaseException",.type "object"]
structure fH (K:Ω) (C R fI:Addr):Prop where
 obj:∃(nm qn:Str) (N:Addr) (bs:List Value) (sn:List Str) (sub:List Value) (ab:Bool) (col:Option Bool) (dd:Option Addr) (k0 k1 k2 k3 k5:Option Value),
  K.lookup C=some (hV nm qn C N bs (.ref R::VB) true sn sub ab col dd k0 k1 k2 k3 k5)/\PySem.W.nsOkIn K N=true/\AX K N "__init__" = some (some (.ref fI))
 fn:isFn K (.ref fI)=true
 kp:keepIn K (.ref C)=true
 sa:zj K (.ref C) "__setattr__" = some (some (.builtin "object.__setattr__"))
 ga:zj K (.ref C) "__getattribute__" = some (some (.builtin "BaseException.__getattribute__"))
 gh:zj K (.ref C) "__getattr__" = some none
theorem aJt(R:Addr):zB (.ref R::VB):=⟨rfl,rfl,rfl,rfl⟩
theorem aDx{K:Ω}{m:Str->Option Value}(X:K.In h)(G:h.Ns N m)(e:AX K N n=some (some v)):m n=some v:=by
 obtain⟨o,es,ep,ho,hd,_,hf⟩:=G;unfold AX at e;cases q:K.lookup N with
 |none=>rw[q]at e;cases e
 |some o' =>
  have z:=X _ _ q;rw[ho]at z;cases z;rw[q]at e;obtain⟨c,d,dt,sl⟩:=o;cases hd;rw[←hf];unfold nsFind findBy;rw[←Array.find?_toList];dsimp only at e;cases q2:es.toList.find? (fun x=>x.key.isStr n) with
  |some y =>
   rw[q2]at e;exact congrArg (fun z:Option (Option Value)=>z.getD none) e
  |none =>
   rw[q2]at e;dsimp only at e
   split at e <;> cases e
theorem fH.cls{K:Ω}(c:fH K C R fI)(X:K.In h):
  ∃(nm qn:Str) (N:Addr) (bs:List Value) (sn:List Str) (sub:List Value) (ab:Bool) (col:Option Bool) (dd:Option Addr) (k0 k1 k2 k3 k5:Option Value) (mN:Str->Option Value) (oI:Obj),
   h.get? C=some (hV nm qn C N bs (.ref R::VB) true sn sub ab col dd k0 k1 k2 k3 k5)/\h.Ns N mN/\mN "__init__" = some (.ref fI)/\h.get? fI=some oI/\oI.cls=.type "function":=by
 obtain⟨nm,qn,N,bs,sn,sub,ab,col,dd,k0,k1,k2,k3,k5,lk,nsok,nsi⟩:=c.obj;have hN:=yp.Ns.of_isNs (PySem.W.isNs_of_in X nsok);have hf:=c.fn;unfold isFn PySem.W.typeIn at hf;have hf':=beq_iff_eq.mp hf;obtain⟨oI,q,r⟩:=Option.map_eq_some_iff.mp hf';exact⟨nm,qn,N,bs,sn,sub,ab,col,dd,k0,k1,k2,k3,k5,_,oI,X _ _ lk,hN,aDx X hN nsi,X _ _ q,r⟩
section
variable {prog:za}{w:Af}{A:yr}{E:Value->ι->Prop}{s:ι}{K:Ω}{e C R fI:Addr}{oe:Obj}{vs:Array Value}{name:Str}{v:Value}
theorem uJ{od:Option Obj}(he:s.heap.get? e=some oe)(oc:oe.cls=.ref C)(hd:oe.data=.fields vs)(hx:match oe.dict,od with|some dx,some o=>s.heap.get? dx=some o|none,none=>True|_,_=>False):PySem.W.InstAt s.heap e oe C od :=
 ⟨he,oc,by unfold PySem.W.notCls;rw[hd],hx⟩
theorem fH.clsIn(c:fH K C R fI):∃cd,PySem.W.clsIn K C=some cd/\cd.mro=.ref C :: .ref R::VB/\cd.hasDict=true:=by
 obtain⟨nm,qn,N,bs,sn,sub,ab,col,dd,k0,k1,k2,k3,k5,lk,_⟩:=c.obj;exact⟨_,by unfold PySem.W.clsIn;rw[lk],rfl,rfl⟩
theorem uG{Q:Unit->ι->Prop}(X:K.In s.heap)(c:fH K C R fI)(I:PySem.W.InstAt s.heap e oe C od)(hf:zj K (.ref C) name=some none)
  (h:Φ (xj prog w) A.in1 (By (.ref e) (.ref C) (.str name s.toks) name v false)
   (fun fin s'=>match fin with | .done (.ret _)=>Q () s'|_=>False) (fun _ _=>False) { s with toks:=s.toks+1 }):
  Φ (xj prog w) A (setAttr (.ref e) name v) Q E s:=by
 have SF:=PySem.F.store_ValueError;obtain⟨cd,hcd,hm,hh⟩:=c.clsIn;refine PySem.W.set_plain X I c.sa ?_;have mro:PySem.W.Looks (xj prog w) s.heap (mroOf (.ref C)) (.ref C :: .ref R::VB):=hm ▸ (Cy X hcd).andThen .now;have isO:PySem.W.Looks (xj prog w) s.heap (isInstance (.ref e) (.type "object")) true:=I.type.andThen (PySem.W.looks_mroIn X (by
  unfold AF;rw[hcd,Option.bind_some,hm,if_neg (by intro z;cases z)];rfl))
 refine Cp SF.slot.plain SF.entry (@PySem.W.check_slot (xj prog w) _ _ { s with toks:=s.toks+1 } "object.__setattr__" "object" "__setattr__" (.ref e) [.str name s.toks,v] [] _ SF.kind SF.split isO (SF.args (.ref e) (.str name s.toks) v) ?_);rw[PySem.W.osa_eq,refuse_eq];refine ζ (ζ (AU (s:={ s with toks:=s.toks+1 }) I.type (ζ (AU (s:={ s with toks:=s.toks+1 }) mro ?_))));rw[refuseLoop_ref,refuseLoop_ref,SF.passes];refine τ (ζ (AU (s:={ s with toks:=s.toks+1 }) I.type (ζ (AU (s:={ s with toks:=s.toks+1 }) (Ci X hf) (ζ (τ ?_))))));refine ym h (fun fin s' z=>?_) fun _ _ z=>z.elim;rcases fin with (_|_|_|_)|_ <;> first|exact z|exact z.elim
theorem aDo{Q:Unit->ι->Prop}(X:K.In s.heap)(c:fH K C R fI)(he:s.heap.get? e=some oe)(oc:oe.cls=.ref C)(hd:oe.data=.fields vs)(hx:oe.dict=none)(hf:zj K (.ref C) name=some none)
  (h:∀h' dx tk,s.heap.objs.size<=dx->dx≠e->h'.get? e=some { oe with dict:=some dx }->h'.Ns1 dx (fun y=>if y=name then some v else none)->(∀b o,b≠e->s.heap.get? b=some o->h'.get? b=some o)->Q () { s with heap:=h',toks:=tk }):
  Φ (xj prog w) A (setAttr (.ref e) name v) Q E s:=by
 obtain⟨cd,hcd,hm,hh⟩:=c.clsIn;refine uG X c (uJ (od:=none) he oc hd (by rw[hx];trivial)) hf ?_;obtain⟨cc,dd,dt,sl⟩:=oe;cases oc;cases hd;cases hx;have ne:s.heap.objs.size≠e:=zf (Θ he);unfold By CP instanceDict;refine ζ (τ ?_);refine ζ (ζ (wpAny_loadPart he (ζ (AU (s:={ s with toks:=s.toks+1 }) (Cy X hcd) ?_))));rw[hh];refine ζ (wpAny_alloc ?_);have he1:=ξ ({ cls:=.type "dict",data:=.dict #[] } : Obj) he;refine ζ (wpAny_update he1 ?_);refine τ (a:=some s.heap.objs.size) ?_;have hg:((s.heap.push ({ cls:=.type "dict",data:=.dict #[] } : Obj)).update e fun o=>{ o with dict:=some s.heap.objs.size }).get? s.heap.objs.size=some ({ cls:=.type "dict",data:=.dict #[] } : Obj):=(yp.get?_update_ne _ _ _ _ ne).trans (yp.get?_push_at rfl rfl);have hE:((s.heap.push ({ cls:=.type "dict",data:=.dict #[] } : Obj)).update e fun o=>{ o with dict:=some s.heap.objs.size }).Ns s.heap.objs.size (fun _=>none):=⟨_,#[],_,hg,rfl,fun y hy=>absurd hy (by simp),fun _=>rfl⟩;refine ζ (τ (ζ (wpAny_nsSet1 (yp.Ns1.of_empty hE) fun h' hn hs=>?_)));obtain⟨oD,esD,epD,hoD,hdD,hcD⟩:=hn.count (AY.cons name v AY.nil);refine ζ (wpAny_lookBehind hoD (by rw[hdD];exact pastItsLine_dict (yb hcD (by rw[Ξ,Bm];omega))) ?_);refine τ (h h' s.heap.objs.size _ (μ _) ne ((hs.2 _ (Ag ne)).trans (AS _ he1 rfl)) hn fun b o hb q=>?_);exact(hs.2 b (wz (Θ q))).trans ((yp.get?_update_ne _ _ _ _ hb).trans (ξ _ q))
theorem aIq{mA:Str->Option Value}{Q:Unit->ι->Prop}(X:K.In s.heap)(c:fH K C R fI)(he:s.heap.get? e=some oe)(oc:oe.cls=.ref C)(hd:oe.data=.fields vs)(hx:oe.dict=some dx)(hN:s.heap.Ns1 dx mA)(hw:AY mA ns)(hz:ns.length<=Δ)(hf:zj K (.ref C) name=some none)
  (h:∀h',h'.Ns1 dx (fun y=>if y=name then some v else mA y)->Ac dx s.heap h'->Q () { s with heap:=h',toks:=s.toks+2 }):
  Φ (xj prog w) A (setAttr (.ref e) name v) Q E s:=by
 obtain⟨cd,hcd,hm,hh⟩:=c.clsIn;obtain⟨o1,es1,ep1,ho1,_⟩:=id hN;refine uG X c (uJ (od:=some o1) he oc hd (by rw[hx];exact ho1)) hf ?_;obtain⟨cc,dd,dt,sl⟩:=oe;cases oc;cases hd;cases hx;unfold By CP instanceDict;refine ζ (τ ?_);refine ζ (ζ (wpAny_loadPart he (ζ (AU (s:={ s with toks:=s.toks+1 }) (Cy X hcd) ?_))));rw[hh];refine τ (a:=some dx) (ζ (τ (ζ (wpAny_nsSet1 (s:={ s with toks:=s.toks+1 }) hN fun h' hn hs=>?_))));obtain⟨oD,esD,epD,hoD,hdD,hcD⟩:=hn.count (AY.cons name v hw);refine ζ (wpAny_lookBehind hoD (by rw[hdD];exact pastItsLine_dict (yb hcD (by rw[Ξ];omega))) ?_);exact τ (h _ hn hs)
end
section
variable {prog:za}{w:Af}{A:yr}{E:Value->ι->Prop}{s:ι}{K:Ω}{e C R fI:Addr}{oe:Obj}{vs:Array Value}{name:Str}{v:Value}
theorem xget{Q:Value->ι->Prop}(X:K.In s.heap)(c:fH K C R fI)(I:PySem.W.InstAt s.heap e oe C od)(hf:PySem.W.findObj K C od name=some (.value v))(hh:PySem.W.handedIn v=true)(h:Q v { s with toks:=s.toks+1 }):
  Φ (xj prog w) A (getAttr (.ref e) name expr) Q E s:=by
 obtain⟨cd,hcd,hm,_⟩:=c.clsIn;have isB:PySem.W.Looks (xj prog w) s.heap (isInstance (.ref e) (.type "BaseException")) true:=I.type.andThen (PySem.W.looks_mroIn X (by
  unfold AF;rw[hcd,Option.bind_some,hm,if_neg (by intro z;cases z)];rfl))
 have L0:=I.type (M:=xj prog w);have L1:=Ci (M:=xj prog w) X c.ga;have L2:=Ci (M:=xj prog w) X c.gh;have L3:=PySem.W.looks_find (M:=xj prog w) X I hf;have hx0:(expr&&onTheHeap (Value.builtin "BaseException.__getattribute__"))=false:=by cases expr <;> rfl
 obtain⟨hp,g,d,t,os⟩:=s;unfold getAttr getAttrBy;refine ζ (wpAny_mkText (yv (ζ (L0.at (ζ (L1.at ?_))))));show Φ _ _ (getAttrByItsOwn _ _ _ _ _ _) _ _ _;unfold getAttrByItsOwn;refine ζ (show Φ _ _ (Ck (.ref C) "__getattr__") _ _ _ from L2.at ?_);have FB:=PySem.F.attr_ValueError.ga;have hk:builtinKind "BaseException.__getattribute__" = some .slot:=by ac_rfl
 have hs:splitId "BaseException.__getattribute__" = some ("BaseException","__getattribute__"):=by ac_rfl
 refine ζ (DS (yv ?_));unfold callGetattribute;rw[hx0,if_neg ρ];unfold boundAndCalled;rw[FB.bind];refine ζ (τ (Dh ?_));show Cu _ _ (.call (.builtin "BaseException.__getattribute__") ⟨[.ref e,.str name t],[]⟩) _ _;refine Cp FB.plain PySem.F.entry_bexc_ga ?_;refine @PySem.W.check_slot (xj prog w) _ _ _ "BaseException.__getattribute__" "BaseException" "__getattribute__" (.ref e) [.str name t] [] _ hk hs isB (PySem.F.args_bexc_ga _ _) ?_;unfold AH.«object.__getattribute__» slotArgs;refine ζ (τ ?_);refine ζ (τ ?_);refine ζ (L0.at ?_);refine ζ (L3.at ?_);refine τ ?_;show Φ _ _ (handedOut v) _ _ _;rw[PySem.W.handedOut_of hh];exact τ h
end
end L2
namespace L2
open PySem PySem.Spec PyProof.Rows
def Ex0 (e C:Addr) (dx:Option Addr):HO:=.ext fun h=>∃oe vs,h.get? e=some oe/\oe.cls=.ref C/\oe.dict=dx/\oe.data=.fields vs/\1<vs.size/\vs[1]?=some .none
def ExF (e C:Addr) (dx:Option Addr):HO:=.ext fun h=>∃oe vs,h.get? e=some oe/\oe.cls=.ref C/\oe.dict=dx/\oe.data=.fields vs
theorem Ex0.ok{h:yp}{e:Addr}{dx:Option Addr}(he:h.get? e=some oe)(hc:oe.cls=.ref C)(hx:oe.dict=dx)(hd:oe.data=.fields vs)(h1 : 1<vs.size)(hv:vs[1]?=some .none):qK P w H h e (Ex0 e C dx) :=
 ⟨⟨oe,vs,he,hc,hx,hd,h1,hv⟩,⟨oe,he⟩,fun _ _ ⟨oe,vs,a,b⟩ k=>⟨oe,vs,k _ a,b⟩⟩
theorem ExF.ok{h:yp}{e:Addr}{dx:Option Addr}(he:h.get? e=some oe)(hc:oe.cls=.ref C)(hx:oe.dict=dx)(hd:oe.data=.fields vs):qK P w H h e (ExF e C dx) :=
 ⟨⟨oe,vs,he,hc,hx,hd⟩,⟨oe,he⟩,fun _ _ ⟨oe,vs,a,b⟩ k=>⟨oe,vs,k _ a,b⟩⟩
theorem Xc.ok(x:Xc h e C dx T fl):qK P w H h e (ExF e C dx):=by
 obtain⟨oe,vs,he,hc,hx,hd,_⟩:=x;exact ExF.ok he hc hx hd
structure Fly (X:Cx) (pins:List (Addr×Obj)) (σ:St) (H:Hp) (s:ι) (e C:Addr) (dx:Option Addr) (T:Addr) (fl:Option Value):Prop where
 inv:Inv X pins σ H s
 at_:H e=some (ExF e C dx)
 xc:Xc s.heap e C dx T fl
 ye:X.s₀.heap.objs.size<=e
 fp:T=e\/dD X pins H T
section
variable {X:Cx}{pins:List (Addr×Obj)}{σ:St}{H H':Hp}{s s':ι}{e C:Addr}{dx:Option Addr}{T:Addr}{fl:Option Value}
theorem Fly.moved(f:Fly X pins σ H s e C dx T fl){T':Addr}(m:Mv (frs X.stack) e T s.heap h')(hT:T'=T\/s.heap.objs.size<=T')(x':Xc h' e C dx T' fl'):
  Fly X pins σ H { s with heap:=h' } e C dx T' fl':=by
 have I:=f.inv;have nT:∀b u,H b=some u->b≠e->b≠T:=fun b u q ne z=>by
  rcases f.fp with y|y
  ·exact ne (z.trans y)
  ·rw[z,y.1]at q;cases q
 have hok:HOk X.prog X.w H h':=fun b u q=>by
  by_cases hb:b=e
  ·subst hb;rw[f.at_]at q;cases q;exact x'.ok
  ·refine(I.hok b u q).stay (fun c v hc z=>?_) (fun _ z=>z) fun _ _ z=>z;have hc':∃u',H c=some u'/\c≠e:=by
    rcases hc with rfl|hc
    ·exact⟨u,q,hb⟩
    ·exact⟨_,hc,fun y=>by rw[y,f.at_]at hc;cases hc⟩
   obtain⟨u',qc,nc⟩:=hc';exact(m c v z nc (nT c u' qc nc)).1 fun y=>by rw[I.stkFree c y]at qc;cases qc
 obtain⟨oe,vs,he,_⟩:=id x';have un:Un (frs X.stack) [T] H H s.heap h':=by
  have nn:∀b,H b=none->b≠e:=fun b n z=>by rw[z,f.at_]at n;cases n
  refine⟨fun b o q n hb hx=>(m b o q (nn b n) (fun z=>hx (by simp[z]))).1 hb,fun b o q n _ hx=>(m b o q (nn b n) (fun z=>hx (by simp[z]))).2,fun _ _ _ n _=>n,fun b o q hx=>?_,fun _ _ q=>q,fun _ _ _ q=>q,fun _ ps q=>⟨#[],by rw[q];simp⟩⟩
  by_cases hb:b=e
  ·exact⟨oe,hb ▸ he⟩
  ·obtain⟨_,sl,z⟩:=m b o q hb (fun z=>hx (by simp[z]));exact⟨_,z⟩
 have hch:∀b∈[T],(b∈X.ex\/X.s₀.heap.objs.size<=b)/\b≠X.env.locals/\(∀x c,X.env.cells.lookup x=some c->c≠b)/\∀p∈X.pn++pins,p.1≠b:=fun b hb=>by
  obtain rfl:b=T:=by simpa using hb
  rcases f.fp with y|y
  ·subst y;refine⟨.inr f.ye,fun z=>?_,fun x c q z=>?_,fun p hp z=>?_⟩
   ·have:=I.free;rw[←z,f.at_]at this;cases this
   ·have:=I.freeC x c q;rw[z,f.at_]at this;cases this
   ·have:=(I.pin p hp).2.1;rw[z,f.at_]at this;cases this
  ·exact⟨y.2.2.2.1,y.2.1,y.2.2.2.2.1,y.2.2.2.2.2⟩
 refine⟨I.call (g':=s.gens) (t':=s.toks) (d':=s.drawn) un hok I.bare hch,f.at_,x',f.ye,?_⟩;rcases hT with z|z
 ·rw[z];exact f.fp
 ·exact .inr (I.fpOk z (I.hok.fresh z))
theorem Xc.neT(x:Xc h e C dx T (some v)):T≠e:=by
 obtain⟨oe,vs,_,_,_,_,_,⟨z,_⟩|⟨_,_,_,_,n,_⟩⟩:=x
 ·cases z
 ·exact n
def CXE (P:za) (w:Af):CXT:=fun outer H s E ev s'=>∃(e C:Addr) (dx:Option Addr) (T:Addr) (H':Hp),ev=.ref e/\s'.os=s.os/\AllBare s'.gens/\Un (frs outer) [] H H' s.heap s'.heap/\HOk P w H' s'.heap ∧
 H' e=some (ExF e C dx)/\Xc s'.heap e C dx T (some .none)/\s.heap.objs.size<=e/\s.heap.objs.size<=T/\H' T=none/\E ev none H'
theorem Fly.of_call{E:XK}(I:Inv X pins σ H s)(h:CXE X.prog X.w X.stack H s E ev s'):∃e C dx T H',ev=.ref e/\Fly X pins σ H' s' e C dx T (some .none)/\E ev none H':=by
 obtain⟨e,C,dx,T,H',rfl,os,ba,un,hok,at_,xc,ye,yT,hT,hE⟩:=h;have I':=I.call' (ch:=[]) os un hok ba (fun b hb=>absurd hb (by simp));exact⟨e,C,dx,T,H',rfl,⟨I',at_,xc,yb I.sz ye,.inr (I.fpOk yT hT)⟩,hE⟩
end
section
variable {P:za}{w:Af}{K:Ω}{mg:Str->Option Value}{base:yp}{N:List Str}{qual:Str}{scope:Scope}{f:Addr}{cd:Value}{A:yr}{outer:List Env}{s₀ : ι}{H₀ : Hp}{E E':XK}
theorem aBb(y:Fly (dF (CXE P w) P w K mg base N qual scope f cd A outer s₀ H₀ E) pins σ H s e C dx T fl)
  (hf:fl=none\/fl=some .none\/fl=some (Bc s₀.heap.objs.size))(hE:E (.ref e) none H):(dF (CXE P w) P w K mg base N qual scope f cd A outer s₀ H₀ E).xe (.ref e) s:=by
 have I:=y.inv;refine aKs (base:=base) (env:=envOfC qual scope s₀.heap.objs.size f cd) (outer:=outer) I.ok.frames rfl I.stack y.xc hf fun h' T' hT x' m=>?_;have y':=y.moved m hT x';have I':=y'.inv;rcases y'.fp with z|z
 ·exact absurd z x'.neT
 refine⟨e,C,dx,T',H,rfl,I'.os,I'.bare,I'.base,I'.hok,y.at_,x',y.ye,?_,z.1,hE⟩;rcases z.2.2.2.1 with q|q
 ·exact absurd (show T'∈([]:List Addr) from q) (by simp)
 ·exact q
theorem aGl(hE:∀v d H',E' v d H'->E v d H'):zH (CXE P w) (dF (CXE P w) P w K mg base N qual scope f cd A outer s₀ H₀ E) E':=by
 intro pins σ H s ev s' I h;obtain⟨e,C,dx,T,H',rfl,y,q⟩:=Fly.of_call (X:=dF (CXE P w) P w K mg base N qual scope f cd A outer s₀ H₀ E) I h;exact aBb y (.inr (.inl rfl)) (hE _ _ _ q)
theorem passX : zH (CXE P w) X E0:=fun _ _ _ _ _ _ _ h=>by
 obtain⟨_,_,_,_,_,_,_,_,_,_,_,_,_,_,_,q⟩:=h;exact q.elim
def aKl (X:Cx) (S:St->Prop) (E:XK):Prop:=∀(pins:List (Addr×Obj)) (σ:St) (H:Hp) (s:ι) (e C:Addr) (dx:Option Addr),S σ->Inv X pins σ H s->H e=some (Ex0 e C dx)->X.s₀.heap.objs.size<=e->E (.ref e) none (upd H e (ExF e C dx))->X.xe (.ref e) s
theorem Fly.start{H:Hp}(I:Inv X pins σ H s)(he:H e=some (Ex0 e C dx))(ye:X.s₀.heap.objs.size<=e):
  Fly X pins σ (upd H e (ExF e C dx)) s e C dx e none:=by
 obtain⟨⟨oe,vs,q,hc,hx,hd,h1,hv⟩,_⟩:=I.hok e _ he;have I':Inv X pins σ (upd H e (ExF e C dx)) s:=by
  have:=I.write (x:=e) (e:=e) (o:=ExF e C dx) (t':=s.toks) (h':=s.heap) (by rw[he];exact yg) (.inl rfl) (fun _ _ _ z=>z) ⟨_,q⟩ (ExF.ok q hc hx hd);exact this
 exact⟨I',jF,⟨oe,vs,q,hc,hx,hd,h1,.inl ⟨rfl,rfl,hv⟩⟩,ye,.inl rfl⟩
theorem zX:aKl (dF (CXE P w) P w K mg base N qual scope f cd A outer s₀ H₀ E) (fun _=>True) E:=fun pins σ H s e C dx _ I he ye hE=>aBb (Fly.start I he ye) (.inl rfl) hE
theorem ownE:PassesOwn (xj P w) (A.deeper (envOfC qual scope s₀.heap.objs.size f cd)) (envOfC qual scope s₀.heap.objs.size f cd) (dF (CXE P w) P w K mg base N qual scope f cd A outer s₀ H₀ E).xe:=PassesOwn.leaving
end
theorem Fun.okE{P:za}{w:Af}{K:Ω}{mg:Str->Option Value}{base:yp}{x qual:Str}{st:Stmt}{f:Addr}{fd:yn}{N ps:List Str}{k:Nat}{sp:Sp}(F:Fun K x qual st f fd)(S:jL N ps (jG st))(len:∀vs H Q E,sp vs H Q E->vs.length=ps.length)
  (hbody:∀(cdv:Value) (A:yr) (outer:List Env) (s:ι) (H:Hp) (vs:List V) (Q:VK) (E:XK),vB k (A.deeper (envOfC qual (jG st) s.heap.objs.size f cdv))->sp vs H Q E →
   ∃t,PSs (dF (CXE P w) P w K mg base N qual (jG st) f cdv A outer s H E) (vW st) t/\t { nx:=fun _ H'=>Q .non H',rt:=Q } (start N vs) H):jK P w K mg base (CXE P w) (k+1) f fd ps sp:=by
 obtain⟨oc,od,kV,doc,pm,an,cdv,ct,osl,rfl,lk,hcd⟩:=F.ex;exact aQc lk hcd S len fun A outer s H vs Q E hr hsp=>hbody cdv A outer s H vs Q E hr hsp
theorem Cx.Ok.re{X:Cx}(ok:X.Ok)(pn:List (Addr×Obj))(E:Value->ι->Prop):Cx.Ok { X with pn:=pn,xe:=E } :=
 ⟨ok.mod,ok.kind,ok.glob,ok.blt,ok.above,ok.inj,ok.has,ok.cab,ok.hd,ok.frames,ok.stk,ok.exf,ok.bs,ok.bsz,ok.noex,ok.exfs,ok.funs,ok.frf⟩
theorem Cx.Ok.back{X:Cx}{pn:List (Addr×Obj)}{E:Value->ι->Prop}(ok:Cx.Ok { X with pn:=pn,xe:=E }):X.Ok :=
 ⟨ok.mod,ok.kind,ok.glob,ok.blt,ok.above,ok.inj,ok.has,ok.cab,ok.hd,ok.frames,ok.stk,ok.exf,ok.bs,ok.bsz,ok.noex,ok.exfs,ok.funs,ok.frf⟩
section
variable {X:Cx}{pins:List (Addr×Obj)}{σ:St}{H:Hp}{s:ι}
theorem Inv.re(I:Inv X pins σ H s)(pn pins':List (Addr×Obj))(E:Value->ι->Prop)(h:∀p∈pn++pins',p∈X.pn++pins):Inv { X with pn:=pn,xe:=E } pins' σ H s :=
 ⟨I.ok.re pn E,I.os,I.bare,I.base,I.loc,I.cell,I.free,I.freeC,fun p hp=>I.pin p (h p hp),I.hok,I.len⟩
theorem Inv.back{pn:List (Addr×Obj)}{E:Value->ι->Prop}(I:Inv { X with pn:=pn,xe:=E } pins' σ H s)(h:∀p∈X.pn++pins,p∈pn++pins'):Inv X pins σ H s :=
 ⟨I.ok.back,I.os,I.bare,I.base,I.loc,I.cell,I.free,I.freeC,fun p hp=>I.pin p (h p hp),I.hok,I.len⟩
def XT (X:Cx) (pn:List (Addr×Obj)) (S:St->Prop) (W:XK):Value->ι->Prop:=fun ev s=>∃(e C:Addr) (dx:Option Addr) (T:Addr) (fl:Option Value) (σ:St) (H:Hp),
 ev=.ref e/\Fly { X with pn:=pn,xe:=fun _ _=>False } [] σ H s e C dx T fl/\(fl=none\/fl=some .none)/\S σ/\W ev none H
abbrev XB (X:Cx) (pn:List (Addr×Obj)) (S:St->Prop) (W:XK):Cx:={ X with pn:=pn,xe:=XT X pn S W }
theorem Fly.re{pn:List (Addr×Obj)}{E E':Value->ι->Prop}(f:Fly { X with pn:=pn,xe:=E } pins σ H s e C dx T fl):Fly { X with pn:=pn,xe:=E' } [] σ H s e C dx T fl:=by
 refine⟨?_,f.at_,f.xc,f.ye,?_⟩
 ·exact Inv.re (X:={ X with pn:=pn,xe:=E }) f.inv pn [] E' (fun p hp=>by
   rw[ya]at hp;exact Aq _ hp)
 ·rcases f.fp with z|⟨a1,a2,a3,a4,a5,a6⟩
  ·exact .inl z
  ·exact .inr ⟨a1,a2,a3,a4,a5,fun p hp=>a6 p (by
    have hp':p∈pn++[]:=hp;rw[ya]at hp';exact Aq _ hp')⟩
def aAc (CX:CXT) (X:Cx) (S:St->Prop) (E:XK):Prop:=∀(pins:List (Addr×Obj)) (σ:St) (H:Hp) (s:ι) (e:Value) (s':ι),S σ->Inv X pins σ H s->CX X.stack H s E e s'->X.xe e s'
theorem passT : aAc (CXE X.prog X.w) (XB X pn S W) S W:=by
 intro pins σ H s ev s' hS I h;obtain⟨e,C,dx,T,H',rfl,y,q⟩:=Fly.of_call (X:=XB X pn S W) I h;exact⟨e,C,dx,T,_,σ,H',rfl,y.re,.inr rfl,hS,q⟩
end
section
variable {X:Cx}{CX:CXT}{k:Nat}{f C:Addr}{fd:yn}{ps:List Str}{sp:Sp}{dvs:List V}{ds:List Value}{E:XK}{S:St->Prop}{x m:Str}{p pos apos:Pos}{e o:Expr}{es:List Expr}{ta:TE}{t:TA}
theorem aNv{Q:VK}(F:jK X.prog X.w X.K X.mg X.base CX k f fd ps sp)(hr:vB k X.A)(hb:Binds X.K fd ps ds)(hd:kG dvs ds)(hx:aAc CX X S E)(hS:S σ)
  (I:Inv X pins σ H s)(r:kG vs us)(h:sp (vs++dvs) H Q E):Φ (xj X.prog X.w) X.A (call (.ref f) us) (EP X pins σ Q) X.xe s:=by
 have r2:kG (vs++dvs) (us++ds):=r.append hd;have hl:(us++ds).length=ps.length:=by rw[←r2.length];exact F.len _ _ _ _ h
 refine Dh (BM (F.run X.A X.stack s H ⟨us,[]⟩ (us++ds) (vs++dvs) Q E hr I.env0 (hb s us I.kIn hl) r2 h) fun r s' hq=>?_);cases r with
 |error e=>exact hx pins σ H s e s' hS I hq
 |ok fl =>
  cases fl with
  |ret u=>exact I.after hq
  |next=>exact yf hq
  |brk=>exact yf hq
  |cont=>exact yf hq
def aTa (S:St->Prop) (sp:Sp) (dvs:List V) (E:XK) (t:TA):TE:=fun σ H Q=>t σ H fun vs H1=>S σ/\sp (vs++dvs) H1 Q E
theorem aLn(F:jK X.prog X.w X.K X.mg X.base CX k f fd ps sp)(hr:vB k X.A)(hg:Gl X x)(hm:X.mg x=some (.ref f))(hk:keepIn X.K (.ref f)=true)(hb:Binds X.K fd ps ds)(hd:kG dvs ds)(hx:aAc CX X S E)
  (ha:PA X (e::es) t)(hdb:(x == ("__debug__" : Str))=false:=by decide)(he:xi (e::es) X.env=(false,eval e X.env)::xi es X.env:=by rfl)(hpl:(AQ pos (xi es X.env)).any (·.1)=false:=by rfl):
  PE X (.Call (.Name x p) (e::es) [] pos) (aTa S sp dvs E t):=by
 intro pins s σ H Q I h;refine AA (fA I hg hm ?_ hdb);refine Bt (h₀:=X.base) I.ok.mod.kin hk (thn (ha pos pins s σ H _ I h) fun us s1 ⟨vs,H1,I1,r,hS,q⟩=>⟨I1.kIn,?_⟩) he hpl;exact aNv F hr hb hd hx hS I1 r q
end
structure XCls (K:Ω) (C:Addr) (bm:List Value):Prop where
 obj:∃(nm q:Str) (N:Addr) (bs:List Value) (hd:Bool) (sn:List Str) (sub:List Value) (ab:Bool) (col:Option Bool) (dd:Option Addr) (k0 k1 k2 k3 k5:Option Value) (ni:String),K.lookup C=some (excClassObj nm q C N bs bm hd sn sub ab col dd k0 k1 k2 k3 k5 ni)
 b:bm.contains (.type "BaseException")=true
abbrev XH (X:Cx) (e:Addr):Cx:={ X with A:=X.A.mark (some (.ref e)),calm:=false,xe:=fun _ _=>False }
section
variable {X:Cx}{pins:List (Addr×Obj)}{σ:St}{H:Hp}{s:ι}
theorem Inv.toH(I:Inv X pins σ H s)(e:Addr):Inv (XH X e) pins σ H s :=
 ⟨⟨I.ok.mod,I.ok.kind,I.ok.glob,I.ok.blt,I.ok.above,I.ok.inj,I.ok.has,I.ok.cab,(fun z=>by cases z),I.ok.frames,I.ok.stk,I.ok.exf,I.ok.bs,I.ok.bsz,I.ok.noex,I.ok.exfs,I.ok.funs,I.ok.frf⟩,I.os,I.bare,I.base,I.loc,I.cell,I.free,I.freeC,I.pin,I.hok,I.len⟩
theorem Inv.ofH(hd:X.calm=true->X.A.handled=none)(I:Inv (XH X e) pins σ H s):Inv X pins σ H s :=
 ⟨⟨I.ok.mod,I.ok.kind,I.ok.glob,I.ok.blt,I.ok.above,I.ok.inj,I.ok.has,I.ok.cab,hd,I.ok.frames,I.ok.stk,I.ok.exf,I.ok.bs,I.ok.bsz,I.ok.noex,I.ok.exfs,I.ok.funs,I.ok.frf⟩,I.os,I.bare,I.base,I.loc,I.cell,I.free,I.freeC,I.pin,I.hok,I.len⟩
theorem Inv.unbound{h':yp}{m:Str->Option Value}{u:Option Value}{i:Nat}{n:Str}(I:Inv X pins σ H s)(hN:X.N.Nodup)(hi:X.N[i]?=some n)(hn:s.heap.Ns X.env.locals m)
  (hm:∀(j:Nat) (x:Str) (v:V),X.N[j]?=some x->σ[j]?=some (some v)->Vis X.env.scope x->∃u,RelV v u/\Look X.env s.heap m x u)
  (hn':h'.Ns X.env.locals (fun x=>if x=n then u else m x))(sb:Ac X.env.locals s.heap h'):Inv X pins (σ.set i none) H { s with heap:=h' }:=by
 have kp:∀b o,b≠X.env.locals->s.heap.get? b=some o->h'.get? b=some o:=fun b o nb q=>(sb.2 b nb).trans q;have neL:∀b o,X.s₀.heap.get? b=some o->b≠X.env.locals:=fun b o e=>wz (υ (Θ e) I.ok.above);have B:=I.base;refine⟨I.ok,I.os,I.bare,⟨fun b o q n1 hb hx=>kp b o (neL b o q) (B.keep b o q n1 hb hx),fun b o q n1 hb hx=>?_,B.free,fun b o q hx=>?_,B.tups,B.frzs,B.tbls⟩,⟨_,hn',fun j x v e1 e2 e3=>?_⟩,fun x c e=>?_,I.free,I.freeC,fun p hp=>?_,?_,?_⟩
 ·obtain⟨sl,z⟩:=B.slot b o q n1 hb hx;exact⟨sl,kp b _ (neL b o q) z⟩
 ·obtain⟨o',z⟩:=B.there b o q hx;exact⟨o',kp b _ (neL b o q) z⟩
 ·have hj:j≠i:=fun z=>by
   subst z;rw[List.getElem?_set_self' ]at e2;cases hz : σ[j]? with
   |none=>rw[hz]at e2;cases e2
   |some _=>rw[hz]at e2;cases e2
  rw[DU (Ag hj)]at e2;obtain⟨u',ru,l⟩:=hm j x v e1 e2 e3;have xn:x≠n:=fun z=>hj (rZ hN e1 (z ▸ hi));refine⟨u',ru,?_⟩;rcases l with⟨k1,k2⟩|⟨k1,c,k2,o,ho,hd⟩
  ·exact .inl ⟨k1,by show(if x=n then u else m x)=some u';rw[if_neg xn];exact k2⟩
  ·exact .inr ⟨k1,c,k2,o,kp c o (I.cne x c k2) ho,hd⟩
 ·obtain⟨v,o,ho,hd⟩:=I.cell x c e;exact⟨v,o,kp c o (I.cne x c e) ho,hd⟩
 ·obtain⟨a1,a2,a3,a4,a5⟩:=I.pin p hp;exact⟨kp _ _ a3 a1,a2,a3,a4,a5⟩
 ·intro b o q;refine(I.hok b o q).stay (fun c v hc z=>kp c v ?_ z) (fun _ z=>z) fun _ _ z=>z;rintro rfl;rcases hc with z|z
  ·rw[←z,I.free]at q;cases q
  ·rw[I.free]at z;cases z
 ·rw[List.length_set];exact I.len
end
def XD (dx:Addr) (fs:List (Str×V)):HO:=.ext fun h=>∃mA,h.Ns1 dx mA/\(∀f,zW (fs.lookup f) (mA f))/\AY mA (fs.map (·.1))
theorem XD.ok{h:yp}{fs:List (Str×V)}(a:∃mA,h.Ns1 dx mA/\(∀f,zW (fs.lookup f) (mA f))/\AY mA (fs.map (·.1))):qK P w H h dx (XD dx fs):=by
 obtain⟨mA,⟨o,es,ep,ho,z⟩,r⟩:=id a;exact⟨a,⟨o,ho⟩,fun h1 h2 ⟨mA,⟨o,es,ep,ho,z⟩,r⟩ k=>⟨mA,⟨o,es,ep,k _ ho,z⟩,r⟩⟩
theorem aSc{H:Hp}(e:H a=some o):upd H a o=H:=by
 funext b
 unfold upd
 split
 ·rename_i q;rw[q,e]
 ·rfl
section
variable {X:Cx}{pins:List (Addr×Obj)}{σ:St}{H:Hp}{s:ι}{e C R fI dx:Addr}
theorem Inv.xfirst{h':yp}{t':Nat}{fs:List (Str×V)}(I:Inv X pins σ H s)(he:H e=some (Ex0 e C none))(hx:s.heap.objs.size<=dx)(ne:dx≠e)(g:h'.get? e=some oe)(oc:oe.cls=.ref C)(od:oe.dict=some dx)(hd:oe.data=.fields vs)(h1 : 1<vs.size)(hv:vs[1]?=some .none)
  (hn:∃mA,h'.Ns1 dx mA/\(∀f,zW (fs.lookup f) (mA f))/\AY mA (fs.map (·.1)))(k:∀b o,b≠e->s.heap.get? b=some o->h'.get? b=some o):
  Inv X pins σ (upd (upd H dx (XD dx fs)) e (Ex0 e C (some dx))) { s with heap:=h',toks:=t' }:=by
 have nx:H dx=none:=I.hok.fresh hx;have eqs:∀b u,H b=some u->b≠e->upd (upd H dx (XD dx fs)) e (Ex0 e C (some dx)) b=some u:=fun b u q nb=>by
  rw[jR nb,jR (jI q nx)];exact q
 refine I.un ⟨fun b o q n _ _=>k b o (jI he n).symm q,fun b o q n _ _=>⟨o.slots,k b o (jI he n).symm q⟩,fun b o q n _=>?_,fun b o q _=>?_,fun b xs q=>?_,fun b o u q=>?_,fun b ps q=>⟨#[],?_⟩⟩ fun b u q=>?_
 ·rw[jR (jI he n).symm,jR (wz (υ (Θ q) hx))];exact n
 ·by_cases hb:b=e
  ·exact⟨oe,hb ▸ g⟩
  ·exact⟨o,k b o hb q⟩
 ·exact eqs b _ q fun z=>by rw[z,he]at q;cases q
 ·exact eqs b _ q fun z=>by rw[z,he]at q;cases q
 ·rw[eqs b _ q fun z=>by rw[z,he]at q;cases q];simp
 ·by_cases hb:b=e
  ·subst hb;rw[jF]at q;cases q;exact Ex0.ok g oc od hd h1 hv
  ·rw[jR hb]at q
   by_cases hb2:b=dx
   ·subst hb2;rw[jF]at q;cases q;exact XD.ok hn
   ·rw[jR hb2]at q;refine(I.hok b u q).stay (fun c v hc z=>k c v ?_ z) (fun c z=>eqs c _ z fun y=>by rw[y,he]at z;cases z) fun c xs z=>eqs c _ z fun y=>by rw[y,he]at z;cases z
    rcases hc with y|y
    ·rw[y];exact hb
    ·intro z;rw[z,he]at y;cases y
def sXfld (K:Ω) (ta tv:TE) (f:Str):TS:=fun D σ H=>tv σ H fun y H1=>ta σ H1 fun x H2=>∃e C R fI,x=.ref e/\fH K C R fI/\zj K (.ref C) f=some none ∧
 ((H2 e=some (Ex0 e C none)/\∀dx,H2 dx=none->D.nx σ (upd (upd H2 dx (XD dx [(f,y)])) e (Ex0 e C (some dx)))) ∨
   ∃dx fs,H2 e=some (Ex0 e C (some dx))/\H2 dx=some (XD dx fs)/\fs.length<1000/\D.nx σ (upd H2 dx (XD dx (aR f y fs))))
theorem aRu{Q:Unit->ι->Prop}(I:Inv X pins σ H s)(c:fH X.K C R fI)(hf:zj X.K (.ref C) f=some none)(ry:RelV y u){N:Hp->Prop}
  (h:(H e=some (Ex0 e C none)/\∀dx,H dx=none->N (upd (upd H dx (XD dx [(f,y)])) e (Ex0 e C (some dx))))\/∃dx fs,H e=some (Ex0 e C (some dx))/\H dx=some (XD dx fs)/\fs.length<1000/\N (upd H dx (XD dx (aR f y fs))))
  (q:∀s' H',Inv X pins σ H' s'->N H'->Q () s'):Φ (xj X.prog X.w) A (setAttr (.ref e) f u) Q E s:=by
 rcases h with⟨he,hN⟩|⟨dx,fs,he,hd,hl,hN⟩
 ·obtain⟨⟨oe,vs,g,oc,ox,od,h1,hv⟩,_⟩:=I.hok e _ he;refine aDo I.kIn c g oc od ox hf fun h' dx tk hx ne g' hn k=>?_;refine q _ _ (I.xfirst he hx ne g' oc rfl od h1 hv ⟨_,hn,fun z=>?_,fun z hz=>?_⟩ k) (hN dx (I.hok.fresh hx))
  ·show zW (BD z [(f,y)]) (if z=f then some u else none)
   by_cases hz:z=f
   ·rw[if_pos hz,hz];simp only[BD,beq_self_eq_true];exact ry
   ·have hb:(z == f)=false:=beq_eq_false_iff_ne.mpr hz;rw[if_neg hz];simp only[BD,hb];exact yg
  ·by_cases hz':z=f
   ·rw[hz'];exact ω.mpr rfl
   ·exact absurd (if_neg hz') hz
 ·obtain⟨⟨oe,vs,g,oc,ox,od,h1,hv⟩,_⟩:=I.hok e _ he;obtain⟨⟨mA,hn,r,wi⟩,_⟩:=I.hok dx _ hd;refine aIq I.kIn c g oc od ox hn wi (by rw[ε,ς];omega) hf fun h' hn' sb=>?_;have ho:∃o,h'.get? dx=some o:=let ⟨o,_,_,e',_⟩:=hn'; ⟨o,e'⟩;refine q _ _ (I.write (x:=dx) (e:=dx) (o:=XD dx (aR f y fs)) (by rw[hd];exact yg) (.inl rfl) (fun b o hb z=>(sb.2 b hb).trans z) ho (XD.ok ⟨_,hn',fun z=>?_,fun z hz=>?_⟩)) hN
  ·show zW ((aR f y fs).lookup z) (if z=f then some u else mA z);rw[eA]
   by_cases q:z=f
   ·rw[if_pos q,if_pos q];exact ry
   ·rw[if_neg q,if_neg q];exact r z
  ·by_cases q:z=f
   ·rw[q];exact(cA f y fs).1
   ·refine(cA f y fs).2 z (wi z fun y'=>hz ?_);show(if z=f then some u else mA z)=none;rw[if_neg q];exact y'
theorem oA{pos:Pos}(ha:PE X o ta)(hv:PE X value tv)(hs:swapsWith value (some (.Attribute o f pos')) pos.line X.env=pure false:=by rfl):PS X (.Assign [.Attribute o f pos'] value pos) (sXfld X.K ta tv f):=by
 intro pins s σ H D I h;refine plainObj_wpAny_Assign_Attribute (thn (hv pins s σ H _ I h) fun u s1 ⟨y,H1,I1,ry,h1⟩=>thn (ha pins s1 σ H1 _ I1 h1) fun ov s2 zq=>?_) hs;obtain⟨x,H2,I2,rx,e,C,R,fI,ex,c,hf,h2⟩:=zq;subst ex;obtain rfl:ov=xg e:=rx;exact aRu I2 c hf ry h2 fun s' H' I' q=>⟨σ,H',I',q⟩
def aPw (K:Ω) (ta:TE) (f:Str):TE:=fun σ H Q=>ta σ H fun x H1=>∃e C R fI dx fs v,x=.ref e/\(H1 e=some (ExF e C (some dx))\/H1 e=some (Ex0 e C (some dx)))/\H1 dx=some (XD dx fs)/\fH K C R fI/\zj K (.ref C) f=some none/\fs.lookup f=some v/\Q v H1
theorem aPo(he:PE X o ta)(hb:AZ o f X.env (eval o X.env)=eval o X.env):PE X (.Attribute o f pos) (aPw X.K ta f):=by
 intro pins s σ H Q I h;refine aFo hb (thn (he pins s σ H _ I h) fun u s1 zq=>?_);obtain⟨x,H1,I1,rx,e,C,R,fI,dx,fs,v,ex,ea,ed,c,hf,l,q⟩:=zq;subst ex;obtain rfl:u=xg e:=rx;obtain⟨⟨mA,hn,r,wi⟩,_⟩:=I1.hok dx _ ed;obtain⟨u',hu,ru⟩:=zW.some_of (v:=v) (o:=mA f) (by rw[←l];exact r f);obtain⟨oe,vs,g,oc,ox,od⟩ : ∃oe vs,s1.heap.get? e=some oe/\oe.cls=.ref C/\oe.dict=some dx/\oe.data=.fields vs:=by
  rcases ea with ea|ea
  ·obtain⟨⟨oe,vs,g,oc,ox,od⟩,_⟩:=I1.hok e _ ea;exact⟨oe,vs,g,oc,ox,od⟩
  ·obtain⟨⟨oe,vs,g,oc,ox,od,_⟩,_⟩:=I1.hok e _ ea;exact⟨oe,vs,g,oc,ox,od⟩
 obtain⟨o1,ho,hl⟩:=tE hn;obtain⟨cd,hcd,hm,hh⟩:=c.clsIn;have hh':Cd X.K C=true:=by unfold Cd;rw[hcd];exact hh
 exact xget I1.kIn c (uJ (od:=some o1) g oc od (by rw[ox];exact ho)) (PySem.W.findObj_own hh' hf rfl (by rw[hl,hu])) (tN ru) ⟨v,H1,I1.tok _,ru,q⟩
end
structure aQe (K:Ω) (B f:Addr):Prop where
 r:PySem.W.readsIn K B (.type "type")=true
 fd:PySem.W.findCls K (.ref B) (.type "type") "__init__" = some (.val (.ref f))
 g:Ce K (.ref B) "__getattribute__" = some (some (.builtin "type.__getattribute__"))
 k:keepIn K (.ref f)=true
structure aLq (K:Ω):Prop where
 ga:zj K (.type "type") "__getattribute__" = some (some (.builtin "type.__getattribute__"))
 sub:PySem.W.subIn K (.type "type") (.type "type")=some true
 f:PySem.W.findCls K (.type "ValueError") (.type "type") "__init__" = some (.val (.builtin "ValueError.__init__"))
theorem aKn:typeOf (.type "ValueError")=pure (.type "type"):=by kernel_rfl
theorem aSv:opaqueClassAbove (.type "ValueError")=pure none:=by kernel_rfl
theorem aJw:hookBefore (.type "type")=pure none:=by kernel_rfl
theorem aKb:Ck (.type "type") "__getattribute__" = pure (some (.builtin "type.__getattribute__")):=by rw[typeLookup_type,DF];kernel_rfl
theorem aRr:specialOf (.type "ValueError") "__getattribute__" = pure (some (.builtin "type.__getattribute__")):=by
 unfold specialOf;rw[aKn];show Ck (.type "type") "__getattribute__" = _;exact aKb
section
variable {X:Cx}{CX:CXT}{k:Nat}{f B C R:Addr}{fd:yn}{ps:List Str}{sp:Sp}{dvs:List V}{ds:List Value}{E:XK}{x:Str}{p pos apos:Pos}{e o:Expr}{es:List Expr}{t:TA}
theorem pE(c:aQe X.K B f)(ho:PE X o (tC (.ref B)))(F:jK X.prog X.w X.K X.mg X.base CX k f fd ps sp)(hr:vB k X.A)(hb:Binds X.K fd ps ds)(hd:kG dvs ds)(hx:zH CX X E)(ha:PA X (e::es) t)
  (hst:xi (e::es) X.env=(false,eval e X.env)::xi es X.env:=by rfl)(hpl:(AQ pos (xi es X.env)).any (·.1)=false:=by rfl)
  (ht:eval (.Call (.Attribute o "__init__" apos) (e::es) [] pos) X.env=(do
   let ov ←eval o X.env
   standAt apos.atName
   let (f,first) ←CU [ov] (Dj ov "__init__" pl)
   callWith pos f first (AQ pos (xi (e::es) X.env)) (Ds pos (BE [] X.env))):=by rfl):
  PE X (.Call (.Attribute o "__init__" apos) (e::es) [] pos) (aLs sp dvs E t):=by
 intro pins s σ H Q I h;refine Bv (pl:=pl) (thn (ho pins s σ H (fun v H1=>v=.ref B/\aLs sp dvs E t σ H1 Q) I ⟨rfl,h⟩) fun u s1 zq=>?_) ht;obtain⟨x,H1,I1,rx,ex,q⟩:=zq;subst ex;obtain rfl:u=xg B:=rx;refine PySem.W.method_cls I1.kIn c.g (PySem.W.cls_value I1.kIn c.r c.fd rfl ?_);refine Bt (first:=[]) (h₀:=X.base) I.ok.mod.kin c.k (thn (ha pos pins _ σ H1 _ (I1.tok _) q) fun us s2 ⟨vs,H2,I2,r,q2⟩=>⟨I2.kIn,?_⟩) hst hpl;exact pF F hr hb hd hx I2 r q2
def aJl (K:Ω) (t:TA):TE:=fun σ H Q=>t σ H fun vs H1=>∃e v C R fI dx,vs=[.ref e,v]/\H1 e=some (Ex0 e C dx)/\fH K C R fI/\Q .non H1
theorem aMu(c:aLq X.K)(ho:PE X o (tC (.ty "ValueError")))(ha:PA X (e::es) t)
  (hst:xi (e::es) X.env=(false,eval e X.env)::xi es X.env:=by rfl)(hpl:(AQ pos (xi es X.env)).any (·.1)=false:=by rfl)
  (ht:eval (.Call (.Attribute o "__init__" apos) (e::es) [] pos) X.env=(do
   let ov ←eval o X.env
   standAt apos.atName
   let (f,first) ←CU [ov] (Dj ov "__init__" pl)
   callWith pos f first (AQ pos (xi (e::es) X.env)) (Ds pos (BE [] X.env))):=by rfl):
  PE X (.Call (.Attribute o "__init__" apos) (e::es) [] pos) (aJl X.K t):=by
 intro pins s σ H Q I h;refine Bv (pl:=pl) (thn (ho pins s σ H (fun v H1=>v=.ty "ValueError"/\aJl X.K t σ H1 Q) I ⟨rfl,h⟩) fun u s1 zq=>?_) ht;obtain⟨x,H1,I1,rx,ex,q⟩:=zq;subst ex;obtain rfl:u=De "ValueError":=rx;have key:∀{Q':Value×List Value->ι->Prop},Q' (.builtin "ValueError.__init__",[]) { s1 with toks:=s1.toks+1 }->Φ (xj X.prog X.w) X.A (Dj (.type "ValueError") "__init__" pl) Q' X.xe s1:=fun {Q'} q'=>by
  unfold Dj;refine ζ ((BZ aRr).here ?_);dsimp only;rw[if_pos PySem.W.canon_tga];refine ζ (PySem.W.cls_open (hook:=none) I1.kIn (BZ aSv) (BZ aKn) c.ga (BZ aJw) c.sub c.f (τ ?_));show Φ _ _ (handedOut (.builtin "ValueError.__init__")) _ _ _;rw[PySem.W.handedOut_of (v:=.builtin "ValueError.__init__") rfl];exact τ (τ q')
 refine key ?_;refine DI (thn (ha pos pins _ σ H1 _ (I1.tok _) q) fun us s2 zq=>?_) hst hpl;obtain⟨vs,H2,I2,r,e',v,C,R,fI,dx,ev,he,cx,q2⟩:=zq;subst ev;cases r with
 |cons r1 r2 =>
  cases r2 with
  |cons r3 r4 =>
   cases r4;cases r1;obtain⟨⟨oe,vs,g,oc,ox,od,h1,hv⟩,_⟩:=I2.hok e' _ he;obtain⟨nm,qn,N,bs,sn,sub,ab,col,dd,k0,k1,k2,k3,k5,mN,oI,hC,_⟩:=cx.cls I2.kIn;obtain⟨hh,gg,d,tk,os⟩:=s2;refine xinit (aJt R) hC g oc od h1 fun h' oe' vs' kp g' oc' ox' od' sz hv'=>?_;have I3:=I2.write (x:=e') (e:=e') (o:=Ex0 e' C dx) (t':=tk) (h':=h') (by rw[he];exact yg) (.inl rfl) (fun b o nb z=>kp b o nb z) ⟨_,g'⟩ (Ex0.ok g' (oc'.trans oc) (ox'.trans ox) od' (by rw[sz];exact h1) (hv'.trans hv));rw[aSc he]at I3;exact⟨.non,H2,I3,rfl,q2⟩
theorem aIi{H:Hp}{Q:VK}(c:fH X.K C R f)(F:jK X.prog X.w X.K X.mg X.base CX k f fd ps sp)(hr:vB (k+1) X.A)(hb:Binds X.K fd ps ds)(hd:kG dvs ds)
  (hx:zH CX X E)(I:Inv X pins σ H s)(r:kG vs us)(hz:vs.length<=Δ)(h:∀e,H e=none->sp (.ref e::(vs++dvs)) (upd H e (Ex0 e C none)) (fun v H2=>v=.non/\Q (.ref e) H2) E):
  Φ (xj X.prog X.w) X.A (call (.ref C) us) (fun u s'=>∃e H',u=.ref e/\X.s₀.heap.objs.size<=e/\Inv X pins σ H' s'/\Q (.ref e) H') X.xe s:=by
 obtain⟨nm,qn,N,bs,sn,sub,ab,col,dd,k0,k1,k2,k3,k5,mN,oI,hC,hN,hi,hf,hfc⟩:=c.cls I.kIn;obtain⟨hh,g,d,t,os⟩:=s;refine xmake (aJt R) hC hN hi hf hfc (by rw[←r.length];exact hz) fun h' e mk ye=>?_;obtain⟨kp,en,t0,e1,tn,e2⟩:=mk;have hE:H e=none:=I.hok.fresh ye;have I2:Inv X pins σ (upd H e (Ex0 e C none)) ⟨h',g,d,t,os⟩:=I.laid (a:=e) (o:=Ex0 e C none) (t':=t) kp ye (Ex0.ok e1 rfl rfl rfl (by show 1<6;decide) rfl);have hq:=h e hE;have r2:kG (V.ref e::(vs++dvs)) (xg e::(us++ds)):=.cons rfl (r.append hd);have hl:(xg e::us++ds).length=ps.length:=by
  have e':=r2.length;rw[F.len _ _ _ _ hq]at e';exact e'.symm
 refine Dh (BM (F.run _ X.stack _ _ ⟨xg e::us,[]⟩ (xg e::(us++ds)) _ _ E (hr.make C us []) (I2.env0.make C us []) (hb _ (xg e::us) I2.kIn hl) r2 hq) fun rr s' hq'=>?_);cases rr with
 |error ev=>exact hx pins σ _ _ ev s' I2 hq'
 |ok fl =>
  cases fl with
  |ret u =>
   obtain⟨v,H',I3,rv,ev,q3⟩:=I2.after hq';subst ev;exact⟨rv,e,H',rfl,yb I.sz ye,I3,q3⟩
  |next=>exact yf hq'
  |brk=>exact yf hq'
  |cont=>exact yf hq'
inductive aCn (S:St->Prop) (C:Addr) (sp:Sp) (dvs:List V) (E:XK) (t:TA) (σ:St) (H:Hp):Prop|mk:S σ->(t σ H fun vs H1=>vs.length<=1000/\∀e,H1 e=none->sp (.ref e::(vs++dvs)) (upd H1 e (Ex0 e C none)) (fun v H2=>v=.non/\∃e' dx,V.ref e=.ref e'/\H2 e'=some (Ex0 e' C dx)/\E (.ref e') none (upd H2 e' (ExF e' C dx))) E0)->aCn S C sp dvs E t σ H
def aSe (S:St->Prop) (C:Addr) (sp:Sp) (dvs:List V) (E:XK) (t:TA):TS:=fun _ σ H=>aCn S C sp dvs E t σ H
theorem yC(c:fH X.K C R f)(F:jK X.prog X.w X.K X.mg X.base (CXE X.prog X.w) k f fd ps sp)(hr:vB (k+1) X.A)(hg:Gl X x)(hm:X.mg x=some (.ref C))(hb:Binds X.K fd ps ds)(hd:kG dvs ds)(hra:aKl X S E)(ha:PA X (e::es) t)
  (hdb:(x == ("__debug__" : Str))=false:=by decide)(he:xi (e::es) X.env=(false,eval e X.env)::xi es X.env:=by rfl)(hpl:(AQ pos (xi es X.env)).any (·.1)=false:=by rfl):
  PS X (.Raise (some (.Call (.Name x p) (e::es) [] pos)) none rpos) (aSe S C sp dvs E t):=by
 intro pins s σ H D I h;obtain⟨hS,h⟩:=h;refine aSu hr.hd ?_;refine AA (fA I hg hm ?_ hdb);refine Bt (h₀:=X.base) I.ok.mod.kin c.kp (thn (ha pos pins s σ H _ I h) fun us s1 ⟨vs,H1,I1,r,hz,q⟩=>⟨I1.kIn,?_⟩) he hpl;refine thn (aIi (E:=E0) (Q:=fun v H2=>∃e' dx,v=.ref e'/\H2 e'=some (Ex0 e' C dx)/\E (.ref e') none (upd H2 e' (ExF e' C dx))) c F hr hb hd passX I1 r (by rw[ς];omega) q) fun u s2 zq=>?_;obtain⟨e',H2,eu,ye,I2,e'',dx,e3,h2,hE⟩:=zq
 ·cases e3;obtain⟨⟨oe,vs',g,oc,ox,od,h1,hv⟩,_⟩:=I2.hok e' _ h2;obtain⟨nm,qn,N,bs,sn,sub,ab,col,dd,k0,k1,k2,k3,k5,mN,oI,hC,_⟩:=c.cls I2.kIn;obtain⟨c1,d1,dt1,sl1⟩:=oe;cases oc;cases ox;cases od;exact⟨e',C,N,nm,qn,bs,_,true,sn,sub,ab,col,dd,k0,k1,k2,k3,k5,_,vs',sl1,eu,aJt R,hC,g,hv,hra pins σ H2 s2 e' C _ hS I2 h2 ye hE⟩
end
theorem aMr{v i p}{es:List Expr}: xi (.Subscript v i p::es) env=(false,eval (.Subscript v i p) env)::xi es env:=rfl
theorem cJ{l o r p}{es:List Expr}: xi (.BinOp l o r p::es) env=(false,eval (.BinOp l o r p) env)::xi es env:=rfl
section
variable {X:Cx}
theorem aOe(hc:PT X c tc)(ha:PSx X a t)(hb:PSs X b u):aId X (.If c a b pos) (tIfS tc t u):=⟨kL hc ha.h hb⟩
end
section
variable {X:Cx}
def tyM (K:Ω) (x:V) (H:Hp) (t:String):Prop:=tyN K x H t\/(t = "dict"/\∃p kvs,x=.ref p/\H p=some (.dK kvs))
theorem aHp:vP X (.builtin "isinstance") (fun xs H Q=>∃x T t,xs=[x,.ty T]/\T∈tO/\tyM X.K x H t/\Q (.bl (isa t T)) H):=by
 intro pins s σ H xs us Q I r h;obtain⟨x,T,t,rfl,hT,ht|⟨rfl,p,kvs,rfl,hp⟩,q⟩:=h
 ·exact iF pins s σ H _ us Q I r ⟨x,T,t,rfl,hT,ht,q⟩
 ·exact tL pins s σ H _ us Q I r ⟨p,T,kvs,rfl,hT,hp,q⟩
end
def aPv (v:V):Prop:=dI v=true\/∃r,v=.ref r
theorem aMe:∀{v:V},dI v=true->eqV v v=true
 |.non,_=>rfl
 |.bl b,_=>by cases b <;> rfl
 |.int i,_=>by simp[eqV]
 |.str x,_=>by simp[eqV]
theorem aHs(h:aPv v)(r:RelV v u)(r':RelV v u'):yq A s u u' true:=by
 rcases h with h|⟨a,rfl⟩
 ·have:=aMi (A:=A) (s:=s) r r' h h;rw[aMe h]at this;exact this
 ·cases r;cases r';exact yq.same _
section
variable {X:Cx}{pins:List (Addr×Obj)}{σ:St}{H:Hp}{s:ι}{h':yp}
theorem Inv.turned2{t':Nat}{e it p:Addr}(I:Inv X pins σ H s)(k:∀b u,b≠e->b≠it->s.heap.get? b=some u->h'.get? b=some u)(fe:dD X pins H e)(fi:dD X pins H it)
  (hp:s.heap.objs.size<=p)(new:qK X.prog X.w (upd H p o) h' p o):Inv X pins σ (upd H p o) { s with heap:=h',toks:=t' }:=by
 have hn:=I.hok.fresh hp;have ne:∀b u,H b=some u->b≠e:=fun b u q=>jI q fe.1;have ni:∀b u,H b=some u->b≠it:=fun b u q=>jI q fi.1;have nx:∀b,b∉[e,it]->b≠e/\b≠it:=fun b hb=>⟨fun z=>hb (by simp[z]),fun z=>hb (by simp[z])⟩;have np:∀b u,s.heap.get? b=some u->b≠p:=fun b u q=>wz (υ (Θ q) hp);have u:Un (frs X.stack) [e,it] H (upd H p o) s.heap h':=by
  refine⟨fun b u q _ _ hx=>k b u (nx b hx).1 (nx b hx).2 q,fun b u q _ _ hx=>⟨u.slots,k b u (nx b hx).1 (nx b hx).2 q⟩,fun b u q n _=>?_,fun b u q hx=>⟨u,k b u (nx b hx).1 (nx b hx).2 q⟩,fun b xs q=>?_,fun b o' u q=>?_,fun b ps q=>⟨#[],?_⟩⟩
  ·rw[jR (np b u q)];exact n
  ·rw[jR (jI q hn)];exact q
  ·rw[jR (jI q hn)];exact q
  ·rw[jR (jI q hn),q];simp
 have hok:HOk X.prog X.w (upd H p o) h':=fun b v eb=>by
  by_cases hb:b=p
  ·subst hb;rw[jF]at eb;cases eb;exact new
  ·rw[jR hb]at eb;refine(I.hok b v eb).stay (fun c w hc q=>k c w ?_ ?_ q) (fun c q=>by rw[jR (jI q hn)];exact q) fun c xs q=>by rw[jR (jI q hn)];exact q
   ·rcases hc with z|z
    ·rw[z];exact ne b v eb
    ·exact ne c _ z
   ·rcases hc with z|z
    ·rw[z];exact ni b v eb
    ·exact ni c _ z
 refine I.call (g':=s.gens) (d':=s.drawn) (t':=t') (ch:=[e,it]) u hok I.bare fun b hb=>?_;have:b=e\/b=it:=by simpa using hb
 rcases this with rfl|rfl
 ·exact⟨fe.2.2.2.1,fe.2.1,fe.2.2.2.2.1,fe.2.2.2.2.2⟩
 ·exact⟨fi.2.2.2.1,fi.2.1,fi.2.2.2.2.1,fi.2.2.2.2.2⟩
end
def Ite (K:Ω) (a:Addr):It :=
 ⟨fun i H=>∃xs x,SqL K H a xs/\xs[i]?=some x,fun i H x H'=>∃y p,x=.ref p/\H p=none/\H'=upd H p (.tup [.int (i:Int),y])/\∀xs,SqL K H a xs->xs[i]?=some y,fun i H=>∃xs,SqL K H a xs/\xs.length<=i⟩
theorem aIt{K:Ω}(a e it:Addr)(hne:e≠it):Turn P w K (.Tuple elts x1 pos) (Ite K a) [e,it] e (fun i h=>(∃old,IsEnum h e it (i:Int) old)/\h.IsListIter it a i) where
 mem:=by simp
 obj:=fun i h st b hb=>by
  have:b=e\/b=it:=by simpa using hb
  obtain⟨⟨old,he⟩,o,ho,hc,hd⟩:=st;rcases this with rfl|rfl
  ·exact⟨_,he,fun v z=>by cases z⟩
  ·exact⟨o,ho,fun v z=>by rw[hd]at z;cases z⟩
 keep:=fun i h h' st k=>by
  obtain⟨⟨old,he⟩,o,ho,r⟩:=st;exact⟨⟨old,k e (by simp) _ he⟩,o,k it (by simp) _ ho,r⟩
 item:=by
  intro X hP hw hK hc i pins s σ H E I hf st hg;subst hP hw hK;obtain⟨xs,x,hq,hx⟩:=hg;obtain⟨its,rv,p,hz⟩:=I.list hq;obtain⟨u,hu,ru⟩:=rv.get hx;have fe:=hf e (by simp);have fi:=hf it (by simp);obtain⟨⟨old,he⟩,hit⟩:=st;refine wpAny_pyNext_enum_item he hit p.isList (x:=u) (by simpa using hu) hne fun h1 heo hit1 ht1 hz1 hk1=>⟨_,rfl,?_⟩;refine wpAny_letOwnedTupleGo_enum heo fun h2 he2 hs2=>?_;replace hs2:Ac e h1 h2:=hs2;have ne:s.heap.objs.size≠e:=zf (Θ he);have ht2:h2.get? s.heap.objs.size=some { cls:=.type "tuple",data:=.seq #[.int i s.toks,u] }:=(hs2.2 _ ne).trans ht1;have k2:∀b v,b≠e->b≠it->s.heap.get? b=some v->h2.get? b=some v:=fun b v n1 n2 q=>(hs2.2 b n1).trans (hk1 b v n1 n2 q);refine⟨.ref s.heap.objs.size,upd H s.heap.objs.size (.tup [.int (i:Int),x]),I.turned2 (t':=s.toks+1) k2 fe fi (μ _) ⟨(by show 2<=Δ;decide),[.int i s.toks,u],.cons ⟨_,rfl⟩ (.cons ru .nil),_,ht2,rfl,_,rfl⟩,rfl,⟨x,_,rfl,I.hok.fresh (μ _),rfl,fun ys hy=>by rw[I.list_inj hy hq];exact hx⟩,⟨⟨_,he2⟩,?_⟩,fun b hb=>?_⟩
  ·obtain⟨o,ho,r⟩:=hit1;exact⟨o,(hs2.2 it (Ag hne)).trans ho,r⟩
  ·have:b=e\/b=it:=by simpa using hb
   obtain⟨oi,hoi,_⟩:=hit;rcases this with rfl|rfl
   ·rw[jR (Ag ne)];exact fe.1
   ·rw[jR (wz (Θ hoi))];exact fi.1
 done:=by
  intro X hP hw hK hc i pins s σ H E I hf st hg;subst hP hw hK;obtain⟨xs,hq,hl⟩:=hg;obtain⟨its,rv,p,hz⟩:=I.list hq;have hlen:=rv.length;obtain⟨f0,f1,f2,f3,f4,f5⟩:=hf it (by simp);obtain⟨⟨old,he⟩,hit⟩:=st;exact wpAny_pyNext_enum_end (I.ok.hd hc) he hit p.isList (by simp;omega) fun h' eb=>⟨rfl,I.turned (t':=s.toks) (fun b o hb e=>eb b o hb e) f0 f1 f3 f4 f5⟩
 self:=fun _ _ _ _ _ st h=>by
  obtain⟨⟨old,he⟩,_⟩:=st;exact wpAny_pyIter_enum he h
def iEnum (K:Ω) (ta:TA):TI:=fun σ H R=>ta σ H fun vs H1=>∃a xs,vs=[.ref a]/\SqL K H1 a xs/\R (Ite K a) H1
theorem oM{a:Expr}(hg:Gl X "enumerate")(hm:X.mg "enumerate" = none)(ha:PA X [a] ta)(hs:xi [a] X.env=[(false,eval a X.env)]:=by rfl):PI X (.Tuple elts x1 tpos) (.Call (.Name "enumerate" p) [a] [] pos) (iEnum X.K ta):=by
 intro pins s σ H R I h;refine Call_ (eR I hg hm boot_enumerate (Ao (thn (ha pos pins s σ H _ I h) fun us s1 zq=>?_) hs rfl));obtain⟨vs,H1,I1,r1,q1⟩:=zq;obtain⟨l,xs,e,hl,q⟩:=q1;subst e;obtain⟨u,rfl,rx⟩:=vals1 r1;cases rx;obtain⟨its,rv,pl,hz⟩:=I1.list hl;refine call_enumerate_list pl.isList fun h' he hit hsz hk=>wpAny_pyIter_enum he ?_;refine⟨s1.heap.objs.size+1,[s1.heap.objs.size+1,s1.heap.objs.size],_,_,H1,rfl,I1.kept (t':=s1.toks) hk,aIt l _ _ (Nat.succ_ne_self _),⟨⟨_,he⟩,hit⟩,fun b hb=>?_,q⟩;have:b=s1.heap.objs.size+1\/b=s1.heap.objs.size:=by simpa using hb
 rcases this with rfl|rfl
 ·exact I1.fpOk (Be _) (I1.hok.fresh (Be _))
 ·exact I1.fpOk (μ _) (I1.hok.fresh (μ _))
theorem iB{K:Ω}{xs:List V}{g:TG}{tb:TS}{D:Ends}{σ:St}{H:Hp}(Pv:Nat->St->Hp->Prop)(h0:Pv 0 σ H)(hl:∀i σ H,i<=xs.length->Pv i σ H->SqL K H a xs)
  (hs:∀i x σ H p,xs[i]?=some x->Pv i σ H->H p=none->g (.ref p) σ (upd H p (.tup [.int (i:Int),x])) fun σ2 H2=>tb { D with nx:=Pv (i+1),ct:=Pv (i+1),bk:=D.nx } σ2 H2)(hd:∀σ H,Pv xs.length σ H->D.nx σ H):
  ∃W:Nat->Nat->St->Hp->Prop,(∃m,W 0 m σ H)/\∀i m σ H,W i m σ H →
   ((Ite K a).stop i H/\D.nx σ H)\/((Ite K a).go i H/\∃N:St->Hp->Prop,(∀σ' H',N σ' H'->∃m',m'<m/\W (i+1) m' σ' H')/\∀x H',(Ite K a).yld i H x H'->g x σ H' fun σ2 H2=>tb { D with nx:=N,ct:=N,bk:=D.nx } σ2 H2):=by
 refine⟨fun i m σ H=>m=xs.length-i/\i<=xs.length/\Pv i σ H,⟨xs.length,by simp,xy _,h0⟩,?_⟩;rintro i m σ H ⟨rfl,hi,p⟩;have q:=hl i σ H hi p
 by_cases hlt:i<xs.length
 ·refine .inr ⟨⟨xs,xs[i],q,by simp[hlt]⟩,Pv (i+1),fun σ' H' p'=>⟨xs.length-(i+1),by omega,rfl,hlt,p'⟩,fun x H' y=>?_⟩;obtain⟨y',pa,rfl,hn,rfl,hy⟩:=y;exact hs i y' σ H pa (hy xs q) p hn
 ·have e:i=xs.length:=by omega
  subst e;exact .inl ⟨⟨xs,q,μ _⟩,hd σ H p⟩
section
variable {X:Cx}
def SetN (a:Addr) (n:Nat):HO:=.ext fun h=>∃o es ep t,h.get? a=some o/\o.ExactSet/\o.data=.set es ep t/\t.fits es.size=true/\es.size=n
def unlike (ns:List Int):Nat:=(firstMet (fun i=>ns.getD i 0) ns.length).length
theorem aHk:vP X (.builtin "len") (fun xs H Q=>∃(p:Addr) (n:Nat),xs=[.ref p]/\H p=some (SetN p n)/\n<4096/\Q (.int n) H):=by
 intro pins s σ H xs us Q I r h;obtain⟨p,n,rfl,hp,hn,q⟩:=h;obtain⟨u,rfl,ru⟩:=r.one;cases ru;obtain⟨⟨o,es,ep,t,e1,hex,e2,hf,rfl⟩,_⟩:=I.hok p _ hp;refine call_len_set e1 hex e2 hf (by omega) ?_;exact⟨.int es.size,H,I.tok _,⟨_,rfl⟩,q⟩
end
end L2
namespace L2
open PySem
theorem vB.units1(r:vB k A):A.units+1<cLine:=by
 have:=r.units;omega
end L2
namespace L2
open PySem PySem.Spec PyProof.Rows
def Sq2 (K:Ω):Bool->Hp->Addr->List V->Prop
 |false,H,a,xs=>SqL K H a xs
 |true,H,a,xs=>SqT K H a xs
def yD:Bool->yp->Addr->Addr->Nat->Prop
 |false,h,j,a,i=>h.IsListIter j a i
 |true,h,j,a,i=>h.IsTupleIter j a i
def vA:Bool->yp->Addr->Array Value->Prop
 |false,h,a,xs=>h.IsList a xs
 |true,h,a,xs=>h.IsTuple a xs
theorem yD.keep{g:yp}(x:yD b h j a i)(k:∀o,h.get? j=some o->g.get? j=some o):yD b g j a i:=by
 cases b <;> (obtain⟨o,e,r⟩:=x;exact⟨o,k o e,r⟩)
theorem vA.keep{g:yp}(x:vA b h a xs)(k:∀o,h.get? a=some o->g.get? a=some o):vA b g a xs:=by
 cases b <;> (obtain⟨o,e,r⟩:=x;exact⟨o,k o e,r⟩)
theorem yD.obj(x:yD b h j a i):∃o,h.get? j=some o/\∀v,o.data≠.cell v:=by
 cases b <;> (obtain⟨o,e,c,d⟩:=x;exact⟨o,e,fun v z=>by rw[d]at z;cases z⟩)
theorem vA.lt(x:vA b h a xs):a<h.objs.size:=by
 cases b <;> (obtain⟨o,e,_⟩:=x;exact Θ e)
section
variable {P:za}{w:Af}{A:yr}{E:Value->ι->Prop}{s:ι}
theorem aNl{Q:Value->ι->Prop}(hj:s.heap.IsTupleIter j a n)(ha:s.heap.IsTuple a vs)(hv:vs[n]?=some v)
  (q:∀g,g.IsTupleIter j a (n+1)->Ac j s.heap g->Q v { s with heap:=g }):Φ (xj P w) A (yd (.ref j)) Q E s:=by
 obtain⟨oj,ej,cj,dj⟩:=id hj;obtain⟨oa,ea,ca,na,da⟩:=ha;unfold yd;refine ζ (wpAny_callSpecial?_slot (name:=δ "__next__") hj.typeIs Bu (BH Bu hj.typeIs F.entry_tuple_iterator_next ?_ (F.args_tuple_iterator_next_1 _)));show Φ _ _ (field (.ref j) 0 >>= _) _ _ s;refine ζ (yw ej dj (x:=.ref a) rfl ?_);show Φ _ _ (if (xg a == zr)=true then _ else _) _ _ s;rw[if_neg (show ¬ ((xg a == zr)=true) from ρ)];show Φ _ _ (field (.ref j) 1 >>= _) _ _ s;refine ζ (yw ej dj (x:=.int n 0) rfl ?_);show Φ _ _ (seqItems? (.ref a) >>= _) _ _ s;refine ζ (Ay ea da ?_);simp only[Int.toNat_natCast,hv];refine ζ (Co ej dj (by simp) (τ ⟨v,rfl,τ (q _ ?_ (Ac.update ..))⟩));exact⟨_,AS _ ej (DE (BO dj _)),(Obj.cls_mapFields ..).trans cj,by rw[BO dj];simp[Bc]⟩
theorem aQr(hh:A.handled=none)(hj:s.heap.IsTupleIter j a n)(ha:s.heap.IsTuple a vs)(hv:vs[n]?=none)
  (hE:∀g x,yp.ExtBut j s.heap g->(∃o,g.get? x=some o/\o.cls=.type "StopIteration")->E (.ref x) { s with heap:=g }):Φ (xj P w) A (yd (.ref j)) Q E s:=by
 obtain⟨oj,ej,cj,dj⟩:=id hj;obtain⟨oa,ea,ca,na,da⟩:=ha;unfold yd;refine ζ (wpAny_callSpecial?_slot (name:=δ "__next__") hj.typeIs Bu (BH Bu hj.typeIs F.entry_tuple_iterator_next ?_ (F.args_tuple_iterator_next_1 _)));show Φ _ _ (field (.ref j) 0 >>= _) _ _ s;refine ζ (yw ej dj (x:=.ref a) rfl ?_);show Φ _ _ (if (xg a == zr)=true then _ else _) _ _ s;rw[if_neg (show ¬ ((xg a == zr)=true) from ρ)];show Φ _ _ (field (.ref j) 1 >>= _) _ _ s;refine ζ (yw ej dj (x:=.int n 0) rfl ?_);show Φ _ _ (seqItems? (.ref a) >>= _) _ _ s;refine ζ (Ay ea da ?_);simp only[Int.toNat_natCast,hv];refine ζ (wpAny_rule (ζ (Co ej dj (by simp) ?_)));show Φ _ _ (newExc (.type "StopIteration") [] >>= fun x=>raiseNew x) _ _ _;refine ζ ?_;simp only[newExc,newTuple];refine ζ (Cf ?_ (by size_fits));refine ζ (m:=firstArgMember _ _) (wpAny_of_eq (a:=zr) (by first|rfl|(simp only[firstArgMember];rfl)) ?_);refine Cf ?_ (by size_fits);simp only[raiseNew];refine ζ (wpAny_handled ?_)
 first|rw[show A.in1.handled=none from hh]|rw[hh]
 exact ζ (τ (wpAny_throw (hE _ _ (((Ac.update ..).extBut.push _).push _) ⟨_,xb _ rfl,rfl⟩)))
theorem rB{Q:Value->ι->Prop}(hj:yD b s.heap j a n)(ha:vA b s.heap a vs)(hv:vs[n]?=some v)
  (q:∀g,yD b g j a (n+1)->Ac j s.heap g->Q v { s with heap:=g }):Φ (xj P w) A (yd (.ref j)) Q E s:=by
 cases b
 ·exact wpAny_nextOf_list_item hj ha hv q
 ·exact aNl hj ha hv q
theorem aKo(hh:A.handled=none)(hj:yD b s.heap j a n)(ha:vA b s.heap a vs)(hv:vs[n]?=none)
  (hE:∀g x,yp.ExtBut j s.heap g->(∃o,g.get? x=some o/\o.cls=.type "StopIteration")->E (.ref x) { s with heap:=g }):Φ (xj P w) A (yd (.ref j)) Q E s:=by
 cases b
 ·exact wpAny_nextOf_list_end hh hj ha hv hE
 ·exact aQr hh hj ha hv hE
end
abbrev itN (b:Bool):String:=if b then "tuple_iterator" else "list_iterator"
abbrev zp1 (b:Bool) (h:yp) (a:Addr):yp:=h.push { cls:=.type (itN b),data:=.fields #[.ref a,.int 0 0] }
section
variable {X:Cx}{pins:List (Addr×Obj)}{σ:St}{H:Hp}{s:ι}{h':yp}
theorem Inv.turnedL{t':Nat}{ch:List Addr}{p:Addr}(I:Inv X pins σ H s)(k:∀b u,b∉ch->s.heap.get? b=some u->h'.get? b=some u)(f:∀b∈ch,dD X pins H b)
  (hp:s.heap.objs.size<=p)(new:qK X.prog X.w (upd H p o) h' p o):Inv X pins σ (upd H p o) { s with heap:=h',toks:=t' }:=by
 have hn:=I.hok.fresh hp;have nx:∀b u,H b=some u->b∉ch:=fun b u q z=>jI q (f b z).1 rfl;have np:∀b u,s.heap.get? b=some u->b≠p:=fun b u q=>wz (υ (Θ q) hp);have u:Un (frs X.stack) ch H (upd H p o) s.heap h':=by
  refine⟨fun b u q _ _ hx=>k b u hx q,fun b u q _ _ hx=>⟨u.slots,k b u hx q⟩,fun b u q n _=>?_,fun b u q hx=>⟨u,k b u hx q⟩,fun b xs q=>?_,fun b o' u q=>?_,fun b ps q=>⟨#[],?_⟩⟩
  ·rw[jR (np b u q)];exact n
  ·rw[jR (jI q hn)];exact q
  ·rw[jR (jI q hn)];exact q
  ·rw[jR (jI q hn),q];simp
 have hok:HOk X.prog X.w (upd H p o) h':=fun b v eb=>by
  by_cases hb:b=p
  ·subst hb;rw[jF]at eb;cases eb;exact new
  ·rw[jR hb]at eb;refine(I.hok b v eb).stay (fun c w hc q=>k c w ?_ q) (fun c q=>by rw[jR (jI q hn)];exact q) fun c xs q=>by rw[jR (jI q hn)];exact q
   rcases hc with z|z
   ·rw[z];exact nx b v eb
   ·exact nx c _ z
 exact I.call (g':=s.gens) (d':=s.drawn) (t':=t') (ch:=ch) u hok I.bare fun b hb=>⟨(f b hb).2.2.2.1,(f b hb).2.1,(f b hb).2.2.2.2.1,(f b hb).2.2.2.2.2⟩
theorem Inv.turnedL0{t':Nat}{ch:List Addr}(I:Inv X pins σ H s)(k:∀b u,b∉ch->s.heap.get? b=some u->h'.get? b=some u)(f:∀b∈ch,dD X pins H b):Inv X pins σ H { s with heap:=h',toks:=t' }:=by
 have nx:∀b u,H b=some u->b∉ch:=fun b u q z=>jI q (f b z).1 rfl;have u:Un (frs X.stack) ch H H s.heap h':=by
  refine⟨fun b u q _ _ hx=>k b u hx q,fun b u q _ _ hx=>⟨u.slots,k b u hx q⟩,fun b u q n _=>n,fun b u q hx=>⟨u,k b u hx q⟩,fun b xs q=>q,fun b o' u q=>q,fun b ps q=>⟨#[],?_⟩⟩;rw[q];simp
 have hok:HOk X.prog X.w H h':=fun b v eb=>by
  refine(I.hok b v eb).stay (fun c w hc q=>k c w ?_ q) (fun c q=>q) fun c xs q=>q;rcases hc with z|z
  ·rw[z];exact nx b v eb
  ·exact nx c _ z
 exact I.call (g':=s.gens) (d':=s.drawn) (t':=t') (ch:=ch) u hok I.bare fun b hb=>⟨(f b hb).2.2.2.1,(f b hb).2.1,(f b hb).2.2.2.2.1,(f b hb).2.2.2.2.2⟩
theorem Inv.seq2(I:Inv X pins σ H s)(h:Sq2 X.K b H a xs):∃its:List Value,kG xs its/\vA b s.heap a its.toArray:=by
 cases b
 ·obtain⟨its,r,p,_⟩:=I.list h;exact⟨its,r,p.isList⟩
 ·obtain⟨its,r,p,_⟩:=I.tuple h;exact⟨its,r,p⟩
theorem Inv.seq2_inj(I:Inv X pins σ H s)(h:Sq2 X.K b H a xs)(h':Sq2 X.K b H a ys):xs=ys:=by
 cases b
 ·exact I.list_inj h h'
 ·exact I.tuple_inj h h'
end
def aDj (K:Ω) (H:Hp) (x:V) (d:Cz):Prop:=Dat K H x d\/(∃a kvs,x=.ref a/\H a=some (.dK kvs))/\d=.dict []
def tyD:Cz->String
 |.none=>"NoneType"
 |.bool _=>"bool"
 |.int _=>"int"
 |.str _=>"str"
 |.list _=>"list"
 |.tuple _=>"tuple"
 |.dict _=>"dict"
theorem Dat.ty{K:Ω}(h:Dat K H x d):tyN K x H (tyD d):=by
 cases h with
 |lst h _=>exact .inl ⟨rfl,_,h⟩
 |tup h _=>exact .inr ⟨rfl,_,h⟩
 |_=>rfl
theorem aDj.ty{K:Ω}(h:aDj K H x d):tyM K x H (tyD d):=by
 rcases h with h|⟨⟨a,kvs,rfl,h⟩,rfl⟩
 ·exact .inl h.ty
 ·exact .inr ⟨rfl,a,kvs,rfl,h⟩
theorem aDj.same{K:Ω}(h:aDj K H x d)(g:jJ H H'):aDj K H' x d:=by
 rcases h with h|⟨⟨a,kvs,rfl,h⟩,rfl⟩
 ·exact .inl (h.same g)
 ·exact .inr ⟨⟨a,kvs,rfl,g _ _ h⟩,rfl⟩
theorem DatAll.length{K:Ω}: ∀{xs:List V}{ds:List Cz},DatAll K H xs ds->xs.length=ds.length
 |_,_,.nil=>rfl
 |_,_,.cons _ t=>congrArg (·+1) (DatAll.length t)
theorem DatAll.get{K:Ω}: ∀{xs:List V}{ds:List Cz}{i:Nat}{x:V},DatAll K H xs ds->xs[i]?=some x->∃d,ds[i]?=some d/\Dat K H x d
 |_,_,_,_,.nil,e=>by simp at e
 |_,_,0,_,.cons h _,e=>by simp at e;subst e;exact⟨_,rfl,h⟩
 |_,_,i+1,x,.cons _ t,e=>by
  obtain⟨d,h1,h2⟩:=DatAll.get (i:=i) (x:=x) t (by simpa using e);exact⟨d,by simpa using h1,h2⟩
theorem DatAll.app{K:Ω}: ∀{xs ys:List V}{ds es:List Cz},DatAll K H xs ds->DatAll K H ys es->DatAll K H (xs++ys) (ds++es)
 |_,_,_,_,.nil,s=>s
 |_,_,_,_,.cons h t,s=>.cons h (DatAll.app t s)
theorem DatAll.take{K:Ω}: ∀{xs:List V}{ds:List Cz}(n:Nat),DatAll K H xs ds->DatAll K H (xs.take n) (ds.take n)
 |_,_,0,_=>.nil
 |_,_,_+1,.nil=>.nil
 |_,_,n+1,.cons h t=>.cons h (DatAll.take n t)
theorem DatAll.drop{K:Ω}: ∀{xs:List V}{ds:List Cz}(n:Nat),DatAll K H xs ds->DatAll K H (xs.drop n) (ds.drop n)
 |_,_,0,h=>h
 |_,_,_+1,.nil=>.nil
 |_,_,n+1,.cons _ t=>DatAll.drop n t
end L2
namespace L2
open PySem
theorem kQ{H H1:Hp}(e:upd H p o=H1)(hp:H p=none):jJ H H1/\H1 p=some o:=by
 subst e;exact⟨fun b u q=>by rw[jR (jI q hp)];exact q,jF⟩
theorem aC{H1:Hp}(e:upd H p o=H1):But p H H1/\H1 p=some o:=by
 subst e;exact⟨But.upd,jF⟩
theorem jJ.at{H H1:Hp}(g:jJ H H1)(h:H a=some o):H1 a=some o:=g _ _ h
theorem jJ.tp{K:Ω}(e:jJ H H')(h:SqT K H a xs):SqT K H' a xs:=by
 rcases h with (h|⟨o,h⟩)|h
 ·exact .inl (.inl (e _ _ h))
 ·exact .inl (.inr ⟨o,e _ _ h⟩)
 ·exact .inr h
theorem jJ.dt{K:Ω}(g:jJ H H')(h:Dat K H x d):Dat K H' x d:=h.same g
theorem jJ.dts{K:Ω}(g:jJ H H')(h:DatAll K H xs ds):DatAll K H' xs ds:=h.same g
theorem jJ.dtt{K:Ω}(g:jJ H H')(h:aDj K H x d):aDj K H' x d:=h.same g
theorem join{R:VK}(hk:R v H')(h:∀Q:VK,Q v H'->tIf t ta tb σ H Q):tIf t ta tb σ H R:=h R hk
theorem aBm(P:St->Hp->Prop){D:Ends}{rest:TS}(hk:∀σ' H',P σ' H'->rest D σ' H')(h:∀nx:St->Hp->Prop,(∀σ' H',P σ' H'->nx σ' H')->tIfS c t u { D with nx:=nx } σ H):qV (tIfS c t u) rest D σ H:=h (rest D) hk
end L2
local macro_rules | `(tactic| walk_at"hp") => `(tactic| first
 |assumption
 |exact L2.jF
 |exact L2.jJ.refl _
 | (refine' L2.jJ.at ?k1 ?_; (case k1=>assumption);walk_at"hp";done)
 | (refine L2.SqL.of ?_;walk_at"hp";done)
 | (refine L2.SqT.of ?_;walk_at"hp";done)
 | (refine' L2.jJ.seq ?k1 ?_; (case k1=>assumption);walk_at"hp";done)
 | (refine' L2.jJ.tp ?k1 ?_; (case k1=>assumption);walk_at"hp";done)
 | (refine' L2.jJ.dt ?k1 ?_; (case k1=>assumption);walk_at"hp";done)
 | (refine' L2.jJ.dts ?k1 ?_; (case k1=>assumption);walk_at"hp";done)
 | (refine' L2.jJ.dtt ?k1 ?_; (case k1=>assumption);walk_at"hp";done)
 | (refine' L2.jJ.trans ?_ ?k1; (case k1=>assumption);walk_at"hp";done))
local macro_rules | `(tactic| walk_at"al") => `(tactic| (intro pX hX;generalize eX : L2.upd _ pX _ = HX;obtain ⟨gX,kX⟩ := L2.kQ eX hX;clear eX))
local macro_rules | `(tactic| o_unpack $r:ident) => `(tactic| (intro $r:ident hX;generalize eX : L2.upd _ $r:ident _ = HX;obtain ⟨gX,kX⟩ := L2.kQ eX hX;clear eX))
local macro_rules | `(tactic| walk_at"ch") => `(tactic| (generalize eX : L2.upd _ _ _ = HX;obtain ⟨gX,kX⟩ := L2.aC eX;clear eX))
local macro_rules | `(tactic| walk_at"rd") => `(tactic| repeat first
 | (refine⟨_,rfl,?_⟩)
 | (refine⟨_,_,rfl,rfl,?_⟩)
 | (refine⟨_,_,rfl,rfl,⟨by decide,by decide⟩,?_⟩)
 | (refine' ⟨_,_,rfl,.inl ?k1,?_⟩; (case k1=>walk_at"hp"))
 | (refine' ⟨_,_,_,_,rfl,rfl,?k1,?k2,?_⟩; (case k1=>walk_at"hp"); (case k2=>rfl)))
namespace L2
open PySem PySem.Spec PyProof.Rows
inductive EqS (K:Ω) (H:Hp):Nat->V->V->Prop
 |same {n:Nat}{v:V} : aPv v->EqS K H n v v
 |lst {n:Nat}{a b:Addr}{xs ys:List V} : SqL K H a xs->SqL K H b ys->xs.length=ys.length->(∀(i:Nat) x y,xs[i]?=some x->ys[i]?=some y->EqS K H n x y)->EqS K H (n+1) (.ref a) (.ref b)
 |tup {n:Nat}{a b:Addr}{xs ys:List V} : SqT K H a xs->SqT K H b ys->xs.length=ys.length->(∀(i:Nat) x y,xs[i]?=some x->ys[i]?=some y->EqS K H n x y)->EqS K H (n+1) (.ref a) (.ref b)
section
variable {X:Cx}
theorem sF : ((zt n).all fun _=>true)=true:=by simp
theorem fF{us:List Value}{j:Nat}(h:us[j]?=some u)(hj:j<us.toArray.size):us.toArray[j]=u:=by
 have:=(θ.mp h).2;simpa using this
theorem Inv.eqs(I:Inv X pins σ H s):∀{n:Nat}{x y:V},EqS X.K H n x y->∀{A:yr}{u v:Value},RelV x u->RelV y v->A.units+n<cLine->yq A s u v true:=by
 intro n x y h
 induction h with
 |same hs=>intro A u v ru rv _;exact aHs hs ru rv
 | @lst n a b xs ys ha hb hl _ ih =>
  intro A u v ru rv hu;cases ru;cases rv
  by_cases hab:a=b
  ·subst hab;exact yq.same _
  obtain⟨i1,r1,p1,_⟩:=I.list ha;obtain⟨i2,r2,p2,_⟩:=I.list hb;have l1:=r1.length;have l2:=r2.length;refine yq.of_refs hab ?_;have:=SeqAt.RcAt.lists (A:=A) (e:=fun _=>true) p1.isList p2.isList (by rw[ψ,ψ];omega) (by omega) (fun j h1 h2=>by
   have hj:j<xs.length:=by rw[ψ]at h1;omega
   have hj2:j<ys.length:=by omega
   obtain⟨u1,e1,q1⟩:=r1.get (ν hj);obtain⟨u2,e2,q2⟩:=r2.get (ν hj2);rw[fF e1,fF e2];exact ih j _ _ (ν hj) (ν hj2) q1 q2 (by show A.units+1+n<cLine;omega))
  rw[sF]at this;exact this
 | @tup n a b xs ys ha hb hl _ ih =>
  intro A u v ru rv hu;cases ru;cases rv
  by_cases hab:a=b
  ·subst hab;exact yq.same _
  obtain⟨i1,r1,p1,_⟩:=I.tuple ha;obtain⟨i2,r2,p2,_⟩:=I.tuple hb;have l1:=r1.length;have l2:=r2.length;refine yq.of_refs hab ?_;have:=SeqAt.RcAt.tuples (A:=A) (e:=fun _=>true) (show s.heap.IsTuple a i1.toArray from p1) (show s.heap.IsTuple b i2.toArray from p2) (by omega) (fun j h1 h2=>by
   have hj:j<xs.length:=by rw[ψ]at h1;omega
   have hj2:j<ys.length:=by omega
   obtain⟨u1,e1,q1⟩:=r1.get (ν hj);obtain⟨u2,e2,q2⟩:=r2.get (ν hj2);rw[fF e1,fF e2];exact ih j _ _ (ν hj) (ν hj2) q1 q2 (by show A.units+1+n<cLine;omega))
  rw[sF,show(i1.toArray.size == i2.toArray.size)=true by rw[ψ,ψ,show i1.length=i2.length by omega];simp]at this;exact this
theorem aMb(hu:X.A.units+64<cLine):OpR X (Ab .NotEq) (fun x y H Q=>∃(a b:Addr) (xs ys:List V),x=.ref a/\y=.ref b/\SqL X.K H a xs/\SqL X.K H b ys/\xs.length=ys.length/\(∀(i:Nat) x y,xs[i]?=some x->ys[i]?=some y->EqS X.K H 8 x y)/\Q (.bl false) H):=by
 intro pins s σ H x y v u Q I rx ry h;obtain⟨a,b,xs,ys,rfl,rfl,ha,hb,hl,he,q⟩:=h;cases rx;cases ry;obtain⟨i1,r1,p1,_⟩:=I.list ha;obtain⟨i2,r2,p2,_⟩:=I.list hb;have l1:=r1.length;have l2:=r2.length;show Φ _ _ (richCompare .NotEq (.ref a) (.ref b)) _ _ _;refine SeqAt.RcNeAt.lists (e:=fun _=>true) p1.isList p2.isList (by rw[ψ,ψ];omega) (by omega) (fun j h1 h2=>?_) _ _ _ _ ?_
 ·have hj:j<xs.length:=by rw[ψ]at h1;omega
  have hj2:j<ys.length:=by omega
  obtain⟨u1,e1,q1⟩:=r1.get (ν hj);obtain⟨u2,e2,q2⟩:=r2.get (ν hj2);rw[fF e1,fF e2];exact I.eqs (he j _ _ (ν hj) (ν hj2)) q1 q2 (by show X.A.units+1+8<cLine;omega)
 ·rw[sF];exact⟨.bl false,H,I,rfl,q⟩
end
end L2
namespace L2
open PySem
theorem aDe{n:Nat}(h:n<2 ^ 100):n.log2<100:=by
 by_cases h0:n=0
 ·subst h0;decide
 ·exact(Nat.log2_lt h0).mpr h
end L2
namespace L2
open PySem PySem.Spec PyProof.Rows
theorem vC{x p}{es:List Expr}: xi (.Name x p::es) env=(false,eval (.Name x p) env)::xi es env:=rfl
section
variable {X:Cx}{e:Expr}{es:List Expr}{te:TE}{t:TA}
theorem aGj(h:PAx X es t):PEx X (.List es pos) (tLst t):=⟨kH h.h⟩
theorem hG(h:PEx X e te):aId X (.Return (some e) pos) (tRet te):=⟨jO h.h⟩
theorem aBc{i:Nat}(hN:X.N.Nodup)(hi:X.N[i]?=some x)(hx:X.env.scope.names.lookup x=some .local)(he:PEx X (.List es p1) te):
  aId X (.Assign [.Name x pos'] (.List es p1) pos) (aMc te (cZ i)):=⟨jY hN hi (.inl hx) he.h rfl (.inr hx)⟩
end
structure dA (k:Nat) (A:yr):Prop where
 dp:A.depth+3*k+5<recursionLimit
 un:A.units+16*k+200<cLine
 gd:A.guards=some []
theorem dA.mono{j:Nat}(r:dA k A)(h:j<=k):dA j A:=⟨by have:=r.dp;omega,by have:=r.un;omega,r.gd⟩
theorem dA.deeper{k:Nat}(r:dA (k+1) A)(env:Env):dA k (A.deeper env) :=
 ⟨by have:=r.dp;show A.depth+1+3*k+5<_;omega,by have:=r.un;show A.units+3+16*k+200<_;omega,r.gd⟩
theorem dA.depth(r:dA k A):A.depth<recursionLimit:=by have:=r.dp;omega
theorem dA.units(r:dA k A):A.units+64<cLine:=by have:=r.un;omega
theorem vB.toH(r:vB k A):dA k A:=⟨r.dp,r.un,r.gd⟩
theorem vB.mark(r:vB k A)(v:Option Value):dA k (A.mark v):=⟨r.dp,r.un,r.gd⟩
structure yK (P:za) (w:Af) (K:Ω) (mg:Str->Option Value) (base:yp) (CX:CXT) (k:Nat) (m:Str) (C:Addr) (sp:Sp):Prop where
 cl:Cls K C
 ex:∃f fd ps,Meth K C m f/\jK P w K mg base CX k f fd ps sp/\Binds K fd ps []
section
variable {X:Cx}{CX:CXT}{k:Nat}{E:XK}{m:Str}{pos apos:Pos}{e o:Expr}{es:List Expr}{ta:TE}{t:TA}{T:Addr->Sp->Prop}
def aMn (T:Addr->Sp->Prop) (m:Str) (E:XK) (ta:TE) (t:TA):TE:=fun σ H Q=>ta σ H fun x H1=>∃a C dx fs sp,x=.ref a/\H1 a=some (.ins C dx fs)/\fs.lookup m=none/\T C sp/\t σ H1 fun vs H2=>sp (x::vs) H2 Q E
theorem iH(he:PE X o ta)(hT:∀C sp,T C sp->yK X.prog X.w X.K X.mg X.base CX k m C sp)(hr:vB k X.A)(hx:zH CX X E)(ha:PA X (e::es) t)
  (hst:xi (e::es) X.env=(false,eval e X.env)::xi es X.env:=by rfl)(hpl:(AQ pos (xi es X.env)).any (·.1)=false:=by rfl)
  (ht:eval (.Call (.Attribute o m apos) (e::es) [] pos) X.env=(do
   let ov ←eval o X.env
   standAt apos.atName
   let (f,first) ←CU [ov] (Dj ov m pl)
   callWith pos f first (AQ pos (xi (e::es) X.env)) (Ds pos (BE [] X.env))):=by rfl):
  PE X (.Call (.Attribute o m apos) (e::es) [] pos) (aMn T m E ta t):=by
 intro pins s σ H Q I h;refine Bv (pl:=pl) (thn (he pins s σ H _ I h) fun u s1 zq=>?_) ht;obtain⟨x,H1,I1,rx,a,C,dx,fs,sp,ex,ea,l,hC,q⟩:=zq;subst ex;obtain rfl:u=xg a:=rx;obtain⟨c,f,fd,ps,hm,F,hb⟩:=hT C sp hC;refine fO I1 ea c hm l ?_;refine Bt (first:=[.ref a]) (h₀:=X.base) I.ok.mod.kin hm.kp (thn (ha pos pins s1 σ H1 _ I1 q) fun us s2 ⟨vs,H2,I2,r,q2⟩=>⟨I2.kIn,?_⟩) hst hpl;exact pF (us:=.ref a::us) (vs:=.ref a::vs) (dvs:=[]) F hr hb .nil hx I2 (.cons rfl r) (by rw[ya];exact q2)
theorem aE(he:PE X o ta)(hT:∀C sp,T C sp->yK X.prog X.w X.K X.mg X.base CX k m C sp)(hr:vB k X.A)(hx:zH CX X E)
  (ht:eval (.Call (.Attribute o m apos) [] [] pos) X.env=(do
   let ov ←eval o X.env
   standAt apos.atName
   let (f,first) ←CU [ov] (Dj ov m pl)
   callWith pos f first (AQ pos (xi [] X.env)) (Ds pos (BE [] X.env))):=by rfl):
  PE X (.Call (.Attribute o m apos) [] [] pos) (aMn T m E ta tNil):=by
 intro pins s σ H Q I h;refine Bv (pl:=pl) (thn (he pins s σ H _ I h) fun u s1 zq=>?_) ht;obtain⟨x,H1,I1,rx,a,C,dx,fs,sp,ex,ea,l,hC,q⟩:=zq;subst ex;obtain rfl:u=xg a:=rx;obtain⟨c,f,fd,ps,hm,F,hb⟩:=hT C sp hC;refine fO I1 ea c hm l ?_;exact PySem.W.callWith_K0 (first:=[.ref a]) I1.kIn hm.kp (pF (us:=[.ref a]) (vs:=[.ref a]) (dvs:=[]) F hr hb .nil hx I1 (.cons rfl .nil) q)
end
def aEb:V->Option Str
 |.str x=>some x
 |.int i=>if i.natAbs<2 ^ 100 then some (toString i) else none
 |_=>none
def TJ:=St->Hp->Str->(Str->Hp->Prop)->Prop
def PJ (X:Cx) (es:List Expr) (t:TJ):Prop:=∀(pins:List (Addr×Obj)) (s:ι) (σ:St) (H:Hp) (acc:Str) (Q:Str->Hp->Prop),Inv X pins σ H s->t σ H acc Q →
 Φ (xj X.prog X.w) X.A (joinParts acc (evalEach es X.env)) (EP X pins σ fun v H'=>∃z,v=.str z/\Q z H') X.xe s
section
variable {X:Cx}{e e1 e2:Expr}{es:List Expr}{te:TE}{t:TJ}{pos p:Pos}{x:Str}
def jNil:TJ:=fun _ H acc Q=>acc.length<=Δ/\Q acc H
theorem aSb:PJ X [] jNil:=fun _ s _ H acc Q I h=>joinParts_nil ⟨.str acc,H,I.tok _,⟨_,rfl⟩,acc,rfl,h.2⟩ h.1
def jStr (x:Str) (t:TJ):TJ:=fun σ H acc Q=>(acc++x).length<=Δ/\t σ H (acc++x) Q
theorem aSm{j}(ht:PJ X es t):PJ X (.Constant (.str x) j p::es) (jStr x t):=by
 intro pins s σ H acc Q I h;refine joinParts_cons (Dg ⟨h.1,ht pins _ σ H _ Q (I.tok _) h.2⟩)
theorem aKv{s:ι}{R:Value->ι->Prop}(I:Inv X pins σ H s)(r:RelV v u)(hy:aEb v=some y)(hl:y.length<=Δ)
  (h:∀t' tk,Inv X pins σ H { s with toks:=tk }->R (.str y t') { s with toks:=tk }):Φ (xj X.prog X.w) X.A (formatField u Str.empty) R E s:=by
 cases v with
 |str x =>
  obtain⟨t,rfl⟩:=r;cases hy;exact formatField_str (fun t' tk=>h t' tk (I.kept fun _ _ q=>q)) hl
 |int i =>
  obtain⟨t,rfl⟩:=r;have hy':(if i.natAbs<2 ^ 100 then some (δ (toString i)) else none)=some y:=hy
  by_cases hi:i.natAbs<2 ^ 100
  ·rw[if_pos hi]at hy';cases hy';refine formatField_int_small ?_ (h _ _ (I.kept fun _ _ q=>q));have:=aDe hi;omega
  ·rw[if_neg hi]at hy';cases hy'
 |_=>cases hy
def jVal (te:TE) (t:TJ):TJ:=fun σ H acc Q=>te σ H fun v H1=>∃y,aEb v=some y/\y.length<=Δ/\(acc++y).length<=Δ/\t σ H1 (acc++y) Q
theorem aMm(he:PE X e te)(ht:PJ X es t):PJ X (.FormattedValue e (-1) none p::es) (jVal te t):=by
 intro pins s σ H acc Q I h;refine joinParts_cons (FormattedValue_plain (thn (he pins s σ H _ I h) fun u s1 zq=>?_));obtain⟨v,H1,I1,r,y,hy,hl,ha,q⟩:=zq;exact aKv I1 r hy hl fun t' tk I2=>⟨ha,ht pins _ σ H1 _ Q I2 q⟩
def tJoin (t:TJ):TE:=fun σ H Q=>t σ H Str.empty fun z H1=>Q (.str z) H1
theorem aPc(h:PJ X (e1::e2::es) t):PE X (.JoinedStr (e1::e2::es) pos) (tJoin t):=by
 intro pins s σ H Q I hq;exact JoinedStr_many (thn (h pins s σ H Str.empty _ I hq) fun u s1 ⟨v,H1,I1,r,z,ez,q⟩=>⟨v,H1,I1,r,by rw[ez];exact q⟩)
def aSj (te:TE):TE:=fun σ H Q=>te σ H fun v H1=>∃y,aEb v=some y/\y.length<=Δ/\Q (.str y) H1
theorem aKp(he:PE X e te):PE X (.JoinedStr [.FormattedValue e (-1) none p] pos) (aSj te):=by
 intro pins s σ H Q I h;refine JoinedStr_one (FormattedValue_plain (thn (he pins s σ H _ I h) fun u s1 zq=>?_));obtain⟨v,H1,I1,r,y,hy,hl,q⟩:=zq;exact aKv I1 r hy hl fun t' tk I2=>⟨.str y,H1,I2,⟨_,rfl⟩,q⟩
end
end L2
namespace L2
open PySem
def jn (c:Nat):List (List Nat)->List Nat
 |[]=>[]
 |[p]=>p
 |p::q::r=>p++c::jn c (q::r)
theorem aGh{c:Nat}: ∀{p1 p2 t1 t2:List Nat},c∉p1->c∉p2->p1++c::t1=p2++c::t2->p1=p2/\t1=t2
 |[],[],t1,t2,_,_,h=>⟨rfl,(DT h).2⟩
 |[],b::p2,t1,t2,_,h2,h=>absurd (χ.mpr (.inl (DT h).1)) h2
 |a::p1,[],t1,t2,h1,_,h=>absurd (χ.mpr (.inl (DT h).1.symm)) h1
 |a::p1,b::p2,t1,t2,h1,h2,h=>by
  obtain⟨e1,e2⟩:=DT h;obtain⟨e3,e4⟩:=aGh (fun z=>h1 (π _ z)) (fun z=>h2 (π _ z)) e2;exact⟨by rw[e1,e3],e4⟩
theorem aKz{c:Nat}: ∀{ps qs:List (List Nat)},ps≠[]->qs≠[]->(∀p∈ps,c∉p)->(∀q∈qs,c∉q)->jn c ps=jn c qs->ps=qs
 |[],_,h,_,_,_,_=>absurd rfl h
 |_,[],_,h,_,_,_=>absurd rfl h
 |[p],[q],_,_,_,_,h=>by rw[show p=q from h]
 |[p],q::q2::qs,_,_,hp,_,h=>by
  have e:p=q++c::jn c (q2::qs):=h;exact absurd (by rw[e];simp) (hp p (ο ..))
 |p::p2::ps,[q],_,_,_,hq,h=>by
  have e:p++c::jn c (p2::ps)=q:=h;exact absurd (by rw[←e];simp) (hq q (ο ..))
 |p::p2::ps,q::q2::qs,_,_,hp,hq,h=>by
  obtain⟨e1,e2⟩:=aGh (hp p (ο ..)) (hq q (ο ..)) h;have ih:=aKz (by simp) (by simp) (fun z hz=>hp z (π _ hz)) (fun z hz=>hq z (π _ hz)) e2;rw[e1,ih]
theorem oK(c:Nat):∀ys:List Str,(xl ⟨#[c]⟩ ys).cps.toList=jn c (ys.map fun y=>y.cps.toList)
 |[]=>rfl
 |[y]=>rfl
 |y::z::ys=>by
  show(y++⟨#[c]⟩++xl ⟨#[c]⟩ (z::ys)).cps.toList=_;rw[BI,BI,AM,AM,oK c (z::ys),yc];rfl
theorem aIz(x y:Str):yu x y≠[]:=fun h=>by
 unfold yu at h
 split at h
 ·cases h
 ·split at h
  ·cases h
  ·rw[StrLaws.partsBetween_eq]at h;obtain⟨p,r,e⟩:=StrLaws.partsFrom_ne x y.length 0 (zp x y 0 x.length (x.length+1));rw[e]at h;cases h
theorem xQ{c:Nat}{ys:List Str}(hne:ys≠[])(hf:∀y∈ys,c∉y.cps.toList):yu (xl ⟨#[c]⟩ ys) ⟨#[c]⟩=ys:=by
 have h1:=StrLaws.join_split (xl ⟨#[c]⟩ ys) ⟨#[c]⟩;have h2:=congrArg (fun z:Str=>z.cps.toList) h1;simp only[oK]at h2;have h3:=aKz (by simpa using aIz _ _) (by simpa using hne) (fun p hp=>by
  obtain⟨y,hy,rfl⟩:=zm.mp hp;exact StrLaws.split_free _ c y hy) (fun p hp=>by
  obtain⟨y,hy,rfl⟩:=zm.mp hp;exact hf y hy) h2
 have hi:∀{as bs:List Str},(as.map fun y=>y.cps.toList)=(bs.map fun y=>y.cps.toList)->as=bs:=by
  intro as
  induction as with
  |nil=>intro bs h;cases bs with
   |nil=>rfl
   |cons b bs=>cases h
  |cons a as ih=>intro bs h;cases bs with
   |nil=>cases h
   |cons b bs =>
    obtain⟨e1,e2⟩:=DT h;rw[ih e2,Str.ext' (Array.toList_inj.mp e1)]
 exact hi h3
end L2
namespace L2
open PySem PySem.Spec PyProof.Rows
section
variable {X:Cx}
theorem aF:MtR X "str.split" (fun x vs H Q=>∃z y:Str,x=.str z/\vs=[.str y]/\(y.length == 0)=false/\z.length+2<=Δ/\∀p,H p=none->Q (.ref p) (upd H p (.lst ((yu z y).map V.str)))):=by
 intro pins s σ H x vs v us Q I rx rv h;obtain⟨z,y,rfl,rfl,h2,h4,q⟩:=h;have hn:(AH.Str.partsBetween z (zp z y 0 z.length (z.length+1)) y.length).length<=Δ:=by
  have e1:=StrLaws.occ_length_le z y 0 z.length (z.length+1);rw[length_partsBetween];omega
 obtain⟨t,rfl⟩:=rx;obtain⟨u,rfl,ru⟩:=vals1 rv;obtain⟨t',rfl⟩:=ru;have fin:∀(tk:Nat) (ws:List Value),kG ((yu z y).map V.str) ws->(yu z y).length<=Δ →
   EP X pins σ Q (.ref s.heap.objs.size) { s with toks:=tk,heap:=s.heap.push { cls:=.type "list",data:=.seq ws.toArray } }:=fun tk ws rw' hl=>by
  refine⟨.ref s.heap.objs.size,_,I.laid (o:=.lst ((yu z y).map V.str)) (fun b o e=>ξ _ e) (μ _) ?_,rfl,q _ (I.hok.fresh (μ _))⟩;exact⟨by rw[ε];exact hl,_,0,rw',xb _ rfl⟩
 cases h1:(decide (z.length<y.length)||decide (AH.Str.strKind z<AH.Str.strKind y))
 ·cases hf:(zp z y 0 z.length (z.length+1)).isEmpty
  ·refine call_meets F.slot_str_split (typeIs_str _ _ _) F.entry_str_split (F.args_str_split_2 _ _) (meets_str_split_sep z y t t' h1 h2 hf (by omega) hn) ?_;have e:yu z y=AH.Str.partsBetween z (zp z y 0 z.length (z.length+1)) y.length:=(if_neg (ne_true_of_eq_false h1)).trans (if_neg (ne_true_of_eq_false hf));exact fin _ _ (by rw[e];exact tM _ _) (by rw[e];exact hn)
  ·have e:yu z y=[z]:=(if_neg (ne_true_of_eq_false h1)).trans (if_pos hf);exact call_meets F.slot_str_split (typeIs_str _ _ _) F.entry_str_split (F.args_str_split_2 _ _) (meets_str_split_not_found z y t t' h1 h2 hf) (fin s.toks [.str z t] (by rw[e];exact .cons ⟨_,rfl⟩ .nil) (by rw[e];show 1<=Δ;decide))
 ·have e:yu z y=[z]:=if_pos h1;exact call_meets F.slot_str_split (typeIs_str _ _ _) F.entry_str_split (F.args_str_split_2 _ _) (meets_str_split_cannot_occur z y t t' h1) (fin s.toks [.str z t] (by rw[e];exact .cons ⟨_,rfl⟩ .nil) (by rw[e];show 1<=Δ;decide))
theorem aKe:MtR X "str.join" (fun x vs H Q=>∃(sep:Str) (a:Addr) (ys:List Str),x=.str sep/\vs=[.ref a]/\SqL X.K H a (ys.map V.str)/\(ys.map (·.length)).sum+ys.length*sep.length<=16777216/\Q (.str (xl sep ys)) H):=by
 intro pins s σ H x vs v us Q I rx rv h;obtain⟨sep,a,ys,rfl,rfl,ha,hz,q⟩:=h;obtain⟨t,rfl⟩:=rx;obtain⟨u,rfl,ru⟩:=vals1 rv;cases ru;obtain⟨its,r,pl,_⟩:=I.list ha;refine PyProof.Rows.join_list pl.isList (aDi (by simpa using r)) hz fun t' k=>⟨.str _,H,I.tok _,⟨_,rfl⟩,?_⟩;rw[show Txt.join sep ys=xl sep ys from StrLaws.glued_eq_join sep ys];exact q
end
section
variable {X:Cx}
theorem mW(f:Nat->Int):∀k,argBest (fun i j=>decide (f i > f j)) k<=k/\∀j,j<=k->f j<=f (argBest (fun i j=>decide (f i > f j)) k)
 |0=>⟨μ _,fun j hj=>by rw[show j=0 by omega];exact Int.le_refl _⟩
 |k+1=>by
  obtain⟨h1,h2⟩:=mW f k;unfold argBest
  by_cases h:f (k+1) > f (argBest (fun i j=>decide (f i > f j)) k)
  ·rw[if_pos (decide_eq_true h)];refine⟨μ _,fun j hj=>?_⟩
   by_cases e:j=k+1
   ·rw[e];exact Int.le_refl _
   ·have:=h2 j (by omega);omega
  ·rw[if_neg (by rw[decide_eq_false h];exact ρ)];refine⟨by omega,fun j hj=>?_⟩
   by_cases e:j=k+1
   ·rw[e];omega
   ·exact h2 j (by omega)
theorem lQ(hc:X.calm=true):vP X (.builtin "max") (fun xs H Q=>∃(a:Addr) (ns:List Int),xs=[.ref a]/\SqL X.K H a (ns.map V.int)/\ns≠[]/\∀m:Int,m∈ns->(∀n∈ns,n<=m)->Q (.int m) H):=by
 intro pins s σ H xs us Q I r h;obtain⟨a,ns,rfl,ha,hne,q⟩:=h;obtain⟨u,rfl,rx⟩:=vals1 r;cases rx;obtain⟨its,rv,pl,_⟩:=I.list ha;have hi:=intsAre_of rv;obtain⟨ys,hy⟩:=hi.allInts.items;have e1:ns=ys.toList.map (·.1):=by
  rw[←nums_intItems,←hy];exact(show numsOf its.toArray.toList=ns from hi.numsOf).symm
 have hsz:ys.size=ns.length:=by rw[e1,ε,Aw]
 have hpos : 0<ns.length:=CA.mpr hne;have hat:∀j,ns[j]?=ys[j]?.map (fun x:Int×Tok=>x.1):=fun j=>by rw[e1,xw,Array.getElem?_toList]
 have hnum:∀j,j<ns.length->ns[j]?=some (numAt ys j):=fun j hj=>by
  have hj2:j<ys.size:=by omega
  rw[hat,Array.getElem?_eq_getElem hj2];unfold numAt;rw[Array.getElem?_eq_getElem hj2];rfl
 refine max_intList (I.ok.hd hc) (hy ▸ pl.isList) (by omega) fun v h' tk hv hk=>?_;obtain⟨t,rfl⟩:=intItems_at hv;obtain⟨b1,b2⟩:=mW (numAt ys) (ys.size-1);refine⟨.int _,H,I.kept hk,⟨_,rfl⟩,q _ (xk (hnum _ (by omega))) fun n hn=>?_⟩;obtain⟨j,hj⟩:=zd.mp hn;have hjl:j<ns.length:=(θ.mp hj).1;rw[hnum j hjl]at hj;cases hj;exact b2 j (by omega)
theorem aBv(hu:X.A.units+64<cLine):OpR X (Ab .Eq) (fun x y H Q=>∃(a b:Addr) (xs:List V),x=.ref a/\y=.ref b/\SqL X.K H a xs/\SqL X.K H b []/\Q (.bl xs.isEmpty) H):=by
 intro pins s σ H x y v u Q I rx ry h;obtain⟨a,b,xs,rfl,rfl,ha,hb,q⟩:=h;cases rx;cases ry;obtain⟨i1,r1,p1,_⟩:=I.list ha;obtain⟨i2,r2,p2,_⟩:=I.list hb;cases r2;cases xs with
 |nil =>
  cases r1;refine SeqAt.eq_listAt (e:=fun _=>true) p1.isList p2.isList rfl (by omega) (fun j h1 _=>absurd h1 (BA _)) ?_;exact⟨.bl true,H,I,rfl,q⟩
 |cons z zs =>
  cases r1 with
  |cons rz rt =>
   refine SeqAt.eq_list_lengthsAt p1.isList p2.isList (by simp) (by omega) ?_;exact⟨.bl false,H,I,rfl,q⟩
end
def aKf (J:It) (k:Nat) (js:List Nat) (g:TG) (tc:TT) (tk tv:TE) (σ:St) (Q:VK) (H1:Hp):Prop:=∀D,H1 D=none →
 ∃W:Nat->Nat->St->List (Key×V)->Hp->Prop,(∃m,W 0 m (iA k js σ) [] (upd H1 D (.dK [])))/\∀i m σ' kvs H',W i m σ' kvs H' →
  (J.stop i H'/\Q (.ref D) H') ∨
  (J.go i H'/\∃N:St->List (Key×V)->Hp->Prop,(∀σ' ys H',N σ' ys H'->∃m',m'<m/\W (i+1) m' σ' ys H') ∧
   ∀x H2,J.yld i H' x H2->g x σ' H2 fun σ3 H3=>tc σ3 H3 fun b H4=>if b=true then tk σ3 H4 fun y H5=>tv σ3 H5 fun v H6=>∃key,y=kV key/\H6 D=some (.dK kvs)/\kvs.length<Δ/\N σ3 (putK kvs key v) (upd H6 D (.dK (putK kvs key v))) else N σ3 kvs H4)
def aSa (wi:TI) (k:Nat) (js:List Nat) (g:TG) (tc:TT) (tk tv:TE):TE:=fun σ H Q=>wi σ H fun J H1=>aKf J k js g tc tk tv σ Q H1
section
variable {prog:za}{w:Af}{A:yr}{R:Result->ι->Prop}{s:ι}
theorem sM{kx iter:Expr}(I:Nat->ι->Prop)
  (turn:∀n s,I n s->Φ (xj prog w) A (BY it) (fun r s₁=>match r with
   |none=>R (.ok .next) s₁
   |some v=>Φ (xj prog w) A (CY target it v) (fun _ s₀=>Φ (xj prog w) A (assign target env v) (fun _ s₂ =>
     Φ (xj prog w) A (forIn ifs true fun c r=>if r=true then do let ok ←isTrue c env (eval c env);pure (BU ok) else pure (BU r)) (fun ok s₃ =>
      if ok=true then Φ (xj prog w) A (eval kx env) (fun kv s₄=>Φ (xj prog w) A (eval vx env) (fun vv s₅ =>
       Φ (xj prog w) A (dictSet D kv vv) (fun _ s₆=>∃m,m<n/\I m s₆) (fun _ _=>False) s₅) (fun _ _=>False) s₄) (fun _ _=>False) s₃
      else ∃m,m<n/\I m s₃) (fun _ _=>False) s₂) (fun _ _=>False) s₀) (fun _ _=>False) s₁) (fun _ _=>False) s)
  (n:Nat)(h:I n s):Cu (xj prog w) A (.compLoop (.DictComp kx vx [⟨target,iter,ifs,0⟩] scope pos) 0 it (.ref D) env) R s:=by
 refine codeAny_loop rfl I (fun n s hI=>?_) n h;show Φ _ A ((compTurn (.DictComp kx vx [⟨target,iter,ifs,0⟩] scope pos) 0 it (.ref D) env).onRaise (fun x=>do noteFrame x env;theTreesLotGoes x)) _ _ s;refine wpAny_noted ?_;rw[compTurn_dict];refine ζ (Bp (ζ (ym (turn n s hI) (fun r s₁ h₁=>?_) fun _ _ z=>yf z)));cases r with
 |none=>exact τ h₁
 |some v =>
  refine ζ (ym h₁ (fun _ s₀ h₀=>?_) fun _ _ z=>yf z);refine ζ (ym h₀ (fun _ s₂ h₂=>ζ (ym h₂ (fun ok s₃ h₃=>?_) fun _ _ z=>yf z)) fun _ _ z=>yf z);cases ok with
  |false=>exact τ ⟨rfl,h₃⟩
  |true =>
   exact ζ (ζ (ym h₃ (fun kv s₄ h₄=>ζ (yv (ym h₄ (fun vv s₅ h₅=>ζ (Bp (yv (ym h₅ (fun _ s₆ h₆=>τ ⟨rfl,h₆⟩) fun _ _ z=>yf z)))) fun _ _ z=>yf z))) fun _ _ z=>yf z))
end
section
variable {X:Cx}{elt tg iter:Expr}{ifs:List Expr}{scope:Scope}{cl:List (Str×Addr)}{ts ys:List Str}{js:List Nat}{pos:Pos}{wi:TI}{g:TG}{tc:TT}{te:TE}
theorem aIg{s4:ι}{fp:List Addr}(I2:Inv X pins σ H2 s2)(f2:∀b∈fp,dD X pins H2 b)
  (I4:Inv (X.comp scope cl N s2 H2 fp C) pins' σ' H3 s4)(hC:s2.heap.objs.size<=C)(hs':Ac C s4.heap h'):Inv X pins σ H3 { s4 with heap:=h' }:=by
 have ext:=hs'.extBut;have neC:∀b o,s2.heap.get? b=some o->b≠C:=fun b o e=>wz (υ (Θ e) hC);have hok:HOk X.prog X.w H3 h':=HOk.but (C:=C) I4.hok I4.free fun b o hb e=>ext b o hb e;have B:Un (frs X.stack) fp H2 H3 s2.heap s4.heap:=I4.base;have u:Un (frs X.stack) fp H2 H3 s2.heap h':=by
  refine⟨fun b o e q hb hx=>ext b o (neC b o e) (B.keep b o e q hb hx),fun b o e q hb hx=>?_,B.free,fun b o e hx=>?_,B.tups,B.frzs,B.tbls⟩
  ·obtain⟨sl,e1⟩:=B.slot b o e q hb hx;exact⟨sl,ext b _ (neC b o e) e1⟩
  ·obtain⟨o',e1⟩:=B.there b o e hx;exact⟨o',ext b _ (neC b o e) e1⟩
 have os:s4.os=s2.os:=I4.os;have gb:=I4.bare;obtain⟨hh,gg,dd,tt,os'⟩:=s4;obtain rfl:os'=s2.os:=os;have fin:=I2.call (h':=h') (g':=gg) (d':=dd) (t':=tt) (ch:=fp) u hok gb fun b hb=>⟨(f2 b hb).2.2.2.1,(f2 b hb).2.1,(f2 b hb).2.2.2.2.1,(f2 b hb).2.2.2.2.2⟩;exact fin
theorem aLg{kx:Expr}(ts ys:List Str)(js:List Nat)(hc:X.calm=true)(hi:PI X tg iter wi)(hclos:closureFor scope X.env=pure cl)(hsub:eU X.env cl)(hcap:nR X scope cl ys js)
  (hg:∀s H fp C,PG (X.comp scope cl (ts++ys) s H fp C) tg g)(ht:∀s H fp C,PIf (X.comp scope cl (ts++ys) s H fp C) ifs tc)(hek:∀s H fp C,PE (X.comp scope cl (ts++ys) s H fp C) kx tk)(hev:∀s H fp C,PE (X.comp scope cl (ts++ys) s H fp C) vx tv)
  (hkind:scope.kind=.function:=by rfl)(hcell:(scope.names.all fun y=>y.2 != .cell)=true:=by rfl)
  (hnames:(scope.names.all fun y=>y.2 != .local||scope.names.lookup y.1 == some .local)=true:=by rfl)
  (hhas:((relabel scope X.env).names.all fun p=>(p.2 != .cell&&p.2 != .free)||(cl.lookup p.1).isSome)=true:=by rfl)
  (hs:∀x,Cc iter X.env x=pure x:=by intro _;rfl):PE X (.DictComp kx vx [⟨tg,iter,ifs,0⟩] scope pos) (aSa wi ts.length js g tc tk tv):=by
 intro pins s σ H Q I h;have hcell':∀y∈scope.names,y.2≠.cell:=fun y hy z=>by
  have:=yh.mp hcell y hy;rw[z]at this;exact absurd this (by decide)
 have hnames':∀y∈scope.names,y.2=.local->scope.names.lookup y.1=some .local:=fun y hy z=>by
  have:=yh.mp hnames y hy;rw[z]at this;simpa using this
 have hhas':∀x,((relabel scope X.env).names.lookup x=some .cell\/(relabel scope X.env).names.lookup x=some .free)->∃c,cl.lookup x=some c:=fun x hx=>by
  rcases hx with hx|hx
  ·have:=yh.mp hhas _ (Ad hx);exact Ba.mp (by simpa using this)
  ·have:=yh.mp hhas _ (Ad hx);exact Ba.mp (by simpa using this)
 rw[arm_eval_DictComp];refine wpAny_comprehension_free (use:=none) rfl hs hclos hkind hnames' (thn (hi pins s σ H _ I h) fun v s1 h1=>thn h1 fun itv s2 h2=>?_);obtain⟨it,fp,tn,J,H2,e,I2,T,st2,f2,hD⟩:=h2;subst e;have fl:∀b∈fp,b<s2.heap.objs.size:=fun b hb=>by
  obtain⟨o,e,_⟩:=T.obj _ _ st2 b hb;exact Θ e
 refine Cf (wpAny_newFunctionEnv hcell' (by intro y hy;simp at hy) (fun h₁ hns₁ hsb₁=>?_) hkind);dsimp only at hns₁ hsb₁ ⊢;have hn2:H2 s2.heap.objs.size=none:=I2.hok.fresh (μ _);obtain⟨W,⟨m0,w0⟩,turn⟩:=hD _ hn2;have I2d:Inv X pins σ (upd H2 s2.heap.objs.size (.dK [])) { s2 with heap:=s2.heap.push { cls:=.type "dict",data:=.dict #[] } } :=
  I2.laid (a:=s2.heap.objs.size) (o:=.dK []) (h':=s2.heap.push { cls:=.type "dict",data:=.dict #[] }) (t':=s2.toks) (fun _ _ q=>ξ _ q) (μ _) (aCc s2.heap I2.big)
 generalize hHH:s2.heap.push { cls:=.type "dict",dict:=none,data:=.dict #[] }=HH at hns₁ hsb₁ I2d ⊢;have hC:HH.objs.size=s2.heap.objs.size+1:=by rw[←hHH,ze]
 have hlt:s2.heap.objs.size<HH.objs.size:=by rw[hC];exact Bq _
 have f2d:∀b∈fp,dD X pins (upd H2 s2.heap.objs.size (.dK [])) b:=fun b hb=>⟨by rw[jR (wz (fl b hb))];exact(f2 b hb).1,(f2 b hb).2⟩;have fld:∀b∈fp,b<HH.objs.size:=fun b hb=>Nat.lt_trans (fl b hb) hlt;have old:∀b o,HH.get? b=some o->h₁.get? b=some o:=fun b o e=>hsb₁.extBut b o (wz (Θ e)) (ξ _ e);have I':Inv (X.comp scope cl (ts++ys) { s2 with heap:=HH } (upd H2 s2.heap.objs.size (.dK [])) fp HH.objs.size) [] (iA ts.length js σ) (upd H2 s2.heap.objs.size (.dK [])) { s2 with heap:=h₁,toks:=s2.toks+([]:List (Str×Value)).length } :=
  aCt (s:={ s2 with heap:=HH }) I2d hsub hcap hkind hhas' f2d fld (μ _) hns₁ old
 have stat:∀{H':Hp},(∀b∈fp,H' b=none)->∀b∈fp,dD (X.comp scope cl (ts++ys) { s2 with heap:=HH } (upd H2 s2.heap.objs.size (.dK [])) fp HH.objs.size) [] H' b:=fun {H'} hn b hb =>
  ⟨hn b hb,wz (fld b hb),I'.ok.exfs b hb,.inl hb,(I'.ok.exf b hb).2,fun p hq=>absurd (show p∈([]:List (Addr×Obj)) from by simpa using hq) (by simp)⟩
 have tn1:tn 0 h₁:=T.keep _ _ _ st2 fun b _ o e=>old b o (hHH ▸ ξ _ e);have loop:∀s₃ : ι,s₃ = { s2 with heap:=h₁,toks:=s2.toks+([]:List (Str×Value)).length } →
   Cu (xj X.prog X.w) X.A (.compLoop (.DictComp kx vx [⟨tg,iter,ifs,0⟩] scope pos) 0 (.ref it) (.ref s2.heap.objs.size) (compEnvC scope cl HH.objs.size X.env))
    (compPost (xj X.prog X.w) X.A X.xe none (EP X pins σ Q) (.ref s2.heap.objs.size) HH.objs.size) s₃:=by
  rintro s₃ rfl;refine sM (fun n s'=>∃i σ' kvs H',Inv (X.comp scope cl (ts++ys) { s2 with heap:=HH } (upd H2 s2.heap.objs.size (.dK [])) fp HH.objs.size) [] σ' H' s'/\tn i s'.heap/\(∀b∈fp,H' b=none)/\W i n σ' kvs H') ?_ m0 ⟨0,_,[],_,I',tn1,fun b hb=>(f2d b hb).1,w0⟩;rintro n s3 ⟨i,σ3,kvs,H3,I3,st3,fr3,w3⟩;rcases turn i n σ3 kvs H3 w3 with⟨stop,qn⟩|⟨go,N,hN,step⟩
  ·refine thn (T.done (X.comp scope cl (ts++ys) { s2 with heap:=HH } (upd H2 s2.heap.objs.size (.dK [])) fp HH.objs.size) rfl rfl rfl hc i _ s3 σ3 H3 (fun _ _=>False) I3 (stat fr3) st3 stop) fun r s4 zq=>?_;obtain⟨hr,I4⟩:=zq;subst hr;obtain⟨m,hn,_⟩:=I4.loc;exact⟨m,hn,fun h' hs'=>⟨.ref s2.heap.objs.size,_,aIg (s2:={ s2 with heap:=HH }) I2d f2d I4 (μ _) hs',rfl,qn⟩⟩
  ·refine thn (T.item (X.comp scope cl (ts++ys) { s2 with heap:=HH } (upd H2 s2.heap.objs.size (.dK [])) fp HH.objs.size) rfl rfl rfl hc i _ s3 σ3 H3 (fun _ _=>False) I3 (stat fr3) st3 go) fun r s4 zq=>?_;obtain⟨u,hr,h4⟩:=zq;subst hr;refine thn h4 fun _ s5 zq=>?_;obtain⟨x,H5,I5,r5,y5,st5,fr5⟩:=zq;have I5':=I5.pinned (stat fr5) (T.obj _ _ st5);refine thn (hg _ _ _ _ _ s5 σ3 H5 x u _ I5' r5 (step x H5 y5)) fun _ s6 zq=>?_;obtain⟨σ6,H6,I6,q6⟩:=zq;refine thn (ht _ _ _ _ _ s6 σ6 H6 _ I6 q6) fun b s7 zq=>?_;obtain⟨H7,I7,q7⟩:=zq;have facts:∀{σ':St}{H':Hp}{s':ι},Inv (X.comp scope cl (ts++ys) { s2 with heap:=HH } (upd H2 s2.heap.objs.size (.dK [])) fp HH.objs.size) ([]++eO fp s5.heap) σ' H' s'->tn (i+1) s'.heap/\(∀b∈fp,H' b=none):=fun {σ' H' s'} J=>by
    refine⟨T.keep _ _ _ st5 fun b hb o e=>(J.pin (b,o) (xx _ (xx _ (yP hb e)))).1,fun b hb=>?_⟩;obtain⟨o,e,d⟩:=T.obj _ _ st5 b hb;exact(J.pin (b,o) (xx _ (xx _ (yP hb e)))).2.1
   have bare:∀{σ':St}{H':Hp}{s':ι},Inv (X.comp scope cl (ts++ys) { s2 with heap:=HH } (upd H2 s2.heap.objs.size (.dK [])) fp HH.objs.size) ([]++eO fp s5.heap) σ' H' s'->Inv (X.comp scope cl (ts++ys) { s2 with heap:=HH } (upd H2 s2.heap.objs.size (.dK [])) fp HH.objs.size) [] σ' H' s':=fun J=>J.pins_of fun p hp=>absurd hp (by simp);cases b with
   |false =>
    have q7':N σ6 kvs H7:=by simpa using q7
    obtain⟨m',hm,w7⟩:=hN _ _ _ q7';obtain⟨a3,a4⟩:=facts I7;show ∃m,m<n/\_;exact⟨m',hm,i+1,σ6,kvs,H7,bare I7,a3,a4,w7⟩
   |true =>
    rw[if_pos rfl]at q7;show Φ _ _ (eval kx _) _ _ s7;refine thn (hek _ _ _ _ _ s7 σ6 H7 _ I7 q7) fun kv s8 zq=>?_;obtain⟨y,H8,I8,r8,q8⟩:=zq;refine thn (hev _ _ _ _ _ s8 σ6 H8 _ I8 q8) fun vv s9 zq=>?_;obtain⟨v,H9,I9,r9,key,ek,eD,hl,n9⟩:=zq;subst ek;obtain⟨m',hm,w9⟩:=hN _ _ _ n9;obtain⟨a3,a4⟩:=facts I9;have I9':=bare I9;obtain⟨z,hd,vs,rel,dd⟩:=aAr I9'.hok eD;have hz:vs.length<=Δ:=by rw[←rel.length];exact z
    have hlp:(putK kvs key v).length<=Δ:=by have:=mQ kvs key v;omega
    refine wpAny_dictSet_pairs (hsz:=hz) (mT r8) dd fun h' dd' hs=>?_;have he:∃q,h'.get? s2.heap.objs.size=some q:=let ⟨q,_,_,hq,_⟩:=dd'; ⟨q,hq⟩;exact⟨m',hm,i+1,σ6,putK kvs key v,_,wA I9' (by rw[eD];exact yg) hs he (pB hlp hd (rel.put key r9) dd'),T.keep _ _ _ a3 fun b hb o e=>(hs.2 b (wz (fl b hb))).trans e,fun b hb=>by rw[jR (wz (fl b hb))];exact a4 b hb,w9⟩
 exact codeAny_compStart_dict (loop _ rfl) (T.self _ 0 _ _ _ tn1 (loop _ rfl))
end
def aDl (P:Nat->List (Key×V)->Hp->Prop) (i:Nat) (js:List Nat) (σ:St):St->List (Key×V)->Hp->Prop:=fun σ' ys H=>P (i+1) ys H/\∃o,σ'=o::vI js σ
theorem aDu{K:Ω}{xs:List V}{k:Nat}{tc:TT}{tk tv:TE}{Q:VK}{H1:Hp}(P:Addr->Nat->List (Key×V)->Hp->Prop)(h0:∀D,H1 D=none->P D 0 [] (upd H1 D (.dK [])))(hl:∀D i ys H,i<=xs.length->P D i ys H->SqL K H a xs)
  (hs:∀D i x ys H,xs[i]?=some x->P D i ys H->tc (some x::vI js σ) H fun b H2=>if b=true then tk (some x::vI js σ) H2 fun y H3=>tv (some x::vI js σ) H3 fun v H4=>∃key,y=kV key/\H4 D=some (.dK ys)/\ys.length<Δ/\aDl (P D) i js σ (some x::vI js σ) (putK ys key v) (upd H4 D (.dK (putK ys key v))) else aDl (P D) i js σ (some x::vI js σ) ys H2)
  (hd:∀D ys H,P D xs.length ys H->Q (.ref D) H)(hk:k=1:=by rfl):
  aKf (Itl K a) k js (cZ 0) tc tk tv σ Q H1:=by
 subst hk;intro D hD;refine⟨fun i m σ' ys H=>m=xs.length-i/\i<=xs.length/\P D i ys H/\∃o,σ'=o::vI js σ,⟨xs.length,by simp,xy _,h0 D hD,none,rfl⟩,?_⟩;rintro i m σ' ys H ⟨rfl,hi,p,o,rfl⟩;have q:=hl D i ys H hi p
 by_cases hlt:i<xs.length
 ·refine .inr ⟨⟨xs,xs[i],q,by simp[hlt]⟩,aDl (P D) i js σ,fun σ3 zs H3 z=>⟨xs.length-(i+1),by omega,rfl,hlt,z.1,z.2⟩,fun x H' y=>?_⟩;obtain⟨e,y⟩:=y;subst e;exact hs D i x ys _ (y xs q) p
 ·have e:i=xs.length:=by omega
  subst e;exact .inl ⟨⟨xs,q,μ _⟩,hd D ys H p⟩
section
variable {X:Cx}{tg:Expr}
def iSeq (K:Ω) (tl:TE):TI:=fun σ H R=>tl σ H fun x H1=>∃a,x=.ref a/\(((∃xs,SqL K H1 a xs)/\R (Itl K a) H1)\/((∃xs,SqT K H1 a xs)/\R (Itt K a) H1))
theorem aQq(hl:PE X l tl):PI X tg l (iSeq X.K tl):=by
 intro pins s σ H R I h;refine thn (hl pins s σ H _ I h) fun v s1 zq=>?_;obtain⟨x,H1,I1,r1,q1⟩:=zq;obtain⟨a,e,q1⟩:=q1;subst e;cases r1;rcases q1 with⟨⟨xs,hq⟩,q⟩|⟨⟨xs,hq⟩,q⟩
 ·obtain⟨its,rv,p,hz⟩:=I1.list hq;refine Ax p.isList ?_;refine⟨s1.heap.objs.size,[s1.heap.objs.size],_,_,H1,rfl,I1.kept (t':=s1.toks) fun b o e=>ξ _ e,tH a _,⟨_,xb _ rfl,rfl,rfl⟩,fun b hb=>?_,q⟩;have e:b=s1.heap.objs.size:=by simpa using hb
  subst e;exact I1.fpOk (μ _) (I1.hok.fresh (μ _))
 ·obtain⟨its,rv,p,hz⟩:=I1.tuple hq;refine Br (show s1.heap.IsTuple a its.toArray from p) ?_;refine⟨s1.heap.objs.size,[s1.heap.objs.size],_,_,H1,rfl,I1.kept (t':=s1.toks) fun b o e=>ξ _ e,rC a _,⟨_,xb _ rfl,rfl,rfl⟩,fun b hb=>?_,q⟩;have e:b=s1.heap.objs.size:=by simpa using hb
  subst e;exact I1.fpOk (μ _) (I1.hok.fresh (μ _))
theorem wC{K:Ω}(hK:X.K=K)(he:PE X e ta)(hb:AZ e f X.env (eval e X.env)=eval e X.env):PE X (.Attribute e f pos) (tFld K ta f):=hK ▸ kK he hb
theorem aMo:OpR X (BG .Add) (fun x y H Q=>∃a b xs ys,x=.ref a/\y=.ref b/\SqT X.K H a xs/\SqT X.K H b ys/\ys≠[]/\xs.length+ys.length<=Δ ∧
  (xs=[]->Q (.ref b) H)/\(xs≠[]->∀p,H p=none->Q (.ref p) (upd H p (.tup (xs++ys))))):=by
 intro pins s σ H x y v u Q I rx ry h;obtain⟨a,b,xs,ys,rfl,rfl,ha,hb,hx,hz,q1,q2⟩:=h
 by_cases hxs:xs=[]
 ·cases rx;cases ry;obtain⟨its,r1,p1,_⟩:=I.tuple ha;obtain⟨its2,r2,p2,_⟩:=I.tuple hb;have e1:its=[]:=r1.nil_iff.mpr hxs;subst e1;obtain⟨⟨cls,dd,data,sl⟩,ho,hc,n,hd⟩:=id p1;obtain⟨⟨cls2,dd2,data2,sl2⟩,ho2,hc2,n2,hd2⟩:=id p2;simp only at hc hd hc2 hd2;subst hc hd hc2 hd2;exact concat_meets ⟨_,ho,rfl⟩ ⟨_,ho2,rfl⟩ noFill_tuple_add seq_tuple_add Du Dk (CJ _ _)
   (tuple_addW0 a b _ _ n n2 dd dd2 sl sl2 rfl) ⟨ho,ho2,.ref b,H,I,rfl,q1 hxs⟩
 ·exact aOs pins s σ H _ _ v u Q I rx ry ⟨a,b,xs,ys,rfl,rfl,ha,hb,hxs,hz,fun z=>absurd z hx,fun _=>q2 hxs⟩
end
theorem aMf : OpR X (BG .Add) (fun x y H Q=>∃a b xs ys,x=.ref a/\y=.ref b/\SqT X.K H a xs/\SqT X.K H b ys/\ys≠[]/\xs.length+ys.length<=Δ/\∀p H',jJ H H'->SqT X.K H' p (xs++ys)->Q (.ref p) H'):=by
 intro pins s σ H x y v u Q I rx ry h;obtain⟨a,b,xs,ys,rfl,rfl,ha,hb,hx,hz,q⟩:=h;refine aMo pins s σ H _ _ v u Q I rx ry ⟨a,b,xs,ys,rfl,rfl,ha,hb,hx,hz,fun e=>?_,fun _ p hp=>?_⟩
 ·subst e;exact q b H (fun _ _ z=>z) hb
 ·exact q p _ (fun b o z=>by rw[jR (jI z hp)];exact z) (SqT.of jF)
theorem fC{K:Ω}{xs:List V}{k:Nat}{g:TG}{tc:TT}{te:TE}{Q:VK}(P:Nat->List V->Hp->Prop)(h0:P 0 [] H1)(hl:∀i ys H,i<=xs.length->P i ys H->SqT K H a xs/\ys.length<=i)(hz:xs.length<Δ)
  (hs:∀i x ys H (os:St),os.length=k->xs[i]?=some x->P i ys H->g x (os++vI js σ) H fun σ3 H3=>tc σ3 H3 fun b H2=>if b=true then te σ3 H2 fun v H3=>iU P i k js σ σ3 (ys++[v]) H3 else iU P i k js σ σ3 ys H2)
  (hd:∀ys H,P xs.length ys H->∀p,H p=none->Q (.ref p) (upd H p (.lst ys))):
  hJ (Itt K a) k js g tc te σ Q H1:=by
 refine⟨fun i m σ' ys H=>m=xs.length-i/\i<=xs.length/\P i ys H/\∃os:St,os.length=k/\σ'=os++vI js σ,⟨xs.length,by simp,xy _,h0,Cj k none,AR,rfl⟩,?_⟩;rintro i m σ' ys H ⟨rfl,hi,p,os,ho,rfl⟩;obtain⟨q,hy⟩:=hl i ys H hi p
 by_cases hlt:i<xs.length
 ·refine .inr ⟨⟨xs,xs[i],q,by simp[hlt]⟩,by omega,iU P i k js σ,fun σ3 zs H3 z=>⟨xs.length-(i+1),by omega,rfl,hlt,z.1,z.2⟩,fun x H' y=>?_⟩;obtain⟨e,y⟩:=y;subst e;exact hs i x ys _ os ho (y xs q) p
 ·have e:i=xs.length:=by omega
  subst e;exact .inl ⟨⟨xs,q,μ _⟩,hd ys H p⟩
end L2
namespace L2
open PySem
inductive Kd where
 |num (w:Nat)
 |nest (i:Nat)
 |many (n:Nat) (k:Kd)
 |pick (is:List Nat)
abbrev Shp:=Str×List (Str×Kd)
abbrev Un3:=Str×Nat×Str
def yF:List Nat->Nat
 |[]=>0
 |x::xs=>max x (yF xs)
theorem oJ{n:Nat}: ∀{xs:List Nat},n∈xs->n<=yF xs
 |x::xs,h=>by
  rcases χ.mp h with rfl|h
  ·exact Nat.le_max_left _ _
  ·exact yb (oJ h) (Nat.le_max_right _ _)
theorem aCg:∀{xs:List Nat},xs≠[]->yF xs∈xs
 |[],h=>absurd rfl h
 |[x],_=>by show max x 0∈[x];rw[Nat.max_zero];exact ω.mpr rfl
 |x::y::xs,_=>by
  have ih:=aCg (xs:=y::xs) (by simp);show max x (yF (y::xs))∈_
  by_cases h:x<=yF (y::xs)
  ·rw[Nat.max_eq_right h];exact π _ ih
  ·rw[Nat.max_eq_left (by omega)];exact ο ..
theorem aPe{m:Nat}{xs:List Nat}(h1:m∈xs)(h2:∀n∈xs,n<=m):m=yF xs :=
 Nat.le_antisymm (oJ h1) (h2 _ (aCg fun z=>by rw[z]at h1;cases h1))
def Kd.size (sz:List Nat):Kd->Nat
 |.num w=>w
 |.nest i=>sz.getD i 0
 |.many n k=>n*k.size sz
 |.pick is=>1+yF (is.map fun i=>sz.getD i 0)
def Kd.depth (dp:List Nat):Kd->Nat
 |.num _=>0
 |.nest i=>dp.getD i 0
 |.many _ k=>k.depth dp
 |.pick is=>yF (is.map fun i=>dp.getD i 0)
def pj (p x:Str):Str:=if p.length=0 then x else p++δ "." ++ x
def Kd.units (sz:List Nat) (ut:List (Str->List Un3)):Kd->Str->List Un3
 |.num w,p=>[(p,w,δ "num")]
 |.nest i,p=>(ut.getD i fun _=>[]) p
 |.many n k,p=>(zt n).flatMap fun j=>k.units sz ut (pj p (δ (toString j)))
 |.pick is,p=>[(pj p (δ "tag"),1,δ "tag"),(p,yF (is.map fun i=>sz.getD i 0),δ "pick")]
structure Tab where
 sz:List Nat
 dp:List Nat
 ut:List (Str->List Un3)
def Tab.more (t:Tab) (s:Shp):Tab:=⟨t.sz++[(s.2.map fun f=>f.2.size t.sz).sum],t.dp++[1+yF (s.2.map fun f=>f.2.depth t.dp)],t.ut++[fun p=>s.2.flatMap fun f=>f.2.units t.sz t.ut (pj p f.1)]⟩
def tabs (S:List Shp):Tab:=S.foldl Tab.more ⟨[],[],[]⟩
theorem aIp(S:List Shp)(s:Shp):tabs (S++[s])=(tabs S).more s:=by unfold tabs;rw[Dy];rfl
def Tab.Ok (t:Tab):Prop:=t.ut.length=t.sz.length/\∀i p,(((t.ut.getD i fun _=>[]) p).map (·.2.1)).sum=t.sz.getD i 0
theorem aCz(f:Nat->List Un3)(m:Nat)(h:∀j,((f j).map (·.2.1)).sum=m):∀n,((((zt n).flatMap f)).map (·.2.1)).sum=n*m
 |0=>by simp
 |n+1=>by
  rw[BV,Bo,Ψ,List.sum_append,aCz f m h n,BQ,h n,Nat.succ_mul]
theorem Kd.units_sum{t:Tab}(h:t.Ok):∀(k:Kd) (p:Str),((k.units t.sz t.ut p).map (·.2.1)).sum=k.size t.sz
 |.num w,p=>by simp[Kd.units,Kd.size]
 |.nest i,p=>h.2 i p
 |.many n k,p=>aCz _ _ (fun j=>Kd.units_sum h k _) n
 |.pick is,p=>by simp[Kd.units,Kd.size]
theorem sG{t:Tab}(h:t.Ok)(p:Str):∀fs:List (Str×Kd),((fs.flatMap fun f=>f.2.units t.sz t.ut (pj p f.1)).map (·.2.1)).sum=(fs.map fun f=>f.2.size t.sz).sum
 |[]=>rfl
 |f::fs=>by
  rw[Dz,Ψ,List.sum_append,Kd.units_sum h,sG h p fs,zc,CQ]
theorem Tab.Ok.more{t:Tab}(h:t.Ok)(s:Shp):(t.more s).Ok:=by
 refine⟨by show(t.ut++[_]).length=(t.sz++[_]).length;rw[η,η,h.1];rfl,fun i p=>?_⟩;show((((t.ut++[_]).getD i fun _=>[]) p).map (fun u:Un3=>u.2.1)).sum=(t.sz++[_]).getD i 0;rw[xh,xh]
 by_cases hi:i<t.ut.length
 ·rw[xo hi,xo (by rw[←h.1];exact hi)];have:=h.2 i p;rw[xh,xh]at this;exact this
 ·rw[xa (by omega),xa (by rw[←h.1];omega),←h.1]
  by_cases e:i-t.ut.length=0
  ·rw[e];exact sG h p s.2
  ·obtain⟨n,hn⟩ : ∃n,i-t.ut.length=n+1:=⟨i-t.ut.length-1,by omega⟩;rw[hn];rfl
def Kd.Below (n:Nat):Kd->Prop
 |.num _=>True
 |.nest i=>i<n
 |.many _ k=>k.Below n
 |.pick is=>∀i∈is,i<n
theorem bB{α : Type}{xs ys:List α}{d : α}{i:Nat}(h:i<xs.length):(xs++ys).getD i d=xs.getD i d:=by
 rw[xh,xh,xo h]
theorem Kd.Below.mono{n m:Nat}(h:n<=m):∀{k:Kd},k.Below n->k.Below m
 |.num _,_=>yg
 |.nest i,q=>υ (show i<n from q) h
 |.many _ k,q=>Kd.Below.mono (k:=k) h q
 |.pick is,q=>fun i hi=>υ (q i hi) h
theorem wK{xs ys is:List Nat}(h:∀i∈is,i<xs.length):(is.map fun i=>(xs++ys).getD i 0)=is.map fun i=>xs.getD i 0 :=
 CB fun i hi=>bB (h i hi)
theorem Kd.size_app{sz more:List Nat}: ∀{k:Kd},k.Below sz.length->k.size (sz++more)=k.size sz
 |.num _,_=>rfl
 |.nest i,q=>bB q
 |.many n k,q=>by show n*_=n*_;rw[Kd.size_app (k:=k) q]
 |.pick is,q=>by show 1+yF _=1+yF _;rw[wK q]
theorem Kd.depth_app{dp more:List Nat}: ∀{k:Kd},k.Below dp.length->k.depth (dp++more)=k.depth dp
 |.num _,_=>rfl
 |.nest i,q=>bB q
 |.many n k,q=>Kd.depth_app (k:=k) q
 |.pick is,q=>by show yF _=yF _;rw[wK q]
theorem Kd.units_app{sz more:List Nat}{ut um:List (Str->List Un3)}(e:ut.length=sz.length):∀{k:Kd},k.Below sz.length->∀p,k.units (sz++more) (ut++um) p=k.units sz ut p
 |.num _,_,_=>rfl
 |.nest i,q,p=>by show((ut++um).getD i _) p=(ut.getD i _) p;rw[bB (by rw[e];exact q)]
 |.many n k,q,p=>by
  show(zt n).flatMap _=(zt n).flatMap _
  congr 1
  funext j
  exact Kd.units_app e (k:=k) q _
 |.pick is,q,p=>by
  show[_,(p,yF _,_)]=[_,(p,yF _,_)];rw[wK q]
theorem eV:∀S:List Shp,(tabs S).sz.length=S.length/\(tabs S).dp.length=S.length/\(tabs S).ut.length=S.length:=fun S=>by
 have:∀(S:List Shp) (t:Tab) (n:Nat),(t.sz.length=n/\t.dp.length=n/\t.ut.length=n)->((S.foldl Tab.more t).sz.length=n+S.length/\(S.foldl Tab.more t).dp.length=n+S.length/\(S.foldl Tab.more t).ut.length=n+S.length):=by
  intro S
  induction S with
  |nil=>intro t n h;exact h
  |cons s S ih =>
   intro t n h;have:=ih (t.more s) (n+1) ⟨by show(t.sz++[_]).length=_;rw[η,h.1];rfl,by show(t.dp++[_]).length=_;rw[η,h.2.1];rfl,by show(t.ut++[_]).length=_;rw[η,h.2.2];rfl⟩;rw[Ξ,show n+(S.length+1)=n+1+S.length by omega];exact this
 have h:=this S ⟨[],[],[]⟩ 0 ⟨rfl,rfl,rfl⟩;rw[Nat.zero_add]at h;exact h
theorem aBu(S:List Shp):∀R:List Shp,∃a b c,(tabs (S++R)).sz=(tabs S).sz++a/\(tabs (S++R)).dp=(tabs S).dp++b/\(tabs (S++R)).ut=(tabs S).ut++c:=fun R=>by
 have:∀(R:List Shp) (t:Tab),∃a b c,(R.foldl Tab.more t).sz=t.sz++a/\(R.foldl Tab.more t).dp=t.dp++b/\(R.foldl Tab.more t).ut=t.ut++c:=by
  intro R
  induction R with
  |nil=>intro t;exact⟨[],[],[],by simp,by simp,by simp⟩
  |cons s R ih =>
   intro t;obtain⟨a,b,c,h1,h2,h3⟩:=ih (t.more s);exact⟨[_]++a,[_]++b,[_]++c,h1.trans (yc _ _ _),h2.trans (yc _ _ _),h3.trans (yc _ _ _)⟩
 unfold tabs;rw[Dy];exact this R _
structure Cl5 where
 num:Addr
 nest:Addr
 many:Addr
 pick:Addr
 shape:Addr
inductive KO (c:Cl5) (K:Ω) (H:Hp) (sa:List Addr):Addr->Kd->Prop
 |num {a dx:Addr}{w:Nat} : H a=some (.ins c.num dx [("width",.int w)])->KO c K H sa a (.num w)
 |nest {a dx s:Addr}{i:Nat} : sa[i]?=some s->H a=some (.ins c.nest dx [("shape",.ref s)])->KO c K H sa a (.nest i)
 |many {a dx b:Addr}{n:Nat}{k:Kd} : H a=some (.ins c.many dx [("count",.int n),("kind",.ref b)])->KO c K H sa b k->KO c K H sa a (.many n k)
 |pick {a dx t:Addr}{is:List Nat}{ss:List Addr} : H a=some (.ins c.pick dx [("shapes",.ref t)])->SqT K H t (ss.map V.ref)->ss.length=is.length->(∀(j i:Nat) (s:Addr),is[j]?=some i->ss[j]?=some s->sa[i]?=some s)->KO c K H sa a (.pick is)
theorem KO.same{K:Ω}(h:KO c K H sa a k)(g:jJ H H'):KO c K H' sa a k:=by
 induction h with
 |num h=>exact .num (g _ _ h)
 |nest e h=>exact .nest e (g _ _ h)
 |many h _ ih=>exact .many (g _ _ h) ih
 |pick h t l e=>exact .pick (g _ _ h) (g.tp t) l e
theorem wO{sa more:List Addr}{i:Nat}(h:sa[i]?=some s):(sa++more)[i]?=some s:=by
 rw[xo (θ.mp h).1];exact h
theorem KO.more{K:Ω}(h:KO c K H sa a k)(more:List Addr):KO c K H (sa++more) a k:=by
 induction h with
 |num h=>exact .num h
 |nest e h=>exact .nest (wO e) h
 |many h _ ih=>exact .many h ih
 |pick h t l e=>exact .pick h t l fun j i s h1 h2=>wO (e j i s h1 h2)
theorem KO.ahead{K:Ω}(h:KO c K H sa a k):k.Below sa.length:=by
 induction h with
 |num h=>exact yg
 |nest e h=>exact(θ.mp e).1
 |many h _ ih=>exact ih
 | @pick a dx t is ss h t' l e =>
  intro i hi;obtain⟨j,hj⟩:=zd.mp hi;have hj1:j<is.length:=(θ.mp hj).1;exact(θ.mp (e j i _ hj (ν (by omega)))).1
inductive FO (c:Cl5) (K:Ω) (H:Hp) (sa:List Addr):List Addr->List (Str×Kd)->Prop
 |nil:FO c K H sa [] []
 |cons {p k:Addr}{ps:List Addr}{nm:Str}{kd:Kd}{fs:List (Str×Kd)} : SqT K H p [.str nm,.ref k]->KO c K H sa k kd->FO c K H sa ps fs->FO c K H sa (p::ps) ((nm,kd)::fs)
theorem FO.same{K:Ω}(h:FO c K H sa ps fs)(g:jJ H H'):FO c K H' sa ps fs:=by
 induction h with
 |nil=>exact .nil
 |cons t k _ ih=>exact .cons (g.tp t) (k.same g) ih
theorem FO.len{K:Ω}(h:FO c K H sa ps fs):ps.length=fs.length:=by
 induction h with
 |nil=>rfl
 |cons _ _ _ ih=>rw[Ξ,Ξ,ih]
theorem FO.snoc{K:Ω}(h:FO c K H sa ps fs)(t:SqT K H p [.str nm,.ref k])(hk:KO c K H sa k kd):FO c K H sa (ps++[p]) (fs++[(nm,kd)]):=by
 induction h with
 |nil=>exact .cons t hk .nil
 |cons t' k' _ ih=>exact .cons t' k' ih
theorem FO.get{K:Ω}(h:FO c K H sa ps fs):∀{i:Nat}{p:Addr},ps[i]?=some p->∃nm kd k,fs[i]?=some (nm,kd)/\SqT K H p [.str nm,.ref k]/\KO c K H sa k kd:=by
 induction h with
 |nil=>intro i p e;simp at e
 |cons t k _ ih =>
  intro i p e;cases i with
  |zero=>cases e;exact⟨_,_,_,rfl,t,k⟩
  |succ i=>exact ih e
def SO (c:Cl5) (K:Ω) (H:Hp) (sa:List Addr) (a:Addr) (s:Shp):Prop:=∃dx t ps,H a=some (.ins c.shape dx [("name",.str s.1),("fields",.ref t)])/\SqT K H t (ps.map V.ref)/\FO c K H sa ps s.2
theorem SO.same{K:Ω}(h:SO c K H sa a s)(g:jJ H H'):SO c K H' sa a s:=by
 obtain⟨dx,t,ps,h1,h2,h3⟩:=h;exact⟨dx,t,ps,g _ _ h1,g.tp h2,h3.same g⟩
def SW (c:Cl5) (K:Ω) (H:Hp) (sa:List Addr) (S:List Shp):Prop:=sa.length=S.length/\∀(i:Nat) (a:Addr) (s:Shp),sa[i]?=some a->S[i]?=some s->SO c K H (sa.take i) a s
theorem SW.same{K:Ω}(h:SW c K H sa S)(g:jJ H H'):SW c K H' sa S:=⟨h.1,fun i a s h1 h2=>(h.2 i a s h1 h2).same g⟩
theorem SW.nil{K:Ω}: SW c K H [] []:=⟨rfl,fun i a s h _=>by simp at h⟩
theorem SW.snoc{K:Ω}(h:SW c K H sa S)(x:SO c K H sa a s):SW c K H (sa++[a]) (S++[s]):=by
 have hl:sa.length=S.length:=h.1;refine⟨by rw[η,η,h.1];rfl,fun i b u h1 h2=>?_⟩
 by_cases hi:i<sa.length
 ·rw[xo hi]at h1;rw[xo (by rw[←h.1];exact hi)]at h2;rw[Bf (by omega)];exact h.2 i b u h1 h2
 ·have hi2:i<(sa++[a]).length:=(θ.mp h1).1;have e:i=sa.length:=by rw[η,xm]at hi2;omega
  subst e;rw[xa (μ _),Ap]at h1;rw[xa (by omega),show sa.length-S.length=0 by omega]at h2;cases h1;cases h2;rw[List.take_left' rfl];exact x
abbrev spS:Str:=⟨#[32]⟩
abbrev nlS:Str:=⟨#[10]⟩
def Kd.words (nm:Nat->Str):Kd->List Str
 |.num w=>[δ "num",δ (toString (w:Int))]
 |.nest i=>[nm i]
 |.many n k=>δ "row" :: δ (toString (n:Int))::k.words nm
 |.pick is=>δ "pick" :: is.map nm
theorem Kd.words_ne(nm:Nat->Str):∀k:Kd,k.words nm≠[]
 |.num _=>by simp[Kd.words]
 |.nest _=>by simp[Kd.words]
 |.many _ _=>by simp[Kd.words]
 |.pick _=>by simp[Kd.words]
def kN (S:List Shp) (i:Nat):Str:=(S.getD i (Str.empty,[])).1
def aFv (nm:Nat->Str) (s:Shp):List (List Str):=[δ "shape",s.1]::s.2.map fun f=>f.1::f.2.words nm
def oN (S:List Shp):List (List Str):=S.flatMap (aFv (kN S))
def Pln (w:Str):Prop:=32∉w.cps.toList/\10∉w.cps.toList
theorem aGp{c d:Nat}(ne:d≠c):∀{ps:List (List Nat)},(∀p∈ps,d∉p)->d∉jn c ps
 |[],_=>by simp[jn]
 |[p],h=>h p (ω.mpr rfl)
 |p::q::r,h=>by
  have ih:=aGp ne (ps:=q::r) fun x hx=>h x (π _ hx);have hp:=h p (ο ..);show d∉p++c::jn c (q::r);simp only[xu,χ,not_or];exact⟨hp,ne,ih⟩
theorem aDm{ws:List Str}(hne:ws≠[])(h:∀w∈ws,Pln w):yu (xl spS ws) spS=ws:=xQ hne fun w hw=>(h w hw).1
theorem aAu{ls:List (List Str)}(hne:ls≠[])(h:∀l∈ls,∀w∈l,Pln w):yu (xl nlS (ls.map (xl spS))) nlS=ls.map (xl spS):=by
 refine xQ (by simpa using hne) fun y hy=>?_;obtain⟨l,hl,rfl⟩:=zm.mp hy;rw[oK];refine aGp (by decide) fun p hp=>?_;obtain⟨w,hw,rfl⟩:=zm.mp hp;exact(h l hl w hw).2
theorem lV{y:Str}{ys:List Str}(h:ys≠[]):xl sep (y::ys)=y++sep++xl sep ys:=by
 cases ys with
 |nil=>exact absurd rfl h
 |cons z zs=>rfl
theorem aGn{n:Nat}(h:n<=9):Pln (δ (toString (n:Int))):=by
 have:∀m:Fin 10,Pln (δ (toString ((m.val:Nat):Int))):=by
  intro m;unfold Pln;revert m;ac_rfl
 exact this ⟨n,by omega⟩
def Kd.Fit (n:Nat):Kd->Prop
 |.num w=>1<=w/\w<=4
 |.nest i=>i<n
 |.many m k=>1<=m/\m<=6/\((∃w,k=.num w/\1<=w/\w<=4)\/∃i,k=.nest i/\i<n)
 |.pick is=>2<=is.length/\is.length<=4/\is.Nodup/\∀i∈is,i<n
theorem Kd.Fit.below : ∀{k:Kd},k.Fit n->k.Below n
 |.num _,_=>yg
 |.nest _,h=>h
 |.many _ k,h=>by
  rcases h.2.2 with⟨w,rfl,_⟩|⟨i,rfl,hi⟩
  ·exact yg
  ·exact hi
 |.pick _,h=>h.2.2.2
theorem Kd.Fit.plain{n:Nat}{nm:Nat->Str}(hnm:∀i,i<n->Pln (nm i)):∀{k:Kd},k.Fit n->∀w∈k.words nm,Pln w:=by
 have hnum:∀w:Nat,1<=w/\w<=4->∀x∈(Kd.num w).words nm,Pln x:=fun w hw x hx=>by
  simp only[Kd.words,χ,xq,or_false]at hx;rcases hx with rfl|rfl
  ·unfold Pln;ac_rfl
  ·exact aGn (by omega)
 intro k h;cases k with
 |num w=>exact hnum w h
 |nest i =>
  intro x hx;rw[ω.mp (show x∈[nm i] from hx)];exact hnm i h
 |many m k =>
  intro x hx;simp only[Kd.words,χ]at hx;rcases hx with rfl|rfl|hx
  ·unfold Pln;ac_rfl
  ·exact aGn (by have:=h.2.1;omega)
  ·rcases h.2.2 with⟨w,rfl,hw⟩|⟨i,rfl,hi⟩
   ·exact hnum w hw x hx
   ·rw[ω.mp (show x∈[nm i] from hx)];exact hnm i hi
 |pick is =>
  intro x hx;simp only[Kd.words,χ,zm]at hx;rcases hx with rfl|⟨i,hi,rfl⟩
  ·unfold Pln;ac_rfl
  ·exact hnm i (h.2.2.2 i hi)
def Kd.Rk (r:Nat):Kd->Prop
 |.num _=>True
 |.nest i=>2*i+2<=r
 |.many _ k=>(∃w,k=.num w/\1<=r)\/∃i,k=.nest i/\2*i+3<=r
 |.pick is=>∀i∈is,2*i+3<=r
theorem Kd.Fit.rk : ∀{k:Kd},k.Fit n->k.Rk (2*n+1)
 |.num _,_=>yg
 |.nest i,h=>by have:i<n:=h;show 2*i+2<=2*n+1;omega
 |.many m k,h=>by
  rcases h.2.2 with⟨w,e,_⟩|⟨i,e,hi⟩
  ·exact .inl ⟨w,e,by omega⟩
  ·exact .inr ⟨i,e,by omega⟩
 |.pick is,h=>fun i hi=>by have:=h.2.2.2 i hi;omega
theorem Kd.Rk.mono{r q:Nat}(h:r<=q):∀{k:Kd},k.Rk r->k.Rk q
 |.num _,_=>yg
 |.nest i,g=>yb (show 2*i+2<=r from g) h
 |.many m k,g=>by
  rcases g with⟨w,e,hw⟩|⟨i,e,hi⟩
  ·exact .inl ⟨w,e,by omega⟩
  ·exact .inr ⟨i,e,by omega⟩
 |.pick is,g=>fun i hi=>yb (g i hi) h
theorem Kd.Fit.mono{n m:Nat}(h:n<=m):∀{k:Kd},k.Fit n->k.Fit m
 |.num _,g=>g
 |.nest i,g=>υ (show i<n from g) h
 |.many _ k,g=>⟨g.1,g.2.1,by
  rcases g.2.2 with g|⟨i,e,hi⟩
  ·exact .inl g
  ·exact .inr ⟨i,e,by omega⟩⟩
 |.pick is,g=>⟨g.1,g.2.1,g.2.2.1,fun i hi=>υ (g.2.2.2 i hi) h⟩
structure Good (S:List Shp):Prop where
 ne:∀(i:Nat) (s:Shp),S[i]?=some s->s.2≠[]
 few:∀(i:Nat) (s:Shp),S[i]?=some s->s.2.length<=6
 fit:∀(i:Nat) (s:Shp),S[i]?=some s->∀f∈s.2,f.2.Fit i/\1<=f.1.length/\f.1.length<=6
 sz:∀i:Nat,(tabs S).sz.getD i 0<=1000
theorem aJr{α : Type}{S:List α}{i:Nat}{s : α}(h:S[i]?=some s):S=S.take i++s::S.drop (i+1)/\(S.take i).length=i:=by
 obtain⟨hi,e⟩:=θ.mp h;refine⟨?_,by rw[wy];omega⟩
 conv=>lhs;rw[←Bw i S]
 rw[zu hi,e]
theorem pG{α : Type}{xs zs:List α}{y d : α}: (xs++y::zs).getD xs.length d=y:=by
 rw[xh,xa (μ _),Ap];rfl
theorem oE{S R:List Shp}{i:Nat}(h:i<S.length):(tabs (S++R)).sz.getD i 0=(tabs S).sz.getD i 0/\(tabs (S++R)).dp.getD i 0=(tabs S).dp.getD i 0/\((tabs (S++R)).ut.getD i fun _=>[])=(tabs S).ut.getD i fun _=>[]:=by
 obtain⟨a,b,c,e1,e2,e3⟩:=aBu S R;obtain⟨l1,l2,l3⟩:=eV S;rw[e1,e2,e3];exact⟨bB (by omega),bB (by omega),bB (by omega)⟩
theorem iR(S:List Shp)(s:Shp)(R:List Shp):(tabs (S++s::R)).sz.getD S.length 0=(s.2.map fun f=>f.2.size (tabs S).sz).sum/\(tabs (S++s::R)).dp.getD S.length 0=1+yF (s.2.map fun f=>f.2.depth (tabs S).dp)/\∀p,((tabs (S++s::R)).ut.getD S.length fun _=>[]) p=s.2.flatMap fun f=>f.2.units (tabs S).sz (tabs S).ut (pj p f.1):=by
 have e:S++s::R=(S++[s])++R:=by rw[yc];rfl
 obtain⟨h1,h2,h3⟩:=oE (S:=S++[s]) (R:=R) (i:=S.length) (by rw[η];exact Bq _);obtain⟨l1,l2,l3⟩:=eV S;rw[e,h1,h2,h3,aIp];refine⟨?_,?_,fun p=>?_⟩
 ·show((tabs S).sz++[_]).getD _ _=_;rw[←l1,pG]
 ·show((tabs S).dp++[_]).getD _ _=_;rw[←l2,pG]
 ·show((tabs S).ut++[_]).getD _ _ p=_;rw[←l3,pG]
theorem Kd.tab_lo{S R:List Shp}{k:Kd}(h:k.Below S.length):k.size (tabs (S++R)).sz=k.size (tabs S).sz/\k.depth (tabs (S++R)).dp=k.depth (tabs S).dp/\∀p,k.units (tabs (S++R)).sz (tabs (S++R)).ut p=k.units (tabs S).sz (tabs S).ut p:=by
 obtain⟨a,b,c,e1,e2,e3⟩:=aBu S R;obtain⟨l1,l2,l3⟩:=eV S;rw[e1,e2,e3];exact⟨Kd.size_app (by rw[l1];exact h),Kd.depth_app (by rw[l2];exact h),fun p=>Kd.units_app (by omega) (by rw[l1];exact h) p⟩
theorem aBe{α β : Type}{f g : α->List β}: ∀{xs:List α},(∀x∈xs,f x=g x)->xs.flatMap f=xs.flatMap g
 |[],_=>rfl
 |x::xs,h=>by rw[Dz,Dz,h x (ο ..),aBe fun y hy=>h y (π _ hy)]
theorem wG{S:List Shp}{i:Nat}(h:S[i]?=some s)(hF:∀f∈s.2,f.2.Below i):(tabs S).sz.getD i 0=(s.2.map fun f=>f.2.size (tabs S).sz).sum/\(tabs S).dp.getD i 0=1+yF (s.2.map fun f=>f.2.depth (tabs S).dp)/\∀p,((tabs S).ut.getD i fun _=>[]) p=s.2.flatMap fun f=>f.2.units (tabs S).sz (tabs S).ut (pj p f.1):=by
 obtain⟨e,hl⟩:=aJr h;generalize S.take i=A at e hl;generalize S.drop (i+1)=B at e;subst e;subst hl;obtain⟨h1,h2,h3⟩:=iR A s B;have q:=fun f hf=>Kd.tab_lo (R:=s::B) (hF f hf);refine⟨?_,?_,fun p=>?_⟩
 ·rw[h1,CB fun f hf=>(q f hf).1]
 ·rw[h2,CB fun f hf=>(q f hf).2.1]
 ·rw[h3 p,aBe fun f hf=>(q f hf).2.2 _]
theorem Kd.units_len{sz:List Nat}{ut:List (Str->List Un3)}{n:Nat}(h:∀i,i<n->1<=sz.getD i 0/\∀p,((ut.getD i fun _=>[]) p).length<=sz.getD i 0):∀{k:Kd},k.Fit n->1<=k.size sz/\∀p,(k.units sz ut p).length<=k.size sz:=by
 have hn:∀w,1<=w->1<=(Kd.num w).size sz/\∀p,((Kd.num w).units sz ut p).length<=(Kd.num w).size sz:=fun w hw=>⟨hw,fun p=>hw⟩;intro k hk;cases k with
 |num w=>exact hn w hk.1
 |nest i=>exact h i hk
 |many m k =>
  have hs : 1<=k.size sz/\∀p,(k.units sz ut p).length<=k.size sz:=by
   rcases hk.2.2 with⟨w,rfl,hw,_⟩|⟨i,rfl,hi⟩
   ·exact hn w hw
   ·exact h i hi
  refine⟨Nat.mul_pos hk.1 hs.1,fun p=>?_⟩;show((zt m).flatMap _).length<=m*_;have:∀m,((zt m).flatMap fun j=>k.units sz ut (pj p (δ (toString j)))).length<=m*k.size sz:=by
   intro m
   induction m with
   |zero=>exact xy _
   |succ m ih =>
    rw[BV,Bo,η,BQ,Nat.succ_mul];exact Nat.add_le_add ih (hs.2 _)
  exact this m
 |pick is =>
  refine⟨by show 1<=1+_;omega,fun p=>?_⟩;show 2<=1+yF _;cases is with
  |nil=>exact absurd hk.1 (by decide)
  |cons i r =>
   have:=(h i (hk.2.2.2 i (ο ..))).1;have g:=oJ (n:=sz.getD i 0) (xs:=(i::r).map fun i=>sz.getD i 0) (ο ..);omega
theorem fX(p:Str):∀{fs:List (Str×Kd)},(∀f∈fs,1<=f.2.size sz/\∀p,(f.2.units sz ut p).length<=f.2.size sz)->(fs.flatMap fun f=>f.2.units sz ut (pj p f.1)).length<=(fs.map fun f=>f.2.size sz).sum/\fs.length<=(fs.map fun f=>f.2.size sz).sum
 |[],_=>⟨μ _,μ _⟩
 |f::fs,h=>by
  have ih:=fX p (fs:=fs) fun g hg=>h g (π _ hg);have h0:=h f (ο ..);rw[Dz,η,zc,CQ,Ξ];exact⟨Nat.add_le_add (h0.2 _) ih.1,by omega⟩
theorem Good.len(h:Good S):∀n i,i<n->i<S.length->1<=(tabs S).sz.getD i 0/\∀p,(((tabs S).ut.getD i fun _=>[]) p).length<=(tabs S).sz.getD i 0
 |0,i,hi,_=>absurd hi (BA _)
 |n+1,i,hi,hl=>by
  have hs:S[i]?=some S[i]:=ν hl;have hF:=h.fit i _ hs;obtain⟨e1,e2,e3⟩:=wG hs fun f hf=>(hF f hf).1.below;have q:∀f∈S[i].2,1<=f.2.size (tabs S).sz/\∀p,(f.2.units (tabs S).sz (tabs S).ut p).length<=f.2.size (tabs S).sz:=fun f hf =>
   Kd.units_len (fun j hj=>Good.len h n j (by omega) (by omega)) (hF f hf).1
  have hne:=h.ne i _ hs;have : 1<=S[i].2.length:=by
   cases e:S[i].2 with
   |nil=>exact absurd e hne
   |cons _ _=>exact DL (xy _)
  refine⟨?_,fun p=>?_⟩
  ·rw[e1];exact yb this (fX Str.empty q).2
  ·rw[e1,e3 p];exact(fX p q).1
theorem Good.kd(h:Good S){k:Kd}(hk:k.Fit S.length): 1<=k.size (tabs S).sz/\∀p,(k.units (tabs S).sz (tabs S).ut p).length<=k.size (tabs S).sz:=Kd.units_len (fun j hj=>h.len S.length j hj hj) hk
theorem wH{m:Nat}: ∀{xs:List Nat},(∀x∈xs,x<=m)->yF xs<=m
 |[],_=>xy _
 |x::xs,h=>Nat.max_le.mpr ⟨h x (ο ..),wH fun y hy=>h y (π _ hy)⟩
theorem Kd.size_bd{sz:List Nat}{m:Nat}(h:∀i,sz.getD i 0<=m)(hm : 4<=m):∀{k:Kd},k.Fit n->k.size sz<=6*m
 |.num w,hk=>by have:=hk.2;show w<=_;omega
 |.nest i,_=>by have:=h i;show sz.getD i 0<=_;omega
 |.many c k,hk=>by
  have:k.size sz<=m:=by
   rcases hk.2.2 with⟨w,rfl,_,hw⟩|⟨i,rfl,hi⟩
   ·show w<=m;omega
   ·exact h i
  exact Nat.mul_le_mul hk.2.1 this
 |.pick is,_=>by
  have:yF (is.map fun i=>sz.getD i 0)<=m:=wH fun x hx=>by obtain⟨i,_,rfl⟩:=zm.mp hx;exact h i
  show 1+_<=_;omega
def Kd.parts (S:List Shp):Kd->List (Str×Kd)
 |.nest i=>(S.getD i (Str.empty,[])).2
 |.many n k=>(zt n).map fun j=>(δ (toString j),k)
 |_=>[]
theorem Kd.parts_units(h:Good S){k:Kd}(hk:k.Fit S.length)(hs:(∃i,k=.nest i)\/∃n q,k=.many n q)(p:Str):k.units (tabs S).sz (tabs S).ut p=(k.parts S).flatMap fun f=>f.2.units (tabs S).sz (tabs S).ut (pj p f.1):=by
 rcases hs with⟨i,rfl⟩|⟨n,q,rfl⟩
 ·have hi:i<S.length:=hk;have hs:S[i]?=some S[i]:=ν hi;have e:(Kd.nest i).parts S=S[i].2:=by show(S.getD i _).2=_;rw[xh,hs];rfl
  rw[e];exact(wG hs fun f hf=>((h.fit i _ hs) f hf).1.below).2.2 p
 ·show(zt n).flatMap _=((zt n).map _).flatMap _;rw[List.flatMap_map]
def Kd.isNum:Kd->Bool
 |.num _=>true
 |_=>false
def Kd.isNest:Kd->Bool
 |.nest _=>true
 |_=>false
def Kd.isMany:Kd->Bool
 |.many _ _=>true
 |_=>false
def Kd.isPick:Kd->Bool
 |.pick _=>true
 |_=>false
def aIw (m:Str):Prop:=∀v w:V,[(("width" : Str),v)].lookup m=none/\[(("shape" : Str),v)].lookup m=none/\[(("count" : Str),v),(("kind" : Str),w)].lookup m=none/\[(("shapes" : Str),v)].lookup m=none
def spV (c:Cl5) (K:Ω) (r:Nat) (F:Kd->Bool) (val:Kd->Tab->Nat):Sp:=fun vs H Q _=>∃(a:Addr) (kd:Kd) (sa:List Addr) (S:List Shp),vs=[.ref a]/\F kd=true/\kd.Rk r/\kd.Fit S.length/\KO c K H sa a kd/\SW c K H sa S/\Good S/\∀H',jJ H H'->Q (.int (val kd (tabs S))) H'
def TV (c:Cl5) (K:Ω) (r:Nat) (val:Kd->Tab->Nat):Addr->Sp->Prop:=fun C sp=>(C=c.num/\sp=spV c K r Kd.isNum val)\/(C=c.nest/\sp=spV c K r Kd.isNest val)\/(C=c.many/\sp=spV c K r Kd.isMany val)\/(C=c.pick/\sp=spV c K r Kd.isPick val)
theorem aGa{K:Ω}{val:Kd->Tab->Nat}{H:Hp}{kd:Kd}{S:List Shp}{Q:VK}{E:XK}(hm:aIw m)(hr:kd.Rk r)(hf:kd.Fit S.length)(ho:KO c K H sa a kd)(hw:SW c K H sa S)(hg:Good S)
  (q:∀H',jJ H H'->Q (.int (val kd (tabs S))) H'):∃a' C dx fs sp,V.ref a=.ref a'/\H a'=some (.ins C dx fs)/\fs.lookup m=none/\TV c K r val C sp/\sp [.ref a] H Q E:=by
 cases id ho with
 |num h=>exact⟨_,_,_,_,_,rfl,h,(hm _ .non).1,.inl ⟨rfl,rfl⟩,a,_,sa,S,rfl,rfl,hr,hf,ho,hw,hg,q⟩
 |nest e h=>exact⟨_,_,_,_,_,rfl,h,(hm _ .non).2.1,.inr (.inl ⟨rfl,rfl⟩),a,_,sa,S,rfl,rfl,hr,hf,ho,hw,hg,q⟩
 |many h _=>exact⟨_,_,_,_,_,rfl,h,(hm _ _).2.2.1,.inr (.inr (.inl ⟨rfl,rfl⟩)),a,_,sa,S,rfl,rfl,hr,hf,ho,hw,hg,q⟩
 |pick h _ _ _=>exact⟨_,_,_,_,_,rfl,h,(hm _ .non).2.2.2,.inr (.inr (.inr ⟨rfl,rfl⟩)),a,_,sa,S,rfl,rfl,hr,hf,ho,hw,hg,q⟩
inductive aGr (c:Cl5) (K:Ω) (r:Nat) (val:Nat->Tab->Nat) (vs:List V) (H:Hp) (Q:VK):Prop|mk:∀(a:Addr) (i:Nat) (sa:List Addr) (S:List Shp),vs=[.ref a]->sa[i]?=some a->2*i+1<=r->SW c K H sa S->Good S->(∀H',jJ H H'->Q (.int (val i (tabs S))) H')->aGr c K r val vs H Q
def mL (c:Cl5) (K:Ω) (r:Nat) (val:Nat->Tab->Nat):Sp:=fun vs H Q _=>aGr c K r val vs H Q
inductive UR (K:Ω) (H:Hp):List Addr->List Un3->Prop
 |nil:UR K H [] []
 |cons {t:Addr}{ts:List Addr}{u:Un3}{us:List Un3} : SqT K H t [.str u.1,.int u.2.1,.str u.2.2]->UR K H ts us->UR K H (t::ts) (u::us)
theorem UR.same{K:Ω}(h:UR K H ts us)(g:jJ H H'):UR K H' ts us:=by
 induction h with
 |nil=>exact .nil
 |cons t _ ih=>exact .cons (g.tp t) ih
theorem UR.len{K:Ω}(h:UR K H ts us):ts.length=us.length:=by
 induction h with
 |nil=>rfl
 |cons _ _ ih=>rw[Ξ,Ξ,ih]
theorem UR.app{K:Ω}(h:UR K H ts us)(h':UR K H ts' us'):UR K H (ts++ts') (us++us'):=by
 induction h with
 |nil=>exact h'
 |cons t _ ih=>exact .cons t ih
theorem UR.get{K:Ω}(h:UR K H ts us):∀{i:Nat}{t:Addr},ts[i]?=some t->∃u,us[i]?=some u/\SqT K H t [.str u.1,.int u.2.1,.str u.2.2]:=by
 induction h with
 |nil=>intro i t e;simp at e
 |cons t _ ih =>
  intro i a e;cases i with
  |zero=>cases e;exact⟨_,rfl,t⟩
  |succ i=>exact ih e
theorem UR.but{K:Ω}{H:Hp}(h:UR K H ts us)(g:But l H H')(hl:H l=some (.lst zs)):UR K H' ts us:=by
 induction h with
 |nil=>exact .nil
 |cons t _ ih=>exact .cons (g.tup hl t) ih
def UL (K:Ω) (H:Hp) (l:Addr) (us:List Un3):Prop:=∃ts:List Addr,H l=some (.lst (ts.map V.ref))/\UR K H ts us
abbrev un (kd:Kd) (S:List Shp) (p:Str):List Un3:=kd.units (tabs S).sz (tabs S).ut p
theorem Kd.parts_un(h:Good S){k:Kd}(hk:k.Fit S.length)(hs:(∃i,k=.nest i)\/∃n q,k=.many n q){p:Str}: un k S p=(k.parts S).flatMap fun f=>un f.2 S (pj p f.1):=Kd.parts_units h hk hs p
def spU (c:Cl5) (K:Ω) (r:Nat) (F:Kd->Bool):Sp:=fun vs H Q _=>∃(a:Addr) (p:Str) (kd:Kd) (sa:List Addr) (S:List Shp),vs=[.ref a,.str p]/\p.length+8*r<=200/\F kd=true/\kd.Rk r/\kd.Fit S.length/\KO c K H sa a kd/\SW c K H sa S/\Good S ∧
 ∀l H',jJ H H'->H l=none->UL K H' l (un kd S p)->Q (.ref l) H'
def TU (c:Cl5) (K:Ω) (r:Nat):Addr->Sp->Prop:=fun C sp=>(C=c.num/\sp=spU c K r Kd.isNum)\/(C=c.nest/\sp=spU c K r Kd.isNest)\/(C=c.many/\sp=spU c K r Kd.isMany)\/(C=c.pick/\sp=spU c K r Kd.isPick)
theorem kdU{K:Ω}{H:Hp}{kd:Kd}{S:List Shp}(hm:aIw m)(hr:kd.Rk r)(hf:kd.Fit S.length)(ho:KO c K H sa a kd)(hw:SW c K H sa S)(hg:Good S):
  ∃C dx fs sp,H a=some (.ins C dx fs)/\fs.lookup m=none/\TU c K r C sp/\∀(p:Str) (Q:VK) (E:XK),p.length+8*r<=200->(∀l H',jJ H H'->H l=none->UL K H' l (un kd S p)->Q (.ref l) H')->sp [.ref a,.str p] H Q E:=by
 cases id ho with
 |num h=>exact⟨_,_,_,_,h,(hm _ .non).1,.inl ⟨rfl,rfl⟩,fun p Q E hp q=>⟨a,p,_,sa,S,rfl,hp,rfl,hr,hf,ho,hw,hg,q⟩⟩
 |nest e h=>exact⟨_,_,_,_,h,(hm _ .non).2.1,.inr (.inl ⟨rfl,rfl⟩),fun p Q E hp q=>⟨a,p,_,sa,S,rfl,hp,rfl,hr,hf,ho,hw,hg,q⟩⟩
 |many h _=>exact⟨_,_,_,_,h,(hm _ _).2.2.1,.inr (.inr (.inl ⟨rfl,rfl⟩)),fun p Q E hp q=>⟨a,p,_,sa,S,rfl,hp,rfl,hr,hf,ho,hw,hg,q⟩⟩
 |pick h _ _ _=>exact⟨_,_,_,_,h,(hm _ .non).2.2.2,.inr (.inr (.inr ⟨rfl,rfl⟩)),fun p Q E hp q=>⟨a,p,_,sa,S,rfl,hp,rfl,hr,hf,ho,hw,hg,q⟩⟩
inductive PR (c:Cl5) (K:Ω) (H:Hp) (sa:List Addr):List Addr->List (Str×Kd)->Prop
 |nil:PR c K H sa [] []
 |cons {t k:Addr}{x:V}{y:Str}{kd:Kd}{ts:List Addr}{ps:List (Str×Kd)} : SqT K H t [x,.ref k]->aEb x=some y->KO c K H sa k kd->PR c K H sa ts ps->PR c K H sa (t::ts) ((y,kd)::ps)
theorem PR.same{K:Ω}(h:PR c K H sa ts ps)(g:jJ H H'):PR c K H' sa ts ps:=by
 induction h with
 |nil=>exact .nil
 |cons t x k _ ih=>exact .cons (g.tp t) x (k.same g) ih
theorem PR.len{K:Ω}(h:PR c K H sa ts ps):ts.length=ps.length:=by
 induction h with
 |nil=>rfl
 |cons _ _ _ _ ih=>rw[Ξ,Ξ,ih]
theorem PR.snoc{K:Ω}{x:V}(h:PR c K H sa ts ps)(t1:SqT K H t [x,.ref k])(h2:aEb x=some y)(h3:KO c K H sa k kd):PR c K H sa (ts++[t]) (ps++[(y,kd)]):=by
 induction h with
 |nil=>exact .cons t1 h2 h3 .nil
 |cons t x k _ ih=>exact .cons t x k ih
theorem PR.get{K:Ω}(h:PR c K H sa ts ps):∀{i:Nat}{t:Addr},ts[i]?=some t->∃x y kd k,ps[i]?=some (y,kd)/\SqT K H t [x,.ref k]/\aEb x=some y/\KO c K H sa k kd:=by
 induction h with
 |nil=>intro i t e;simp at e
 |cons t x k _ ih =>
  intro i a e;cases i with
  |zero=>cases e;exact⟨_,_,_,_,rfl,t,x,k⟩
  |succ i=>exact ih e
theorem FO.parts{K:Ω}(h:FO c K H sa ps fs)(more:List Addr):PR c K H (sa++more) ps fs:=by
 induction h with
 |nil=>exact .nil
 |cons t k _ ih=>exact .cons t rfl (k.more more) ih
def PL (c:Cl5) (K:Ω) (H:Hp) (sa:List Addr) (l:Addr) (ps:List (Str×Kd)):Prop:=∃ts:List Addr,H l=some (.lst (ts.map V.ref))/\PR c K H sa ts ps
def spP (c:Cl5) (K:Ω) (F:Kd->Bool):Sp:=fun vs H Q _=>∃(a:Addr) (kd:Kd) (sa:List Addr) (S:List Shp),vs=[.ref a]/\F kd=true/\kd.Fit S.length/\KO c K H sa a kd/\SW c K H sa S/\Good S/\∀l H',jJ H H'->H l=none->PL c K H' sa l (kd.parts S)->Q (.ref l) H'
def TPt (c:Cl5) (K:Ω):Addr->Sp->Prop:=fun C sp=>(C=c.nest/\sp=spP c K Kd.isNest)\/(C=c.many/\sp=spP c K Kd.isMany)
theorem callP{K:Ω}{H:Hp}{kd:Kd}{S:List Shp}{Q:VK}{E:XK}(hm:aIw m)(hs:(∃i,kd=.nest i)\/∃n q,kd=.many n q)(hf:kd.Fit S.length)(ho:KO c K H sa a kd)(hw:SW c K H sa S)(hg:Good S)
  (q:∀l H',jJ H H'->H l=none->PL c K H' sa l (kd.parts S)->Q (.ref l) H'):∃a' C dx fs sp,V.ref a=.ref a'/\H a'=some (.ins C dx fs)/\fs.lookup m=none/\TPt c K C sp/\sp [.ref a] H Q E:=by
 cases id ho with
 |num h=>rcases hs with⟨_,z⟩|⟨_,_,z⟩ <;> cases z
 |nest e h=>exact⟨_,_,_,_,_,rfl,h,(hm _ .non).2.1,.inl ⟨rfl,rfl⟩,a,_,sa,S,rfl,rfl,hf,ho,hw,hg,q⟩
 |many h _=>exact⟨_,_,_,_,_,rfl,h,(hm _ _).2.2.1,.inr ⟨rfl,rfl⟩,a,_,sa,S,rfl,rfl,hf,ho,hw,hg,q⟩
 |pick h _ _ _=>rcases hs with⟨_,z⟩|⟨_,_,z⟩ <;> cases z
theorem SW.at{K:Ω}(h:SW c K H sa S){i:Nat}(e:sa[i]?=some a):∃s,S[i]?=some s/\SO c K H (sa.take i) a s:=by
 have hi:i<S.length:=by rw[←h.1];exact(θ.mp e).1
 exact⟨S[i],ν hi,h.2 i a _ e (ν hi)⟩
theorem SO.fields{K:Ω}{H:Hp}{sa:List Addr}(h:SO c K H (sa.take i) a s):∃dx t ps,H a=some (.ins c.shape dx [("name",.str s.1),("fields",.ref t)])/\SqT K H t (ps.map V.ref)/\PR c K H sa ps s.2:=by
 obtain⟨dx,t,ps,h1,h2,h3⟩:=h;refine⟨dx,t,ps,h1,h2,?_⟩;have:=h3.parts (sa.drop i);rw[Bw]at this;exact this
theorem aHe:∀j:Nat,j<6->(δ (toString j)).length=1:=by ac_rfl
theorem Kd.parts_ok(h:Good S){k:Kd}{r:Nat}(hk:k.Fit S.length)(hr:k.Rk (r+1)){f:Str×Kd}(hf:f∈k.parts S):f.2.Rk r/\f.2.Fit S.length/\1<=f.1.length/\f.1.length<=6:=by
 cases k with
 |num w=>cases hf
 |nest i =>
  have hi:i<S.length:=hk;have hs:S[i]?=some S[i]:=ν hi;have e:(Kd.nest i).parts S=S[i].2:=by show(S.getD i _).2=_;rw[xh,hs];rfl
  rw[e]at hf;obtain⟨g1,g2,g3⟩:=h.fit i _ hs f hf;exact⟨g1.rk.mono (by have : 2*i+2<=r+1:=hr;omega),g1.mono (by omega),g2,g3⟩
 |many n q =>
  obtain⟨j,hj,rfl⟩:=zm.mp hf;have hj':j<6:=υ (List.mem_range.mp hj) hk.2.1;have:=aHe j hj';refine⟨?_,?_,by show 1<=(δ (toString j)).length;omega,by show(δ (toString j)).length<=6;omega⟩
  ·rcases hr with⟨w,rfl,_⟩|⟨i,rfl,hi⟩
   ·exact yg
   ·show 2*i+2<=r;omega
  ·rcases hk.2.2 with⟨w,rfl,hw⟩|⟨i,rfl,hi⟩
   ·exact hw
   ·exact hi
 |pick is=>cases hf
def Kd.lv:Kd->Nat
 |.many _ _=>1
 |_=>0
def vSz (kd:Kd) (t:Tab):Nat:=kd.size t.sz
def vDp (kd:Kd) (t:Tab):Nat:=kd.depth t.dp
def sSz (i:Nat) (t:Tab):Nat:=t.sz.getD i 0
def sDp (i:Nat) (t:Tab):Nat:=t.dp.getD i 0
theorem KO.but{K:Ω}{H:Hp}(g:But l H H')(hl:H l=some (.lst zs))(h:KO c K H sa a k):KO c K H' sa a k:=by
 have n:∀{a C dx fs},H a=some (.ins C dx fs)->H' a=some (.ins C dx fs):=fun h=>g _ _ (mK h hl (by intro z;cases z)) h
 induction h with
 |num h=>exact .num (n h)
 |nest e h=>exact .nest e (n h)
 |many h _ ih=>exact .many (n h) ih
 |pick h t l e=>exact .pick (n h) (g.tup hl t) l e
theorem FO.but{K:Ω}{H:Hp}(g:But l H H')(hl:H l=some (.lst zs))(h:FO c K H sa ps fs):FO c K H' sa ps fs:=by
 induction h with
 |nil=>exact .nil
 |cons t k _ ih=>exact .cons (g.tup hl t) (k.but g hl) ih
theorem SO.but{K:Ω}{H:Hp}(g:But l H H')(hl:H l=some (.lst zs))(h:SO c K H sa a s):SO c K H' sa a s:=by
 obtain⟨dx,t,ps,h1,h2,h3⟩:=h;exact⟨dx,t,ps,g _ _ (mK h1 hl (by intro z;cases z)) h1,g.tup hl h2,h3.but g hl⟩
theorem SW.but{K:Ω}{H:Hp}(g:But l H H')(hl:H l=some (.lst zs))(h:SW c K H sa S):SW c K H' sa S:=⟨h.1,fun i a s h1 h2=>(h.2 i a s h1 h2).but g hl⟩
theorem But.from{H:Hp}(g:jJ H H1)(hl:H l=none)(b:But l H1 H2):jJ H H2:=fun x o q=>b x o (jI q hl) (g x o q)
theorem zU{H:Hp}(hx:H x=none)(hd:H dx=none):jJ H (upd (upd H dx o) x u):=fun b v q=>by
 rw[jR (jI q hx),jR (jI q hd)];exact q
theorem jJ.putn{H:Hp}(g:jJ H H1)(h:H a=none):jJ H (upd H1 a o):=fun b v q=>by
 rw[jR (jI q h)];exact g _ _ q
theorem vF{ss:List Addr}{i:Nat}(h:(ss.map V.ref)[i]?=some x):∃s,ss[i]?=some s/\x=.ref s:=by
 rw[xw]at h;cases e:ss[i]? with
 |none=>rw[e]at h;cases h
 |some c=>rw[e]at h;cases h;exact⟨c,rfl,rfl⟩
theorem aP{α β : Type}{f : α->β}{l:List α}{i:Nat}{a : α}(h:l[i]?=some a):(l.take (i+1)).map f=(l.take i).map f++[f a]:=by
 rw[zk,h,Ψ];rfl
theorem aGd{α β : Type}{f : α->List β}{l:List α}{i:Nat}{a : α}(h:l[i]?=some a):(l.take (i+1)).flatMap f=(l.take i).flatMap f++f a:=by
 rw[zk,h,Bo];show _++[a].flatMap f=_;rw[BQ]
theorem vM{α : Type}{l:List α}: l.take l.length=l:=AV
theorem maxI{ns:List Nat}{m:Int}(h1:m∈ns.map fun n:Nat=>(n:Int))(h2:∀n∈ns.map fun n:Nat=>(n:Int),n<=m):m=((yF ns:Nat):Int):=by
 obtain⟨n,hn,rfl⟩:=zm.mp h1;rw[←aPe hn fun k hk=>by have:=h2 (k:Int) (List.mem_map_of_mem hk);omega]
theorem sumI:∀ns:List Nat,(ns.map fun n:Nat=>(n:Int)).sum=((ns.sum:Nat):Int)
 |[]=>rfl
 |n::ns=>by rw[zc,CQ,CQ,sumI ns];omega
theorem Kd.Rk.zero : ∀{k:Kd},k.Rk 0->k.Fit n->k.isNum=true
 |.num _,_,_=>rfl
 |.nest i,h,_=>by have : 2*i+2<=0:=h;omega
 |.many _ _,h,_=>by
  rcases h with⟨_,_,h⟩|⟨i,_,h⟩ <;> omega
 |.pick is,h,q=>by
  cases is with
  |nil=>exact absurd q.1 (by decide)
  |cons i _=>have:=h i (ο ..);omega
theorem Kd.Rk.sub{r:Nat}(h:(Kd.many n k).Rk (r+1)):k.Rk r:=by
 rcases h with⟨w,rfl,_⟩|⟨i,rfl,hi⟩
 ·exact yg
 ·show 2*i+2<=r;omega
theorem Kd.Fit.sub(h:(Kd.many n k).Fit m):k.Fit m:=by
 rcases h.2.2 with⟨w,rfl,hw⟩|⟨i,rfl,hi⟩
 ·exact hw
 ·exact hi
theorem aHm{os:St}(h:os.length=2):∃a b,os=[a,b]:=by
 match os,h with
 |[a,b],_=>exact⟨a,b,rfl⟩
theorem aDh{m:Str}(h:m = "size" ∨ m = "depth" ∨ m = "units_at" ∨ m = "parted"):aIw m:=by
 rcases h with rfl|rfl|rfl|rfl <;> exact fun _ _=>⟨rfl,rfl,rfl,rfl⟩
theorem yK.mono{K:Ω}{k:Nat}(h:yK P w K mg base CX j m C sp)(hk:j<=k):yK P w K mg base CX k m C sp:=by
 obtain⟨c,f,fd,ps,h1,h2,h3⟩:=h;exact⟨c,f,fd,ps,h1,h2.mono hk,h3⟩
theorem noFn{K:Ω}{sp:Sp}(h:∀vs H Q E,sp vs H Q E->False):jK P w K mg base CX k f fd ps sp:=⟨fun vs H Q E q=>(h vs H Q E q).elim,fun _ _ _ H _ _ vs Q E _ _ _ _ q=>(h vs H Q E q).elim⟩
theorem noV{K:Ω}{F:Kd->Bool}(hF:∀k,F k=true->k.isNum=true->False):∀vs H Q E,spV c K 0 F val vs H Q E->False:=fun vs H Q E h=>by obtain⟨a,kd,sa,S,_,h1,h2,h3,_⟩:=h;exact hF kd h1 (h2.zero h3)
theorem noU{K:Ω}{F:Kd->Bool}(hF:∀k,F k=true->k.isNum=true->False):∀vs H Q E,spU c K 0 F vs H Q E->False:=fun vs H Q E h=>by obtain⟨a,p,kd,sa,S,_,_,h1,h2,h3,_⟩:=h;exact hF kd h1 (h2.zero h3)
theorem nn1:∀k:Kd,k.isNest=true->k.isNum=true->False:=fun k h g=>by cases k <;> first|exact ρ h|exact ρ g
theorem nn2:∀k:Kd,k.isMany=true->k.isNum=true->False:=fun k h g=>by cases k <;> first|exact ρ h|exact ρ g
theorem nn3:∀k:Kd,k.isPick=true->k.isNum=true->False:=fun k h g=>by cases k <;> first|exact ρ h|exact ρ g
theorem ff1:∀k:Kd,k.isNest=true->(∃i,k=.nest i)\/∃n q,k=.many n q:=fun k h=>by
 cases k <;> first|exact .inl ⟨_,rfl⟩|cases h
theorem ff2:∀k:Kd,k.isMany=true->(∃i,k=.nest i)\/∃n q,k=.many n q:=fun k h=>by
 cases k <;> first|exact .inr ⟨_,_,rfl⟩|cases h
inductive Itm where
 |sh (n:Str)
 |fd (n:Str) (k:Kd)
def pO (s:Shp):List Itm:=.sh s.1::s.2.map fun f=>.fd f.1 f.2
def xD (S:List Shp):List Itm:=S.flatMap pO
def Itm.line (nm:Nat->Str):Itm->List Str
 |.sh n=>[δ "shape",n]
 |.fd n k=>n::k.words nm
theorem fZ(S:List Shp):oN S=(xD S).map (Itm.line (kN S)):=by
 unfold oN xD;rw[List.map_flatMap]
 congr 1
 funext s
 unfold aFv pO;rw[zc,Au];rfl
theorem dQ(A B:List Shp):xD (A++B)=xD A++xD B:=Bo
def nM (S:List Shp) (j:Nat) (T:List Shp):Prop:=(∃S2,S=T++S2/\j=(xD T).length)\/∃S1 s S2 f1 f2,S=S1++s::S2/\s.2=f1++f2/\T=S1++[(s.1,f1)]/\j=(xD S1).length+1+f1.length
theorem nM.start(S:List Shp):nM S 0 []:=.inl ⟨S,rfl,rfl⟩
theorem nM.next(h:nM S j T)(hj:j<(xD S).length):∃S1 s S2,S=S1++s::S2 ∧
  (((xD S)[j]?=some (.sh s.1)/\T=S1/\nM S (j+1) (S1++[(s.1,[])]))\/∃f1 n k f2,s.2=f1++(n,k)::f2/\(xD S)[j]?=some (.fd n k)/\T=S1++[(s.1,f1)]/\nM S (j+1) (S1++[(s.1,f1++[(n,k)])])):=by
 have one:∀{T:List Shp}{S2:List Shp},S=T++S2->j=(xD T).length->∃S1 s S2,S=S1++s::S2 ∧
  (((xD S)[j]?=some (.sh s.1)/\T=S1/\nM S (j+1) (S1++[(s.1,[])]))\/∃f1 n k f2,s.2=f1++(n,k)::f2/\(xD S)[j]?=some (.fd n k)/\T=S1++[(s.1,f1)]/\nM S (j+1) (S1++[(s.1,f1++[(n,k)])])):=by
  intro T S2 e ej;cases S2 with
  |nil=>rw[e,ya,←ej]at hj;exact absurd hj (Ak _)
  |cons s S2 =>
   refine⟨T,s,S2,e,.inl ⟨?_,rfl,.inr ⟨T,s,S2,[],s.2,e,rfl,rfl,by rw[ej];rfl⟩⟩⟩;rw[e,dQ,xa (by omega),ej,Ap];rfl
 rcases h with⟨S2,e,ej⟩|⟨S1,s,S2,f1,f2,e,ef,eT,ej⟩
 ·exact one e ej
 ·cases f2 with
  |nil =>
   rw[ya]at ef;have e2:T=S1++[s]:=by rw[eT,←ef]
   refine one (S2:=S2) (by rw[e,e2,yc];rfl) ?_;rw[e2,dQ,η,ej];show _=_+([s].flatMap pO).length;rw[BQ];unfold pO;rw[Ξ,ε,ef];omega
  |cons f f2 =>
   refine⟨S1,s,S2,e,.inr ⟨f1,f.1,f.2,f2,ef,?_,eT,.inr ⟨S1,s,S2,f1++[(f.1,f.2)],f2,e,by rw[ef,yc];rfl,rfl,by rw[ej,η];rfl⟩⟩⟩;rw[e,dQ,xa (by omega),show j-(xD S1).length=f1.length+1 by omega];show((pO s)++xD S2)[f1.length+1]?=_;unfold pO;rw[DN,List.getElem?_cons_succ,xo (by rw[ε,ef,η,Ξ];omega),xw,ef,xa (μ _),Ap];rfl
theorem aAk{A:List Shp}(h:A≠[]): 0<(xD A).length:=by
 cases A with
 |nil=>exact absurd rfl h
 |cons a A=>exact Nat.succ_pos _
theorem nM.done(h:nM S (xD S).length T):T=S:=by
 rcases h with⟨S2,e,ej⟩|⟨S1,s,S2,f1,f2,e,ef,eT,ej⟩
 ·cases S2 with
  |nil=>rw[e,ya]
  |cons s S2 =>
   rw[e,dQ,η]at ej;have:=aAk (A:=s::S2) (by simp);omega
 ·rw[e,dQ,η,show xD (s::S2)=pO s++xD S2 from rfl,η]at ej;unfold pO at ej;rw[Ξ,ε,ef,η]at ej;have h2:f2=[]:=BJ.mp (by omega);have h3:S2=[]:=by
   cases S2 with
   |nil=>rfl
   |cons a A=>have:=aAk (A:=a::A) (by simp);omega
  rw[eT,e,h3];subst h2;rw[ya]at ef;rw[←ef]
theorem aD(sa:List Addr)(z:Addr):atI ((sa++[z]).map V.ref) (-1)=some (.ref z):=by
 have l:((sa++[z]).map V.ref).length=sa.length+1:=by rw[ε,η];rfl
 have e:ixN (sa.length+1) (-1)=some sa.length:=by
  unfold ixN;rw[if_neg (by omega),if_pos (by omega)]
  congr 1
  omega
 unfold atI;rw[l,e];show((sa++[z]).map V.ref)[sa.length]?=_;rw[Ψ,xa (by rw[ε];exact μ _),ε,Ap];rfl
theorem aMg(sa:List Addr)(z:Addr):ixN ((sa++[z]).map V.ref).length (-1)=some sa.length:=by
 rw[ε,η,xm];unfold ixN;rw[if_neg (by omega),if_pos (by omega)]
 congr 1
 omega
theorem aKq(sa:List Addr)(z y:Addr):((sa++[z]).map V.ref).set sa.length (.ref y)=(sa++[y]).map V.ref:=by
 rw[Ψ,Ψ,List.set_append_right _ _ (by rw[ε];exact μ _),ε,Ap];rfl
theorem aHy(xs:List V)(k:Nat):zF xs (some (k:Int)) none=xs.drop k:=by
 unfold zF;rw[HT.sIx_none,HT.sIx_nat];have e:xs.drop (min k xs.length)=xs.drop k:=by
  by_cases h:k<=xs.length
  ·rw[CZ h]
  ·rw[DO (by omega),DP,List.drop_eq_nil_of_le (by omega)]
 rw[e,zh];rw[yo];omega
theorem aAx(x:V)(xs:List V):zF (x::xs) (some 1) none=xs:=aHy (x::xs) 1
theorem aQf(x y:V)(xs:List V):zF (x::y::xs) (some 2) none=xs:=aHy (x::y::xs) 2
theorem at0{x:V}{xs:List V}: atI (x::xs) 0=some x:=zY (j:=0) rfl
theorem at1{x y:V}{xs:List V}: atI (x::y::xs) 1=some y:=zY (j:=1) rfl
theorem aHd(xs:List V)(k:Nat):zF xs none (some (k:Int))=xs.take k:=by
 unfold zF;rw[HT.sIx_none,HT.sIx_nat,Dx,Nat.sub_zero]
 by_cases h:k<=xs.length
 ·rw[CZ h]
 ·rw[DO (by omega),AV,zh (by omega)]
theorem cutC(sa:List Addr)(z:Addr):zF ((sa++[z]).map V.ref) none (some (-1))=sa.map V.ref:=by
 unfold zF;rw[HT.sIx_none,Dx,Nat.sub_zero];have l:((sa++[z]).map V.ref).length=sa.length+1:=by rw[ε,η];rfl
 have e:HT.sIx ((sa++[z]).map V.ref).length ((sa++[z]).map V.ref).length (some (-1))=(sa.map V.ref).length:=by
  rw[l,ε];show(if (-1:Int)<0 then ((-1:Int)+((sa.length+1:Nat):Int)).toNat else min (-1:Int).toNat (sa.length+1))=_;rw[if_pos (by decide)];omega
 rw[e,Ψ,List.take_left' rfl]
def dk (T:List Shp) (sa:List Addr):List (Key×V):=zo (fun (s:Shp) (a:Addr)=>((.inr s.1:Key),V.ref a)) T sa
theorem aMq{T:List Shp}{sa:List Addr}(hn:(T.map (·.1)).Nodup):∀{i:Nat}{s:Shp}{a:Addr},T[i]?=some s->sa[i]?=some a->xR (dk T sa) (.inr s.1)=some (.ref a):=by
 induction T generalizing sa with
 |nil=>intro i s a h;simp at h
 |cons t T ih =>
  intro i s a h1 h2;cases sa with
  |nil=>simp at h2
  |cons b sa =>
   cases i with
   |zero =>
    cases h1;cases h2;unfold dk xR;rw[Av,List.find?_cons_of_pos (by simp)];rfl
   |succ i =>
    have hn':=Bk.mp (show(t.1::T.map (·.1)).Nodup from hn);have:=ih hn'.2 (sa:=sa) h1 h2;unfold dk xR at this ⊢;rw[Av,List.find?_cons_of_neg]
    ·exact this
    ·intro z;have z2:t.1=s.1:=AN (show(Az t.1:Key)=.inr s.1 from of_decide_eq_true z);have h1':T[i]?=some s:=h1;exact hn'.1 (by rw[z2];exact List.mem_map_of_mem (xk h1'))
theorem aIe{kvs:List (Key×V)}{k:Key}(h:∀x∈kvs,x.1≠k):putK kvs k v=kvs++[(k,v)]:=by
 unfold putK
 first
 |rw[if_neg (by simp only[BK,not_exists];rintro x ⟨hx,z⟩;exact h x hx (of_decide_eq_true z))]
 | (split
    · rename_i z
      simp only[BK]at z;obtain⟨x,hx,z⟩:=z;exact absurd (by simpa using z) (h x hx)
    · rfl)
theorem eL{α β γ : Type}(f : α->β->γ):∀{xs:List α}{ys:List β}{x : α}{y : β},xs.length=ys.length->zo f (xs++[x]) (ys++[y])=zo f xs ys++[f x y]
 |[],[],_,_,_=>rfl
 |a::xs,b::ys,x,y,h=>by
  rw[DN,DN,Av,Av,eL f (Nat.succ.inj h)];rfl
theorem aOh{T:List Shp}{sa:List Addr}{j:Nat}(h1:T[j]?=some s)(h2:sa[j]?=some a):dk (T.take (j+1)) (sa.take (j+1))=dk (T.take j) (sa.take j)++[(.inr s.1,.ref a)]:=by
 unfold dk;rw[zk,zk,h1,h2];refine eL _ ?_;rw[wy,wy];have:=(θ.mp h1).1;have:=(θ.mp h2).1;omega
theorem aOi{T:List Shp}{sa:List Addr}: ∀x∈dk T sa,∃s∈T,x.1=.inr s.1:=by
 induction T generalizing sa with
 |nil=>intro x hx;cases sa <;> simp[dk]at hx
 |cons t T ih =>
  intro x hx;cases sa with
  |nil=>simp[dk]at hx
  |cons a sa =>
   unfold dk at hx;rw[Av]at hx;rcases χ.mp hx with rfl|hx
   ·exact⟨t,ο ..,rfl⟩
   ·obtain⟨s,hs,e⟩:=ih x hx;exact⟨s,π _ hs,e⟩
theorem SW.init{K:Ω}{sa:List Addr}{z:Addr}{T:List Shp}{s:Shp}(h:SW c K H (sa++[z]) (T++[s])):SW c K H sa T/\SO c K H sa z s:=by
 have hl:sa.length=T.length:=by have:=h.1;rw[η,η]at this;exact Nat.succ.inj this
 refine⟨⟨hl,fun i a u h1 h2=>?_⟩,?_⟩
 ·have hi:i<sa.length:=(θ.mp h1).1;have:=h.2 i a u (wO h1) (by rw[xo (by omega)];exact h2);rw[Bf (by omega)]at this;exact this
 ·have:=h.2 sa.length z s (by rw[xa (μ _),Ap];rfl) (by rw[hl,xa (μ _),Ap];rfl);rw[List.take_left' rfl]at this;exact this
theorem aJf(c:Nat):∀ps:List (List Nat),(jn c ps).length<=(ps.map (·.length)).sum+ps.length
 |[]=>μ _
 |[p]=>by show p.length<=(p.length+0)+1;omega
 |p::q::r=>by
  have ih:=aJf c (q::r);show(p++c::jn c (q::r)).length<=_;rw[η,Ξ,zc,CQ,Ξ];omega
theorem uW{α : Type}{f : α->Nat}{m:Nat}: ∀{l:List α},(∀x∈l,f x<=m)->(l.map f).sum<=l.length*m
 |[],_=>xy _
 |x::l,h=>by
  have h1:=h x (ο ..);have h2:=uW (f:=f) (l:=l) fun y hy=>h y (π _ hy);rw[zc,CQ,Ξ,Nat.succ_mul];omega
theorem rR{c:Nat}{ws:List Str}{m:Nat}(h:∀w∈ws,w.length<=m):(xl ⟨#[c]⟩ ws).length<=ws.length*(m+1):=by
 have e:(xl ⟨#[c]⟩ ws).length=(jn c (ws.map fun w=>w.cps.toList)).length:=by
  rw[←oK];exact(Aw).symm
 rw[e];refine yb (aJf _ _) ?_;rw[Au,ε,Nat.mul_add,Nat.mul_one];exact Nat.add_le_add_right (uW fun w hw=>by show w.cps.toList.length<=m;rw[Aw];exact h w hw) _
def offs (xs:List Addr) (H:Hp):Hp:=fun b=>if b∈xs then none else H b
theorem qQ{xs:List Addr}{a:Addr}{H:Hp}(n:a∉xs)(h:H a=some o):offs xs H a=some o:=by unfold offs;rw[if_neg n];exact h
theorem jW : jJ (offs xs H) H:=fun b o q=>by
 unfold offs at q
 split at q
 ·cases q
 ·exact q
theorem aCh{xs:List Addr}{H H':Hp}(h:∀b o,b∉xs->H b=some o->H' b=some o):jJ (offs xs H) (offs xs H'):=fun b o q=>by
 unfold offs at q ⊢
 split at q
 ·cases q
 ·rename_i n;rw[if_neg n];exact h b o n q
theorem jU(g:jJ H H'):jJ (offs xs H) (offs xs H'):=aCh fun b o _ q=>g b o q
theorem pN{xs ys:List Addr}(h:∀b,b∈xs->b∈ys):jJ (offs ys H) (offs xs H):=fun b o q=>by
 unfold offs at q ⊢
 split at q
 ·cases q
 ·rename_i n;rw[if_neg fun z=>n (h b z)];exact q
def Al (xs:List Addr) (H:Hp):Prop:=∀b∈xs,∃o,H b=some o
theorem Al.same(h:Al xs H)(g:jJ H H'):Al xs H':=fun b hb=>by
 obtain⟨o,ho⟩:=h b hb;exact⟨o,g _ _ ho⟩
theorem Al.new{H:Hp}(h:Al xs H)(ht:H t=none):t∉xs:=fun z=>by
 obtain⟨o,ho⟩:=h t z;rw[ht]at ho;cases ho
abbrev Hold:=Str×Nat
abbrev wR:=Str×Nat×Nat×List Hold
def lj (p x:Str):Str:=if p.length=0 then x else if x.length=0 then p else p++δ "." ++ x
def ahd (st:Str) (m:Int) (x:wR):wR:=(lj st x.1,x.2.1,((x.2.2.1:Int)+m).toNat,x.2.2.2.map fun h=>(lj st h.1,h.2))
def ahead (st:Str) (rows:List wR) (m:Int):List wR:=rows.map (ahd st m)
def insF (S:List Shp) (f:Kd->List wR):Nat->List (Str×Kd)->List wR
 |_,[]=>[]
 |o,x::xs=>ahead x.1 (f x.2) o++insF S f (o+x.2.size (tabs S).sz) xs
def pickR (n:Nat) (x:wR):wR:=(x.1,x.2.1,x.2.2.1,(Str.empty,n)::x.2.2.2)
def ins (S:List Shp):Nat->Kd->List wR
 |0,.num w=>[(Str.empty,w,0,[])]
 |0,_=>[]
 |r+1,.num w=>[(Str.empty,w,0,[])]
 |r+1,.nest i=>insF S (ins S r) 0 ((Kd.nest i).parts S)
 |r+1,.many n k=>insF S (ins S r) 0 ((Kd.many n k).parts S)
 |r+1,.pick is=>(δ "tag",1,0,[])::(zt is.length).flatMap fun n=>(ahead (kN S (is.getD n 0)) (ins S r (.nest (is.getD n 0))) 1).map (pickR n)
end L2
namespace L2
open PySem PySem.Spec PyProof.Rows
theorem aLb(h:(kU P w).is k u=true):RelV (kV k) u:=by
 rcases qR (show rA k u=true from h) with⟨i,t,rfl,rfl⟩|⟨x,t,rfl,rfl⟩
 ·exact⟨t,rfl⟩
 ·exact⟨t,rfl⟩
def epOf (o:Obj):Nat:=match o.data with | .dict _ ep=>ep|_=>0
theorem Inv.frozen{H:Hp}(I:Inv X pins σ H s)(e:H a=some (.dK kvs)):∃o,s.heap.get? a=some o/\Inv X pins σ (upd H a (.frz o (.dK kvs))) s:=by
 obtain⟨z,hd,vs,rel,dd⟩:=aAr I.hok e;obtain⟨o,es,ep,ho,r⟩:=id dd;exact⟨o,ho,I.write (x:=a) (e:=a) (h':=s.heap) (t':=s.toks) (by rw[e];exact yg) (.inl rfl) (fun _ _ _ q=>q) ⟨o,ho⟩ ⟨ho,pB z hd rel dd⟩⟩
theorem aEq{H:Hp}(ok:HOk P w H h)(e:H a=some (.frz o (.dK kvs))):(a == BF)=false/\∃vs,KV kvs vs/\h.DictAt (kU P w) a vs (epOf o):=by
 obtain⟨h1,z,hd,vs,rel,q,es,ep,hq,h2,h3,r⟩:=(show qK P w H h a (.frz o (.dK kvs)) from ok a _ e);rw[h1]at hq;cases hq;refine⟨hd,vs,rel,o,es,h1,h2,?_,r⟩;rw[h3];unfold epOf;rw[h3]
theorem KV.get:∀{kvs:List (Key×V)}{vs:List (Key×Value)},KV kvs vs->∀{i:Nat}{kv:Key×V},kvs[i]?=some kv->∃u,vs[i]?=some (kv.1,u)
 |_,_,.nil,_,_,e=>by simp at e
 |_,_,.cons (a:=p) (b:=q) r _,0,kv,e=>by
  simp at e;subst e;exact⟨q.2,by simp[r.1]⟩
 |_,_,.cons _ t,i+1,kv,e=>by
  obtain⟨u,h⟩:=KV.get t (i:=i) (kv:=kv) (by simpa using e);exact⟨u,by simpa using h⟩
def Itd (a:Addr) (o:Obj) (kvs:List (Key×V)):It :=
 ⟨fun i H=>H a=some (.frz o (.dK kvs))/\i<kvs.length,fun i H x H'=>H'=H/\∃kv,kvs[i]?=some kv/\x=kV kv.1,fun i H=>H a=some (.frz o (.dK kvs))/\kvs.length<=i⟩
theorem aHb{K:Ω}(a it:Addr)(o:Obj)(kvs:List (Key×V)):Turn P w K tg (Itd a o kvs) [it] it (fun i h=>h.IsKeyIter it a i kvs.length (epOf o)) where
 mem:=by simp
 obj:=fun i h st b hb=>by
  have e:b=it:=by simpa using hb
  subst e;obtain⟨o,e,c,d⟩:=st;exact⟨o,e,fun v z=>by rw[d]at z;cases z⟩
 keep:=fun i h h' st k=>st.at fun o e=>k it (by simp) o e
 item:=by
  intro X hP hw hK hc i pins s σ H E I hf st hg;subst hP hw hK;obtain⟨hq,hi⟩:=hg;obtain⟨_,vs,rel,dd⟩:=aEq I.hok hq;obtain⟨u,hu⟩:=KV.get rel (i:=i) (kv:=kvs[i]) (by simp[hi]);obtain⟨f0,f1,f2,f3,f4,f5⟩:=hf it (by simp);have hl:kvs.length=vs.length:=CH rel;rw[hl]at st;refine wpAny_pyNext_dict_item st dd hu fun key h' hk st' sb=>?_;have I1:Inv X pins σ H { s with heap:=h' }:=I.turned (t':=s.toks) (fun b o hb e=>(sb.2 b hb).trans e) f0 f1 f3 f4 f5;exact⟨key,rfl,letGo_keyiter st' ⟨kV kvs[i].1,H,I1,aLb hk,⟨rfl,kvs[i],by simp[hi],rfl⟩,by rw[hl];exact st',fun b hb=>(hf b hb).1⟩⟩
 done:=by
  intro X hP hw hK hc i pins s σ H E I hf st hg;subst hP hw hK;obtain⟨hq,hi⟩:=hg;obtain⟨_,vs,rel,dd⟩:=aEq I.hok hq;obtain⟨f0,f1,f2,f3,f4,f5⟩:=hf it (by simp);have hl:kvs.length=vs.length:=CH rel;rw[hl]at st hi;exact wpAny_pyNext_dict_end (I.ok.hd hc) st dd (by simp;omega) fun h' eb=>⟨rfl,I.turned (t':=s.toks) (fun b o hb e=>eb b o hb e) f0 f1 f3 f4 f5⟩
 self:=fun _ _ _ _ _ st h=>wpAny_pyIter_keyiter st h
def iDict (tl:TE):TI:=fun σ H R=>tl σ H fun x H1=>∃a kvs,x=.ref a/\H1 a=some (.dK kvs)/\∀o,R (Itd a o kvs) (upd H1 a (.frz o (.dK kvs)))
theorem aGe(hl:PE X l tl):PI X tg l (iDict tl):=by
 intro pins s σ H R I h;refine thn (hl pins s σ H _ I h) fun v s1 zq=>?_;obtain⟨x,H1,I1,r1,q1⟩:=zq;obtain⟨a,kvs,e,hq,q⟩:=q1;subst e;cases r1;obtain⟨o,ho,I2⟩:=I1.frozen hq;obtain⟨hd,vs,rel,dd⟩:=aEq I2.hok (jF);have hl:kvs.length=vs.length:=CH rel;refine wpAny_pyIter_dict hd dd ?_;refine⟨s1.heap.objs.size,[s1.heap.objs.size],_,_,_,rfl,I2.kept (t':=s1.toks) fun b o e=>ξ _ e,aHb a _ o kvs,⟨_,xb _ rfl,rfl,?_⟩,fun b hb=>?_,q o⟩
 ·rw[hl];rfl
 have e:b=s1.heap.objs.size:=by simpa using hb
 subst e;exact I2.fpOk (μ _) (I2.hok.fresh (μ _))
end L2
namespace L2.TX
open PySem PySem.Spec PyProof.Rows
def firstMet (val:Nat->Str) (i:Nat):List Str:=((zt i).map val).foldl Cq []
theorem firstMet_zero(val:Nat->Str):firstMet val 0=[]:=rfl
theorem firstMet_succ(val:Nat->Str)(i:Nat):firstMet val (i+1)=Cq (firstMet val i) (val i):=by
 unfold firstMet;rw[BV,Ψ,Dy];rfl
theorem firstMet_length_le(val:Nat->Str):∀i,(firstMet val i).length<=i
 |0=>by rw[firstMet_zero];exact μ _
 |i+1=>by
  rw[firstMet_succ];unfold Cq;have ih:=firstMet_length_le val i
  split
  ·omega
  ·rw[η,xm];omega
theorem firstMet_any(val:Nat->Str):∀(i:Nat) (k:Str),(firstMet val i).any (· == k)=((zt i).map val).any (· == k)
 |0,k=>rfl
 |i+1,k=>by
  rw[firstMet_succ,BV,Ψ,List.any_append,←firstMet_any val i k];unfold Cq
  by_cases h:(firstMet val i).any (· == val i)=true
  ·rw[if_pos h]
   by_cases e:val i=k
   ·subst e;rw[h];simp
   ·have hb:(val i == k)=false:=by simpa [beq_iff_eq] using e
    simp[hb]
  ·rw[if_neg h,List.any_append];rfl
theorem step_any(σ:List Str)(v k:Str):(Cq σ v).any (· == k)=(σ.any (· == k)||decide (k=v)):=by
 unfold Cq
 by_cases h : σ.any (· == v)=true
 ·rw[if_pos h]
  by_cases e:k=v
  ·subst e;rw[h];simp
  ·simp[e]
 ·rw[if_neg h,List.any_append]
  by_cases e:k=v
  ·subst e;simp
  ·have hb:(v == k)=false:=by simpa [beq_iff_eq] using (fun h':v=k=>e h'.symm)
   simp[hb,e]
theorem step_length(σ:List Str)(v:Str):(Cq σ v).length=if σ.any (· == v) then σ.length else σ.length+1:=by
 unfold Cq;split <;> simp
section
variable {prog:za}{w:Af}{A:yr}{R:Result->ι->Prop}{I:Addr}{fp wr:List Addr}{G:Array GenState->Array GenState->Prop}{n:Nat}{P:Nat->Value->Prop}{St:Nat->ι->Prop}
theorem codeAny_set_update_loopS(W:WalksS prog w A.in1 I fp wr G n P St)(S:Addr)(hSf:S∉fp)
  (val:Nat->Str)(hval:∀i v,P i v->∃t,v=.str (val i) t)(hb:n+1<scanBound):
  ∀(k i:Nat) (s:ι),n-i=k->i<=n->St i s →
   s.heap.SetOf (strKind prog w) S (fun k'=>(firstMet val i).any (· == k')) (firstMet val i).length →
   (∀s',Moved (S::wr) G s s'->s'.heap.SetOf (strKind prog w) S (fun k'=>(firstMet val n).any (· == k')) (firstMet val n).length->R (.ok (.ret .none)) s') →
   Cu (xj prog w) A (.builtin "set.update.loop" ⟨[.ref S,.ref I],[]⟩) R s:=by
 have hSw:S∉wr:=fun h=>hSf (W.sub _ h);have hsub:∀b∈wr,b∈S::wr:=fun b hb=>π _ hb;intro k
 induction k with
 |zero =>
  intro i s hk hi hst hS hR;have hin:i=n:=by omega
  subst hin;refine Da F.entry_set_update_loop ?_;rw[Cr Dm _];show Φ _ A.in1 (BY (.ref I) >>= _) _ _ s;refine ζ (W.done s _ _ hst fun s' hm=>?_);show Φ _ A.in1 (ret zr) _ _ s';exact τ (hR s' (hm.mono hsub) (by
   obtain⟨o,es,ep,t,ho,rest⟩:=hS;exact⟨o,es,ep,t,hm.heap S _ hSw ho,rest⟩))
 |succ k ih =>
  intro i s hk hi hst hS hR;have hlt:i<n:=by omega
  refine Da F.entry_set_update_loop ?_;rw[Cr Dm _];show Φ _ A.in1 (BY (.ref I) >>= _) _ _ s;refine ζ (W.item i s _ _ hlt hst fun v s' hP hst' hm=>?_);obtain⟨t,rfl⟩:=hval i v hP;have hS':s'.heap.SetOf (strKind prog w) S (fun k'=>(firstMet val i).any (· == k')) (firstMet val i).length:=by
   obtain⟨o,es,ep,tb,ho,rest⟩:=hS;exact⟨o,es,ep,tb,hm.heap S _ hSw ho,rest⟩
  show Φ _ A.in1 (CU [Value.str (val i) t] (setAdd S (.str (val i) t)) >>= _) _ _ s';refine ζ (yv ?_);unfold setAdd;refine yv ?_;refine ζ ((strKind prog w).pyHash (k:=val i) (strKind_is _ _ _ _) ?_);have hroom:(firstMet val i).length+1<scanBound:=by have:=firstMet_length_le val i;omega
  refine wpAny_setAddHashed_of (knd:=strKind prog w) (s:={ s' with toks:=s'.toks+1 }) (strKind_is _ _ _ _) rfl hS' hroom fun h' hsb hS2=>?_;have hSi:h'.SetOf (strKind prog w) S (fun k'=>(firstMet val (i+1)).any (· == k')) (firstMet val (i+1)).length :=
   SetOf_congr hS2 (fun k'=>by rw[firstMet_succ,step_any]) (by rw[firstMet_succ,step_length])
  refine τ ⟨plainId_quiet Dm _,ih (i+1) _ (by omega) hlt (W.frame _ s' _ _ hst' (Be _) fun b hb o e=>?_) hSi fun s'' hm'' hS''=>?_⟩
  ·rw[hsb.2 b (fun h:b=S=>hSf (by rw[←h];exact hb))];exact e
  ·refine hR s'' (Moved.trans W.gtrans ((hm.mono hsub).then_heap (Be _) fun b o hb e=>?_) hm'') hS'';rw[hsb.2 b (fun h:b=S=>hb (by rw[h];exact ο))];exact e
end
section
variable {prog:za}{w:Af}{A:yr}{E:Value->ι->Prop}{s:ι}
set_option maxRecDepth 100000 in
set_option maxHeartbeats 3200000 in
theorem call_set_texts{ns:List Str}{Q:Value->ι->Prop}
  (hh:A.handled=none)(hl:s.heap.IsList l items)(hval:∀(i:Nat) (v:Value),items[i]?=some v->∃t,v=.str ((fun i=>ns.getD i "") i) t)(hb:items.size+1<scanBound)
  (h:∀(h':yp) (tk:Nat),h'.SetOf (strKind prog w) s.heap.objs.size (fun k'=>(firstMet (fun i=>ns.getD i "") items.size).any (· == k')) (firstMet (fun i=>ns.getD i "") items.size).length →
   (∀b o,b<s.heap.objs.size->s.heap.get? b=some o->h'.get? b=some o)->Q (.ref s.heap.objs.size) { s with heap:=h',toks:=tk }):
  Φ (xj prog w) A (call (.type "set") [.ref l]) Q E s:=by
 obtain⟨c,tl,hmro⟩:=BR.mro;have hmade:=BR.made;have hsub:=BR.sub;refine Dh (codeAny_of_tree ?_);show Φ _ _ (callAny (.type "set") _) _ _ _;refine τ ⟨Code.quiet_builtin _ (by ac_rfl),Da F.entry_type_call ?_⟩;rw[yr.under_plain (weight_type_call_type "set" [.ref l] []) rfl];have h1:=BR.notType;have h2:=BR.canCreate;have hct:=F.typeCall_set_1 (.ref l)
 repeat (any_goals (first|assumption|wp_step))
 refine BM (code_set_new_1 (.ref l) (E:=E) (Q₁:=fun obj s₁=>∃led:Bool,obj=.ref s.heap.objs.size/\s₁ = { s with heap:=s.heap.push { cls:=.type "set",dict:=none,data:=.set #[] 0 (.fresh 0 0 led) } }) fun led=>⟨led,rfl,rfl⟩) fun r s₁ hr=>?_;cases r with
 |error e=>exact hr
 |ok fl =>
  cases fl with
  |ret obj =>
   obtain⟨led,rfl,rfl⟩:=hr;have hS:(s.heap.push { cls:=.type "set",dict:=none,data:=.set #[] 0 (.fresh 0 0 led) }).get? s.heap.objs.size=some { cls:=.type "set",dict:=none,data:=.set #[] 0 (.fresh 0 0 led) }:=xb _ rfl;have hT:ι.TypeIs { s with heap:=s.heap.push { cls:=.type "set",dict:=none,data:=.set #[] 0 (.fresh 0 0 led) } } (.ref s.heap.objs.size) "set":=⟨_,hS,rfl⟩;have hli:=BR.init.lookup;have hbi:=BR.init.bind (.ref s.heap.objs.size)
   repeat (any_goals (first|assumption|wp_step))
   refine BM (Cp (R:=wants (fun r s₂=>r=.none/\∃h' tk,s₂ = { s with heap:=h',toks:=tk } ∧
     h'.SetOf (strKind prog w) s.heap.objs.size (fun k'=>(firstMet (fun i=>ns.getD i "") items.size).any (· == k')) (firstMet (fun i=>ns.getD i "") items.size).length ∧
     (∀b o,b<s.heap.objs.size->s.heap.get? b=some o->h'.get? b=some o)) E) BR.init.plain F.entry_set_init (check_set_init_1 hT ?_)) fun r₂ s₂ hr₂=>?_
   ·obtain⟨ol,hol,hcl,nl,hdl⟩:=hl;obtain⟨ocls,odict,odata,oslots⟩:=ol;simp only at hcl hdl;subst hcl;subst hdl;have hol':(s.heap.push { cls:=.type "set",dict:=none,data:=.set #[] 0 (.fresh 0 0 led) }).get? l=some { cls:=.type "list",dict:=odict,data:=.seq items nl,slots:=oslots }:=ξ _ hol;have hsls:=F.sub_list_set;have hslf:=F.sub_list_frozenset;have hne:(De "list" == De "dict")=false:=by decide
    have hl1:(s.heap.push { cls:=.type "set",dict:=none,data:=.set #[] 0 (.fresh 0 0 led) }).IsList l items:=⟨_,hol',rfl,nl,rfl⟩;unfold AH.«set.__init__» noKeywords AH.Frozenset.updateFrom;generalize hPI:pyIter=PI
    wp_walk
    subst hPI;refine Ax hl1 ?_;refine ζ (wpAny_runValue ?_);have hlS:l<s.heap.objs.size:=Θ hol;have hh3:A.in1.in1.in1.handled=none:=by simp[hh]
    have hneI:l≠(s.heap.push { cls:=.type "set",dict:=none,data:=.set #[] 0 (.fresh 0 0 led) }).objs.size:=by
     rw[ze];exact wz (Nat.lt_succ_of_lt hlS)
    have hSf:s.heap.objs.size∉[(s.heap.push { cls:=.type "set",dict:=none,data:=.set #[] 0 (.fresh 0 0 led) }).objs.size,l]:=by
     rw[ze];simp only[χ,ω,xq,or_false,not_or];exact⟨wz (Bq _),zf hlS⟩
    refine codeAny_set_update_loopS ((Walks.list hh3 _ l hneI items).toS) s.heap.objs.size
     hSf (fun i=>ns.getD i "") hval hb (items.size-0) 0 _ (by omega) (xy _)
     ⟨⟨_,xb _ rfl,rfl,rfl⟩,(hl1.push _)⟩ ?hS0 ?hR
    case hS0 =>
     have hget:((s.heap.push { cls:=.type "set",dict:=none,data:=.set #[] 0 (.fresh 0 0 led) }).push { cls:=.type "list_iterator",data:=.fields #[.ref l,.int 0 0] }).get? s.heap.objs.size
       = some { cls:=.type "set",dict:=none,data:=.set #[] 0 (.fresh 0 0 led) }:=ξ _ hS
     exact PyProof.Rows.SetOf_congr ((PyProof.Rows.setObjOf_fresh (knd:=strKind prog w) led).setOf hget (by unfold scanBound;omega)) (fun _=>rfl) rfl
    case hR =>
     intro s' hm hS';obtain⟨h',g',d',tk',os'⟩:=s';have eg:g'=s.gens:=hm.gens;have ed:d'=s.drawn:=hm.drawn;have eo:os'=s.os:=hm.os;subst eg;subst ed;subst eo;show Φ _ _ _ _ _ _;refine τ ?_;show Φ _ _ (ret zr) _ _ _;refine τ ⟨rfl,h',tk',rfl,hS',fun b o hb e=>?_⟩;have hb1:b≠s.heap.objs.size:=wz hb;have hb2:b≠(s.heap.push { cls:=.type "set",dict:=none,data:=.set #[] 0 (.fresh 0 0 led) }).objs.size:=by
      rw[ze];exact wz (Nat.lt_succ_of_lt hb)
     exact hm.heap b o (by simp only[χ,ω,xq,or_false,not_or];exact⟨hb1,hb2⟩) (ξ _ (ξ _ e))
   ·cases r₂ with
    |error e=>exact hr₂
    |ok fl₂ =>
     cases fl₂ with
     |ret r =>
      obtain⟨rfl,h',tk,rfl,hS',hk'⟩:=hr₂
      repeat (any_goals (first|assumption|wp_step))
      exact h _ _ hS' hk'
     |_=>exact hr₂.elim
  |_=>exact hr.elim
end
end L2.TX
namespace L2
open PySem PySem.Spec PyProof.Rows
theorem fM{X:Cx}{K:Ω}(hK:X.K=K):OpR X (Ab .NotIn) (rIn K true):=hK ▸ xA
theorem aHi{kvs:List (Key×V)}{k:Nat}{tc:TT}{te:TE}{Q:VK}(P:Nat->List V->Hp->Prop)(h0:P 0 [] H1)(hl:∀i ys H,i<=kvs.length->P i ys H->H a=some (.frz o (.dK kvs))/\ys.length<=i)(hz:kvs.length<Δ)
  (hs:∀i kv ys H,kvs[i]?=some kv->P i ys H->tc (some (kV kv.1)::vI js σ) H fun b H2=>if b=true then te (some (kV kv.1)::vI js σ) H2 fun v H3=>aW P i js σ (some (kV kv.1)::vI js σ) (ys++[v]) H3 else aW P i js σ (some (kV kv.1)::vI js σ) ys H2)
  (hd:∀ys H,P kvs.length ys H->∀p,H p=none->Q (.ref p) (upd H p (.lst ys)))(hk:k=1:=by rfl):
  hJ (Itd a o kvs) k js (cZ 0) tc te σ Q H1:=by
 subst hk;refine⟨fun i m σ' ys H=>m=kvs.length-i/\i<=kvs.length/\P i ys H/\∃o,σ'=o::vI js σ,⟨kvs.length,by simp,xy _,h0,none,rfl⟩,?_⟩;rintro i m σ' ys H ⟨rfl,hi,p,o,rfl⟩;obtain⟨q,hy⟩:=hl i ys H hi p
 by_cases hlt:i<kvs.length
 ·refine .inr ⟨⟨q,hlt⟩,by omega,aW P i js σ,fun σ3 zs H3 z=>⟨kvs.length-(i+1),by omega,rfl,hlt,z.1,z.2⟩,fun x H' y=>?_⟩;obtain⟨e,kv,y,rfl⟩:=y;subst e;exact hs i kv ys _ y p
 ·have e:i=kvs.length:=by omega
  subst e;exact .inl ⟨⟨q,μ _⟩,hd ys H p⟩
theorem aJs{kvs:List (Key×V)}{g:TG}{tb:TS}{D:Ends}{σ:St}{H:Hp}(Pv:Nat->St->Hp->Prop)(h0:Pv 0 σ H)(hl:∀i σ H,i<=kvs.length->Pv i σ H->H a=some (.frz o (.dK kvs)))
  (hs:∀i kv σ H,kvs[i]?=some kv->Pv i σ H->g (kV kv.1) σ H fun σ2 H2=>tb { D with nx:=Pv (i+1),ct:=Pv (i+1),bk:=D.nx } σ2 H2)(hd:∀σ H,Pv kvs.length σ H->D.nx σ H):
  ∃W:Nat->Nat->St->Hp->Prop,(∃m,W 0 m σ H)/\∀i m σ H,W i m σ H →
   ((Itd a o kvs).stop i H/\D.nx σ H)\/((Itd a o kvs).go i H/\∃N:St->Hp->Prop,(∀σ' H',N σ' H'->∃m',m'<m/\W (i+1) m' σ' H')/\∀x H',(Itd a o kvs).yld i H x H'->g x σ H' fun σ2 H2=>tb { D with nx:=N,ct:=N,bk:=D.nx } σ2 H2):=by
 refine⟨fun i m σ H=>m=kvs.length-i/\i<=kvs.length/\Pv i σ H,⟨kvs.length,by simp,xy _,h0⟩,?_⟩;rintro i m σ H ⟨rfl,hi,p⟩;have q:=hl i σ H hi p
 by_cases hlt:i<kvs.length
 ·refine .inr ⟨⟨q,hlt⟩,Pv (i+1),fun σ' H' p'=>⟨kvs.length-(i+1),by omega,rfl,hlt,p'⟩,fun x H' y=>?_⟩;obtain⟨rfl,kv,hy,rfl⟩:=y;exact hs i kv σ _ hy p
 ·have e:i=kvs.length:=by omega
  subst e;exact .inl ⟨⟨q,μ _⟩,hd σ H p⟩
structure wN (K:Ω) (C:Addr):Prop where
 cl:Cls K C
 ha:zj K (.ref C) "__class__" = some (some (.builtin "object.__class__"))
 hn:Ce K (.builtin "object.__class__") "__get__" = some (some (.builtin "getset_descriptor.__get__"))
 htk:PySem.W.takesIn K (.builtin "object.__class__")=some true
 hm:AF K C (.type "object")=some true
theorem wN.ty{K:Ω}(c:wN K C){H:Hp}(e:H a=some (.ins C dx fs)):gD K H (.ref a) (.ref C):=.ins e c.cl c.ha c.hn c.htk c.hm
theorem aCr{X:Cx}{K:Ω}(hK:X.K=K):vP X (.builtin "isinstance") (fun xs H Q=>∃(x:V) (D:Addr) (t:Value) (b:Bool),xs=[x,.ref D]/\gD K H x t/\yi K t (.ref D)=some b/\Q (.bl b) H):=by
 intro pins s σ H xs us Q I r h;obtain⟨x,D,t,b,rfl,ht,hk,q⟩:=h;subst hK;obtain⟨u,w',rfl,rx,rD⟩:=vals2 r;cases rD;exact aIm I rx ht hk fun tk=>⟨.bl b,H,I.tok tk,rfl,q⟩
section
variable {P:za}{w:Af}{A:yr}{E:Value->ι->Prop}{s:ι}
structure ZpM (b c2:Bool) (h:yp) (z ti to j1 j2 a1 a2:Addr) (n:Nat):Prop where
 z:IsZip h z ti to .none
 ti:IsPair h ti (.ref j1) (.ref j2)
 to:∃p q,IsPair h to p q
 i1:yD b h j1 a1 n
 i2:yD c2 h j2 a2 n
theorem aFw{Q:Option Value->ι->Prop}(D:CT z ti to j1 j2 a1 a2)(hz:ZpM b c2 s.heap z ti to j1 j2 a1 a2 n)
  (g1:vA b s.heap a1 us)(g2:vA c2 s.heap a2 vs)(hu:us[n]?=some u)(hv:vs[n]?=some v)
  (k:∀g,IsZip g z ti to (Bc s.heap.objs.size)->IsPair g to u v->yD b g j1 a1 (n+1)->yD c2 g j2 a2 (n+1)->IsPair g s.heap.objs.size u v →
   (∀c o,c∉[z,to,j1,j2]->s.heap.get? c=some o->g.get? c=some o)->Q (some (.ref s.heap.objs.size)) { s with heap:=g }):Φ (xj P w) A (BY (.ref z)) Q E s:=by
 obtain⟨hz,hi,⟨p,q,ho⟩,h1,h2⟩:=hz;have ty:s.TypeIs (.ref z) "zip":=⟨_,hz,rfl⟩;unfold BY;refine ζ (DS (wpAny_callSpecial?_slot (name:=δ "__next__") ty Bn (BH Bn ty DQ ?_ (DA _))));show Φ _ _ (field (.ref z) 2 >>= fun _=>_) _ _ _;refine ζ (yw hz rfl (x:=.bool false) rfl ?_);show Φ _ _ (field (.ref z) 3 >>= fun _=>_) _ _ _;refine ζ (yw hz rfl (x:=.ref ti) rfl ?_);refine ζ (Ay hi rfl ?_);show Φ _ _ (yk (.ref z) >>= fun _=>_) _ _ _;refine ζ ?_;unfold yk;refine ζ (yw hz rfl (x:=zr) rfl (τ ?_));simp only[if_true];refine ζ (wpAny_rule ?_);refine ζ (yw hz rfl (x:=.ref to) rfl ?_);refine ζ (AW hz (by simp) fun e1 z1 s1=>?_);replace z1:IsZip e1 z ti to .ellipsis:=z1;refine ζ ?_;simp only[List.zipIdx_cons,List.zipIdx_nil,Dc,List.forIn_nil];have x1:=s1.extBut;refine ζ (ζ (CO ?_));show Φ _ _ (yd (.ref j1) >>= fun _=>_) _ _ _;refine ζ (rB (h1.keep fun o e=>x1 _ o D.i1z e) (g1.keep fun o e=>x1 _ o D.l1z e) hu fun e2 m2 s2=>τ ?_);have x2:=s2.extBut;have o2:IsPair e2 to p q:=x2 _ _ D.TOi1 (x1 _ _ D.TOz ho);refine ζ (Ay o2 rfl ?_);refine ζ (DV o2 fun e3 o3 s3=>?_);replace o3:IsPair e3 to u q:=o3;have x3:=s3.extBut;refine ζ (wpAny_letGo (τ ?_));refine ζ (ζ (CO ?_));show Φ _ _ (yd (.ref j2) >>= fun _=>_) _ _ _;refine ζ (rB (h2.keep fun o e=>x3 _ o D.TOi2.symm (x2 _ o D.i12.symm (x1 _ o D.i2z e))) (g2.keep fun o e=>x3 _ o D.l2TO (x2 _ o D.l2i1 (x1 _ o D.l2z e))) hv fun e4 m4 s4=>τ ?_);have x4:=s4.extBut;have o4:IsPair e4 to u q:=x4 _ _ D.TOi2 o3;refine ζ (Ay o4 rfl ?_);refine ζ (DV o4 fun e5 o5 s5=>?_);replace o5:IsPair e5 to u v:=o5;have x5:=s5.extBut;refine ζ (wpAny_letGo (τ (τ ?_)));refine ζ (Ay o5 rfl ?_);refine ζ (wpAny_newTuple ?_);have sz:e5.objs.size=s.heap.objs.size:=by rw[s5.1,s4.1,s3.1,s2.1,s1.1]
 have z5:IsZip e5 z ti to .ellipsis:=x5 _ _ D.TOz.symm (x4 _ _ D.i2z.symm (x3 _ _ D.TOz.symm (x2 _ _ D.i1z.symm z1)));have k5:∀c o,c∉[z,to,j1,j2]->s.heap.get? c=some o->e5.get? c=some o:=fun c o hc e=>by
  simp only[χ,xq,or_false,not_or]at hc;exact x5 _ _ hc.2.1 (x4 _ _ hc.2.2.2 (x3 _ _ hc.2.1 (x2 _ _ hc.2.2.1 (x1 _ _ hc.1 e))))
 have m25:yD b e5 j1 a1 (n+1):=m2.keep fun o e=>x5 _ o D.TOi1.symm (x4 _ o D.i12 (x3 _ o D.TOi1.symm e));have m45:yD c2 e5 j2 a2 (n+1):=m4.keep fun o e=>x5 _ o D.TOi2.symm e;have lz:z<e5.objs.size:=Θ z5;show Φ _ _ (CD (.ref z) (.ref e5.objs.size) >>= fun _=>_) _ _ _;refine ζ ?_;unfold CD;have z6:IsZip (e5.push { cls:=.type "tuple",data:=.seq #[u,v] }) z ti to .ellipsis:=ξ _ z5;refine ζ (AW z6 (by simp) fun e7 z7 s7=>?_);replace z7:IsZip e7 z ti to (Bc e5.objs.size):=z7;refine AW z7 (by simp) fun e8 z8 s8=>?_;replace z8:IsZip e8 z ti to (Bc e5.objs.size):=z8;have up:∀c o,c≠z->e5.get? c=some o->e8.get? c=some o:=fun c o c1 e=>s8.extBut _ _ c1 (s7.extBut _ _ c1 (ξ _ e));have t8:IsPair e8 e5.objs.size u v:=s8.extBut _ _ (zf lz) (s7.extBut _ _ (zf lz) (xb _ rfl));rw[sz]at z8 t8;refine τ ⟨_,rfl,τ ?_⟩;rw[sz];exact k e8 z8 (up _ _ D.TOz o5) (m25.keep fun o e=>up _ o D.i1z e) (m45.keep fun o e=>up _ o D.i2z e) t8 fun c o hc e=>up c o (fun x=>hc (by simp[x])) (k5 c o hc e)
theorem aJo{Q:Option Value->ι->Prop}(hh:A.handled=none)(D:CT z ti to j1 j2 a1 a2)(hz:ZpM b c2 s.heap z ti to j1 j2 a1 a2 n)
  (g1:vA b s.heap a1 us)(g2:vA c2 s.heap a2 vs)(hend:us[n]?=none\/vs[n]?=none)
  (k:∀g,(∀c o,c∉[z,to,j1,j2]->s.heap.get? c=some o->g.get? c=some o)->Q none { s with heap:=g }):Φ (xj P w) A (BY (.ref z)) Q E s:=by
 obtain⟨hz,hi,⟨p,q,ho⟩,h1,h2⟩:=hz;have ty:s.TypeIs (.ref z) "zip":=⟨_,hz,rfl⟩;have nx:∀c,c∉[z,to,j1,j2]->c≠z/\c≠to/\c≠j1/\c≠j2:=fun c hc=>by simpa only[χ,xq,or_false,not_or] using hc
 unfold BY;refine ζ (DS (wpAny_callSpecial?_slot (name:=δ "__next__") ty Bn (BH Bn ty DQ ?_ (DA _))));show Φ _ _ (field (.ref z) 2 >>= fun _=>_) _ _ _;refine ζ (yw hz rfl (x:=.bool false) rfl ?_);show Φ _ _ (field (.ref z) 3 >>= fun _=>_) _ _ _;refine ζ (yw hz rfl (x:=.ref ti) rfl ?_);refine ζ (Ay hi rfl ?_);show Φ _ _ (yk (.ref z) >>= fun _=>_) _ _ _;refine ζ ?_;unfold yk;refine ζ (yw hz rfl (x:=zr) rfl (τ ?_));simp only[if_true];refine ζ (wpAny_rule ?_);refine ζ (yw hz rfl (x:=.ref to) rfl ?_);refine ζ (AW hz (by simp) fun e1 z1 s1=>?_);replace z1:IsZip e1 z ti to .ellipsis:=z1;refine ζ ?_;simp only[List.zipIdx_cons,List.zipIdx_nil,Dc,List.forIn_nil];have x1:=s1.extBut;refine ζ (ζ (CO ?_));show Φ _ _ (yd (.ref j1) >>= fun _=>_) _ _ _;cases hu:us[n]? with
 |none =>
  refine ζ (aKo hh (h1.keep fun o e=>x1 _ o D.i1z e) (g1.keep fun o e=>x1 _ o D.l1z e) hu fun e2 x s2 hx=>?_);obtain⟨ox,ex,cx⟩:=hx;have z2:IsZip e2 z ti to .ellipsis:=s2 _ _ D.i1z.symm z1;have nz:x≠z:=fun y=>by subst y;rw[z2]at ex;cases ex;simp at cx
  refine AW z2 (by simp) fun e3 _ s3=>?_;refine ζ (wpAny_isInstance (T:="StopIteration") (b:=true) ⟨ox,s3.extBut _ _ nz ex,cx⟩ isSubtype_stop ?_);refine τ (k _ fun c o hc e=>?_);exact s3.extBut _ _ (nx c hc).1 (s2 _ _ (nx c hc).2.2.1 (x1 _ _ (nx c hc).1 e))
 |some u =>
  have hv:vs[n]?=none:=by
   rcases hend with y|y
   ·rw[hu]at y;cases y
   ·exact y
  refine ζ (rB (h1.keep fun o e=>x1 _ o D.i1z e) (g1.keep fun o e=>x1 _ o D.l1z e) hu fun e2 m2 s2=>τ ?_);have x2:=s2.extBut;have o2:IsPair e2 to p q:=x2 _ _ D.TOi1 (x1 _ _ D.TOz ho);refine ζ (Ay o2 rfl ?_);refine ζ (DV o2 fun e3 o3 s3=>?_);have x3:=s3.extBut;refine ζ (wpAny_letGo (τ ?_));refine ζ (ζ (CO ?_));show Φ _ _ (yd (.ref j2) >>= fun _=>_) _ _ _;refine ζ (aKo hh (h2.keep fun o e=>x3 _ o D.TOi2.symm (x2 _ o D.i12.symm (x1 _ o D.i2z e))) (g2.keep fun o e=>x3 _ o D.l2TO (x2 _ o D.l2i1 (x1 _ o D.l2z e))) hv fun e4 x s4 hx=>?_);obtain⟨ox,ex,cx⟩:=hx;have z4:IsZip e4 z ti to .ellipsis:=s4 _ _ D.i2z.symm (x3 _ _ D.TOz.symm (x2 _ _ D.i1z.symm z1));have nz:x≠z:=fun y=>by subst y;rw[z4]at ex;cases ex;simp at cx
  refine AW z4 (by simp) fun e5 _ s5=>?_;refine ζ (wpAny_isInstance (T:="StopIteration") (b:=true) ⟨ox,s5.extBut _ _ nz ex,cx⟩ isSubtype_stop ?_);refine τ (k _ fun c o hc e=>?_);exact s5.extBut _ _ (nx c hc).1 (s4 _ _ (nx c hc).2.2.2 (x3 _ _ (nx c hc).2.1 (x2 _ _ (nx c hc).2.2.1 (x1 _ _ (nx c hc).1 e))))
end
abbrev zp3M (b c2:Bool) (h:yp) (a1 a2:Addr):yp:=(zp1 c2 (zp1 b h a1) a2).push { cls:=.type "tuple",data:=.seq #[.ref h.objs.size,.ref (zp1 b h a1).objs.size] }
abbrev zp4M (b c2:Bool) (h:yp) (a1 a2:Addr):yp:=(zp3M b c2 h a1 a2).push { cls:=.type "tuple",data:=.seq #[.none,.none] }
abbrev aIn (b c2:Bool) (h:yp) (a1 a2:Addr):yp:=(zp4M b c2 h a1 a2).push { cls:=.type "zip",data:=.fields #[.none,.bool false,.bool false,.ref (zp1 c2 (zp1 b h a1) a2).objs.size,.ref (zp3M b c2 h a1 a2).objs.size] }
theorem aLh(b c2:Bool)(a1 a2:Addr)(us vs:Array Value):Meets (AH.«zip.__new__» ⟨[.type "zip",.ref a1,.ref a2],[]⟩) (fun _ R s=>vA b s.heap a1 us/\vA c2 s.heap a2 vs/\R (.ok (.ret (.ref (zp4M b c2 s.heap a1 a2).objs.size))) { s with heap:=aIn b c2 s.heap a1 a2 }) :=
 .of_wp fun prog w A R s h=>by
  obtain⟨hp,g,d,tk,os⟩:=s;obtain⟨k1,k2,h⟩:=h;have hsub:=sub_zip;cases b <;> cases c2
  ·have y1:yp.IsList (Cs ⟨hp,g,d,tk,os⟩) a1 us:=k1;have y2:yp.IsList (Cs ⟨hp.push { cls:=.type "list_iterator",data:=.fields #[.ref a1,.int 0 0] },g,d,tk,os⟩) a2 vs:=yp.IsList.push k2 _
   wp_walk using Ax y1,Ax y2
   exact⟨_,rfl,h⟩
  ·have y1:yp.IsList (Cs ⟨hp,g,d,tk,os⟩) a1 us:=k1;have y2:DB (Cs ⟨hp.push { cls:=.type "list_iterator",data:=.fields #[.ref a1,.int 0 0] },g,d,tk,os⟩) a2 vs:=DB.push k2 _
   wp_walk using Ax y1,Br y2
   exact⟨_,rfl,h⟩
  ·have y1:DB (Cs ⟨hp,g,d,tk,os⟩) a1 us:=k1;have y2:yp.IsList (Cs ⟨hp.push { cls:=.type "tuple_iterator",data:=.fields #[.ref a1,.int 0 0] },g,d,tk,os⟩) a2 vs:=yp.IsList.push k2 _
   wp_walk using Br y1,Ax y2
   exact⟨_,rfl,h⟩
  ·have y1:DB (Cs ⟨hp,g,d,tk,os⟩) a1 us:=k1;have y2:DB (Cs ⟨hp.push { cls:=.type "tuple_iterator",data:=.fields #[.ref a1,.int 0 0] },g,d,tk,os⟩) a2 vs:=DB.push k2 _
   wp_walk using Br y1,Br y2
   exact⟨_,rfl,h⟩
section
variable {P:za}{w:Af}{A:yr}{E:Value->ι->Prop}{s:ι}
theorem aGf{Q:Value->ι->Prop}(k1:vA b s.heap a1 us)(k2:vA c2 s.heap a2 vs)
  (h:∀g,ZpM b c2 g (s.heap.objs.size+4) (s.heap.objs.size+2) (s.heap.objs.size+3) s.heap.objs.size (s.heap.objs.size+1) a1 a2 0->(∀c o,s.heap.get? c=some o->g.get? c=some o)->Q (.ref (s.heap.objs.size+4)) { s with heap:=g }):
  Φ (xj P w) A (call (.type "zip") [.ref a1,.ref a2]) Q E s:=by
 refine callType_new F.called_zip (by decide) (F.typeCall_zip_2 _ _) (F.newCall_zip_2 _ _) (fun obj=>F.args_object_init_3 obj _ _) F.entry_zip_new (aLh b c2 a1 a2 us vs) ⟨k1,k2,?_⟩;have z1:(zp1 b s.heap a1).objs.size=s.heap.objs.size+1:=ze ..;have z2:(zp1 c2 (zp1 b s.heap a1) a2).objs.size=s.heap.objs.size+2:=by rw[ze,z1]
 have z3:(zp3M b c2 s.heap a1 a2).objs.size=s.heap.objs.size+3:=by rw[ze,z2]
 have z4:(zp4M b c2 s.heap a1 a2).objs.size=s.heap.objs.size+4:=by rw[ze,z3]
 have up:=fun {h:yp}{c:Addr}{x:Obj}(o:Obj) (e:h.get? c=some x)=>ξ o e;have g5:(aIn b c2 s.heap a1 a2).get? (zp4M b c2 s.heap a1 a2).objs.size=some _:=xb _ rfl;have g4:(aIn b c2 s.heap a1 a2).get? (zp3M b c2 s.heap a1 a2).objs.size=some _:=up _ (xb _ rfl);have g3:(aIn b c2 s.heap a1 a2).get? (zp1 c2 (zp1 b s.heap a1) a2).objs.size=some _:=up _ (up _ (xb _ rfl));have g2:(aIn b c2 s.heap a1 a2).get? (zp1 b s.heap a1).objs.size=some _:=up _ (up _ (up _ (xb _ rfl)));have g1:(aIn b c2 s.heap a1 a2).get? s.heap.objs.size=some _:=up _ (up _ (up _ (up _ (xb _ rfl))));show _/\_;rw[z2,z3,z4]at g5;rw[z1,z2]at g3;rw[z3]at g4;rw[z1]at g2;rw[z4];refine⟨⟨_,g5,rfl⟩,h _ ⟨g5,g3,⟨_,_,g4⟩,?_,?_⟩ fun c o x=>up _ (up _ (up _ (up _ (up _ x))))⟩
 ·cases b <;> exact⟨_,g1,rfl,rfl⟩
 ·cases c2 <;> exact⟨_,g2,rfl,rfl⟩
end
def aIv (K:Ω) (b c2:Bool) (a1 a2:Addr):It :=
 ⟨fun i H=>∃xs ys x y,Sq2 K b H a1 xs/\Sq2 K c2 H a2 ys/\xs[i]?=some x/\ys[i]?=some y,
   fun i H v H'=>∃x y p,v=.ref p/\H p=none/\H'=upd H p (.tup [x,y])/\(∀xs,Sq2 K b H a1 xs->xs[i]?=some x)/\∀ys,Sq2 K c2 H a2 ys->ys[i]?=some y,
   fun i H=>∃xs ys,Sq2 K b H a1 xs/\Sq2 K c2 H a2 ys/\(xs.length<=i\/ys.length<=i)⟩
theorem aHu{K:Ω}(D:CT z ti to j1 j2 a1 a2):
  Turn P w K (.Tuple elts x1 pos) (aIv K b c2 a1 a2) [z,ti,to,j1,j2] z (fun i h=>ZpM b c2 h z ti to j1 j2 a1 a2 i) where
 mem:=by simp
 obj:=fun i h st c hc=>by
  obtain⟨hz,hi,⟨p,q,ho⟩,h1,h2⟩:=st;have:c=z\/c=ti\/c=to\/c=j1\/c=j2:=by simpa using hc
  rcases this with rfl|rfl|rfl|rfl|rfl
  ·exact⟨_,hz,fun v z=>by cases z⟩
  ·exact⟨_,hi,fun v z=>by cases z⟩
  ·exact⟨_,ho,fun v z=>by cases z⟩
  ·exact h1.obj
  ·exact h2.obj
 keep:=fun i h h' st k=>by
  obtain⟨hz,hi,⟨p,q,ho⟩,h1,h2⟩:=st;exact⟨k z (by simp) _ hz,k ti (by simp) _ hi,⟨p,q,k to (by simp) _ ho⟩,h1.keep fun o e=>k j1 (by simp) o e,h2.keep fun o e=>k j2 (by simp) o e⟩
 item:=by
  intro X hP hw hK hc i pins s σ H E I hf st hg;subst hP hw hK;obtain⟨xs,ys,x,y,hq1,hq2,hx,hy⟩:=hg;obtain⟨is1,r1,p1⟩:=I.seq2 hq1;obtain⟨is2,r2,p2⟩:=I.seq2 hq2;obtain⟨u,hu,ru⟩:=r1.get hx;obtain⟨v,hv,rv⟩:=r2.get hy;refine aFw D st p1 p2 (u:=u) (v:=v) (by simpa using hu) (by simpa using hv) fun g gz go g1 g2 gn gk=>⟨_,rfl,?_⟩;refine wpAny_letOwnedTupleGo_zip gz fun h2 z2 s2=>?_;replace s2:Ac z g h2:=s2;have nz:s.heap.objs.size≠z:=zf (Θ st.z);have t2:IsPair h2 s.heap.objs.size u v:=(s2.2 _ nz).trans gn;have k2:∀c o,c∉[z,to,j1,j2]->s.heap.get? c=some o->h2.get? c=some o:=fun c o hc e=>(s2.2 c (fun q=>hc (by simp[q]))).trans (gk c o hc e);have mem:∀c∈[z,to,j1,j2],c∈[z,ti,to,j1,j2]:=fun c hc=>by
   simp only[χ,xq,or_false]at hc ⊢;rcases hc with q|q|q|q <;> simp[q]
  refine⟨.ref s.heap.objs.size,upd H s.heap.objs.size (.tup [x,y]),I.turnedL (t':=s.toks) k2 (fun c hc=>hf c (mem c hc)) (μ _) ⟨(by show 2<=Δ;decide),[u,v],.cons ru (.cons rv .nil),_,t2,rfl,_,rfl⟩,rfl,
   ⟨x,y,_,rfl,I.hok.fresh (μ _),rfl,fun zs hz=>by rw[I.seq2_inj hz hq1];exact hx,fun zs hz=>by rw[I.seq2_inj hz hq2];exact hy⟩,
   ⟨z2,k2 ti _ (by simp[D.TIz,D.TITO,D.TIi1,D.TIi2]) st.ti,⟨_,_,(s2.2 to D.TOz).trans go⟩,g1.keep fun o e=>(s2.2 j1 D.i1z).trans e,g2.keep fun o e=>(s2.2 j2 D.i2z).trans e⟩,fun c hc=>?_⟩
  obtain⟨oc,ec,_⟩ : ∃o,s.heap.get? c=some o/\∀v,o.data≠.cell v:=by
   obtain⟨hz,hi,⟨p,q,ho⟩,h1,h2⟩:=st;have:c=z\/c=ti\/c=to\/c=j1\/c=j2:=by simpa using hc
   rcases this with rfl|rfl|rfl|rfl|rfl
   ·exact⟨_,hz,fun v z=>by cases z⟩
   ·exact⟨_,hi,fun v z=>by cases z⟩
   ·exact⟨_,ho,fun v z=>by cases z⟩
   ·exact h1.obj
   ·exact h2.obj
  rw[jR (wz (Θ ec))];exact(hf c hc).1
 done:=by
  intro X hP hw hK hc i pins s σ H E I hf st hg;subst hP hw hK;obtain⟨xs,ys,hq1,hq2,hl⟩:=hg;obtain⟨is1,r1,p1⟩:=I.seq2 hq1;obtain⟨is2,r2,p2⟩:=I.seq2 hq2;have e1:=r1.length;have e2:=r2.length;have mem:∀c∈[z,to,j1,j2],c∈[z,ti,to,j1,j2]:=fun c hc=>by
   simp only[χ,xq,or_false]at hc ⊢;rcases hc with q|q|q|q <;> simp[q]
  refine aJo (I.ok.hd hc) D st p1 p2 ?_ fun g gk=>⟨rfl,I.turnedL0 (t':=s.toks) gk fun c hc=>hf c (mem c hc)⟩;rcases hl with q|q
  ·exact .inl (by simp;omega)
  ·exact .inr (by simp;omega)
 self:=fun _ _ _ _ _ st h=>wpAny_pyIter_zip st.z h
def iZipM (K:Ω) (b c2:Bool) (ta:TA):TI:=fun σ H R=>ta σ H fun vs H1=>∃a1 a2 xs ys,vs=[.ref a1,.ref a2]/\Sq2 K b H1 a1 xs/\Sq2 K c2 H1 a2 ys/\R (aIv K b c2 a1 a2) H1
def aRf (K:Ω) (ta:TA):TI:=fun σ H R=>∃b c2,iZipM K b c2 ta σ H R
theorem aFu{a c:Expr}(hg:Gl X "zip")(hm:X.mg "zip" = none)(ha:PA X [a,c] ta)(hs:xi [a,c] X.env=(false,eval a X.env)::xi [c] X.env:=by rfl)(hs2:xi [c] X.env=[(false,eval c X.env)]:=by rfl):
  PI X (.Tuple elts x1 tpos) (.Call (.Name "zip" p) [a,c] [] pos) (aRf X.K ta):=by
 intro pins s σ H R I h;obtain⟨b,c2,h⟩:=h;refine Call_ (eR I hg hm (show AG "zip" = some (.type "zip") from by ac_rfl) (Ao (thn (ha pos pins s σ H _ I h) fun us s1 zq=>?_) (by rw[hs,hs2]) (by rw[hs2];rfl)));obtain⟨vs,H1,I1,r1,q1⟩:=zq;obtain⟨a1,a2,xs,ys,e,h1,h2,q⟩:=q1;subst e;obtain⟨u,v,rfl,rx,ry⟩:=vals2 r1;cases rx;cases ry;obtain⟨is1,v1,p1⟩:=I1.seq2 h1;obtain⟨is2,v2,p2⟩:=I1.seq2 h2;have l1:=p1.lt;have l2:=p2.lt;refine aGf p1 p2 fun g gz gk=>wpAny_pyIter_zip gz.z ?_;have D:CT (s1.heap.objs.size+4) (s1.heap.objs.size+2) (s1.heap.objs.size+3) s1.heap.objs.size (s1.heap.objs.size+1) a1 a2:=by
  have A1:(s1.heap.objs.size:Nat)+4=s1.heap.objs.size+4:=rfl;constructor <;> simp <;> first|exact wz (υ l1 (AC _ _))|exact wz (υ l2 (AC _ _))|exact wz l1|exact wz l2|decide
 refine⟨_,_,_,_,H1,rfl,I1.kept (t':=s1.toks) gk,aHu D,gz,fun c hc=>?_,q⟩;have:c=s1.heap.objs.size+4\/c=s1.heap.objs.size+2\/c=s1.heap.objs.size+3\/c=s1.heap.objs.size\/c=s1.heap.objs.size+1:=by simpa using hc
 have ge:s1.heap.objs.size<=c:=by
  rcases this with rfl|rfl|rfl|rfl|rfl <;> first|exact AC _ _|exact μ _
 exact I1.fpOk ge (I1.hok.fresh ge)
theorem aKr{K:Ω}{xs ys:List V}{g:TG}{tb:TS}{D:Ends}{σ:St}{H:Hp}(Pv:Nat->St->Hp->Prop)(he:ys.length=xs.length)(h0:Pv 0 σ H)(hl:∀i σ H,i<=xs.length->Pv i σ H->Sq2 K b H a1 xs/\Sq2 K c2 H a2 ys)
  (hs:∀i x y σ H p,xs[i]?=some x->ys[i]?=some y->Pv i σ H->H p=none->g (.ref p) σ (upd H p (.tup [x,y])) fun σ2 H2=>tb { D with nx:=Pv (i+1),ct:=Pv (i+1),bk:=D.nx } σ2 H2)(hd:∀σ H,Pv xs.length σ H->D.nx σ H):
  ∃W:Nat->Nat->St->Hp->Prop,(∃m,W 0 m σ H)/\∀i m σ H,W i m σ H →
   ((aIv K b c2 a1 a2).stop i H/\D.nx σ H)\/((aIv K b c2 a1 a2).go i H/\∃N:St->Hp->Prop,(∀σ' H',N σ' H'->∃m',m'<m/\W (i+1) m' σ' H')/\∀x H',(aIv K b c2 a1 a2).yld i H x H'->g x σ H' fun σ2 H2=>tb { D with nx:=N,ct:=N,bk:=D.nx } σ2 H2):=by
 refine⟨fun i m σ H=>m=xs.length-i/\i<=xs.length/\Pv i σ H,⟨xs.length,by simp,xy _,h0⟩,?_⟩;rintro i m σ H ⟨rfl,hi,p⟩;obtain⟨q1,q2⟩:=hl i σ H hi p
 by_cases hlt:i<xs.length
 ·have hl2:i<ys.length:=by omega
  refine .inr ⟨⟨xs,ys,xs[i],ys[i],q1,q2,by simp[hlt],by simp[hl2]⟩,Pv (i+1),fun σ' H' p'=>⟨xs.length-(i+1),by omega,rfl,hlt,p'⟩,fun v H' y=>?_⟩;obtain⟨x,y,pa,rfl,hn,rfl,hx,hy⟩:=y;exact hs i x y σ H pa (hx xs q1) (hy ys q2) p hn
 ·have e:i=xs.length:=by omega
  subst e;exact .inl ⟨⟨xs,ys,q1,q2,.inl (μ _)⟩,hd σ H p⟩
theorem aHl{K:Ω}{b:Bool}{xs ys:List V}{k:Nat}{g:TG}{tc:TT}{te:TE}{Q:VK}(P:Nat->List V->Hp->Prop)(he:ys.length=xs.length)(h0:P 0 [] H1)(hl:∀i zs H,i<=xs.length->P i zs H->Sq2 K b H a1 xs/\Sq2 K c2 H a2 ys/\zs.length<=i)(hz:xs.length<Δ)
  (hs:∀i x y zs H p (os:St),os.length=k->xs[i]?=some x->ys[i]?=some y->P i zs H->H p=none->g (.ref p) (os++vI js σ) (upd H p (.tup [x,y])) fun σ3 H3=>tc σ3 H3 fun b H2=>if b=true then te σ3 H2 fun v H3=>iU P i k js σ σ3 (zs++[v]) H3 else iU P i k js σ σ3 zs H2)
  (hd:∀zs H,P xs.length zs H->∀p,H p=none->Q (.ref p) (upd H p (.lst zs))):
  hJ (aIv K b c2 a1 a2) k js g tc te σ Q H1:=by
 refine⟨fun i m σ' zs H=>m=xs.length-i/\i<=xs.length/\P i zs H/\∃os:St,os.length=k/\σ'=os++vI js σ,⟨xs.length,by simp,xy _,h0,Cj k none,AR,rfl⟩,?_⟩;rintro i m σ' zs H ⟨rfl,hi,p,os,ho,rfl⟩;obtain⟨q1,q2,hy⟩:=hl i zs H hi p
 by_cases hlt:i<xs.length
 ·have hl2:i<ys.length:=by omega
  refine .inr ⟨⟨xs,ys,xs[i],ys[i],q1,q2,by simp[hlt],by simp[hl2]⟩,by omega,iU P i k js σ,fun σ3 zs H3 z=>⟨xs.length-(i+1),by omega,rfl,hlt,z.1,z.2⟩,fun v H' y=>?_⟩;obtain⟨x,y,pa,rfl,hn,rfl,hx,hy⟩:=y;exact hs i x y zs H pa os ho (hx xs q1) (hy ys q2) p hn
 ·have e:i=xs.length:=by omega
  subst e;exact .inl ⟨⟨xs,ys,q1,q2,.inl (μ _)⟩,hd zs H p⟩
section
variable {P:za}{w:Af}{A:yr}{E:Value->ι->Prop}{s:ι}
theorem gZ{s:ι}{a:Addr}{Q:Option Obj->ι->Prop}(h:Q (s.heap.get? a) s):Φ M A (loadIfAlive a) Q E s:=fun Γ p hΓ=>by
 unfold loadIfAlive;rw[Sem.wp_loadIfAlive];exact h
abbrev rO (h:yp) (z TI TO:Addr) (f0:Value) (b:Bool):Prop :=
 h.get? z=some { cls:=.type "zip",dict:=none,data:=.fields #[f0,.bool b,.bool false,.ref TI,.ref TO],slots:=#[] }
structure ZpB (b c2 f:Bool) (T:Addr) (h:yp) (z ti to j1 j2 a1 a2:Addr) (n:Nat):Prop where
 z:rO h z ti to (Bc T) f
 ti:IsPair h ti (.ref j1) (.ref j2)
 t:∃o,h.get? T=some o
 i1:yD b h j1 a1 n
 i2:yD c2 h j2 a2 n
theorem aLf{T:Addr}{f:Bool}{z ti to:Addr}{Q:Bool->ι->Prop}(hz:rO s.heap z ti to (Bc T) f)(ht:∃o,s.heap.get? T=some o)(nz:T≠z)
  (k:∀g,rO g z ti to (Bc T) true->(∀c o,c≠z->s.heap.get? c=some o->g.get? c=some o)->g.objs.size=s.heap.objs.size->Q false { s with heap:=g }):Φ (xj P w) A (yk (.ref z)) Q E s:=by
 obtain⟨o,ho⟩:=ht;unfold yk;refine ζ (yw hz rfl (x:=Bc T) rfl ?_);show Φ _ _ (loadIfAlive T >>= fun _=>_) _ _ _;refine ζ (gZ ?_);rw[ho];simp only[Option.isNone_some,AB,if_false];cases f with
 |false =>
  refine ζ (yw hz rfl (x:=.bool false) rfl ?_);rw[if_pos (by decide)];refine ζ (AW hz (by simp) fun e1 z1 s1=>?_);exact τ (k _ z1 (fun c o hc e=>s1.extBut _ _ hc e) s1.1)
 |true =>
  refine ζ (yw hz rfl (x:=.bool true) rfl ?_);rw[if_neg (by decide)];exact τ (k _ hz (fun c o _ e=>e) rfl)
theorem aOf{T:Addr}{Q:Option Value->ι->Prop}(D:CT z ti to j1 j2 a1 a2)(nz:T≠z)(hz:ZpB b c2 f T s.heap z ti to j1 j2 a1 a2 n)
  (g1:vA b s.heap a1 us)(g2:vA c2 s.heap a2 vs)(hu:us[n]?=some u)(hv:vs[n]?=some v)
  (k:∀g,rO g z ti to (Bc T) true->yD b g j1 a1 (n+1)->yD c2 g j2 a2 (n+1)->IsPair g s.heap.objs.size u v->g.objs.size=s.heap.objs.size+1 →
   (∀c o,c∉[z,j1,j2]->s.heap.get? c=some o->g.get? c=some o)->Q (some (.ref s.heap.objs.size)) { s with heap:=g }):Φ (xj P w) A (BY (.ref z)) Q E s:=by
 obtain⟨hz,hi,ht,h1,h2⟩:=hz;have ty:s.TypeIs (.ref z) "zip":=⟨_,hz,rfl⟩;unfold BY;refine ζ (DS (wpAny_callSpecial?_slot (name:=δ "__next__") ty Bn (BH Bn ty DQ ?_ (DA _))));show Φ _ _ (field (.ref z) 2 >>= fun _=>_) _ _ _;refine ζ (yw hz rfl (x:=.bool false) rfl ?_);show Φ _ _ (field (.ref z) 3 >>= fun _=>_) _ _ _;refine ζ (yw hz rfl (x:=.ref ti) rfl ?_);refine ζ (Ay hi rfl ?_);show Φ _ _ (yk (.ref z) >>= fun _=>_) _ _ _;refine ζ (aLf hz ht nz fun e1 z1 x1 sz1=>?_);simp only[AB,if_false];refine ζ ?_;simp only[←Array.forIn_toList,Dc,List.forIn_nil];refine ζ (ζ (yv ?_));show Φ _ _ (yd (.ref j1) >>= fun _=>_) _ _ _;refine ζ (rB (h1.keep fun o e=>x1 _ o D.i1z e) (g1.keep fun o e=>x1 _ o D.l1z e) hu fun e2 m2 s2=>τ ?_);have x2:=s2.extBut;refine τ ?_;refine ζ (ζ (yv ?_));show Φ _ _ (yd (.ref j2) >>= fun _=>_) _ _ _;refine ζ (rB (h2.keep fun o e=>x2 _ o D.i12.symm (x1 _ o D.i2z e)) (g2.keep fun o e=>x2 _ o D.l2i1 (x1 _ o D.l2z e)) hv fun e4 m4 s4=>τ ?_);have x4:=s4.extBut;refine τ (τ ?_);show Φ _ _ (newTuple [u,v] >>= fun _=>_) _ _ _;refine ζ (wpAny_newTuple ?_);refine τ ⟨_,rfl,τ ?_⟩;have sz:e4.objs.size=s.heap.objs.size:=by rw[s4.1,s2.1,sz1]
 show Q (some (.ref e4.objs.size)) _;have lt:∀{c:Addr}{o:Obj},e4.get? c=some o->(e4.push { cls:=.type "tuple",data:=.seq #[u,v] }).get? c=some o:=fun e=>ξ _ e;have up:∀c o,c∉[z,j1,j2]->s.heap.get? c=some o->e4.get? c=some o:=fun c o hc e=>by
  simp only[χ,xq,or_false,not_or]at hc;exact x4 _ _ hc.2.2 (x2 _ _ hc.2.1 (x1 _ _ hc.1 e))
 have z4:rO e4 z ti to (Bc T) true:=x4 _ _ D.i2z.symm (x2 _ _ D.i1z.symm z1);have m24:yD b e4 j1 a1 (n+1):=m2.keep fun o e=>x4 _ o D.i12 e;have tp:(e4.push { cls:=.type "tuple",data:=.seq #[u,v] }).get? e4.objs.size=some { cls:=.type "tuple",data:=.seq #[u,v] }:=xb _ rfl;have szp:(e4.push { cls:=.type "tuple",data:=.seq #[u,v] }).objs.size=e4.objs.size+1:=ze ..;rw[sz]at tp szp;rw[sz];exact k _ (lt z4) (m24.keep fun o e=>lt e) (m4.keep fun o e=>lt e) tp szp fun c o hc e=>lt (up c o hc e)
theorem aTg{T:Addr}{Q:Option Value->ι->Prop}(hh:A.handled=none)(D:CT z ti to j1 j2 a1 a2)(nz:T≠z)(hz:ZpB b c2 f T s.heap z ti to j1 j2 a1 a2 n)
  (g1:vA b s.heap a1 us)(g2:vA c2 s.heap a2 vs)(hend:us[n]?=none)
  (k:∀g,(∀c o,c∉[z,j1,j2]->s.heap.get? c=some o->g.get? c=some o)->Q none { s with heap:=g }):Φ (xj P w) A (BY (.ref z)) Q E s:=by
 obtain⟨hz,hi,ht,h1,h2⟩:=hz;have ty:s.TypeIs (.ref z) "zip":=⟨_,hz,rfl⟩;unfold BY;refine ζ (DS (wpAny_callSpecial?_slot (name:=δ "__next__") ty Bn (BH Bn ty DQ ?_ (DA _))));show Φ _ _ (field (.ref z) 2 >>= fun _=>_) _ _ _;refine ζ (yw hz rfl (x:=.bool false) rfl ?_);show Φ _ _ (field (.ref z) 3 >>= fun _=>_) _ _ _;refine ζ (yw hz rfl (x:=.ref ti) rfl ?_);refine ζ (Ay hi rfl ?_);show Φ _ _ (yk (.ref z) >>= fun _=>_) _ _ _;refine ζ (aLf hz ht nz fun e1 z1 x1 sz1=>?_);simp only[AB,if_false];refine ζ ?_;simp only[←Array.forIn_toList,Dc,List.forIn_nil];refine ζ (ζ (yv ?_));show Φ _ _ (yd (.ref j1) >>= fun _=>_) _ _ _;refine ζ (aKo hh (h1.keep fun o e=>x1 _ o D.i1z e) (g1.keep fun o e=>x1 _ o D.l1z e) hend fun e2 x s2 hx=>?_);obtain⟨ox,ex,cx⟩:=hx;refine ζ (wpAny_isInstance (T:="StopIteration") (b:=true) ⟨ox,ex,cx⟩ isSubtype_stop ?_);refine τ (k _ fun c o hc e=>?_);simp only[χ,xq,or_false,not_or]at hc;exact s2 _ _ hc.2.1 (x1 _ _ hc.1 e)
end
theorem fJ:Ck (.type "zip") "__getattr__" = pure none:=by rw[typeLookup_type,DF];kernel_rfl
theorem lR:Ck (.type "zip") "keys" = pure none:=by rw[typeLookup_type,DF];kernel_rfl
theorem bD:entryFor table "zip.__getattribute__" = some AH.«object.__getattribute__» :=
 entryFor_alias (id':="object.__getattribute__") (by kernel_rfl) (by ac_rfl) (by ac_rfl) (by kernel_rfl)
theorem aB(a:Addr)(fs:Array Value)(sl:Array (Option Value))(name:Str)(u:Tok)(hmiss:Ck (.type "zip") name=pure none)(hname:(["__module__","__name__","__qualname__","__doc__","__annotations__"]:List Str).contains name=false)(hsz:name.length+100<=Δ:=by size_fits):
  Meets (AH.«object.__getattribute__» ⟨[.ref a,.str name u],[]⟩) (fun A R s=>s.heap.get? a=some { cls:=.type "zip",dict:=none,data:=.fields fs,slots:=sl }/\raisesAttr (.ref a) name A R s) :=
 Meets.of_wp fun prog w A R s hs=>by
  obtain⟨hp,g,d,tk,os⟩:=s;obtain⟨hx,hs⟩:=hs;have hT:(⟨hp,g,d,tk,os⟩ : ι).TypeIs (.ref a) "zip":=⟨_,hx,rfl⟩;unfold AH.«object.__getattribute__»
  repeat (any_goals (first|assumption|wp_step))
  simp only[hname,AB,if_false]
  repeat (any_goals (first|assumption|wp_step))
  exact wpAny_raiseAttrError hs.1 hs.2 (attrMsg_fits (by ac_rfl) hsz)
theorem aBt{A:yr}{s:ι}{a:Addr}{Q:Option Value->ι->Prop}
  (hx:s.heap.get? a=some { cls:=.type "zip",dict:=none,data:=.fields fs,slots:=#[] })(hA:A.handled=none)
  (h:∀h' tk e,yp.NewExcOf s.heap h' e "AttributeError"->Q none { s with heap:=h',toks:=tk }):
  Φ (xj prog w) A (getAttr? (.ref a) "keys") Q E s:=by
 obtain⟨hp,g,d,tk,os⟩:=s;have hT:∀tk',(⟨hp,g,d,tk',os⟩ : ι).TypeIs (.ref a) "zip":=fun _=>⟨_,hx,rfl⟩;have f1:=sub_AttributeError;have f3:=Dn.lookup;have f4:=Dn.bind (.ref a);have f5:=fJ;unfold getAttr? getAttrBy? getAttrBy
 repeat (any_goals (first|assumption|exact hT _|((with_reducible show Φ _ _ (call (Value.builtin "zip.__getattribute__") _ _) _ _ _);refine call_meets Dn (hT _) bD (F.args_zip_getattribute_2 _ _) (aB a fs #[] "keys" _ lR (by decide) (by size_fits)) ⟨hx,hA,fun h' tk' e hx'=>?_⟩)|wp_step))
 obtain⟨t',u',he⟩:=hx'.there;show Φ _ _ (getattributeRaised _ _ _ _ _ _ _) _ _ _;unfold getattributeRaised
 repeat (any_goals (first|assumption|wp_step))
 exact h _ _ _ hx'.of
theorem tT:entryFor table "dict.update.loop" = some AH.«dict.update.loop»:=entryFor_of_tree (by kernel_rfl)
theorem fD:plainId "dict.update.loop" = true:=by ac_rfl
def ZS (b c2:Bool) (h:yp) (z ti to j1 j2 a1 a2:Addr) (n:Nat):Prop:=ZpM b c2 h z ti to j1 j2 a1 a2 n\/∃f T,T≠z/\T∉[to,j1,j2]/\(∃o,h.get? to=some o)/\ZpB b c2 f T h z ti to j1 j2 a1 a2 n
section
variable {P:za}{w:Af}{A:yr}{E:Value->ι->Prop}{s:ι}
theorem aSz{Q:Option Value->ι->Prop}(D:CT z ti to j1 j2 a1 a2)(hz:ZS b c2 s.heap z ti to j1 j2 a1 a2 n)
  (g1:vA b s.heap a1 us)(g2:vA c2 s.heap a2 vs)(hu:us[n]?=some u)(hv:vs[n]?=some v)
  (k:∀g,ZS b c2 g z ti to j1 j2 a1 a2 (n+1)->IsPair g s.heap.objs.size u v->(∀c o,c∉[z,to,j1,j2]->s.heap.get? c=some o->g.get? c=some o)->Q (some (.ref s.heap.objs.size)) { s with heap:=g }):Φ (xj P w) A (BY (.ref z)) Q E s:=by
 have tin:ti∉[z,to,j1,j2]:=by simp[D.TIz,D.TITO,D.TIi1,D.TIi2]
 rcases hz with hz|⟨f,T,nz,nT,⟨o',ho'⟩,hz⟩
 ·have l0:z<s.heap.objs.size:=Θ hz.z;obtain⟨p,q,hto⟩:=hz.to;have l1:to<s.heap.objs.size:=Θ hto;obtain⟨o1,e1,_⟩:=hz.i1.obj;obtain⟨o2,e2,_⟩:=hz.i2.obj;have l2:=Θ e1;have l3:=Θ e2;refine aFw D hz g1 g2 hu hv fun g gz go i1 i2 gn fr=>k g (.inr ⟨false,s.heap.objs.size,zf l0,?_,⟨_,go⟩,gz,fr _ _ tin hz.ti,⟨_,gn⟩,i1,i2⟩) gn fr;simp only[χ,xq,or_false,not_or];exact⟨zf l1,zf l2,zf l3⟩
 ·obtain⟨ot,ht⟩:=hz.t;have nT':T∉[z,j1,j2]:=by
   simp only[χ,xq,or_false,not_or]at nT ⊢;exact⟨nz,nT.2.1,nT.2.2⟩
  have tin':ti∉[z,j1,j2]:=by simp[D.TIz,D.TIi1,D.TIi2]
  have to':to∉[z,j1,j2]:=by simp[D.TOz,D.TOi1,D.TOi2]
  refine aOf D nz hz g1 g2 hu hv fun g gz i1 i2 gn _ fr=>k g (.inr ⟨true,T,nz,nT,⟨_,fr _ _ to' ho'⟩,gz,fr _ _ tin' hz.ti,⟨_,fr _ _ nT' ht⟩,i1,i2⟩) gn fun c o hc e=>fr c o (fun m=>hc ?_) e;simp only[χ,xq,or_false]at m ⊢;rcases m with m|m|m
  ·exact .inl m
  ·exact .inr (.inr (.inl m))
  ·exact .inr (.inr (.inr m))
theorem zsEnd{Q:Option Value->ι->Prop}(hh:A.handled=none)(D:CT z ti to j1 j2 a1 a2)(hz:ZS b c2 s.heap z ti to j1 j2 a1 a2 n)
  (g1:vA b s.heap a1 us)(g2:vA c2 s.heap a2 vs)(hend:us[n]?=none)
  (k:∀g,(∀c o,c∉[z,to,j1,j2]->s.heap.get? c=some o->g.get? c=some o)->Q none { s with heap:=g }):Φ (xj P w) A (BY (.ref z)) Q E s:=by
 rcases hz with hz|⟨f,T,nz,nT,_,hz⟩
 ·exact aJo hh D hz g1 g2 (.inl hend) k
 ·refine aTg hh D nz hz g1 g2 hend fun g fr=>k g fun c o hc e=>fr c o (fun m=>hc ?_) e;simp only[χ,xq,or_false]at m ⊢;rcases m with m|m|m
  ·exact .inl m
  ·exact .inr (.inr (.inl m))
  ·exact .inr (.inr (.inr m))
end
def aGi (xs:List Str) (vs:List Value) (kvs:List (Key×Value)):List (Key×Value):=(xs.zip vs).foldl (fun acc p=>stored acc (.inr p.1) p.2) kvs
section
variable {P:za}{w:Af}{A:yr}{R:Result->ι->Prop}
theorem aSn{d:Addr}{xs:List Str}{us vs:Array Value}(hh:A.handled=none)(D:CT z ti to j1 j2 a1 a2)(hd:d∉[z,ti,to,j1,j2,a1,a2])(hx:∀(i:Nat) (x:Str),xs[i]?=some x->∃t,us[i]?=some (.str x t))(hl:xs.length=us.size)(hv:vs.size=us.size)(hb:us.size<=100):
  ∀(m n:Nat) (i:Int) (kvs:List (Key×Value)) (s:ι),us.size-n=m->n<=us.size->kvs.length<=n->ZS b c2 s.heap z ti to j1 j2 a1 a2 n->vA b s.heap a1 us->vA c2 s.heap a2 vs->s.heap.DictOf (kU P w) d kvs →
   (∀(h':yp) (tk:Nat),h'.DictOf (kU P w) d (aGi (xs.drop n) (vs.toList.drop n) kvs)->(∀c o,c∉[z,to,j1,j2,d]->s.heap.get? c=some o->h'.get? c=some o)->R (.ok (.ret .none)) { s with heap:=h',toks:=tk }) →
   Cu (xj P w) A (.builtin "dict.update.loop" ⟨[.ref d,.ref z,Bc i,.none],[]⟩) R s:=by
 intro m
 induction m with
 |zero =>
  intro n i kvs s hm hn hk zs g1 g2 dd hR;have hin:n=us.size:=by omega
  refine Da tT ?_;rw[Cr fD _];show Φ _ A.in1 (BY (.ref z) >>= _) _ _ s;refine ζ (zsEnd hh D zs g1 g2 (by rw[hin];simp) fun g fr=>?_);show Φ _ _ (AH.Dict.addKeywords d [] >>= _) _ _ _;refine ζ (τ (τ ?_));have e0:aGi (xs.drop n) (vs.toList.drop n) kvs=kvs:=by
   rw[BS (by omega)];rfl
  refine hR g s.toks ?_ fun c o hc e=>fr c o (fun m=>hc ?_) e
  ·rw[e0];obtain⟨o,es,ep,ho,rest⟩:=dd;refine⟨o,es,ep,fr _ _ (fun m=>hd ?_) ho,rest⟩;simp only[χ,xq,or_false]at m ⊢;rcases m with m|m|m|m <;> simp[m]
  ·simp only[χ,xq,or_false]at m ⊢;rcases m with m|m|m|m <;> simp[m]
 |succ m ih =>
  intro n i kvs s hm hn hk zs g1 g2 dd hR;have hlt:n<us.size:=by omega
  have hxn:n<xs.length:=by omega
  obtain⟨t,hu⟩:=hx n xs[n] (ν hxn);have hvn:vs[n]?=some vs[n]:=by simp[hv,hlt]
  refine Da tT ?_;rw[Cr fD _];show Φ _ A.in1 (BY (.ref z) >>= _) _ _ s;refine ζ (aSz D zs g1 g2 hu hvn fun g zs' pr fr=>?_);show Φ _ _ (CU [xg s.heap.objs.size] _ >>= _) _ _ _;refine ζ (yv (ζ (wpAny_tryCatch ?_)));unfold AH.Dict.pairItems;have hT:({ s with heap:=g } : ι).TypeIs (.ref s.heap.objs.size) "tuple":=⟨_,pr,rfl⟩;refine ζ (wpAny_typeOf hT ?_);rw[if_pos (by decide)];refine ζ (Ay pr rfl (τ ?_));show Φ _ _ (CU [Value.str xs[n] t,vs[n]] (dictSet d (.str xs[n] t) vs[n])) _ _ _;have frd:∀{c:Addr},c∈[z,to,j1,j2]->c∈[z,to,j1,j2,d]:=fun {c} m=>by
   simp only[χ,xq,or_false]at m ⊢;rcases m with m|m|m|m <;> simp[m]
  have dd':g.DictOf (kU P w) d kvs:=by
   obtain⟨o,es,ep,ho,rest⟩:=dd;refine⟨o,es,ep,fr _ _ (fun m=>hd ?_) ho,rest⟩;simp only[χ,xq,or_false]at m ⊢;rcases m with m|m|m|m <;> simp[m]
  refine yv (wpAny_dictSet_pairs (knd:=kU P w) (k:=Az xs[n]) (mT (k:=Az xs[n]) ⟨t,rfl⟩) dd' (fun h' dd2 sb=>?_) (by rw[ς];omega));have ls:(stored kvs (Az xs[n]) vs[n]).length<=n+1:=by
   unfold stored
   split
   ·rw[ε];omega
   ·rw[η,xm];omega
  have nd:∀c,c∈[z,ti,to,j1,j2,a1,a2]->c≠d:=fun c hc e=>hd (e ▸ hc);have kp:∀c o,c≠d->g.get? c=some o->h'.get? c=some o:=fun c o hc e=>sb.extBut _ _ hc e;have zs2:ZS b c2 h' z ti to j1 j2 a1 a2 (n+1):=by
   rcases zs' with q|⟨f,T,nz,nT,⟨o',ho'⟩,q⟩
   ·obtain⟨p,q',ho⟩:=q.to;exact .inl ⟨kp _ _ (nd _ (by simp)) q.z,kp _ _ (nd _ (by simp)) q.ti,⟨p,q',kp _ _ (nd _ (by simp)) ho⟩,q.i1.keep fun o e=>kp _ _ (nd _ (by simp)) e,q.i2.keep fun o e=>kp _ _ (nd _ (by simp)) e⟩
   ·refine .inr ⟨f,T,nz,nT,⟨o',kp _ _ (nd _ (by simp)) ho'⟩,kp _ _ (nd _ (by simp)) q.z,kp _ _ (nd _ (by simp)) q.ti,?_,q.i1.keep fun o e=>kp _ _ (nd _ (by simp)) e,q.i2.keep fun o e=>kp _ _ (nd _ (by simp)) e⟩;obtain⟨o,ho⟩:=q.t
    by_cases e:T=d
    ·rw[e];obtain⟨o2,_,_,h2,_⟩:=dd2;exact⟨o2,h2⟩
    ·exact⟨o,kp _ _ e ho⟩
  have a1n:a1∉[z,to,j1,j2]:=by simp[D.l1z,D.l1TO,D.l1i1,D.l1i2]
  have a2n:a2∉[z,to,j1,j2]:=by simp[D.l2z,D.l2TO,D.l2i1,D.l2i2]
  refine τ ⟨plainId_quiet fD _,ih (n+1) (i+1) _ _ (by omega) (by omega) ls zs2 (g1.keep fun o e=>kp _ _ (nd _ (by simp)) (fr _ _ a1n e)) (g2.keep fun o e=>kp _ _ (nd _ (by simp)) (fr _ _ a2n e)) dd2 fun h2 tk dd3 fr2=>?_⟩;refine hR h2 tk ?_ fun c o hc e=>fr2 c o hc (kp _ _ (fun z=>hc (by simp[z])) (fr _ _ (fun m=>hc (frd m)) e));have e1:xs.drop n=xs[n]::xs.drop (n+1):=zu hxn;have e2:vs.toList.drop n=vs[n]::vs.toList.drop (n+1):=zu (by simpa using (show n<vs.size by omega));rw[e1,e2];exact dd3
end
section
variable {P:za}{w:Af}{A:yr}{E:Value->ι->Prop}{s:ι}
theorem sT{xs:List Str}{Q:Value->ι->Prop}(hh:A.handled=none)(D:CT z ti to j1 j2 a1 a2)(hz:ZpM b c2 s.heap z ti to j1 j2 a1 a2 0)(g1:vA b s.heap a1 us)(g2:vA c2 s.heap a2 vs)
  (hx:∀(i:Nat) (x:Str),xs[i]?=some x->∃t,us[i]?=some (.str x t))(hl:xs.length=us.size)(hv:vs.size=us.size)(hb:us.size<=100)
  (h:∀(h':yp) (tk:Nat),h'.DictOf (kU P w) s.heap.objs.size (aGi xs vs.toList [])->(∀c o,c∉[z,to,j1,j2]->s.heap.get? c=some o->h'.get? c=some o)->Q (.ref s.heap.objs.size) { s with heap:=h',toks:=tk }):
  Φ (xj P w) A (call (.type "dict") [.ref z]) Q E s:=by
 refine callType_codes (Q₁:=fun obj s₁=>obj=.ref s.heap.objs.size/\s₁ = { s with heap:=s.heap.push { cls:=.type "dict",data:=.dict #[] } }) F.kt_called_dict (F.kt_typeCall_dict_1 _) F.entry_dict_init (kt_code_dict_new _ ⟨rfl,rfl⟩) ?_;rintro obj s₁ ⟨rfl,rfl⟩;have hnew:(s.heap.push { cls:=.type "dict",data:=.dict #[] }).DictOf (kU P w) s.heap.objs.size []:=yp.DictOf.new s.heap;have up:∀c o,s.heap.get? c=some o->(s.heap.push { cls:=.type "dict",data:=.dict #[] }).get? c=some o:=fun c o e=>ξ _ e;have hz':IsZip (s.heap.push { cls:=.type "dict",data:=.dict #[] }) z ti to .none:=up _ _ hz.z;refine⟨hnew.typeIs,F.args_dict_init_2 _ _,?_⟩;unfold AH.«dict.__init__»;refine ζ ?_;unfold AH.Dict.selfAndRest;refine ζ (wpAny_notOrdered_dict hnew.typeIs ?_);show Φ _ _ (pure (s.heap.objs.size,[xg z])) _ _ _;refine τ ?_;show Φ _ _ (AH.Dict.updateFrom "dict.__init__" s.heap.objs.size (.ref z) [] .none) _ _ _;unfold AH.Dict.updateFrom;refine ζ (wpAny_typeOf (T:="zip") ⟨_,hz',rfl⟩ ?_);rw[if_pos (by decide)];refine ζ (aBt hz' hh fun h1 tk e ne=>?_);simp only[Option.isNone_none,if_true];have kp:∀c o,s.heap.get? c=some o->h1.get? c=some o:=fun c o q=>ne.keeps _ _ (up _ _ q);refine ζ (wpAny_rule ?_);refine ζ (wpAny_pyIter_zip (kp _ _ hz.z) ?_);obtain⟨p,q,ho⟩:=hz.to;have z1:ZpM b c2 h1 z ti to j1 j2 a1 a2 0:=⟨kp _ _ hz.z,kp _ _ hz.ti,⟨p,q,kp _ _ ho⟩,hz.i1.keep fun o e=>kp _ _ e,hz.i2.keep fun o e=>kp _ _ e⟩;have dd1:h1.DictOf (kU P w) s.heap.objs.size []:=by
  obtain⟨o,es,ep,ho,rest⟩:=hnew;exact⟨o,es,ep,ne.keeps _ _ ho,rest⟩
 obtain⟨o1,e1,_⟩:=hz.i1.obj;obtain⟨o2,e2,_⟩:=hz.i2.obj;have hd:s.heap.objs.size∉[z,ti,to,j1,j2,a1,a2]:=by
  simp only[χ,xq,or_false,not_or];exact⟨zf (Θ hz.z),zf (Θ hz.ti),zf (Θ ho),zf (Θ e1),zf (Θ e2),zf g1.lt,zf g2.lt⟩
 refine τ ⟨plainId_quiet fD _,aSn (A:=A.in1) hh D hd hx hl hv hb us.size 0 0 [] _ rfl (xy _) (μ _) (.inl z1) (g1.keep fun o e=>kp _ _ e) (g2.keep fun o e=>kp _ _ e) dd1 fun h' tk' dd fr=>⟨rfl,h h' tk' dd fun c o hc e=>fr c o (fun m=>?_) (kp _ _ e)⟩⟩;simp only[χ,xq,or_false]at m hc;rcases m with m|m|m|m|m
 ·exact hc (.inl m)
 ·exact hc (.inr (.inl m))
 ·exact hc (.inr (.inr (.inl m)))
 ·exact hc (.inr (.inr (.inr m)))
 ·exact absurd (Θ e) (by rw[m];exact Ak _)
end
theorem aBj:∀{xs ys:List Str}{us:List Value}{kvs:List (Key×V)}{vs:List (Key×Value)},xs.length=ys.length->kG (ys.map V.str) us->KV kvs vs->KV (vT kvs (zo (fun x y=>((.inr x:Key),V.str y)) xs ys)) (aGi xs us vs)
 |[],_,_,_,_,_,_,r=>r
 |x::xs,[],_,_,_,h,_,_=>by simp at h
 |x::xs,y::ys,us,kvs,vs,h,hv,r=>by
  rw[zc]at hv;cases hv with
  | @cons _ _ u us' ru rs =>
   exact aBj (xs:=xs) (ys:=ys) (by simpa using h) rs (r.put (.inr x) ru)
def tDZip (K:Ω) (ta:TA):TE:=fun σ H Q=>ta σ H fun vs H1=>∃(b c2:Bool) (a1 a2:Addr) (xs ys:List Str),vs=[.ref a1,.ref a2]/\Sq2 K b H1 a1 (xs.map V.str)/\Sq2 K c2 H1 a2 (ys.map V.str)/\xs.length=ys.length/\xs.length<=100 ∧
 ∀d,H1 d=none->Q (.ref d) (upd H1 d (.dK (vT [] (zo (fun x y=>((.inr x:Key),V.str y)) xs ys))))
theorem aNh{a c:Expr}(hgd:Gl X "dict")(hmd:X.mg "dict" = none)(hg:Gl X "zip")(hm:X.mg "zip" = none)(hc:X.calm=true)(ha:PA X [a,c] ta)
  (hs:xi [a,c] X.env=(false,eval a X.env)::xi [c] X.env:=by rfl)(hs2:xi [c] X.env=[(false,eval c X.env)]:=by rfl)
  (hs3:xi [.Call (.Name "zip" p2) [a,c] [] pos2] X.env=(false,eval (.Call (.Name "zip" p2) [a,c] [] pos2) X.env)::xi [] X.env:=by rfl):
  PE X (.Call (.Name "dict" p) [.Call (.Name "zip" p2) [a,c] [] pos2] [] pos) (tDZip X.K ta):=by
 intro pins s σ H Q I h;refine AA (eR I hgd hmd (show AG "dict" = some (.type "dict") from by ac_rfl) ?_ (by decide) (by decide));refine Ao ?_ hs3 rfl;rw[hs3];show Φ _ _ (spliced ((false,eval (.Call (.Name "zip" p2) [a,c] [] pos2) X.env)::AQ pos (xi [] X.env))) _ _ s;refine Bs ?_;refine AA (eR I hg hm (show AG "zip" = some (.type "zip") from by ac_rfl) ?_ (by decide) (by decide));refine Ao (thn (ha pos2 pins s σ H _ I h) fun us s1 zq=>?_) hs (by rw[hs2];rfl);obtain⟨vs,H1,I1,r1,q1⟩:=zq;obtain⟨b,c2,a1,a2,xs,ys,e,h1,h2,hl,hb,q⟩:=q1;subst e;obtain⟨u,v,rfl,rx,ry⟩:=vals2 r1;cases rx;cases ry;obtain⟨is1,v1,k1⟩:=I1.seq2 h1;obtain⟨is2,v2,k2⟩:=I1.seq2 h2;have l1:=k1.lt;have l2:=k2.lt;have n1:=v1.length;have n2:=v2.length;rw[ε]at n1 n2;refine aGf k1 k2 fun g gz gk=>?_;have D:CT (s1.heap.objs.size+4) (s1.heap.objs.size+2) (s1.heap.objs.size+3) s1.heap.objs.size (s1.heap.objs.size+1) a1 a2:=by
  constructor <;> simp <;> first|exact wz (υ l1 (AC _ _))|exact wz (υ l2 (AC _ _))|exact wz l1|exact wz l2|decide
 refine Dr ?_;refine sT (xs:=xs) (I1.ok.hd hc) D gz (k1.keep fun o e=>gk _ _ e) (k2.keep fun o e=>gk _ _ e) (fun i x hx=>?_) (by rw[ψ];omega) (by rw[ψ,ψ];omega) (by rw[ψ];omega) fun h' tk dd fr=>?_
 ·obtain⟨u,hu,ru⟩:=v1.get (x:=V.str x) (i:=i) (by rw[xw,hx];rfl);obtain⟨t,rfl⟩:=ru;exact⟨t,by simpa using hu⟩
 have gs:s1.heap.objs.size<=g.objs.size:=by
  have:=Θ gz.z;exact BL (zx (AC _ _) this)
 have keep:∀b o,s1.heap.get? b=some o->h'.get? b=some o:=fun b o e=>by
  have lb:=Θ e;refine fr b o ?_ (gk _ _ e);simp only[χ,xq,or_false,not_or];exact⟨wz (υ lb (AC _ _)),wz (υ lb (AC _ _)),wz lb,wz (υ lb (AC _ _))⟩
 have hz:(vT [] (zo (fun x y=>((.inr x:Key),V.str y)) xs ys)).length<=Δ:=by
  have h1:=yX (zo (fun x y=>((.inr x:Key),V.str y)) xs ys) [];rw[Bm,CF]at h1;rw[ς];omega
 refine⟨.ref g.objs.size,_,I1.laid (a:=g.objs.size) (o:=.dK (vT [] (zo (fun x y=>((.inr x:Key),V.str y)) xs ys))) (t':=tk) keep gs ?_,rfl,q _ (I1.hok.fresh gs)⟩;exact pB hz (beq_eq_false_iff_ne.mpr (Ag (wz (υ I1.big gs)))) (aBj hl v2 .nil) (by simpa using dd)
theorem aEy{X:Cx}{K:Ω}(hK:X.K=K):OpR X (Ab .In) (rIn K false):=hK ▸ vN
theorem aPh{X:Cx}(hu:X.A.units+64<cLine):OpR X (Ab .NotEq) (fun x y H Q=>∃(a b:Addr) (o:Option Str) (z:Str),x=.ref a/\y=.ref b/\SqL X.K H a (o.toList.map V.str)/\SqL X.K H b [.str z]/\Q (.bl (!decide (o=some z))) H):=by
 intro pins s σ H x y v u Q I rx ry h;obtain⟨a,b,o,z,rfl,rfl,ha,hb,q⟩:=h;cases rx;cases ry;obtain⟨i1,r1,p1,_⟩:=I.list ha;obtain⟨i2,r2,p2,_⟩:=I.list hb;show Φ _ _ (richCompare .NotEq (.ref a) (.ref b)) _ _ _;cases r2 with
 |cons rz rt =>
  cases rt;obtain⟨t,rfl⟩:=rz;cases o with
  |none =>
   cases r1;refine SeqAt.RcNeAt.lists_lengths p1.isList p2.isList (by simp) (by omega) _ _ _ _ ?_;exact⟨.bl true,H,I,rfl,q⟩
  |some w =>
   cases r1 with
   |cons rw' rt' =>
    cases rt';obtain⟨t',rfl⟩:=rw';refine SeqAt.RcNeAt.lists (e:=fun _=>w == z) p1.isList p2.isList rfl (by omega) (fun j h1 h2=>?_) _ _ _ _ ?_
    ·obtain rfl:j=0:=by simp at h1;omega
     exact yq.str_str w t' z t
    ·refine⟨.bl (!decide (w=z)),H,I,?_,?_⟩
     ·show RelV _ _
      by_cases e:w=z
      ·subst e;simp[RelV]
      ·simp[RelV,e]
     ·rw[show(decide (w=z))=decide (some w=some z) by simp];exact q
section
variable {X:Cx}
def PHs (X:Cx) (hs:List ExceptHandler) (t:Ends->St->Addr->Hp->Prop):Prop :=
 ∀(pins:List (Addr×Obj)) (σ:St) (H:Hp) (s:ι) (e C:Addr) (dx:Option Addr) (T:Addr) (v:Value) (D:Ends),(X.calm=true->X.A.handled=none) →
  Fly { X with pn:=X.pn++pins,xe:=fun _ _=>False } [] σ H s e C dx T (some v)->t D σ e H->Φ (xj X.prog X.w) X.A (handleBy (.ref e) X.env hs) (SP X pins D) X.xe s
theorem aSr:PHs X [] (fun _ _ _ _=>False):=fun _ _ _ _ _ _ _ _ _ _ _ _ h=>h.elim
def tHs (K:Ω) (Cn:Addr) (i:Nat) (ts:TS) (tr:Ends->St->Addr->Hp->Prop):Ends->St->Addr->Hp->Prop:=fun D σ e H=>∃C dx bm,H e=some (ExF e C dx)/\XCls K C bm ∧
 (((xg C::bm).contains (.ref Cn)=true/\ts { nx:=fun σ2 H2=>D.nx (σ2.set i none) H2,rt:=D.rt,bk:=fun σ2 H2=>D.bk (σ2.set i none) H2,ct:=fun σ2 H2=>D.ct (σ2.set i none) H2 } (σ.set i (some (.ref e))) H) ∨
  ((xg C::bm).contains (.ref Cn)=false/\tr D σ e H))
theorem aAb{b0:Stmt}{suite:List Stmt}{rest:List ExceptHandler}{cn n:Str}{Cn:Addr}{i:Nat}{ts:TS}{tr:Ends->St->Addr->Hp->Prop}{p hp:Pos}(hg:Gl X cn)(hm:X.mg cn=some (.ref Cn)){bmn:List Value}(hcl:XCls X.K Cn bmn)
  (hN:X.N.Nodup)(hi:X.N[i]?=some n)(hn:X.env.scope.names.lookup n=some .local)(hs:∀e,PSs (XH X e) (b0::suite) ts)(hr:PHs X rest tr)(hdb:(cn == ("__debug__" : Str))=false:=by decide):
  PHs X (.ExceptHandler (some (.Name cn p)) (some n) (b0::suite) hp::rest) (tHs X.K Cn i ts tr):=by
 intro pins σ' H' s2 e C dx T fv D hdl y2 hh;obtain⟨C',dx',bm,hat,hxc,hsu⟩:=hh;have eqs:C'=C/\dx'=dx:=by
  have z:=y2.at_.symm.trans hat;obtain⟨⟨oe,vs,a1,a2,a3,_⟩,_⟩:=y2.inv.hok e _ y2.at_;obtain⟨⟨oe',vs',b1,b2,b3,_⟩,_⟩:=y2.inv.hok e _ hat;rw[a1]at b1;cases b1;exact⟨by rw[a2]at b2;exact(xg.inj b2).symm,b3.symm.trans a3⟩
 obtain⟨rfl,rfl⟩:=eqs;have x2:=y2.xc;have I2:Inv X pins σ' H' s2:=y2.inv.back (fun q hq=>by rw[ya];exact hq);refine wpAny_handleBy_cons (codeAny_handlers_test ?_) (by intro z;cases z);refine fA (X:=XH X e) (I2.toH e) hg hm ?_ hdb;obtain⟨oe,vs,he,oc,_⟩:=id x2;have match_:∀{Q:Bool->ι->Prop}{E:Value->ι->Prop}{b:Bool},(xg C'::bm).contains (.ref Cn)=b->Q b s2->Φ (xj X.prog X.w) (X.A.mark (some (.ref e))) (excMatches (.ref e) (.ref Cn)) Q E s2:=fun {Q E b} hb q=>by
  obtain⟨nm1,q1,N1,bs1,hd1,sn1,su1,ab1,co1,dd1,j0,j1,j2,j3,j5,ni1,lk1⟩:=hxc.obj;obtain⟨nm2,q2,N2,bs2,hd2,sn2,su2,ab2,co2,dd2,l0,l1,l2,l3,l5,ni2,lk2⟩:=hcl.obj;exact aQy (I2.kIn _ _ lk1) (I2.kIn _ _ lk2) hcl.b he oc hb q
 rcases hsu with⟨hmro,hsu⟩|⟨hmro,hrest⟩
 ·refine match_ hmro ?_;refine codeAny_handlers_suite_as ?_;refine lY x2 fun h3 x3 m3=>?_;have y3:=y2.moved (h':=h3) (fun b o q ne nT=>⟨fun _=>(m3 b o q ne nT).1 (by simp),(m3 b o q ne nT).2⟩) (.inl rfl) x3;have I3:Inv X pins σ' H' { s2 with heap:=h3 }:=y3.inv.back (fun q hq=>by rw[ya];exact hq);refine fE (X:=XH X e) (I3.toH e) hN hi (.inl hn) (v:=.ref e) rfl (fun s4 I4 _=>?_) (.inr hn);refine ym (hs e pins s4 _ H' _ I4 hsu) (fun fl5 s5 hf=>?_) fun _ _ z=>z.elim;have fin:∀{σ5:St}{H5:Hp}{P5:ι->Prop},Inv (XH X e) pins σ5 H5 s5->(∀s6,Inv X pins (σ5.set i none) H5 s6->P5 s6) →
    Φ (xj X.prog X.w) X.A (do bindName X.env n .none;unbindBehindTheSuite X.env n hp) (fun _ s6=>P5 s6) X.xe s5:=fun {σ5 H5 P5} J q=>by
   have J':Inv X pins σ5 H5 s5:=J.ofH hdl;refine ζ (wpAny_bindName (fE (X:=X) J' hN hi (.inl hn) (v:=.non) rfl (fun s6 J6 _=>?_) (.inr hn)));obtain⟨m,hm6,hl6⟩:=id J6.loc;have hv:∃v,m n=some v:=by
    have hiσ:i<σ5.length:=by rw[J'.len];exact(θ.mp hi).1
    obtain⟨u,_,l⟩:=hl6 i n .non hi (by rw[Dq hiσ]) (.inl hn);rcases l with⟨_,z⟩|⟨z,_⟩
    ·exact⟨u,z⟩
    ·have hn':X.env.kindOf n=some .local:=hn;rcases z with z|z <;> (rw[hn']at z;cases z)
   obtain⟨v,hv⟩:=hv;unfold unbindBehindTheSuite;refine CO (wpAny_unbindName_local hn hm6 hv (by rw[J'.ok.kind];rfl) fun h7 u7 hn7 sb7=>?_);have:=J6.unbound hN hi hm6 hl6 hn7 sb7;rw[List.set_set]at this;exact q _ this
  cases fl5 with
  |next=>obtain⟨σ5,H5,J,q⟩:=hf;exact fin J fun s6 J6=>⟨_,H5,J6,q⟩
  |brk=>obtain⟨σ5,H5,J,q⟩:=hf;exact fin J fun s6 J6=>⟨_,H5,J6,q⟩
  |cont=>obtain⟨σ5,H5,J,q⟩:=hf;exact fin J fun s6 J6=>⟨_,H5,J6,q⟩
  |ret u=>obtain⟨v,σ5,H5,J,r,q⟩:=hf;exact fin J fun s6 J6=>⟨v,_,H5,J6,r,q⟩
 ·exact match_ hmro (hr pins σ' H' s2 e C' dx' T fv D hdl y2 hrest)
def tTryH (tb:(St->Prop)->XK->TS) (th:Ends->St->Addr->Hp->Prop):TS:=fun D σ H=>∃(S:St->Prop) (W:XK),tb S W D σ H/\∀(σ':St) (e:Addr) (H':Hp),S σ'->W (.ref e) none H'->th D σ' e H'
theorem aPl{h0:ExceptHandler}{hs:List ExceptHandler}{tb:(St->Prop)->XK->TS}(hst:X.stack=X.env::X.outer)(hfr:X.env.frame=some X.env.locals)
  (hb:∀pn S W,PSs (XB X pn S W) body (tb S W))(hh:PHs X (h0::hs) th):PS X (.Try body (h0::hs) [] [] pos) (tTryH tb th):=by
 intro pins s σ H D I h;obtain⟨S,W,hbody,hW'⟩:=h;refine wpAny_Try_except (ym (hb (X.pn++pins) S W [] s σ H D (I.re (X.pn++pins) [] _ (fun q hq=>by rwa [ya]at hq)) hbody) (fun f s1 hf=>?_) fun ev s1 hx=>?_)
 ·have bk:∀{σ':St}{H':Hp},Inv (XB X (X.pn++pins) S W) [] σ' H' s1->Inv X pins σ' H' s1:=fun {σ' H'} J=>J.back (fun q hq=>by rw[ya];exact hq);cases f with
  |next =>
   obtain⟨σ',H',J,q⟩:=hf;exact CV ⟨σ',H',bk J,q⟩
  |brk=>obtain⟨σ',H',J,q⟩:=hf;exact⟨σ',H',bk J,q⟩
  |cont=>obtain⟨σ',H',J,q⟩:=hf;exact⟨σ',H',bk J,q⟩
  |ret u=>obtain⟨v,σ',H',J,r,q⟩:=hf;exact⟨v,σ',H',bk J,r,q⟩
 ·obtain⟨e,C,dx,T,fl,σ',H',rfl,y,hfl,hS,hW⟩:=hx;have hA:X.A.frames=some (X.env::X.outer):=hst ▸ I.ok.frames;have ff:s1.heap.FunFrames X.base (X.env::X.outer):=hst ▸ y.inv.stack;refine aFt hA hfr ff y.xc (hfl.imp id .inl) fun h1 T1 q1 x1 m1=>?_;have y1:=y.moved (by show Mv (frs X.stack) _ _ _ _;rw[hst];exact m1) q1 x1;refine lY x1 fun h2 x2 m2=>?_;have y2:=y1.moved (h':=h2) (fun b o q ne nT=>⟨fun _=>(m2 b o q ne nT).1 (by simp),(m2 b o q ne nT).2⟩) (.inl rfl) x2;exact hh pins σ' H' _ e C dx T1 _ D I.ok.hd y2 (hW' σ' e H' hS hW)
theorem aHc:MtR X "dict.update" (fun x vs H Q=>∃(a b:Addr) (kvs more:List (Key×V)),x=.ref a/\vs=[.ref b]/\a≠b/\H a=some (.dK kvs)/\H b=some (.dK more)/\kvs.length+more.length<=Δ/\Q .non (upd H a (.dK (vT kvs more)))):=by
 intro pins s σ H x vs v us Q I rx rv h;obtain⟨a,b,kvs,more,rfl,rfl,ne,ha,hb,hz,q⟩:=h;cases rx;obtain⟨u,rfl,ru⟩:=vals1 rv;cases ru;obtain⟨z1,hd1,vs1,r1,dd1⟩:=aAr I.hok ha;obtain⟨z2,hd2,vs2,r2,dd2⟩:=aAr I.hok hb;refine call_meetsIn PySem.F.slot_dict_update dd1.typeIs PySem.F.entry_dict_update (PySem.F.args_dict_update_2 _ _) (meets_dict_update (kU X.prog X.w) a b ne hd2)
  ⟨vs1,vs2,dd1,dd2,(by rw[←r1.length,←r2.length];exact hz),fun h' dd' _ hs=>⟨.non,_,?_,rfl,q⟩⟩
 have he:∃q,h'.get? a=some q:=let ⟨q,_,_,hq,_⟩:=dd'; ⟨q,hq⟩;exact wA (t':=s.toks) I (by rw[ha];exact yg) hs he (pB (yb (yX more kvs) hz) hd1 (r2.merge r1) dd')
end
section
variable {X:Cx}
def PEt (X:Cx) (e:Expr) (t:TE):Prop :=
 ∀(pins:List (Addr×Obj)) (s:ι) (σ:St) (H:Hp) (Q:VK),Inv X pins σ H s->1<=s.toks->t σ H Q->Φ (xj X.prog X.w) X.A (eval e X.env) (EP X pins σ Q) X.xe s
def PSt (X:Cx) (st:Stmt) (t:TS):Prop :=
 ∀(pins:List (Addr×Obj)) (s:ι) (σ:St) (H:Hp) (D:Ends),Inv X pins σ H s->1<=s.toks->t D σ H->Φ (xj X.prog X.w) X.A (exec st X.env) (SP X pins D) X.xe s
def aHr (X:Cx) (st:List Stmt) (t:TS):Prop :=
 ∀(pins:List (Addr×Obj)) (s:ι) (σ:St) (H:Hp) (D:Ends),Inv X pins σ H s->1<=s.toks->t D σ H->Φ (xj X.prog X.w) X.A (execs st X.env) (SP X pins D) X.xe s
theorem aHv{st:Stmt}{rest:List Stmt}{t u:TS}(h1:PSt X st t)(h2:PSs X rest u):aHr X (st::rest) (qV t u):=by
 intro pins s σ H D I hk h;refine wpAny_execs_cons (thn (h1 pins s σ H { D with nx:=u D } I hk h) fun f s1 q=>?_);cases f with
 |next =>
  obtain⟨σ',H',I',q⟩:=q;exact h2 pins s1 σ' H' D I' q
 |ret v=>exact q
 |brk=>exact q
 |cont=>exact q
theorem aNb{i:Nat}{pos:Pos}(hN:X.N.Nodup)(hi:X.N[i]?=some x)(hx:Loc X.env.scope x)(he:PEt X e te)(hs:swapsWith e (some (.Name x pos')) pos.line X.env=pure false:=by rfl)(hf:X.fn x=true\/X.env.scope.names.lookup x=some .local:=by first|exact .inl rfl|exact .inr rfl|assumption):
  PSt X (.Assign [.Name x pos'] e pos) (aMc te (cZ i)):=by
 intro pins s σ H D I hk h;refine wpAny_Assign_Name (thn (he pins s σ H _ I hk h) fun v s1 zq=>?_) hs;obtain⟨y,H1,I1,r1,q1⟩:=zq;exact pK I1 hN hi hx r1 (fun s2 I2=>⟨_,H1,I2,q1⟩) hf
variable {o e:Expr}{es:List Expr}{to:TE}{t:TA}{name:Str}{apos cpos:Pos}{T id:String}{r:V->List V->Hp->VK->Prop}
theorem aTb(pa:PlainAttrs T)(slot:Slot T name id)(hty:typeOf (.builtin id)=pure (.type "method_descriptor"))(hm:MtR X id r)(ho:PEt X o to)(ha:PA X (e::es) t)
  (hbase:AZ o name X.env (eval o X.env)=eval o X.env:=by rfl)
  (hfew:((AQ cpos (xi (e::es) X.env)).all (fun x=>!x.1)&&(Ds cpos (BE [] X.env)).all (fun x=>x.1.isSome)
   && decide ((e::es).length+([]:List Keyword).length+(if ([]:List Keyword).isEmpty then 0 else 1)<30))=true:=by rfl)
  (hline:(apos.endLine == cpos.line)=true:=by rfl)(hs:xi (e::es) X.env=(false,eval e X.env)::xi es X.env:=by rfl)(hplain:(AQ cpos (xi es X.env)).any (·.1)=false:=by rfl):
  PEt X (.Call (.Attribute o name apos) (e::es) [] cpos) (tBM X.K T r to t):=by
 intro pins s σ H Q I hk h;refine Dv hbase hfew hline rfl (thn (ho pins s σ H _ I hk h) fun v s1 zq=>?_);obtain⟨x,H1,I1,r1,ty,q1⟩:=zq;obtain⟨h1,h2⟩:=aEh I1 r1 ty;refine⟨T,id,pa,slot,hty,h1,h2,?_⟩;have hA:=ha cpos pins s1 σ H1 _ I1 q1;rw[hs]at hA ⊢;refine BN (by show(false||(AQ cpos (xi es X.env)).any (·.1))=false;rw[hplain] <;> rfl) (Cm ?_);exact thn hA fun us s2 ⟨vs,H2,I2,r2,q2⟩=>hm pins s2 σ H2 x vs v us Q I2 r1 r2 q2
def tRepl (to:TE) (y z:Str):TE:=fun σ H Q=>to σ H fun x H1=>∃w:Str,x=.str w/\w.length+(w.length+1)*z.length<=16777216/\Q (.str (AD w y z)) H1
theorem aKj{y z:Str}(ho:PE X o to)(hyz:(y == z)=false:=by decide)
  (hbase:AZ o "replace" X.env (eval o X.env)=eval o X.env:=by rfl)
  (hfew:((AQ cpos (xi [.Constant (.str y) j1 p1,.Constant (.str z) j2 p2] X.env)).all (fun x=>!x.1)&&(Ds cpos (BE [] X.env)).all (fun x=>x.1.isSome)
   && decide (([.Constant (.str y) j1 p1,.Constant (.str z) j2 p2]:List Expr).length+([]:List Keyword).length+(if ([]:List Keyword).isEmpty then 0 else 1)<30))=true:=by rfl)
  (hline:(apos.endLine == cpos.line)=true:=by rfl)
  (hs:AQ cpos (xi [.Constant (.str y) j1 p1,.Constant (.str z) j2 p2] X.env)=[(false,eval (.Constant (.str y) j1 p1) X.env),(false,eval (.Constant (.str z) j2 p2) X.env)]:=by rfl):
  PEt X (.Call (.Attribute o "replace" apos) [.Constant (.str y) j1 p1,.Constant (.str z) j2 p2] [] cpos) (tRepl to y z):=by
 intro pins s σ H Q I hk h;refine Dv hbase hfew hline rfl (ym (wpAny_toks_of hk (ho pins s σ H _ I h)) (fun v s1 z1=>?_) fun _ _ z1=>z1.2);obtain⟨hk1,x,H1,I1,r1,w,ex,hb,q1⟩:=z1;subst ex;obtain⟨h1,h2⟩:=aEh (T:="str") I1 r1 rfl;obtain⟨t',rfl⟩:=r1;refine⟨"str","str.replace",Aj,PySem.F.slot_str_replace,PySem.F.type_str_replace,h1,h2,?_⟩;rw[hs];refine BN rfl (Cm (Bs (Dg (Bs (Dg (Dr ?_))))));refine SC.replace ?_ ?_ ?_ hyz hb fun t2 k=>⟨.str _,H1,I1.tok _,⟨_,rfl⟩,q1⟩
 ·intro e0;have:s1.toks=0:=e0;omega
 ·intro e0;have:s1.toks+1=0:=e0;omega
 ·intro e0;have:s1.toks=s1.toks+1:=e0;omega
end
section
variable {M:Model}{A:yr}{E:Value->ι->Prop}{s₀ s:ι}{m cm:Str->Option Value}{env:Env}
theorem nX(f:Str×Value->PUnit->Sem (ForInStep PUnit))(hf:∀n v u,f (n,v) u=(do storeName env n v;pure (.yield ⟨⟩)))(hk:env.scope.kind=.function)(n:Str)(v:Value)(r:List (Str×Value))(Q:PUnit->ι->Prop)
  (x:InCallC s₀ env.locals m env.cells cm s)(hl:env.kindOf n=some .local)(hr:∀y∈r,env.kindOf y.1=some .local\/(env.kindOf y.1=some .cell/\(env.cells.lookup y.1).isSome=true))
  (h:∀s',InCallC s₀ env.locals (bindL env.kindOf ((n,v)::r) m) env.cells (bindC env.kindOf ((n,v)::r) cm) s'->1<=s'.toks->Q ⟨⟩ s'):Φ M A (forIn ((n,v)::r) ⟨⟩ f) Q E s:=by
 rw[Dc,hf];refine ζ (ζ (wpAny_storeName_local hl x.toInCall.ns (fun h' hn' hs'=>?_) (by rw[hk];rfl)));refine τ ?_;have x':InCallC s₀ env.locals (fun y=>if y=n then some v else m y) env.cells cm { s with heap:=h',toks:=s.toks+1 }:=by
  refine⟨⟨?_,hn',fun b o e=>?_,x.toInCall.fresh⟩,fun k c hc=>?_,x.apart,x.above⟩
  ·obtain⟨h₁,tk,rfl⟩:=x.toInCall.same;exact⟨h',_,rfl⟩
  ·exact hs'.extBut b o (wz (υ (Θ e) x.toInCall.fresh)) (x.toInCall.keep b o e)
  ·exact(x.cell k c hc).sameBut hs' (zf (x.above k c (mem_of_lookup hc)))
 have h0:=wpAny_bindParams (M:=M) (A:=A) (E:=E) f hf hk r _ _ _ (fun _ s''=>InCallC s₀ env.locals (bindL env.kindOf r fun y=>if y=n then some v else m y) env.cells (bindC env.kindOf r cm) s'') x' hr (fun s'' x''=>x'');refine ym (wpAny_toks_of (n:=1) (show 1<=s.toks+1 by omega) h0) (fun _ s'' z=>h s'' ?_ z.1) fun e s'' z=>z.2;unfold bindL bindC;rw[if_pos hl,if_pos hl];exact z.2
end
section
variable {M:Model}{A:yr}{E:Value->ι->Prop}{s:ι}
theorem aCl{scope:Scope}{globals:Addr}{n:Str}{v:Value}{r:List (Str×Value)}{qual:Str}{func:Option Addr}{code:Value}{builtins:Addr}{Q:Env->ι->Prop}
  (hk:scope.kind=.function)(hn:scope.names.lookup n=some .local)
  (hkind:∀x∈(n,v)::r,scope.names.lookup x.1=some .local\/(scope.names.lookup x.1=some .cell/\((cellsFrom (s.heap.objs.size+1) scope.names []).lookup x.1).isSome=true))
  (hQ:∀env,env=newEnv scope s.heap.objs.size globals (cellsFrom (s.heap.objs.size+1) scope.names []) qual func code none builtins →
   ∀s',InCallC s env.locals (bindL env.kindOf ((n,v)::r) fun _=>none) env.cells (bindC env.kindOf ((n,v)::r) fun _=>none) s'->1<=s'.toks->Q env s'):
  Φ M A (newFunctionEnv scope globals [] ((n,v)::r) qual func code none builtins) Q E s:=by
 simp only[newFunctionEnv,Option.isSome_none,AB,if_false];refine ζ (wpAny_alloc ?_);refine ζ (wpAny_layCells _ (fun name kind cells=>by cases hkc:kind == NameKind.cell <;> simp[hkc]) _ _ _ _ ?_);have ok:=cellsFrom_ok scope.names (s.heap.push { cls:=.type "frame",data:=.dict #[] }) (s.heap.objs.size+1) [] ⟨fun _ _ hm=>(nomatch hm),Dw⟩ (by rw[ze];exact μ _);rw[ze]at ok;rw[show({ s with heap:=s.heap.push { cls:=.type "frame",data:=.dict #[] } } : ι).heap.objs.size=s.heap.objs.size+1 from ze ..];refine ζ (nX (s₀:=s) (env:=newEnv scope s.heap.objs.size globals (cellsFrom (s.heap.objs.size+1) scope.names []) qual func code none builtins)
  (m:=fun _=>none) (cm:=fun _=>none) _ (fun _ _ _=>rfl) hk n v r _
  ⟨⟨⟨_,_,rfl⟩,(yp.Ns.new s.heap (.type "frame")).keeps (pushCells_keeps _ _),fun b o e=>pushCells_keeps _ _ b o (ξ _ e),μ _⟩,
   fun n c hc=>(ok.empty n c (mem_of_lookup hc)).1,ok.apart,fun n c hm=>(ok.empty n c hm).2⟩
  hn (fun y hy=>hkind y (π _ hy)) fun s' x ht=>τ (hQ _ rfl s' x ht))
end
theorem aSi{CX:CXT}{P:za}{w:Af}{K:Ω}{mg:Str->Option Value}{base:yp}{k:Nat}{f:Addr}{name qual:Str}{params:Arguments}{body:List Stmt}{scope:Scope}{dV kV doc pm cdv ct oc:Value}{an od:Option Addr}
  {osl:Array (Option Value)}{N ps:List Str}{p0:Str}{sp:Sp}(lk:K.lookup f=some ⟨oc,od,.func (fnOf name qual params body scope dV kV doc pm an cdv ct),osl⟩)(hcd:codeIn K cdv qual=true)(S:jL N (p0::ps) scope)(h0:scope.names.lookup p0=some .local)
  (len:∀vs H Q E,sp vs H Q E->vs.length=(p0::ps).length)
  (hbody:∀(A:yr) (outer:List Env) (s:ι) (H:Hp) (vs:List V) (Q:VK) (E:XK),vB k (A.deeper (envOfC qual scope s.heap.objs.size f cdv))->sp vs H Q E →
   ∃t,aHr (dF CX P w K mg base N qual scope f cdv A outer s H E) body t/\t { nx:=fun _ H'=>Q .non H',rt:=Q } (start N vs) H):
  jK P w K mg base CX (k+1) f (fnOf name qual params body scope dV kV doc pm an cdv ct) (p0::ps) sp:=by
 refine⟨len,fun A outer s H args us vs Q E hr e0 hb r hsp=>?_⟩;have hl:=len _ _ _ _ hsp;have KX:K.In s.heap:=e0.mod.kin.keeps fun b o e=>(e0.bs b o e).1;have lim:s.heap.NoLimit:=e0.mod.nolimit.keeps fun b o e=>(e0.bs b o e).1;have hlu:=r.length;obtain⟨u0,ur,rfl⟩ : ∃u0 ur,us=u0::ur:=by
  cases us with
  |nil=>rw[hl]at hlu;simp at hlu
  |cons a b=>exact⟨a,b,rfl⟩
 have hkind:∀y∈(p0::ps).zip (u0::ur),scope.names.lookup y.1=some .local\/(scope.names.lookup y.1=some .cell/\((cellsFrom (s.heap.objs.size+1) scope.names []).lookup y.1).isSome=true):=fun ⟨n,v⟩ hy=>by
  rcases S.par n (List.of_mem_zip hy).1 with q|q
  ·exact .inl q
  ·exact .inr ⟨q,Dt _ _ _ (.inl q)⟩
 refine codeAny_call_function hr.depth (KX _ _ lk) rfl S.co S.gen rfl (PySem.W.codeRec_of KX hcd) (hb _ _ _ _ ?_);refine aCl (n:=p0) (v:=u0) (r:=ps.zip ur) S.kind h0 hkind fun env he s1 x ht=>?_;subst he;refine⟨lim.keeps x.toInCall.keep,codeAny_func ?_⟩;obtain⟨t,ht',hq⟩:=hbody A outer s H vs Q E (hr.deeper _) hsp;have I:Inv (dF CX P w K mg base N qual scope f cdv A outer s H E) [] (start N vs) H s1:=uE S hr.hd e0 hl r x;refine ym (ht' [] s1 (start N vs) H _ I ht hq) (fun fl s' hs=>?_) fun e s' hs=>hs;have fin:∀{σ':St}{H':Hp}{v:V}{u:Value},Inv (dF CX P w K mg base N qual scope f cdv A outer s H E) [] σ' H' s'->RelV v u->Q v H'->CE outer P w H s Q u s' :=
  fun {σ' H' v u} J rv q=>⟨v,H',J.os,J.bare,J.base,J.hok,rv,q⟩
 cases fl with
 |ret u =>
  obtain⟨v,σ',H',J,rv,q⟩:=hs;exact fin J rv q
 |next =>
  obtain⟨σ',H',J,q⟩:=hs;exact fin (v:=V.non) (u:=zr) J rfl q
 |brk =>
  obtain⟨_,_,_,q⟩:=hs;exact yf q
 |cont =>
  obtain⟨_,_,_,q⟩:=hs;exact yf q
theorem aHr.nox{X:Cx}{st:List Stmt}{t:TS}(h:aHr X.nox st t):aHr X st t:=fun pins s σ H D I hk hw =>
 ym (h pins s σ H D (I.wish _) hk hw) (fun _ _ q=>q.unwish) fun _ _ z=>yf z
theorem Fun.okT{P:za}{w:Af}{K:Ω}{mg:Str->Option Value}{base:yp}{x qual:Str}{st:Stmt}{f:Addr}{fd:yn}{N ps:List Str}{p0:Str}{k:Nat}{sp:Sp}(F:Fun K x qual st f fd)(S:jL N (p0::ps) (jG st))(len:∀vs H Q E,sp vs H Q E->vs.length=(p0::ps).length)
  (hbody:∀(cdv:Value) (A:yr) (outer:List Env) (s:ι) (H:Hp) (vs:List V) (Q:VK) (E:XK),vB k (A.deeper (envOfC qual (jG st) s.heap.objs.size f cdv))->sp vs H Q E →
   ∃t,aHr (dF CX0 P w K mg base N qual (jG st) f cdv A outer s H E).nox (vW st) t/\t { nx:=fun _ H'=>Q .non H',rt:=Q } (start N vs) H)(h0:(jG st).names.lookup p0=some .local:=by rfl):jK P w K mg base CX0 (k+1) f fd (p0::ps) sp:=by
 obtain⟨oc,od,kV,doc,pm,an,cdv,ct,osl,rfl,lk,hcd⟩:=F.ex;refine aSi lk hcd S h0 len fun A outer s H vs Q E hr hsp=>?_;obtain⟨t,h,q⟩:=hbody cdv A outer s H vs Q E hr hsp;exact⟨t,h.nox,q⟩
theorem bA:∀{a b:List Str},a.Nodup->(∀x∈a,x∈b)->a.length<=b.length
 |[],_,_,_=>xy _
 |x::xs,b,h,hs=>by
  obtain⟨h1,h2⟩:=Bk.mp h;have hx:=hs x (ο ..);have:=bA (b:=b.erase x) h2 fun y hy=>(List.mem_erase_of_ne (a:=y) (b:=x) (fun z=>h1 (by rw[←z];exact hy))).mpr (hs y (π _ hy));rw[List.length_erase_of_mem hx]at this;have:=List.length_pos_of_mem hx;rw[Ξ];omega
theorem mI(val:Nat->Str):∀n,(TX.firstMet val n).Nodup
 |0=>Ct
 |n+1=>by
  have ih:=mI val n;rw[TX.firstMet_succ];unfold Cq
  split
  ·exact ih
  ·rename_i h;refine Cg.mpr ⟨ih,(by simp),fun a ha b hb e=>h ?_⟩;rw[ω.mp hb]at e;exact BK.mpr ⟨a,ha,by simp[e]⟩
theorem aIc{X:Cx}(hc:X.calm=true):vP X (.type "set") (fun xs H Q=>∃(a:Addr) (ns zs:List Str),xs=[.ref a]/\SqL X.K H a (ns.map V.str)/\zs.Nodup/\(∀x,x∈zs ↔ x∈ns)/\ns.length<4000/\∀p,H p=none->Q (.ref p) (upd H p (SetN p zs.length))):=by
 intro pins s σ H xs us Q I r h;obtain⟨a,ns,zs,rfl,hS,hd,hm,hl,q⟩:=h;obtain⟨u,rfl,ru⟩:=r.one;cases ru;obtain⟨its,rv,pl,_⟩:=I.list hS;have hlen:=rv.length;rw[ε]at hlen;have hv:∀(i:Nat) (v:Value),its.toArray[i]?=some v->∃t,v=.str ((fun i=>ns.getD i "") i) t:=fun i v e=>by
  have e':its[i]?=some v:=by simpa using e
  have hi:i<ns.length:=by
   have:=(θ.mp e').1;omega
  obtain⟨u,hu,⟨t,ru⟩⟩:=rv.get (i:=i) (x:=.str ns[i]) (by simp[hi]);rw[hu]at e';cases e';exact⟨t,by rw[ru];simp[hi]⟩
 refine TX.call_set_texts (ns:=ns) (I.ok.hd hc) pl.isList hv (by rw[ψ];show _<4096;omega) fun h' tk hset hk=>?_;obtain⟨o,es,ep,t,e1,hex,e2,_,_,_,hf,hn⟩:=hset;have mem:∀x,x∈TX.firstMet (fun i=>ns.getD i "") ns.length ↔ x∈ns:=fun x=>by
  have h1:=TX.firstMet_any (fun i=>ns.getD i "") ns.length x;have e:(zt ns.length).map (fun i=>ns.getD i "")=ns:=List.ext_getElem (by simp) fun i a b=>by
   rw[Cw,List.getElem_range,xh,ν b];rfl
  rw[e]at h1;have h2:∀l:List Str,l.any (· == x)=true ↔ x∈l:=fun l=>by
   rw[BK];constructor
   ·rintro ⟨y,hy,ey⟩;rw[←eq_of_beq ey];exact hy
   ·intro hx;exact⟨x,hx,by simp⟩
  rw[←h2,←h2 ns,h1]
 have hn':es.size=zs.length:=by
  rw[hn,ψ,←hlen];have nd:=mI (fun i=>ns.getD i "") ns.length;exact Nat.le_antisymm (bA nd fun x hx=>(hm x).mpr ((mem x).mp hx)) (bA hd fun x hx=>(mem x).mpr ((hm x).mp hx))
 refine⟨.ref _,_,I.laid (a:=s.heap.objs.size) (o:=SetN s.heap.objs.size zs.length) (t':=tk) (fun b o e=>hk b o (Θ e) e) (μ _) ?_,rfl,q _ (I.hok.fresh (μ _))⟩;exact⟨⟨o,es,ep,t,e1,hex,e2,hf,hn'⟩,⟨o,e1⟩,fun _ _ ⟨o,es,ep,t,a1,b1⟩ k=>⟨o,es,ep,t,k _ a1,b1⟩⟩
inductive Dd where
 |row|loop|cond|els|fin
 deriving DecidableEq
def lnD (x:Str):Dd:=if x = "else" then .els else if x = "end" then .fin else if x = "if a" ∨ x = "if b" then .cond else if x = "out a" ∨ x = "out c" ∨ x = "b = a" then .row else .loop
def lnS (x:Str):Str:=if x = "else" then "else" else if x = "end" then "end" else if x = "if a" ∨ x = "if b" then "if" else if x = "out a" ∨ x = "out c" then "out" else if x = "b = a" then "name" else if x = "each a" ∨ x = "each b" then "each" else "span"
def stp (st:List Str) (x:Str):Option (List Str):=match lnD x with
 |.row=>some st
 |.loop=>if st.length=3 then none else some (st++[lnS x])
 |.cond=>if st.length=3 then none else some (st++[lnS x])
 |.els=>if st.getLast?=some "if" then some (st.dropLast++[("else" : Str)]) else none
 |.fin=>if st=[] then none else some st.dropLast
def due:List Str->List Str->Nat->Option Nat
 |[],st,i=>if st=[] then none else some i
 |x::xs,st,i=>match stp st x with
  |none=>some i
  |some st'=>due xs st' (i+1)
inductive Tr where
 |row (i:Nat)
 |loop (i j:Nat) (rs:List Tr)
 |ch (i j:Nat) (m:Option Nat) (rs os:List Tr)
inductive Prs (ds:List Str):Nat->List Tr->Nat->Prop
 |stop {n:Nat} : (ds.length<=n\/∃x,ds[n]?=some x/\(lnD x=.els\/lnD x=.fin))->Prs ds n [] n
 |row {n e:Nat}{x:Str}{ts:List Tr} : ds[n]?=some x->lnD x=.row->Prs ds (n+1) ts e->Prs ds n (.row n::ts) e
 |loop {n b e:Nat}{x y:Str}{rs ts:List Tr} : ds[n]?=some x->lnD x=.loop->Prs ds (n+1) rs b->ds[b]?=some y->lnD y=.fin->Prs ds (b+1) ts e->Prs ds n (.loop n b rs::ts) e
 |if1 {n b e:Nat}{x y:Str}{rs ts:List Tr} : ds[n]?=some x->lnD x=.cond->Prs ds (n+1) rs b->ds[b]?=some y->lnD y=.fin->Prs ds (b+1) ts e->Prs ds n (.ch n b none rs []::ts) e
 |if2 {n b c e:Nat}{x y z:Str}{rs os ts:List Tr} : ds[n]?=some x->lnD x=.cond->Prs ds (n+1) rs b->ds[b]?=some y->lnD y=.els->Prs ds (b+1) os c->ds[c]?=some z->lnD z=.fin->Prs ds (c+1) ts e->Prs ds n (.ch n c (some b) rs os::ts) e
inductive Dp:Nat->List Tr->Prop
 |nil {d:Nat} : Dp d []
 |row {d i:Nat}{ts:List Tr} : Dp d ts->Dp d (.row i::ts)
 |loop {d i j:Nat}{rs ts:List Tr} : Dp d rs->Dp (d+1) ts->Dp (d+1) (.loop i j rs::ts)
 |ch {d i j:Nat}{m:Option Nat}{rs os ts:List Tr} : Dp d rs->Dp d os->Dp (d+1) ts->Dp (d+1) (.ch i j m rs os::ts)
theorem aJg(h:lnD x=.loop):lnS x = "each" ∨ lnS x = "span":=by
 unfold lnD at h;unfold lnS
 split at h
 ·cases h
 ·split at h
  ·cases h
  ·split at h
   ·cases h
   ·split at h
    ·cases h
    ·rename_i h1 h2 h3 h4;rw[if_neg h1,if_neg h2,if_neg h3,if_neg (fun z=>h4 (by rcases z with z|z;exact .inl z;exact .inr (.inl z))),if_neg (fun z=>h4 (.inr (.inr z)))]
     split
     ·exact .inl rfl
     ·exact .inr rfl
theorem aRi{ds:List Str}: ∀(k n:Nat) (st:List Str),ds.length-n<=k->st.length<=3->due (ds.drop n) st n=none->∃ts e,Prs ds n ts e/\Dp (3-st.length) ts/\n<=e/\due (ds.drop e) st e=none/\(ds.length<=e\/∃x,ds[e]?=some x/\(lnD x=.els\/lnD x=.fin)):=by
 have ends:∀{st:List Str}{n:Nat},st≠[]->ds.length<=n->due (ds.drop n) st n=none->False:=fun {st n} hs hn h=>by
  rw[BS hn]at h;have h':(if st=[] then none else some n)=none:=h;rw[if_neg hs]at h';cases h'
 have next:∀{st:List Str}{n:Nat}{x:Str},ds[n]?=some x->due (ds.drop n) st n=none->∃st',stp st x=some st'/\due (ds.drop (n+1)) st' (n+1)=none:=fun {st n x} hx h=>by
  obtain⟨hn,e⟩:=θ.mp hx;rw[zu hn,e]at h;have h':(match stp st x with|none=>some n|some st'=>due (ds.drop (n+1)) st' (n+1))=none:=h;cases hs:stp st x with
  |none=>rw[hs]at h';cases h'
  |some st'=>rw[hs]at h';exact⟨st',rfl,h'⟩
 intro k
 induction k with
 |zero =>
  intro n st hk hl h;exact⟨[],n,.stop (.inl (by omega)),.nil,μ _,h,.inl (by omega)⟩
 |succ k ih =>
  intro n st hk hl h
  by_cases hn:ds.length<=n
  ·exact⟨[],n,.stop (.inl hn),.nil,μ _,h,.inl hn⟩
  have hx:ds[n]?=some (ds[n]'(by omega)):=ν _;generalize ds[n]'(by omega)=x at hx;have close:∀{b:Nat}{s:Str},st.length≠3->due (ds.drop b) (st++[s]) b=none->(ds.length<=b\/∃x,ds[b]?=some x/\(lnD x=.els\/lnD x=.fin)) →
    ∃y,ds[b]?=some y/\((lnD y=.fin/\due (ds.drop (b+1)) st (b+1)=none)\/(lnD y=.els/\s = "if"/\due (ds.drop (b+1)) (st++[("else" : Str)]) (b+1)=none)):=fun {b s} h3 hd hb=>by
   rcases hb with hb|⟨y,hy,hyd⟩
   ·exact(ends (by simp) hb hd).elim
   ·refine⟨y,hy,?_⟩;obtain⟨st',e1,e2⟩:=next hy hd;unfold stp at e1;rcases hyd with hyd|hyd
    ·rw[hyd]at e1;have e1':(if (st++[s]).getLast?=some "if" then some ((st++[s]).dropLast++[("else" : Str)]) else none)=some st':=e1
     split at e1'
     ·rename_i hlast;rw[List.getLast?_append]at hlast;have hs:s = "if":=by simpa using hlast
      rw[List.dropLast_concat]at e1';cases e1';exact .inr ⟨hyd,hs,e2⟩
     ·cases e1'
    ·rw[hyd]at e1;have e1':(if st++[s]=[] then none else some (st++[s]).dropLast)=some st':=e1;rw[if_neg (by simp),List.dropLast_concat]at e1';cases e1';exact .inl ⟨hyd,e2⟩
  obtain⟨st',e1,e2⟩:=next hx h;cases hd:lnD x with
  |els=>exact⟨[],n,.stop (.inr ⟨x,hx,.inl hd⟩),.nil,μ _,h,.inr ⟨x,hx,.inl hd⟩⟩
  |fin=>exact⟨[],n,.stop (.inr ⟨x,hx,.inr hd⟩),.nil,μ _,h,.inr ⟨x,hx,.inr hd⟩⟩
  |row =>
   unfold stp at e1;rw[hd]at e1;cases e1;obtain⟨ts,e,p,dp,le,d2,hend⟩:=ih (n+1) st (by omega) hl e2;exact⟨_,e,.row hx hd p,.row dp,by omega,d2,hend⟩
  |loop =>
   unfold stp at e1;rw[hd]at e1;have e1':(if st.length=3 then none else some (st++[lnS x]))=some st':=e1
   split at e1'
   ·cases e1'
   ·rename_i h3;cases e1';obtain⟨rs,b,p1,dp1,le1,d1,hb⟩:=ih (n+1) _ (by omega) (by rw[η];simp;omega) e2;obtain⟨y,hy,⟨hyd,d3⟩|⟨_,hs,_⟩⟩:=close h3 d1 hb
    ·obtain⟨ts,e,p2,dp2,le2,d4,hend⟩:=ih (b+1) st (by omega) hl d3;rw[η,xm]at dp1;refine⟨_,e,.loop hx hd p1 hy hyd p2,?_,by omega,d4,hend⟩;obtain⟨d,hd'⟩ : ∃d,3-st.length=d+1:=⟨2-st.length,by omega⟩;rw[hd']at dp2 ⊢;exact .loop (by rw[show d=3-(st.length+1) by omega];exact dp1) dp2
    ·rcases aJg hd with z|z <;> rw[z]at hs <;> exact absurd hs (by decide)
  |cond =>
   unfold stp at e1;rw[hd]at e1;have e1':(if st.length=3 then none else some (st++[lnS x]))=some st':=e1
   split at e1'
   ·cases e1'
   ·rename_i h3;cases e1';obtain⟨rs,b,p1,dp1,le1,d1,hb⟩:=ih (n+1) _ (by omega) (by rw[η];simp;omega) e2;rw[η,xm]at dp1;obtain⟨d,hd'⟩ : ∃d,3-st.length=d+1:=⟨2-st.length,by omega⟩;have dp1':Dp d rs:=by rw[show d=3-(st.length+1) by omega];exact dp1
    obtain⟨y,hy,⟨hyd,d3⟩|⟨hyd,_,d3⟩⟩:=close h3 d1 hb
    ·obtain⟨ts,e,p2,dp2,le2,d4,hend⟩:=ih (b+1) st (by omega) hl d3;refine⟨_,e,.if1 hx hd p1 hy hyd p2,?_,by omega,d4,hend⟩;rw[hd']at dp2 ⊢;exact .ch dp1' .nil dp2
    ·obtain⟨os,c,p2,dp2,le2,d4,hc⟩:=ih (b+1) _ (by omega) (by rw[η];simp;omega) d3;rw[η,xm]at dp2;obtain⟨z,hz,⟨hzd,d5⟩|⟨_,hs,_⟩⟩:=close h3 d4 hc
     ·obtain⟨ts,e,p3,dp3,le3,d6,hend⟩:=ih (c+1) st (by omega) hl d5;refine⟨_,e,.if2 hx hd p1 hy hyd p2 hz hzd p3,?_,by omega,d6,hend⟩;rw[hd']at dp3 ⊢;exact .ch dp1' (by rw[show d=3-(st.length+1) by omega];exact dp2) dp3
     ·exact absurd hs (by decide)
theorem aNj(h:due ds [] 0=none):∃ts e,Prs ds 0 ts e/\Dp 3 ts:=by
 obtain⟨ts,e,p,dp,_⟩:=aRi (ds:=ds) ds.length 0 [] (by omega) (xy _) h;exact⟨ts,e,p,dp⟩
def zA:List Str:=["A","B","C","I","J"]
def sigL:List Str:=["+","-","*","<","=","&"]
def mB:List Str:=["each","span","if"]
def xH:List (Str×List Str):=[("number",["A","=","NUMBER"]),("name",["A","=","B"]),("OP",["A","=","B","OP","C"]),("look",["A","=","look","I","PATH"]),("store",["store","I","PATH","B"]),("which",["A","=","which","I","PATH"]),("choose",["choose","I","PATH","B"]),("copy",["copy","I","J"]),("put",["A","=","put"]),("take",["take","I"]),("many",["A","=","many"]),("out",["out","A"]),("each",["each","I"]),("span",["span","I","B","C"]),("if",["if","A"]),("else",["else"]),("end",["end"])]
def oC (K:Ω) (H:Hp) (fas:List Addr) (fs:List (Str×List Str)):Prop:=fas.length=fs.length/\∀(i:Nat) (fa:Addr) (f:Str×List Str),fas[i]?=some fa->fs[i]?=some f->∃ga,SqT K H fa [.str f.1,.ref ga]/\SqT K H ga (f.2.map V.str)
end L2
namespace K32
open PySem L2
theorem dS : 0<=Δ:=by decide
theorem iC : 1<=Δ:=by decide
theorem vK : 2<=Δ:=by decide
theorem lU : 3<=Δ:=by decide
theorem aMj : 4<=Δ:=by decide
theorem aGy : 5<=Δ:=by decide
def top (i : Nat) : Stmt := PySem.Challenge.pw_roomslaid_k32_too_much.main.body.getD i (.Pass ⟨0,0,0,0⟩)
def inClass:Stmt->Nat->Stmt
 |.ClassDef _ _ _ body _ _ _ _ _ _ _,j=>body.getD j (.Pass ⟨0,0,0,0⟩)
 |s,_=>s
theorem vL{c A B:Prop}[Decidable c](hc:c)(h:A):if c then A else B:=by rw[if_pos hc];exact h
theorem qA{c A B:Prop}[Decidable c](hc:¬ c)(h:B):if c then A else B:=by rw[if_neg hc];exact h
structure Blt (mg:Str->Option Value):Prop where
 range:mg "range" = none
 len:mg "len" = none
 isinstance:mg "isinstance" = none
 int:mg "int" = none
 bool:mg "bool" = none
 list:mg "list" = none
 all:mg "all" = none
 max:mg "max" = none
 min:mg "min" = none
 reversed:mg "reversed" = none
 tuple:mg "tuple" = none
 divmod:mg "divmod" = none
 str:mg "str" = none
 sum:mg "sum" = none
 zip:mg "zip" = none
 enumerate:mg "enumerate" = none
 dict:mg "dict" = none
 ValueError:mg "ValueError" = none
 repr:mg "repr" = none
 set:mg "set" = none
structure Df (K:Ω) (mg:Str->Option Value) (x:Str) (f:Addr) (fd:yn) (ps:List Str):Prop where
 m:mg x=some (.ref f)
 k:keepIn K (.ref f)=true
 b:Binds K fd ps []
def St3 (H:Hp) (p:Addr):Prop:=∃a b c:Int,H p=some (.lst [.int a,.int b,.int c])
def Drawn (p:Addr) (H H':Hp):Prop:=St3 H' p/\∀b o,b≠p->H b=some o->H' b=some o
theorem Drawn.trans(a:Drawn p H H1)(b:Drawn p H1 H2):Drawn p H H2:=⟨b.1,fun c o n h=>b.2 c o n (a.2 c o n h)⟩
theorem Drawn.refl(h:St3 H p):Drawn p H H:=⟨h,fun _ _ _ q=>q⟩
theorem Drawn.new{H1:Hp}(a:Drawn p H H1)(hl:H1 l=none):Drawn p H (upd H1 l o):=by
 obtain⟨⟨x,y,z,e⟩,h⟩:=a;refine⟨⟨x,y,z,by rw[jR (jI e hl)];exact e⟩,fun b u n q=>?_⟩;have:=h b u n q;rw[jR (jI this hl)];exact this
theorem Drawn.same{H:Hp}(a:Drawn p H H')(hp:H p=none):jJ H H':=fun b o h=>a.2 b o (jI h hp) h
theorem yE{H:Hp}(h:H p=none)(o:HO):jJ H (upd H p o):=fun b u q=>by rw[jR (jI q h)];exact q
theorem aAq(ns:List Int){i:Int}(h0 : 0<=i)(h1:i<ns.length):∃v:Int,atI (ns.map V.int) i=some (.int v):=by
 have hk:i.toNat<ns.length:=by omega
 have e:i=((i.toNat:Nat):Int):=by omega
 have q:atI (ns.map V.int) ((i.toNat:Nat):Int)=some (.int ns[i.toNat]):=zY (by rw[xw,ν hk] <;> rfl);rw[←e]at q;exact⟨_,q⟩
theorem small{n:Nat}(h:n<=1000):n<=Δ:=BL (qG h)
def aGb (K:Ω):Sp:=fun vs H Q _=>∃(a:Addr) (ns:List Int),vs=[.ref a]/\SqL K H a (ns.map V.int)/\ns.length<=63/\∀H',Q (.bl true) H'
theorem jJ.tup{K:Ω}{H H':Hp}{a:Addr}{xs:List V}(e:jJ H H')(h:SqT K H a xs):SqT K H' a xs:=by
 rcases h with (h|⟨o,h⟩)|h
 ·exact .inl (.inl (e _ _ h))
 ·exact .inl (.inr ⟨o,e _ _ h⟩)
 ·exact .inr h
theorem Drawn.tup{K:Ω}{p:Addr}{H H':Hp}{a:Addr}{xs:List V}(hs:St3 H p)(e:Drawn p H H')(h:SqT K H a xs):SqT K H' a xs:=by
 obtain⟨x,y,z,hp⟩:=hs;rcases h with (h|⟨o,h⟩)|h
 ·exact .inl (.inl (e.2 _ _ (mK h hp (by intro z;cases z)) h))
 ·exact .inl (.inr ⟨o,e.2 _ _ (mK h hp (by intro z;cases z)) h⟩)
 ·exact .inr h
structure rV (K:Ω) (mg:Str->Option Value) (x:Str) (C fI:Addr) (as:List Str):Prop where
 m:mg x=some (.ref C)
 cl:Cls K C
 ma:Mk K C fI
 na:∀a∈as,aN K C a
structure DfM (K:Ω) (C:Addr) (m:Str) (f:Addr) (fd:yn) (ps:List Str):Prop where
 me:Meth K C m f
 b:Binds K fd ps []
structure DfI (K:Ω) (fd:yn) (ps:List Str):Prop where
 b:Binds K fd ps []
structure TX (K:Ω) (mg:Str->Option Value) (x:Str) (C R fI:Addr) (as:List Str):Prop where
 m:mg x=some (.ref C)
 c:fH K C R fI
 x:XCls K C (.ref R::VB)
 n:∀a∈as,zj K (.ref C) a=some none
structure TXB (K:Ω) (mg:Str->Option Value) (C fI:Addr):Prop where
 m:mg "RoomError" = some (.ref C)
 i:aQe K C fI
 x:XCls K C VB
def ownL:List Str:=["shape","num","row","pick","tag","room","things","part","tags","put","take","many","look","which","store","choose","copy","each","span","if","else","end","out"]
abbrev cG:Str:="abcdefghijklmnopqrstuvwxyz"
abbrev cC:Str:="0123456789"
structure Cst (K:Ω) (mg:Str->Option Value) (t1 t2 t3 t4 t5 t6 t7 t8 t9 t10 t11 t12 t13 t14 t15 t16 t17:Tok) (ts tNa tSi tBe tFo:Addr):Prop where
 SMALL_LETTERS:mg "SMALL_LETTERS" = some (.str "abcdefghijklmnopqrstuvwxyz" t1)
 FIGURES:mg "FIGURES" = some (.str "0123456789" t2)
 MOST_LETTERS:mg "MOST_LETTERS" = some (.int 6 t3)
 MOST_FIGURES:mg "MOST_FIGURES" = some (.int 10 t4)
 MOST_SHAPES:mg "MOST_SHAPES" = some (.int 8 t5)
 MOST_FIELDS:mg "MOST_FIELDS" = some (.int 6 t6)
 MOST_CELLS:mg "MOST_CELLS" = some (.int 64 t7)
 MOST_UNITS:mg "MOST_UNITS" = some (.int 40 t8)
 MOST_DEPTH:mg "MOST_DEPTH" = some (.int 4 t9)
 MOST_WIDTH:mg "MOST_WIDTH" = some (.int 4 t10)
 MOST_COUNT:mg "MOST_COUNT" = some (.int 6 t11)
 LEAST_PICKED:mg "LEAST_PICKED" = some (.int 2 t12)
 MOST_PICKED:mg "MOST_PICKED" = some (.int 4 t13)
 WORD_CELLS:mg "WORD_CELLS" = some (.int 4 t14)
 MOST_LINES:mg "MOST_LINES" = some (.int 60 t15)
 MOST_NAMES:mg "MOST_NAMES" = some (.int 12 t16)
 MOST_BEGUN:mg "MOST_BEGUN" = some (.int 3 t17)
 NAMES:mg "NAMES" = some (.ref tNa)
 nams:∀H,SqT K H tNa (zA.map V.str)
 SIGNS:mg "SIGNS" = some (.ref tSi)
 sgns:∀H,SqT K H tSi (sigL.map V.str)
 BEGINNINGS:mg "BEGINNINGS" = some (.ref tBe)
 begs:∀H,SqT K H tBe (mB.map V.str)
 FORMS:mg "FORMS" = some (.ref tFo)
 frms:∀H,∃fas:List Addr,SqT K H tFo (fas.map V.ref)/\oC K H fas xH
 OWN_WORDS:mg "OWN_WORDS" = some (.ref ts)
 words:∀H,SqT K H ts (ownL.map V.str)
def tyA (K:Ω) (x:V) (H:Hp) (t:String):Prop:=tyN K x H t\/(t = "dict"/\∃p kvs,x=.ref p/\H p=some (.dK kvs))
theorem jJ.tyA{K:Ω}(g:jJ H H')(h:tyA K x H t):tyA K x H' t:=by
 rcases h with h|⟨e,p,kvs,ex,h⟩
 ·left;cases x with
  |ref p =>
   rcases h with⟨e,xs,h⟩|⟨e,xs,h⟩
   ·exact .inl ⟨e,xs,g.seq h⟩
   ·exact .inr ⟨e,xs,jJ.tup g h⟩
  |_=>exact h
 ·exact .inr ⟨e,p,kvs,ex,g _ _ h⟩
def within (x:Str) (most:Int):Bool:=decide (1<=(x.length:Int))&&decide ((x.length:Int)<=most)
def aFj (x signs:Str):Bool:=x.cps.toList.all fun c=>decide (c∈signs.cps.toList)
def kT (x:Str):Bool:=within x 6&&aFj x cG&&!decide (x∈ownL)
def aCi (x:Str):Bool:=decide (x.cps.toList[0]?=some 48)&&decide (1<(x.length:Int))
def bE (x:Str):Option Int:=if (within x 10&&aFj x cC&&!aCi x)=true then some ((PySem.NumText.digitsVal x.cps.toList:Nat):Int) else none
def aMw:Option Int->V
 |none=>.non
 |some n=>.int n
def qW (o:Option Int) (lo hi:Int):Option Int:=match o with
 |none=>none
 |some n=>if lo<=n/\n<=hi then some n else none
def oV (K:Ω):Sp:=fun vs H Q _=>∃(x:V) (signs:Str) (most:Int),vs=[x,.str signs,.int most] ∧
 ((∃z:Str,x=.str z/\z.length<=1000/\∀H',jJ H H'->Q (.bl (within z most&&aFj z signs)) H')\/(∃t,tyA K x H t/\t ≠ "str"/\Q (.bl false) H))
inductive rF (K:Ω) (vs:List V) (H:Hp) (Q:VK):Prop|mk:∀x:V,vs=[x]->(((∃z:Str,x=.str z/\z.length<=1000/\∀H',jJ H H'->Q (.bl (kT z)) H')\/(∃t,tyA K x H t/\t ≠ "str"/\∀H',jJ H H'->Q (.bl false) H')))->rF K vs H Q
def zC (K:Ω):Sp:=fun vs H Q _=>rF K vs H Q
inductive iN (K:Ω) (vs:List V) (H:Hp) (Q:VK):Prop|mk:∀(x:V) (lo hi:Int),vs=[x,.int lo,.int hi]->(((∃z:Str,x=.str z/\z.length<=1000/\∀H',jJ H H'->Q (aMw (qW (bE z) lo hi)) H')\/(∃t,tyA K x H t/\t ≠ "str"/\∀H',jJ H H'->Q .non H')))->iN K vs H Q
def aL (K:Ω):Sp:=fun vs H Q _=>iN K vs H Q
theorem qB(x:Str)(ys:List Str):inV (.str x) (ys.map V.str)=decide (x∈ys):=by
 rw[Bj];simp only[inV,List.any_map,BK,Function.comp,decide_eq_true_eq,eqV,beq_iff_eq];constructor
 ·rintro ⟨y,hy,rfl⟩;exact hy
 ·intro h;exact⟨x,h,rfl⟩
theorem kZ(ys:List Str):(ys.map V.str).all dI=true:=by
 rw[yh];intro x hx;obtain⟨n,_,rfl⟩:=zm.mp hx;rfl
theorem wW:cG.cps.toList=List.range' 97 26:=by ac_rfl
theorem aAd:cC.cps.toList=List.range' 48 10:=by ac_rfl
theorem aBo(c:Nat):c∈cG.cps.toList ↔ 97<=c/\c<=122:=by
 rw[wW,List.mem_range'_1];omega
theorem aCq(c:Nat):c∈cC.cps.toList ↔ 48<=c/\c<=57:=by
 rw[aAd,List.mem_range'_1];omega
theorem aJm(f:Nat->Bool)(l:List Nat)(i:Nat)(h:l[i]?=some c):((l.take (i+1)).map f)=(l.take i).map f++[f c]:=by
 rw[zk,h,Ψ] <;> rfl
theorem all_map(f:Nat->Bool)(l:List Nat):(l.map f).all id=l.all f:=by
 rw[List.all_map];rfl
theorem isa3{t:String}(h:t ≠ "str"):isa t "str" = false:=by
 unfold isa;simp[h]
theorem is_0{c:Nat}: decide (V.str ⟨#[c]⟩=V.str (δ "0"))=decide (c=48):=by
 have e:(δ "0")=⟨#[48]⟩:=by ac_rfl
 rw[e,Bj,decide_eq_true_eq,decide_eq_true_eq];constructor
 ·intro h;injection h with h;injection h with h;simpa using h
 ·rintro rfl;rfl
theorem jJ.st3(g:jJ H H')(h:St3 H p):St3 H' p:=by
 obtain⟨x,y,z,e⟩:=h;exact⟨x,y,z,g _ _ e⟩
theorem Drawn.keep(d:Drawn p H H1)(g:jJ H1 H2):Drawn p H H2:=⟨jJ.st3 g d.1,fun b o n e=>g _ _ (d.2 b o n e)⟩
theorem len_list(z:Str):z.cps.toList.length=z.length:=Aw
theorem nZ(p:Str):Str.empty++p=p:=Str.ext' (by rw[BI];simp[Str.empty])
theorem aLd{a:Nat}(h:a<=5000):a<=Δ:=by rw[ς];omega
def oQ:Sp:=fun vs H Q _=>∃(p:Str) (x:V) (y:Str),vs=[.str p,x]/\aEb x=some y/\p.length<=1000/\y.length<=1000/\Q (.str (pj p y)) H
inductive aBk (vs:List V) (H:Hp) (Q:VK):Prop|mk:∀(p:Addr) (m:Int),vs=[.ref p,.int m]->0<m->m<1073741824->St3 H p->(∀(v:Nat) (H':Hp),(v:Int)<m->Drawn p H H'->Q (.int v) H')->aBk vs H Q
def oX:Sp:=fun vs H Q _=>aBk vs H Q
def aLo:Sp:=fun vs H Q _=>∃c:Int,vs=[.int c]/\∀(p:Addr) (H':Hp),H p=none->Drawn p H H'->Q (.ref p) H'
structure Wds (K:Ω) (H:Hp) (a:Addr) (ws:List Str):Prop where
 l:SqL K H a (ws.map V.str)
 s:∀w∈ws,w.length<=1000
 n:ws.length<=1000
theorem Wds.same{K:Ω}(h:Wds K H a ws)(g:jJ H H'):Wds K H' a ws:=⟨g.seq h.l,h.s,h.n⟩
def aBs:List Str->Bool
 |[x,y]=>decide (x=δ "shape")&&kT y
 |_=>false
def aPu (K:Ω):Sp:=fun vs H Q _=>∃(a:Addr) (ws:List Str),vs=[.ref a]/\Wds K H a ws/\∀H',jJ H H'->Q (.bl (aBs ws)) H'
inductive aKk (C:Addr) (n:Str) (vs:List V) (H:Hp) (Q:VK):Prop|mk:∀(a dx:Addr) (v:V) (H1:Hp),vs=[.ref a,v]->H a=some (.ins C dx [])->jJ H1 H->H1 a=none->(∀H',jJ H1 H'->H' a=some (.ins C dx [(n,v)])->Q .non H')->aKk C n vs H Q
def aEg (C:Addr) (n:Str):Sp:=fun vs H Q _=>aKk C n vs H Q
def spI2 (C:Addr) (n m:Str):Sp:=fun vs H Q _=>∃(a dx:Addr) (v u:V) (H1:Hp),vs=[.ref a,v,u]/\H a=some (.ins C dx [])/\jJ H1 H/\H1 a=none/\∀H',jJ H1 H'->H' a=some (.ins C dx [(n,v),(m,u)])->Q .non H'
def spIT (K:Ω) (C:Addr) (n:Str):Sp:=fun vs H Q _=>∃(a dx l:Addr) (ys:List V) (H1:Hp),vs=[.ref a,.ref l]/\H a=some (.ins C dx [])/\jJ H1 H/\H1 a=none/\SqL K H1 l ys/\∀t H',jJ H1 H'->H' a=some (.ins C dx [(n,.ref t)])->SqT K H' t ys->Q .non H'
def aLv (c:Cl5) (K:Ω):Sp:=fun vs H Q _=>∃(a dx fl:Addr) (nm:Str) (ps:List Addr) (fs:List (Str×Kd)) (sa:List Addr) (H1:Hp),vs=[.ref a,.str nm,.ref fl]/\H a=some (.ins c.shape dx [])/\jJ H1 H/\H1 a=none/\(SqL K H1 fl (ps.map V.ref)\/SqT K H1 fl (ps.map V.ref))/\FO c K H1 sa ps fs/\fs.length<=100 ∧
 ∀t ps' H',jJ H1 H'->H' a=some (.ins c.shape dx [("name",.str nm),("fields",.ref t)])->SqT K H' t (ps'.map V.ref)->FO c K H' sa ps' fs->Q .non H'
def spGr (c:Cl5) (K:Ω) (r:Nat):Sp:=fun vs H Q _=>∃(a:Addr) (is:List Nat) (sa:List Addr) (S:List Shp),vs=[.ref a]/\(Kd.pick is).Rk r/\(Kd.pick is).Fit S.length/\KO c K H sa a (.pick is)/\SW c K H sa S/\Good S/\∀H',jJ H H'->Q (.int ((yF (is.map fun i=>(tabs S).sz.getD i 0):Nat):Int)) H'
def aQm (c:Cl5) (K:Ω) (r:Nat):Sp:=fun vs H Q _=>∃(a:Addr) (i:Nat) (sa:List Addr) (S:List Shp),vs=[.ref a]/\sa[i]?=some a/\2*i+2<=r/\8*r<=200/\SW c K H sa S/\Good S/\∀l H',jJ H H'->H l=none->UL K H' l (un (.nest i) S Str.empty)->Q (.ref l) H'
theorem FO.insD{K:Ω}{H:Hp}{x:V}(h:FO c K H sa ps fs)(ha:H a=some (.ins C dx [("name",x)])):FO c K (upd H a o) sa ps fs:=by
 have n:∀{b C' dx' fs'},H b=some (.ins C' dx' fs')->fs'.head?.map (·.1)≠some ("name" : Str)->upd H a o b=some (.ins C' dx' fs'):=fun hb z=>by
  rw[jR (fun e=>z (by rw[e,ha]at hb;cases hb;rfl))];exact hb
 have t:∀{b xs},SqT K H b xs->SqT K (upd H a o) b xs:=fun h=>by
  rcases h with (h|⟨o',h⟩)|h
  ·exact .inl (.inl (by rw[jR (mK h ha (by intro z;cases z))];exact h))
  ·exact .inl (.inr ⟨o',by rw[jR (mK h ha (by intro z;cases z))];exact h⟩)
  ·exact .inr h
 have kk:∀{b kd},KO c K H sa b kd->KO c K (upd H a o) sa b kd:=fun h=>by
  induction h with
  |num h=>exact .num (n h (by show some (δ "width")≠some (δ "name");decide))
  |nest e h=>exact .nest e (n h (by show some (δ "shape")≠some (δ "name");decide))
  |many h _ ih=>exact .many (n h (by show some (δ "count")≠some (δ "name");decide)) ih
  |pick h h2 l e=>exact .pick (n h (by show some (δ "shapes")≠some (δ "name");decide)) (t h2) l e
 induction h with
 |nil=>exact .nil
 |cons h1 h2 _ ih=>exact .cons (t h1) (kk h2) ih
def NOk (nm:Nat->Str) (n:Nat):Prop:=∀i,i<n->kT (nm i)=true
theorem yA(h:kT x=true): 1<=x.length/\x.length<=6:=by
 unfold kT within at h;simp only[yt,decide_eq_true_eq]at h;omega
theorem cQ{y:Str}(h:kT x=true)(hy:y∈ownL):x≠y:=by
 rintro rfl;unfold kT at h;simp only[yt,Bool.not_eq_true',decide_eq_false_iff_not]at h;exact h.2 hy
theorem dig{w:Nat}(h:w<=9):bE (δ (toString (w:Int)))=some (w:Int)/\(δ (toString (w:Int))).length=1/\kT (δ (toString (w:Int)))=false/\PySem.intText? (δ (toString (w:Int)))=some (w:Int):=by
 have:∀m:Fin 10,bE (δ (toString ((m.val:Nat):Int)))=some ((m.val:Nat):Int)/\(δ (toString ((m.val:Nat):Int))).length=1/\kT (δ (toString ((m.val:Nat):Int)))=false/\PySem.intText? (δ (toString ((m.val:Nat):Int)))=some ((m.val:Nat):Int):=by ac_rfl
 exact this ⟨w,by omega⟩
theorem sE:kT (δ "num")=false/\kT (δ "row")=false/\kT (δ "pick")=false:=by ac_rfl
def Kd.named (nm:Nat->Str):Kd->List Str
 |.num _=>[]
 |.nest i=>[nm i]
 |.many _ k=>Kd.named nm k
 |.pick is=>is.map nm
theorem aAi(hn:NOk nm n):∀{k:Kd},k.Fit n->(k.words nm).filter kT=Kd.named nm k:=by
 have hnum:∀w,w<=9->((Kd.num w).words nm).filter kT=[]:=fun w hw=>by
  show[δ "num",δ (toString (w:Int))].filter kT=[];rw[AE (by rw[sE.1];decide),AE (by rw[(dig hw).2.2.1];decide)];rfl
 have hnest:∀i,i<n->((Kd.nest i).words nm).filter kT=[nm i]:=fun i hi=>by
  show[nm i].filter kT=_;rw[List.filter_cons_of_pos (hn i hi)];rfl
 intro k hk;cases k with
 |num w=>exact hnum w (by have:=hk.2;omega)
 |nest i=>exact hnest i hk
 |many m k =>
  show(δ "row" :: δ (toString (m:Int))::k.words nm).filter kT=Kd.named nm k;rw[AE (by rw[sE.2.1];decide),AE (by rw[(dig (by have:=hk.2.1;omega)).2.2.1];decide)];rcases hk.2.2 with⟨w,rfl,hw⟩|⟨i,rfl,hi⟩
  ·exact hnum w (by omega)
  ·exact hnest i hi
 |pick is =>
  show(δ "pick" :: is.map nm).filter kT=is.map nm;rw[AE (by rw[sE.2.2];decide),List.filter_eq_self.mpr];intro x hx;obtain⟨i,hi,rfl⟩:=zm.mp hx;exact hn i (hk.2.2.2 i hi)
theorem uC{nm:Nat->Str}{n:Nat}(hn:NOk nm n):∀{k:Kd},k.Fit n->(∀w∈k.words nm,w.length<=6)/\(k.words nm).length<=5:=by
 have hnum:∀w,w<=9->∀x∈(Kd.num w).words nm,x.length<=6:=fun w hw x hx=>by
  simp only[Kd.words,χ,xq,or_false]at hx;rcases hx with rfl|rfl
  ·decide
  ·rw[(dig hw).2.1];decide
 have hnest:∀i,i<n->∀x∈(Kd.nest i).words nm,x.length<=6:=fun i hi x hx=>by
  rw[ω.mp (show x∈[nm i] from hx)];exact(yA (hn i hi)).2
 intro k hk;cases k with
 |num w=>exact⟨hnum w (by have:=hk.2;omega),by show 2<=5;decide⟩
 |nest i=>exact⟨hnest i hk,by show 1<=5;decide⟩
 |many m k =>
  have:(∀x∈k.words nm,x.length<=6)/\(k.words nm).length<=2:=by
   rcases hk.2.2 with⟨w,rfl,hw⟩|⟨i,rfl,hi⟩
   ·exact⟨hnum w (by omega),by show 2<=2;decide⟩
   ·exact⟨hnest i hi,by show 1<=2;decide⟩
  refine⟨fun x hx=>?_,by show(k.words nm).length+1+1<=5;omega⟩;simp only[Kd.words,χ]at hx;rcases hx with rfl|rfl|hx
  ·decide
  ·rw[(dig (by have:=hk.2.1;omega)).2.1];decide
  ·exact this.1 x hx
 |pick is =>
  refine⟨fun x hx=>?_,by show(is.map nm).length+1<=5;rw[ε];have:=hk.2.1;omega⟩;simp only[Kd.words,χ,zm]at hx;rcases hx with rfl|⟨i,hi,rfl⟩
  ·decide
  ·exact(yA (hn i (hk.2.2.2 i hi))).2
def spSg (K:Ω):Sp:=fun vs H Q _=>∃(a:Addr) (ws:List Str),vs=[.ref a]/\SqL K H a (ws.map V.str)/\((∃w:Nat,1<=w/\w<=4/\ws=[δ "num",δ (toString (w:Int))])\/∃x,kT x=true/\ws=[x])/\∀H',jJ H H'->Q (.bl true) H'
def spKd (K:Ω):Sp:=fun vs H Q _=>∃(a:Addr) (nm:Nat->Str) (n:Nat) (kd:Kd),vs=[.ref a]/\SqL K H a ((kd.words nm).map V.str)/\kd.Fit n/\NOk nm n/\∀H',jJ H H'->Q (.bl true) H'
def spFl (K:Ω):Sp:=fun vs H Q _=>∃(a:Addr) (nm:Nat->Str) (n:Nat) (kd:Kd) (f:Str),vs=[.ref a]/\SqL K H a ((f::kd.words nm).map V.str)/\kT f=true/\kd.Fit n/\NOk nm n/\∀H',jJ H H'->Q (.bl true) H'
def aGw (K:Ω):Sp:=fun vs H Q _=>∃(a:Addr) (nm:Nat->Str) (n:Nat) (kd:Kd) (f:Str),vs=[.ref a]/\SqL K H a ((f::kd.words nm).map V.str)/\kd.Fit n/\NOk nm n/\∀l H',jJ H H'->H l=none->H' l=some (.lst ((Kd.named nm kd).map V.str))->Q (.ref l) H'
theorem eY{f:Str->Bool}{l:List Str}{i:Nat}(h:l[i]?=some a):(l.take (i+1)).filter f=(l.take i).filter f++(if f a=true then [a] else []):=by
 rw[zk,h,List.filter_append]
 congr 1
 show[a].filter f=_
 by_cases z:f a=true
 ·rw[if_pos z,List.filter_cons_of_pos z];rfl
 ·rw[if_neg z,AE z];rfl
theorem qM{ns:List Str}{i:Nat}(h:(ns.map V.str)[i]?=some x):∃c,ns[i]?=some c/\x=.str c:=by
 rw[xw]at h;cases e:ns[i]? with
 |none=>rw[e]at h;cases h
 |some c=>rw[e]at h;cases h;exact⟨c,rfl,rfl⟩
structure Wel (S:List Shp):Prop where
 good:Good S
 nm:∀s∈S,kT s.1=true
 fnm:∀s∈S,∀f∈s.2,kT f.1=true
 nd:(S.map (·.1)).Nodup
 fnd:∀s∈S,(s.2.map (·.1)).Nodup
 len:S.length<=5
 bd:∀(i:Nat) (s:Shp),S[i]?=some s->(tabs S).sz.getD i 0<=64/\(un (.nest i) S Str.empty).length<=40/\(tabs S).dp.getD i 0<=4/\s.2.length<=5
theorem xG{α : Type}{S:List α}{x y : α}{i:Nat}(h:(S++[x])[i]?=some y):S[i]?=some y\/(i=S.length/\y=x):=by
 by_cases hi:i<S.length
 ·rw[xo hi]at h;exact .inl h
 ·rw[xa (by omega)]at h;have:i-S.length<1:=(θ.mp h).1;have e:i=S.length:=by omega
  subst e;rw[Ap]at h;cases h;exact .inr ⟨rfl,rfl⟩
theorem Good.snoc{s:Shp}(h:Good S1)(h1:s.2≠[])(h2:s.2.length<=6)(h3:∀f∈s.2,f.2.Fit S1.length/\1<=f.1.length/\f.1.length<=6)(h4:(s.2.map fun f=>f.2.size (tabs S1).sz).sum<=1000):Good (S1++[s]):=by
 refine⟨fun i t e=>?_,fun i t e=>?_,fun i t e=>?_,fun i=>?_⟩
 ·rcases xG e with e|⟨_,rfl⟩
  ·exact h.ne i t e
  ·exact h1
 ·rcases xG e with e|⟨_,rfl⟩
  ·exact h.few i t e
  ·exact h2
 ·rcases xG e with e|⟨rfl,rfl⟩
  ·exact h.fit i t e
  ·exact h3
 ·by_cases hi:i<S1.length
  ·rw[(oE hi).1];exact h.sz i
  ·by_cases e:i=S1.length
   ·subst e;rw[(iR S1 s []).1];exact h4
   ·have hl:=(eV (S1++[s])).1;rw[η,xm]at hl;rw[xh,List.getElem?_eq_none (by omega)];exact xy _
theorem Good.pre{S1 S2:List Shp}(h:Good (S1++S2)):Good S1:=by
 refine⟨fun i t e=>h.ne i t ?_,fun i t e=>h.few i t ?_,fun i t e=>h.fit i t ?_,fun i=>?_⟩
 ·rw[xo (θ.mp e).1];exact e
 ·rw[xo (θ.mp e).1];exact e
 ·rw[xo (θ.mp e).1];exact e
 ·by_cases hi:i<S1.length
  ·rw[←(oE (R:=S2) hi).1];exact h.sz i
  ·have hl:=(eV S1).1;rw[xh,List.getElem?_eq_none (by omega)];exact xy _
def Smal (S:List Shp) (i:Nat):Prop:=(tabs S).sz.getD i 0<=64/\(un (.nest i) S Str.empty).length<=40/\(tabs S).dp.getD i 0<=4
theorem Wel.pre{S S1 S2:List Shp}{s:Shp}{f1 f2:List (Str×Kd)}(h:Wel S)(e:S=S1++s::S2)(ef:s.2=f1++f2)(hne:f1≠[]):Good (S1++[(s.1,f1)])/\Smal (S1++[(s.1,f1)]) S1.length/\f1.length<=5:=by
 subst e;have hi:(S1++s::S2)[S1.length]?=some s:=by rw[xa (μ _),Ap];rfl
 obtain⟨b1,b2,b3,b4⟩:=h.bd _ _ hi;obtain⟨t1,t2,t3⟩:=iR S1 s S2;obtain⟨u1,u2,u3⟩:=iR S1 (s.1,f1) [];rw[ef,η]at b4;have z1:(f1.map fun f=>f.2.size (tabs S1).sz).sum<=64:=by
  rw[t1,ef,Ψ,List.sum_append]at b1;omega
 have hfit:=h.good.fit _ _ hi;refine⟨Good.snoc (Good.pre h.good) hne (by show f1.length<=6;omega) (fun f hf=>hfit f (by rw[ef];exact Aq _ hf)) (by show(f1.map _).sum<=1000;omega),⟨by rw[u1];exact z1,?_,?_⟩,by omega⟩
 ·have e1:un (.nest S1.length) (S1++[(s.1,f1)]) Str.empty=_:=u3 Str.empty;have e2:un (.nest S1.length) (S1++s::S2) Str.empty=_:=t3 Str.empty;rw[e2,ef,Bo,η]at b2;rw[e1];show(f1.flatMap _).length<=40;omega
 ·rw[u2];rw[t2,ef,Ψ]at b3;have:yF (f1.map fun f=>f.2.depth (tabs S1).dp)<=yF ((f1.map fun f=>f.2.depth (tabs S1).dp)++(f2.map fun f=>f.2.depth (tabs S1).dp)):=wH fun x hx=>oJ (Aq _ hx);show 1+yF (f1.map fun f=>f.2.depth (tabs S1).dp)<=4;omega
theorem xI{S:List Shp}{i:Nat}(h:S[i]?=some s):kN S i=s.1:=by
 unfold kN;rw[xh,h];rfl
theorem aLe{S1 S2:List Shp}{i:Nat}(h:i<S1.length):kN (S1++S2) i=kN S1 i:=by
 have e:S1[i]?=some S1[i]:=ν h;rw[xI e,xI (by rw[xo h];exact e)]
theorem mU{nm nm':Nat->Str}{n:Nat}(h:∀i,i<n->nm i=nm' i):∀{k:Kd},k.Below n->k.words nm=k.words nm'
 |.num _,_=>rfl
 |.nest i,hk=>by show[nm i]=[nm' i];rw[h i hk]
 |.many m k,hk=>by show _::_::k.words nm=_::_::k.words nm';rw[mU h (k:=k) hk]
 |.pick is,hk=>by
  show _::is.map nm=_::is.map nm';rw[CB fun i hi=>h i (hk i hi)]
theorem aEe{S:List Shp}(h:∀s∈S,kT s.1=true):NOk (kN S) S.length:=fun i hi=>by
 have e:S[i]?=some S[i]:=ν hi;rw[xI e];exact h _ (Cv hi)
theorem aJu{S:List Shp}(h:(S.map (·.1)).Nodup){i j:Nat}(hi:i<S.length)(hj:j<S.length)(e:kN S i=kN S j):i=j:=by
 have ei:S[i]?=some S[i]:=ν hi;have ej:S[j]?=some S[j]:=ν hj;rw[xI ei,xI ej]at e;have hp:=List.pairwise_iff_getElem.mp h;rcases Nat.lt_trichotomy i j with hl|hl|hl
 ·exact absurd (by rw[Cw,Cw];exact e) (hp i j (by rw[ε];exact hi) (by rw[ε];exact hj) hl)
 ·exact hl
 ·exact absurd (by rw[Cw,Cw];exact e.symm) (hp j i (by rw[ε];exact hj) (by rw[ε];exact hi) hl)
theorem aBh{S:List Shp}(h:(S.map (·.1)).Nodup):∀{k:Kd},k.Fit S.length->(Kd.named (kN S) k).Nodup/\(Kd.named (kN S) k).length<=4/\∀x∈Kd.named (kN S) k,∃i,i<S.length/\x=kN S i:=by
 have hs:∀{k:Kd},(∃w,k=.num w/\1<=w/\w<=4)\/(∃i,k=.nest i/\i<S.length)->(Kd.named (kN S) k).Nodup/\(Kd.named (kN S) k).length<=4/\∀x∈Kd.named (kN S) k,∃i,i<S.length/\x=kN S i:=by
  rintro k (⟨w,rfl,_⟩|⟨i,rfl,hi⟩)
  ·exact⟨Dw,xy _,fun x hx=>by cases hx⟩
  ·exact⟨List.pairwise_singleton _ _,(by show 1<=4;decide),fun x hx=>⟨i,hi,ω.mp hx⟩⟩
 intro k hk;cases k with
 |num w=>exact hs (.inl ⟨w,rfl,hk⟩)
 |nest i=>exact hs (.inr ⟨i,rfl,hk⟩)
 |many m k=>exact hs (k:=k) hk.2.2
 |pick is =>
  refine⟨?_,by show(is.map _).length<=4;rw[ε];exact hk.2.1,fun x hx=>?_⟩
  ·show(is.map (kN S)).Pairwise (·≠·);rw[List.pairwise_map];exact hk.2.2.1.imp_of_mem fun ha hb ne e=>ne (aJu h (hk.2.2.2 _ ha) (hk.2.2.2 _ hb) e)
  ·obtain⟨i,hi,rfl⟩:=zm.mp hx;exact⟨i,hk.2.2.2 i hi,rfl⟩
theorem aOr{ws:List Str}(h:kT n=true):aBs (n::ws)=false:=by
 match ws with
 |[]=>rfl
 |[y] =>
  show(decide (n=δ "shape")&&kT y)=false;rw[decide_eq_false (cQ h (by decide)),Bd]
 |_::_::_=>rfl
def aQa (c:Cl5) (K:Ω):Sp:=fun vs H Q _=>∃(tl:Addr) (x:V) (nm:Str) (sa:List Addr) (T:List Shp),vs=[.ref tl,x,.str nm]/\H tl=some (.lst (sa.map V.ref))/\SW c K H sa T/\(∀s∈T,s.2≠[])/\nm∉T.map (·.1)/\T.length<8/\∀H',jJ H H'->Q .non H'
def spWh (c:Cl5) (K:Ω):Sp:=fun vs H Q _=>∃(tl z:Addr) (sa:List Addr) (T:List Shp) (s:Shp),vs=[.ref tl]/\H tl=some (.lst ((sa++[z]).map V.ref))/\SW c K H (sa++[z]) (T++[s])/\(T.map (·.1)).Nodup/\T.length<=100/\∀d H',jJ H H'->H d=none->H' d=some (.dK (dk T sa))->Q (.ref d) H'
def spNF (c:Cl5) (K:Ω):Sp:=fun vs H Q _=>∃(tl a z:Addr) (x:V) (sa:List Addr) (T:List Shp) (s:Shp) (fn:Str) (kd:Kd),vs=[.ref tl,x,.ref a]/\H tl=some (.lst ((sa++[z]).map V.ref))/\SW c K H (sa++[z]) (T++[s])/\SqL K H a ((fn::kd.words (kN T)).map V.str)/\kT fn=true/\fn∉s.2.map (·.1)/\s.2.length<=100/\kd.Fit T.length/\NOk (kN T) T.length/\(T.map (·.1)).Nodup/\T.length<=100/\∀H',jJ H H'->Q .non H'
inductive aFy (c:Cl5) (K:Ω) (n:Nat) (vs:List V) (H:Hp) (Q:VK):Prop|mk:∀(a d:Addr) (kd:Kd) (sa:List Addr) (T:List Shp),vs=[.ref a,.ref d]->kd.lv<n->SqL K H a ((kd.words (kN T)).map V.str)->H d=some (.dK (dk T sa))->kd.Fit T.length->NOk (kN T) T.length->(T.map (·.1)).Nodup->sa.length=T.length->(∀k H',jJ H H'->KO c K H' sa k kd->Q (.ref k) H')->aFy c K n vs H Q
def aFs (c:Cl5) (K:Ω) (n:Nat):Sp:=fun vs H Q _=>aFy c K n vs H Q
def spTM (c:Cl5) (K:Ω) (r:Nat):Sp:=fun vs H Q _=>∃(a:Addr) (i:Nat) (sa:List Addr) (S:List Shp),vs=[.ref a]/\sa[i]?=some a/\2*i+2<=r/\8*r<=200/\SW c K H sa S/\Good S/\Smal S i/\∀H',jJ H H'->Q (.bl false) H'
def spWF (c:Cl5) (K:Ω) (r:Nat):Sp:=fun vs H Q _=>∃(tl a z:Addr) (x:V) (sa:List Addr) (T:List Shp) (s:Shp) (fn:Str) (kd:Kd),vs=[.ref tl,x,.ref a]/\H tl=some (.lst ((sa++[z]).map V.ref))/\SW c K H (sa++[z]) (T++[s])/\SqL K H a ((fn::kd.words (kN T)).map V.str)/\kd.Fit T.length/\NOk (kN T) T.length/\(T.map (·.1)).Nodup/\T.length<=100/\2*T.length+2<=r/\8*r<=200/\s.2.length<=50/\Good (T++[(s.1,s.2++[(fn,kd)])])/\Smal (T++[(s.1,s.2++[(fn,kd)])]) T.length ∧
 ∀y H',jJ H H'->SO c K H' sa y (s.1,s.2++[(fn,kd)])->Q (.ref y) H'
def txt (S:List Shp):Str:=xl nlS ((oN S).map (xl spS))
def spRd (c:Cl5) (CS:Addr) (K:Ω) (r:Nat):Sp:=fun vs H Q _=>∃S:List Shp,vs=[.str (txt S)]/\Wel S/\S≠[]/\12<=r/\8*r<=200/\∀(a dx t:Addr) (sa:List Addr) H',jJ H H'->H' a=some (.ins CS dx [("shapes",.ref t)])->SqT K H' t (sa.map V.ref)->SW c K H' sa S->Q (.ref a) H'
theorem rN(h:kT x=true):Pln x:=by
 unfold kT at h;simp only[yt]at h;have ha:x.cps.toList.all (fun c=>decide (c∈cG.cps.toList))=true:=h.1.2;have hc:∀c∈x.cps.toList,97<=c/\c<=122:=fun c hc=>(aBo c).mp (of_decide_eq_true (yh.mp ha c hc));exact⟨fun z=>by have:=hc _ z;omega,fun z=>by have:=hc _ z;omega⟩
theorem aGm(hW:Wel S):∀it∈xD S,(∀w∈it.line (kN S),Pln w/\w.length<=6)/\(it.line (kN S)).length<=6/\it.line (kN S)≠[]:=by
 intro it hit;obtain⟨s,hs,hit⟩:=List.mem_flatMap.mp hit;have hn:=aEe hW.nm;unfold pO at hit;rcases χ.mp hit with rfl|hit
 ·refine⟨fun w hw=>?_,(by show 2<=6;decide),(by simp[Itm.line])⟩;simp only[Itm.line,χ,xq,or_false]at hw;rcases hw with rfl|rfl
  ·exact⟨by unfold Pln;ac_rfl,by decide⟩
  ·exact⟨rN (hW.nm s hs),(yA (hW.nm s hs)).2⟩
 ·obtain⟨f,hf,rfl⟩:=zm.mp hit;obtain⟨i,hi⟩:=zd.mp hs;have hfit:f.2.Fit S.length:=(hW.good.fit i s hi f hf).1.mono (BL (θ.mp hi).1);have hnm:=hW.fnm s hs f hf;obtain⟨w6,w5⟩:=uC hn hfit;refine⟨fun w hw=>?_,(by show(f.2.words (kN S)).length+1<=6;omega),(by simp[Itm.line])⟩;rcases χ.mp (show w∈f.1::f.2.words (kN S) from hw) with rfl|hw
  ·exact⟨rN hnm,(yA hnm).2⟩
  ·exact⟨hfit.plain (fun j hj=>rN (hn j hj)) w hw,w6 w hw⟩
theorem aSf{S:List Shp}(hW:Wel S)(hne:S≠[]):(xD S).length<=30/\(∀it∈xD S,(xl spS (it.line (kN S))).length<=100/\yu (xl spS (it.line (kN S))) spS=it.line (kN S))/\(txt S).length<=4000/\yu (txt S) nlS=(xD S).map fun it=>xl spS (it.line (kN S)):=by
 have hl:=aGm hW;have h30:(xD S).length<=30:=by
  unfold xD;rw[List.length_flatMap];have h1:(S.map fun s=>(pO s).length).sum<=S.length*6:=uW fun s hs=>by
   obtain⟨i,hi⟩:=zd.mp hs;have:=(hW.bd i s hi).2.2.2;unfold pO;rw[Ξ,ε];omega
  have:=hW.len;omega
 have hrow:∀it∈xD S,(xl spS (it.line (kN S))).length<=100:=fun it hit=>by
  obtain⟨h1,h2,_⟩:=hl it hit;have h3:(xl spS (it.line (kN S))).length<=_:=rR (c:=32) (m:=6) fun w hw=>(h1 w hw).2;omega
 have e:(oN S).map (xl spS)=(xD S).map fun it=>xl spS (it.line (kN S)):=by rw[fZ,Au];rfl
 refine⟨h30,fun it hit=>⟨hrow it hit,aDm (hl it hit).2.2 fun w hw=>((hl it hit).1 w hw).1⟩,?_,?_⟩
 ·unfold txt;rw[e];have h3:(xl nlS ((xD S).map fun it=>xl spS (it.line (kN S)))).length<=_:=rR (c:=10) (m:=100) (ws:=(xD S).map fun it=>xl spS (it.line (kN S))) fun w hw=>by
   obtain⟨it,hit,rfl⟩:=zm.mp hw;exact hrow it hit
  rw[ε]at h3;omega
 ·unfold txt;rw[aAu,e]
  ·rw[fZ];intro z;have h0:=aAk hne;rw[List.map_eq_nil_iff]at z;rw[z]at h0;exact absurd h0 (by decide)
  ·intro l hl' w hw;rw[fZ]at hl';obtain⟨it,hit,rfl⟩:=zm.mp hl';exact((hl it hit).1 w hw).1
theorem aGx{sa:List Addr}{T:List Shp}{s:Shp}(h:sa.length=(T++[s]).length):∃sa0 z,sa=sa0++[z]:=by
 rcases Ca sa with rfl|⟨sa0,z,rfl⟩
 ·rw[η]at h;exact absurd h (by simp)
 ·exact⟨sa0,z,Cb ..⟩
theorem Al.drawn(h:Al xs H)(d:Drawn p H H'):Al xs H':=fun b hb=>by
 by_cases e:b=p
 ·obtain⟨x,y,z,q⟩:=d.1;exact⟨_,by rw[e];exact q⟩
 ·obtain⟨o,ho⟩:=h b hb;exact⟨o,d.2 b o e ho⟩
theorem Drawn.offs{xs:List Addr}(d:Drawn p H H')(hp:p∈xs):jJ (offs xs H) (offs xs H'):=aCh fun b o n q=>d.2 b o (fun z=>n (by rw[z];exact hp)) q
def c1L:Str:=δ "bfgjkqvxyzwh"
def c1 (a k:Nat):Nat:=c1L.cps.toList.getD ((a+k) % 12) 0
def nm1 (tl:Str) (a:Nat):List Str:=(zt 12).map fun k=>(⟨#[c1 a k]⟩ : Str)++tl++δ "x"
def nm2 (a:Nat):List Str:=((zt 6).map fun k=>Txt.slice (δ "zyxwvu") none (some (1+(((a+k) % 6:Nat):Int))))++(["yz","yyyyyy","y","yx","numz","tagszz"]:List Str)
theorem Drawn.free{H H1:Hp}(d:Drawn p H H1)(h:H1 l=none):H l=none:=by
 cases e:H l with
 |none=>rfl
 |some o =>
  by_cases z:l=p
  ·obtain⟨x,y,w,q⟩:=d.1;rw[z,q]at h;cases h
  ·rw[d.2 l o z e]at h;cases h
theorem Wel.nil:Wel []:=⟨⟨fun i s h=>by simp at h,fun i s h=>by simp at h,fun i s h=>by simp at h,fun i=>by show(([]:List Nat).getD i 0)<=1000;simp⟩,fun s h=>by simp at h,fun s h=>by simp at h,Dw,fun s h=>by simp at h,xy _,fun i s h=>by simp at h⟩
theorem Wel.snoc{S:List Shp}{nm:Str}{fs:List (Str×Kd)}(h:Wel S)(h1:kT nm=true)(h2:nm∉S.map (·.1))(h3:S.length<=4)(h4:fs≠[])(h5:fs.length<=5)(h6:∀f∈fs,f.2.Fit S.length/\kT f.1=true)(h7:(fs.map (·.1)).Nodup)(h8:Smal (S++[(nm,fs)]) S.length):Wel (S++[(nm,fs)]):=by
 have hz:=h8.1;rw[(iR S (nm,fs) []).1]at hz;refine⟨Good.snoc h.good h4 (by show fs.length<=6;omega) (fun f hf=>⟨(h6 f hf).1,yA (h6 f hf).2⟩) (by show(fs.map _).sum<=1000;exact yb hz (by decide)),fun s hs=>?_,fun s hs=>?_,?_,fun s hs=>?_,by rw[η,xm];omega,fun i s e=>?_⟩
 ·rcases xu.mp hs with hs|hs
  ·exact h.nm s hs
  ·rw[ω.mp hs];exact h1
 ·rcases xu.mp hs with hs|hs
  ·exact h.fnm s hs
  ·rw[ω.mp hs];exact fun f hf=>(h6 f hf).2
 ·rw[Ψ,Cg];refine⟨h.nd,List.pairwise_singleton _ _,fun a ha b hb e=>h2 ?_⟩;rw[←show b=nm from ω.mp hb,←e];exact ha
 ·rcases xu.mp hs with hs|hs
  ·exact h.fnd s hs
  ·rw[ω.mp hs];exact h7
 ·rcases xG e with e|⟨rfl,rfl⟩
  ·have hi:i<S.length:=(θ.mp e).1;obtain⟨t1,t2,t3⟩:=oE (R:=[(nm,fs)]) hi;obtain⟨b1,b2,b3,b4⟩:=h.bd i s e;refine⟨by rw[t1];exact b1,?_,by rw[t2];exact b3,b4⟩;have e1:un (.nest i) (S++[(nm,fs)]) Str.empty=un (.nest i) S Str.empty:=by
    show((tabs (S++[(nm,fs)])).ut.getD i fun _=>[]) Str.empty=((tabs S).ut.getD i fun _=>[]) Str.empty;rw[t3]
   rw[e1];exact b2
  ·exact⟨h8.1,h8.2.1,h8.2.2,h5⟩
theorem iV{X:Cx}{K:Ω}(hK:X.K=K)(he:PE X o ta)(hb:AZ o f X.env (eval o X.env)=eval o X.env):PE X (.Attribute o f pos) (aPw K ta f):=hK ▸ aPo he hb
def NLx (CN:Addr) (H:Hp) (e:Addr) (v:V):Prop:=∃dx,H e=some (ExF e CN (some dx))/\H dx=some (XD dx [("line",v)])
theorem aEj{v:V}{H':Hp}(g:jJ H H')(he:H' e=none)(hd:upd H' e (Ex0 e CN none) dx=none):
  jJ H (upd (upd (upd (upd H' e (Ex0 e CN none)) dx (XD dx [("line",v)])) e (Ex0 e CN (some dx))) e (ExF e CN (some dx)))/\NLx CN (upd (upd (upd (upd H' e (Ex0 e CN none)) dx (XD dx [("line",v)])) e (Ex0 e CN (some dx))) e (ExF e CN (some dx))) e v:=by
 have ne:dx≠e:=fun z=>by rw[z,jF]at hd;cases hd
 have hd':H' dx=none:=by rw[jR ne]at hd;exact hd
 refine⟨fun b o q=>?_,dx,jF,?_⟩
 ·have q':=g b o q;have n1:b≠e:=jI q' he;have n2:b≠dx:=jI q' hd';rw[jR n1,jR n1,jR n2,jR n1];exact q'
 ·rw[jR ne,jR ne,jF]
def spRE (K:Ω):Sp:=fun vs H Q _=>∃(e:Addr) (v:V) (C R fI:Addr) (dx:Option Addr),vs=[.ref e,v]/\H e=some (Ex0 e C dx)/\fH K C R fI/\Q .non H
def aHf (CN:Addr):Sp:=fun vs H Q _=>∃(e:Addr) (v:V),vs=[.ref e,v]/\H e=some (Ex0 e CN none)/\∀dx,H dx=none->Q .non (upd (upd H dx (XD dx [("line",v)])) e (Ex0 e CN (some dx)))
theorem lZ{H:Hp}(hp:H p=some (.lst xs))(e:H b=some o)(n:∀ys,o≠.lst ys):offs [p] H b=some o:=qQ (fun z=>n xs (by rw[ω.mp z,hp]at e;exact(zv e).symm)) e
theorem aRk{K:Ω}{H:Hp}(hp:H p=some (.lst xs))(h:SqT K H b ys):SqT K (offs [p] H) b ys:=by
 rcases h with (h|⟨o,h⟩)|h
 ·exact .inl (.inl (lZ hp h (fun _ z=>by cases z)))
 ·exact .inl (.inr ⟨o,lZ hp h (fun _ z=>by cases z)⟩)
 ·exact .inr h
theorem aKm{H:Hp}(hl:H l=none)(g:jJ H H1):jJ (offs xs H) (offs (l::xs) H1):=fun b o e=>by
 have hb:b∉xs:=fun z=>by unfold offs at e;rw[if_pos z]at e;cases e
 have e':H b=some o:=jW _ _ e;refine qQ (fun z=>?_) (g _ _ e');rcases χ.mp z with z|z
 ·exact jI e' hl z
 ·exact hb z
theorem aLl : offs [] H=H:=by
 funext b
 unfold offs;rw[if_neg (by simp)]
def RO (c:Cl5) (CS:Addr) (K:Ω) (H:Hp) (ra:Addr) (sa:List Addr) (S:List Shp):Prop:=∃dx t,H ra=some (.ins CS dx [("shapes",.ref t)])/\SqT K H t (sa.map V.ref)/\SW c K H sa S
theorem iE{K:Ω}(h:RO c CS K H ra sa S)(g:jJ H H'):RO c CS K H' ra sa S:=by
 obtain⟨dx,t,a,b,w⟩:=h;exact⟨dx,t,g _ _ a,g.tp b,w.same g⟩
def spMn (c:Cl5) (CS:Addr) (K:Ω):Sp:=fun vs H Q _=>∃(ra z:Addr) (sa:List Addr) (S:List Shp),vs=[.ref ra]/\RO c CS K H ra (sa++[z]) S/\Q (.ref z) H
def gF (p w:Str):Bool:=if p∈zA then kT w else if p = "NUMBER" then (qW (bE w) 0 4294967295).isSome else if p = "OP" then decide (w∈sigL) else if p = "PATH" then !decide (w = "") else decide (w=p)
def xX (ws:List Str) (f:Str×List Str):Bool:=decide (f.2.length=ws.length)&&(zo gF f.2 ws).all id
def rdF (goal:Str):List (Str×Str)->List Str
 |[]=>[]
 |p::r=>if p.1∈zA/\(p.1 ≠ "A" ∨ goal = "") then p.2::rdF goal r else rdF goal r
theorem len_app{x y:Str}: (x++y).length=x.length+y.length:=by
 show(x++y).cps.size=x.cps.size+y.cps.size;rw[BI,Array.size_append]
theorem join_one{x:Str}: xl sep [x]=x:=rfl
def spBo:Sp:=fun vs H Q _=>vs=[.int 4]/\Q (.int 4294967296) H
def spFi:Sp:=fun vs H Q _=>∃p w:Str,vs=[.str p,.str w]/\w.length<=1000/\∀H',jJ H H'->Q (.bl (gF p w)) H'
def stB (st:List Str) (d:Str):Bool:=!((decide (d = "else")&&!decide (st.getLast?=some "if"))||(decide (d = "end")&&decide (st=[]))||(decide (d∈mB)&&decide (st.length=3)))
def spNs (CN:Addr) (K:Ω):Sp:=fun vs H Q E=>∃(a:Addr) (i d:V) (st:List Str) (s:Str),vs=[.ref a,i,d]/\d=.str s/\SqL K H a (st.map V.str)/\st.length<=3/\(stB st s=true->∀H',jJ H H'->Q .non H')/\(stB st s=false->∀e H',jJ H H'->H e=none->NLx CN H' e i->E (.ref e) none H')
def bgS (st:List Str) (d:Str):List Str:=if d∈mB then st++[d] else if d = "else" then st.dropLast++[d] else if d = "end" then st.dropLast else st
def spBg (K:Ω):Sp:=fun vs H Q _=>∃(a:Addr) (st:List Str) (d:Str) (xs:List Addr),vs=[.ref a,.str d]/\Al xs H/\SqL K (offs xs H) a (st.map V.str)/\st.length<=3/\∀b H',jJ H H'->SqL K (offs xs H') b ((bgS st d).map V.str)->Q (.ref b) H'
def spI4 (C:Addr) (n1 n2 n3 n4:Str):Sp:=fun vs H Q _=>∃(a dx:Addr) (v1 v2 v3 v4:V) (H1:Hp),vs=[.ref a,v1,v2,v3,v4]/\H a=some (.ins C dx [])/\jJ H1 H/\H1 a=none/\∀H',jJ H1 H'->H' a=some (.ins C dx [(n1,v1),(n2,v2),(n3,v3),(n4,v4)])->Q .non H'
def aHt (C:Addr) (n1 n2 n3 n4 n5 n6:Str):Sp:=fun vs H Q _=>∃(a dx:Addr) (v1 v2 v3 v4 v5 v6:V) (H1:Hp),vs=[.ref a,v1,v2,v3,v4,v5,v6]/\H a=some (.ins C dx [])/\jJ H1 H/\H1 a=none/\∀H',jJ H1 H'->H' a=some (.ins C dx [(n1,v1),(n2,v2),(n3,v3),(n4,v4),(n5,v5),(n6,v6)])->Q .non H'
theorem cutI(st:List Str):zF (st.map V.str) none (some (-1))=st.dropLast.map V.str:=by
 unfold zF;rw[show HT.sIx (st.map V.str).length 0 none=0 from rfl,Dx,Nat.sub_zero,List.dropLast_eq_take,List.map_take,ε]
 congr 1
 show(if (-1:Int)<0 then ((-1:Int)+st.length).toNat else min (-1:Int).toNat st.length)=st.length-1;rw[if_pos (by decide)];omega
theorem cutL(st:List Str):zF (st.map V.str) (some (-1)) none=st.getLast?.toList.map V.str:=by
 rcases Ca st with rfl|⟨ys,y,rfl⟩
 ·rfl
 ·rw[Cb];unfold zF;have e1:HT.sIx ((ys++[y]).map V.str).length 0 (some (-1))=ys.length:=by
   show(if (-1:Int)<0 then ((-1:Int)+(((ys++[y]).map V.str).length:Nat)).toNat else min (-1:Int).toNat ((ys++[y]).map V.str).length)=ys.length;rw[if_pos (by decide),ε,η,xm];omega
  rw[e1,show HT.sIx ((ys++[y]).map V.str).length ((ys++[y]).map V.str).length none=((ys++[y]).map V.str).length from rfl,ε,η,xm,Ψ,List.drop_left' (by rw[ε]),Nat.add_sub_cancel_left,List.getLast?_concat];rfl
theorem aOo{f:Str×List Str->Bool}{j:Nat}(hj:xH[j]?=some x)(hx:f x=true)(h:∀m y,m<j->xH[m]?=some y->f y=false):xH.find? f=some x:=by
 rw[List.find?_eq_some_iff_getElem];obtain⟨hl,e⟩:=θ.mp hj;exact⟨hx,j,hl,e,fun m hm=>by rw[h m _ hm (ν (by omega))];rfl⟩
theorem aFz{f:Str×List Str->Bool}{j:Nat}(hj:xH[j]?=some x)(hx:f x=false)(h:∀m y,m<j->xH[m]?=some y->f y=false):∀m y,m<j+1->xH[m]?=some y->f y=false:=fun m y hm hy=>by
 by_cases z:m=j
 ·subst z;rw[hj]at hy;cases hy;exact hx
 ·exact h m y (by omega) hy
theorem aNr(a b:List (Str×Str)):rdF g (a++b)=rdF g a++rdF g b:=by
 induction a with
 |nil=>rfl
 |cons p r ih =>
  show(if p.1∈zA/\(p.1 ≠ "A" ∨ g = "") then p.2::rdF g (r++b) else rdF g (r++b))=(if p.1∈zA/\(p.1 ≠ "A" ∨ g = "") then p.2::rdF g r else rdF g r)++rdF g b
  split
  ·rw[ih];rfl
  ·exact ih
theorem eL{a b:List Str}{j:Nat}(hu:a[j]?=some u)(hv:b[j]?=some v):(a.zip b).take (j+1)=(a.zip b).take j++[(u,v)]:=by
 rw[zk]
 congr 1
 show(zo Prod.mk a b)[j]?.toList=_;rw[DG,hu,hv];rfl
theorem aIy:∀(a b:List Str) (k:Str),xR (zo (fun x y=>((.inr x:Key),V.str y)) a b) (.inr k)=((a.zip b).lookup k).map V.str
 |[],_,_=>rfl
 |_::_,[],_=>rfl
 |x::a,y::b,k=>by
  show xR (((.inr x:Key),V.str y)::zo _ a b) (.inr k)=(((x,y)::a.zip b).lookup k).map V.str
  by_cases e:x=k
  ·subst e;rw[eC rfl,List.lookup_cons_self];rfl
  ·rw[vU (fun z=>e (AN z)),List.lookup_cons,show(k == x)=false from beq_false_of_ne (Ag e),aIy a b k]
theorem fB:∀{a b:List Str}{k:Str},k∉a->(a.zip b).lookup k=none
 |[],_,_,_=>rfl
 |_::_,[],_,_=>rfl
 |x::a,y::b,k,h=>by
  rw[List.zip_cons_cons,List.lookup_cons,show(k == x)=false from beq_false_of_ne (fun z=>h (by rw[z];exact ο ..))];exact fB fun z=>h (π _ z)
theorem gU:∀{a b:List Str}{j:Nat}{u v:Str},a.Nodup->a[j]?=some u->b[j]?=some v->(a.zip b).lookup u=some v
 |[],_,_,_,_,_,h,_=>by simp at h
 |_::_,[],_,_,_,_,_,h=>by simp at h
 |x::a,y::b,0,u,v,_,hu,hv=>by
  cases hu;cases hv;rw[List.zip_cons_cons,List.lookup_cons_self]
 |x::a,y::b,j+1,u,v,hd,hu,hv=>by
  obtain⟨h1,h2⟩:=Bk.mp hd;have hu':a[j]?=some u:=hu;rw[List.zip_cons_cons,List.lookup_cons,show(u == x)=false from beq_false_of_ne (fun z=>h1 (by rw[←z];exact xk hu'))];exact gU h2 hu' hv
theorem mR:∀(a b:List Str) (acc:List (Key×V)),a.Nodup->(∀x∈a,∀kv∈acc,kv.1≠.inr x)->vT acc (zo (fun x y=>((.inr x:Key),V.str y)) a b)=acc++zo (fun x y=>((.inr x:Key),V.str y)) a b
 |[],_,acc,_,_=>by simp[vT]
 |_::_,[],acc,_,_=>by simp[vT]
 |x::a,y::b,acc,hd,hn=>by
  obtain⟨h1,h2⟩:=Bk.mp hd;have e:putK acc (.inr x) (V.str y)=acc++[(.inr x,V.str y)]:=by
   unfold putK;rw[if_neg];rw[BK];rintro ⟨kv,hkv,z⟩;exact hn x (ο ..) kv hkv (of_decide_eq_true z)
  have:=mR a b (acc++[(.inr x,V.str y)]) h2 (fun z hz kv hkv=>by
   rcases xu.mp hkv with hkv|hkv
   ·exact hn z (π _ hz) kv hkv
   ·rw[ω.mp hkv];intro q;rw[AN q]at h1;exact h1 hz)
  show vT (putK acc (.inr x) (V.str y)) _=_;rw[e,this,yc];rfl
structure PrC (K:Ω) (CR CLp CC:Addr):Prop where
 i1:wN K CR
 i2:wN K CLp
 i3:wN K CC
 rr:yi K (.ref CR) (.ref CR)=some true
 lr:yi K (.ref CLp) (.ref CR)=some false
 cr:yi K (.ref CC) (.ref CR)=some false
 ll:yi K (.ref CLp) (.ref CLp)=some true
 cl:yi K (.ref CC) (.ref CLp)=some false
 cc:yi K (.ref CC) (.ref CC)=some true
def mV:Option Nat->V
 |none=>.non
 |some n=>.int (n:Int)
def nxt:Tr->Nat
 |.row i=>i+1
 |.loop _ j _=>j+1
 |.ch _ j _ _ _=>j+1
theorem uL(h:Prs ds n ts e):n<=e:=by
 induction h with
 |stop _=>exact μ _
 |row _ _ _ ih=>omega
 |loop _ _ _ _ _ _ ih1 ih2=>omega
 |if1 _ _ _ _ _ _ ih1 ih2=>omega
 |if2 _ _ _ _ _ _ _ _ _ ih1 ih2 ih3=>omega
theorem aLa{t:Tr}{ts:List Tr}(h:Prs ds n (t::ts) e):Prs ds (nxt t) ts e/\n<nxt t:=by
 cases h with
 |row _ _ h=>exact⟨h,Bq _⟩
 |loop _ _ h1 _ _ h2=>exact⟨h2,by have:=uL h1;show n<_+1;omega⟩
 |if1 _ _ h1 _ _ h2=>exact⟨h2,by have:=uL h1;show n<_+1;omega⟩
 |if2 _ _ h1 _ _ h2 _ _ h3=>exact⟨h3,by have:=uL h1;have:=uL h2;show n<_+1;omega⟩
theorem aNw{t:Tr}{ts:List Tr}(h:Dp d (t::ts)):Dp d ts:=by
 cases h with
 |row h=>exact h
 |loop _ h=>exact h
 |ch _ _ h=>exact h
theorem aOk{ks p}{es:List Expr}: xi (.Call f as ks p::es) env=(false,eval (.Call f as ks p) env)::xi es env:=rfl
theorem ifJ{Q:VK}(v:V)(hq:Q v H)(h:∀Q':VK,Q' v H->tIf t ta tb σ H Q'):tIf t ta tb σ H Q:=h Q hq
theorem aKt{a b:List Str}{j:Nat}(hu:a[j]?=some u)(hv:b[j]?=some v):rdF g ((a.zip b).take (j+1))=rdF g ((a.zip b).take j)++(if u∈zA/\(u ≠ "A" ∨ g = "") then [v] else []):=by
 rw[eL hu hv,aNr];rfl
theorem gM{H:Hp}(e:H a=some (.frz o (.dK kvs))):zZ H a (kV k) (xR kvs k):=.inl ⟨kvs,k,.inr ⟨o,e⟩,rfl,rfl⟩
theorem dU{xs:List Addr}{l:Addr}: offs (l::xs) (upd H l o)=offs (l::xs) H:=by
 funext b
 unfold offs
 by_cases z:b∈l::xs
 ·rw[if_pos z,if_pos z]
 ·rw[if_neg z,if_neg z,jR (fun e=>z (by rw[e];exact ο ..))]
theorem uU{H:Hp}(h:Al xs H)(hl:H l=some o):Al (l::xs) H:=fun b hb=>by
 rcases χ.mp hb with rfl|hb
 ·exact⟨o,hl⟩
 ·exact h b hb
theorem aSp(h:Al xs H):Al xs (L2.upd H l o):=fun b hb=>by
 by_cases z:b=l
 ·rw[z,jF];exact⟨_,rfl⟩
 ·rw[jR z];exact h b hb
theorem aCx(h:Prs ds n ts e):(ts=[]/\n=e/\(ds.length<=n\/∃x,ds[n]?=some x/\(lnD x=.els\/lnD x=.fin)))\/∃t ts' x,ts=t::ts'/\ds[n]?=some x/\lnD x≠.els/\lnD x≠.fin:=by
 cases h with
 |stop h=>exact .inl ⟨rfl,rfl,h⟩
 |row h1 h2 _=>exact .inr ⟨_,_,_,rfl,h1,by rw[h2];exact⟨(fun z=>by cases z),(fun z=>by cases z)⟩⟩
 |loop h1 h2 _ _ _ _=>exact .inr ⟨_,_,_,rfl,h1,by rw[h2];exact⟨(fun z=>by cases z),(fun z=>by cases z)⟩⟩
 |if1 h1 h2 _ _ _ _=>exact .inr ⟨_,_,_,rfl,h1,by rw[h2];exact⟨(fun z=>by cases z),(fun z=>by cases z)⟩⟩
 |if2 h1 h2 _ _ _ _ _ _ _=>exact .inr ⟨_,_,_,rfl,h1,by rw[h2];exact⟨(fun z=>by cases z),(fun z=>by cases z)⟩⟩
theorem cP{as:List Addr}{n:Nat}(h:as[n]?=some a):atI (as.map V.ref) (n:Int)=some (.ref a):=zY (by rw[xw,h];rfl)
theorem aNm{st:List Str}(h:st.length<=3)(e:stp st x=some st'):st'.length<=3:=by
 unfold stp at e;cases hd:lnD x with
 |row=>rw[hd]at e;cases e;exact h
 |loop =>
  rw[hd]at e;have e':(if st.length=3 then none else some (st++[lnS x]))=some st':=e
  split at e'
  ·cases e'
  ·cases e';rw[η,xm];omega
 |cond =>
  rw[hd]at e;have e':(if st.length=3 then none else some (st++[lnS x]))=some st':=e
  split at e'
  ·cases e'
  ·cases e';rw[η,xm];omega
 |els =>
  rw[hd]at e;have e':(if st.getLast?=some "if" then some (st.dropLast++[("else" : Str)]) else none)=some st':=e
  split at e'
  ·rename_i z;cases e';have:st≠[]:=fun y=>by rw[y]at z;cases z
   have:=CA.mpr this;rw[η,xm,DW];omega
  ·cases e'
 |fin =>
  rw[hd]at e;have e':(if st=[] then none else some st.dropLast)=some st':=e
  split at e'
  ·cases e'
  ·cases e';rw[DW];omega
theorem aIx{ds:List Str}{i:Nat}{st:List Str}(hx:ds[i]?=some x):due (ds.drop i) st i=match stp st x with|none=>some i|some st'=>due (ds.drop (i+1)) st' (i+1):=by
 obtain⟨hi,e⟩:=θ.mp hx;rw[zu hi,e];rfl
theorem aOa{ds:List Str}{st:List Str}: due (ds.drop ds.length) st ds.length=if st=[] then none else some ds.length:=by
 rw[DP];rfl
theorem aLp{H:Hp}(h:H l=none)(g:jJ H G):jJ H (offs [l] G):=fun b o e=>qQ (fun z=>by rw[ω.mp z,h]at e;cases e) (g b o e)
theorem aJz{X:Cx}{K:Ω}{o e:Expr}{es:List Expr}{name:Str}{T id:String}{apos cpos:Pos}{r:V->List V->Hp->VK->Prop}{to:TE}{t:TA}(hK:X.K=K)(pa:PlainAttrs T)(slot:Slot T name id)(hty:typeOf (.builtin id)=pure (.type "method_descriptor"))(hm:MtR X id r)(ho:PE X o to)(ha:PA X (e::es) t)
  (hbase:AZ o name X.env (eval o X.env)=eval o X.env:=by rfl)
  (hfew:((AQ cpos (xi (e::es) X.env)).all (fun x=>!x.1)&&(Ds cpos (BE [] X.env)).all (fun x=>x.1.isSome)
   && decide ((e::es).length+([]:List Keyword).length+(if ([]:List Keyword).isEmpty then 0 else 1)<30))=true:=by rfl)
  (hline:(apos.endLine == cpos.line)=true:=by rfl)(hs:xi (e::es) X.env=(false,eval e X.env)::xi es X.env:=by rfl)(hplain:(AQ cpos (xi es X.env)).any (·.1)=false:=by rfl):
  PE X (.Call (.Attribute o name apos) (e::es) [] cpos) (tBM K T r to t):=by
 subst hK;exact zV pa slot hty hm ho ha hbase hfew hline hs hplain
inductive aLu (K:Ω) (vs:List V) (H:Hp) (Q:VK):Prop|mk:∀(a:Addr) (ns:List Int) (k:Int),vs=[.ref a,.int k]->SqL K H a (ns.map V.int)->0<=k->k<=100->(∀v H',jJ H H'->Q (.int v) H')->aLu K vs H Q
def spLc (K:Ω):Sp:=fun vs H Q _=>aLu K vs H Q
def spMx:Sp:=fun vs H Q _=>∃c k:Int,vs=[.int c,.int k]/\∀v:Int,Q (.int v) H
theorem aM{H:Hp}(d:Drawn p H H')(h:H p=none):jJ H H':=fun b o e=>d.2 b o (jI e h) e
theorem aIo{X:Cx}{K:Ω}(hK:X.K=K):MtR X "str.join" (fun x vs H Q=>∃(sep:Str) (a:Addr) (ys:List Str),x=.str sep/\vs=[.ref a]/\SqL K H a (ys.map V.str)/\(ys.map (·.length)).sum+ys.length*sep.length<=16777216/\Q (.str (xl sep ys)) H):=hK ▸ aKe
theorem aHn{K:Ω}: oC K H [] []:=⟨rfl,fun i fa f h=>by simp at h⟩
theorem kR{K:Ω}{f:Str×List Str}(h:∃ga,SqT K H fa [.str f.1,.ref ga]/\SqT K H ga (f.2.map V.str))(r:oC K H fas fs):oC K H (fa::fas) (f::fs):=by
 refine⟨congrArg (·+1) r.1,fun i fa' f' h1 h2=>?_⟩;cases i with
 |zero=>cases h1;cases h2;exact h
 |succ i=>exact r.2 i fa' f' (by simpa using h1) (by simpa using h2)
structure Fl (CN e dx:Addr) (H H':Hp) (fs:List (Str×V)):Prop where
 ne:dx≠e
 fr:H dx=none
 kp:∀b o,b≠e->H b=some o->H' b=some o
 ae:H' e=some (Ex0 e CN (some dx))
 ad:H' dx=some (XD dx fs)
theorem Fl.first{H:Hp}{f:Str}{y:V}(he:H e=some (Ex0 e CN none))(hd:H dx=none):Fl CN e dx H (upd (upd H dx (XD dx [(f,y)])) e (Ex0 e CN (some dx))) [(f,y)]:=by
 have ne:dx≠e:=fun z=>by rw[z,he]at hd;cases hd
 refine⟨ne,hd,fun b o n q=>?_,jF,?_⟩
 ·rw[jR n,jR (jI q hd)];exact q
 ·rw[jR ne,jF]
theorem Fl.next(h:Fl CN e dx H H' fs):Fl CN e dx H (upd H' dx (XD dx fs')) fs' :=
 ⟨h.ne,h.fr,fun b o n q=>by rw[jR (jI q h.fr)];exact h.kp b o n q,by rw[jR (Ag h.ne)];exact h.ae,jF⟩
def spXn (CN:Addr) (ns:List Str):Sp:=fun vs H Q _=>∃(e:Addr) (xs:List V),vs=.ref e::xs/\xs.length=ns.length/\H e=some (Ex0 e CN none)/\∀dx H',Fl CN e dx H H' (ns.zip xs)->Q .non H'
theorem Fl.from{H:Hp}(he:H e=none)(h:Fl CN e dx (upd H e (Ex0 e CN none)) H' fs):jJ H H':=fun b o q=>by
 have n:=jI q he;exact h.kp b o n (by rw[jR n];exact q)
theorem Fl.fly{H:Hp}(he:H e=none)(h:Fl CN e dx (upd H e (Ex0 e CN none)) H' fs):jJ H (upd H' e (ExF e CN (some dx)))/\upd H' e (ExF e CN (some dx)) e=some (ExF e CN (some dx))/\upd H' e (ExF e CN (some dx)) dx=some (XD dx fs):=by
 refine⟨fun b o q=>?_,jF,?_⟩
 ·rw[jR (jI q he)];exact h.from he b o q
 ·rw[jR h.ne];exact h.ad
def onw (S:List Shp):Kd->List (Str×Kd)
 |.pick is=>is.map fun i=>(kN S i,.nest i)
 |k=>k.parts S
def ledK (S:List Shp) (k:Kd) (w:Str):Option Kd:=((onw S k).find? fun f=>decide (f.1=w)).map (·.2)
def fP:Kd->Str
 |.num _=>δ "num"
 |.nest _=>δ "shape"
 |.many _ _=>δ "row"
 |.pick _=>δ "pick"
def lA:Kd->Str->V
 |.many n _,w=>aMw (qW (bE w) 0 ((n:Int)-1))
 |_,w=>.str w
def aJe (c:Cl5) (K:Ω) (F:Kd->Bool):Sp:=fun vs H Q _=>∃(a:Addr) (w:Str) (kd:Kd) (sa:List Addr) (S:List Shp),vs=[.ref a,.str w]/\w.length<=1000/\F kd=true/\kd.Fit S.length/\KO c K H sa a kd/\SW c K H sa S/\∀H',jJ H H'->Q (lA kd w) H'
def tX (c:Cl5) (K:Ω) (F:Kd->Bool):Sp:=fun vs H Q _=>∃(a:Addr) (w:Str) (kd:Kd) (sa:List Addr) (S:List Shp),vs=[.ref a,lA kd w]/\F kd=true/\kd.Fit S.length/\KO c K H sa a kd/\SW c K H sa S/\Good S ∧
 ((ledK S kd w=none/\∀H',jJ H H'->Q .non H')\/∃k',ledK S kd w=some k'/\∀a' H',jJ H H'->KO c K H' sa a' k'->Q (.ref a') H')
theorem gE{w:Str}: ∀{fs:List (Str×Kd)}{j:Nat}{f:Str×Kd},fs[j]?=some f->f.1=w->(∀m g,m<j->fs[m]?=some g->g.1≠w)->fs.find? (fun f=>decide (f.1=w))=some f
 |[],j,f,h,_,_=>by simp at h
 |g::fs,0,f,h,hf,_=>by
  have e:g=f:=by simpa using h
  subst e;rw[List.find?_cons_of_pos (by simpa using hf)]
 |g::fs,j+1,f,h,hf,hn=>by
  rw[List.find?_cons_of_neg (by simpa using hn 0 g (Nat.zero_lt_succ _) rfl)];exact gE (fs:=fs) (j:=j) (by simpa using h) hf fun m g' hm hg=>hn (m+1) g' (Nat.succ_lt_succ hm) (by simpa using hg)
theorem aFp{w:Str}{fs:List (Str×Kd)}(hn:∀m g,m<fs.length->fs[m]?=some g->g.1≠w):fs.find? (fun f=>decide (f.1=w))=none:=by
 refine List.find?_eq_none.mpr fun f hf z=>?_;obtain⟨m,hm⟩:=zd.mp hf;exact hn m f (θ.mp hm).1 hm (by simpa using z)
theorem aGo{w:Str}{fs:List (Str×Kd)}{j:Nat}(h:fs[j]?=some f)(hf:¬ f.1=w)(hn:∀m g,m<j->fs[m]?=some g->g.1≠w):∀m g,m<j+1->fs[m]?=some g->g.1≠w:=fun m g hm hg=>by
 by_cases z:m<j
 ·exact hn m g z hg
 ·obtain rfl:m=j:=by omega
  rw[h]at hg;cases hg;exact hf
abbrev lS:Str:=δ "."
theorem pD : ∀{ys:List Str}{y:Str},y∈ys->y.length<=(xl sep ys).length
 |[y'],y,h=>by rw[ω.mp h];exact μ _
 |y'::z::ys,y,h=>by
  rw[show xl sep (y'::z::ys)=y'++sep++xl sep (z::ys) from rfl,As,As];rcases χ.mp h with rfl|h
  ·omega
  ·have:=pD (sep:=sep) h;omega
theorem aRn(hg:Good S)(hn:NOk (kN S) S.length):∀{k:Kd},k.Fit S.length->∀f∈onw S k,f.2.Fit S.length/\f.1.length<=6
 |.pick is,hk,f,hf=>by
  obtain⟨i,hi,rfl⟩:=zm.mp hf;exact⟨hk.2.2.2 i hi,(yA (hn i (hk.2.2.2 i hi))).2⟩
 |.num w,hk,f,hf=>by cases hf
 |.nest i,hk,f,hf=>by
  obtain⟨_,a,_,b⟩:=Kd.parts_ok hg hk (Kd.Rk.mono (Be _) hk.rk) hf;exact⟨a,b⟩
 |.many n k,hk,f,hf=>by
  obtain⟨_,a,_,b⟩:=Kd.parts_ok hg hk (Kd.Rk.mono (Be _) hk.rk) hf;exact⟨a,b⟩
theorem aSh(hg:Good S)(hn:NOk (kN S) S.length){k:Kd}(hk:k.Fit S.length)(h:ledK S k w=some k'):k'.Fit S.length:=by
 unfold ledK at h;cases hf:(onw S k).find? fun f=>decide (f.1=w) with
 |none=>rw[hf]at h;cases h
 |some f=>rw[hf]at h;cases h;exact(aRn hg hn hk f (List.mem_of_find?_eq_some hf)).1
theorem KO.off{K:Ω}{H:Hp}(hp:H p=some (.lst xs))(h:KO c K H sa a k):KO c K (offs [p] H) sa a k:=by
 induction h with
 |num h=>exact .num (lZ hp h (fun _ z=>by cases z))
 |nest e h=>exact .nest e (lZ hp h (fun _ z=>by cases z))
 |many h _ ih=>exact .many (lZ hp h (fun _ z=>by cases z)) ih
 |pick h t l e=>exact .pick (lZ hp h (fun _ z=>by cases z)) (aRk hp t) l e
theorem aHw{X:Cx}{K:Ω}(hK:X.K=K):vP X (.builtin "isinstance") (fun xs H Q=>∃x T t,xs=[x,.ty T]/\T∈tO/\tyN K x H t/\Q (.bl (isa t T)) H):=hK ▸ iF
inductive Stp where
 |wd (s:Str)
 |no (n:Int)
 |nm (s:Str)
 deriving DecidableEq
def stepK (S:List Shp):Kd->Str->Option (Stp×Kd)
 |.many n k,w=>match qW (bE w) 0 ((n:Int)-1) with
  |some j=>some (.no j,k)
  |none=>if kT w=true then some (.nm w,k) else none
 |k,w=>(ledK S k w).map fun k'=>(.wd w,k')
def qH (S:List Shp):Kd->List Str->Option (List Stp×Kd)
 |k,[]=>some ([],k)
 |k,w::ws=>match stepK S k w with
  |none=>none
  |some r=>(qH S r.2 ws).map fun q:List Stp×Kd=>(r.1::q.1,q.2)
theorem pC : ∀(ws:List Str) (k:Kd) (w:Str),qH S k (ws++[w])=(qH S k ws).bind fun q=>(stepK S q.2 w).map fun r:Stp×Kd=>(q.1++[r.1],r.2)
 |[],k,w=>by
  show(match stepK S k w with|none=>none|some r=>(some (([]:List Stp),r.2)).map fun q:List Stp×Kd=>(r.1::q.1,q.2))=(stepK S k w).map fun r=>([]++[r.1],r.2);cases stepK S k w <;> rfl
 |v::ws,k,w=>by
  show(match stepK S k v with|none=>none|some r=>(qH S r.2 (ws++[w])).map fun q:List Stp×Kd=>(r.1::q.1,q.2))=(match stepK S k v with|none=>none|some r=>(qH S r.2 ws).map fun q:List Stp×Kd=>(r.1::q.1,q.2)).bind _;cases stepK S k v with
  |none=>rfl
  |some r =>
   show(qH S r.2 (ws++[w])).map _=((qH S r.2 ws).map _).bind _;rw[pC ws r.2 w];cases qH S r.2 ws with
   |none=>rfl
   |some q =>
    show((stepK S q.2 w).map _).map _=(stepK S q.2 w).map _;cases stepK S q.2 w <;> rfl
theorem aEi{ws:List Str}{j:Nat}{kd:Kd}{ss:List Stp}(h:ws[j]?=some w)(e:qH S k (ws.take j)=some (ss,kd)):qH S k (ws.take (j+1))=(stepK S kd w).map fun r=>(ss++[r.1],r.2):=by
 rw[zk,h];show qH S k (ws.take j++[w])=_;rw[pC,e];rfl
theorem rM : ∀{as bs:List Str}{k:Kd},qH S k as=none->qH S k (as++bs)=none
 |[],_,_,h=>by cases h
 |w::as,bs,k,h=>by
  have h':(match stepK S k w with|none=>none|some r=>(qH S r.2 as).map fun q:List Stp×Kd=>(r.1::q.1,q.2))=none:=h;show(match stepK S k w with|none=>none|some r=>(qH S r.2 (as++bs)).map fun q:List Stp×Kd=>(r.1::q.1,q.2))=none;cases hs:stepK S k w with
  |none=>rfl
  |some r =>
   rw[hs]at h';have h2:(qH S r.2 as).map (fun q:List Stp×Kd=>(r.1::q.1,q.2))=none:=h';show(qH S r.2 (as++bs)).map _=none;rw[rM (Option.map_eq_none_iff.mp h2)];rfl
theorem aEn{ws:List Str}(e:qH S k (ws.take j)=none):qH S k ws=none:=by
 rw[←Bw j ws];exact rM e
theorem aOm(hg:Good S)(hn:NOk (kN S) S.length){k k':Kd}{s:Stp}(hk:k.Fit S.length)(h:stepK S k w=some (s,k')):k'.Fit S.length:=by
 have led:∀{k:Kd},k.Fit S.length->(ledK S k w).map (fun k'=>(Stp.wd w,k'))=some (s,k')->k'.Fit S.length:=fun {k} hk h=>by
  cases e:ledK S k w with
  |none=>rw[e]at h;cases h
  |some k2=>rw[e]at h;cases h;exact aSh hg hn hk e
 cases k with
 |many n k2 =>
  have h':(match qW (bE w) 0 ((n:Int)-1) with|some j=>some (Stp.no j,k2)|none=>if kT w=true then some (.nm w,k2) else none)=some (s,k'):=h;cases e:qW (bE w) 0 ((n:Int)-1) with
  |some j=>rw[e]at h';cases h';exact hk.sub
  |none =>
   rw[e]at h';have h2:(if kT w=true then some (Stp.nm w,k2) else none)=some (s,k'):=h'
   split at h2
   ·cases h2;exact hk.sub
   ·cases h2
 |num n=>exact led hk h
 |nest n=>exact led hk h
 |pick n=>exact led hk h
theorem uF : ∀{ws:List Str}{k k':Kd}{ss:List Stp},qH S k ws=some (ss,k')->ss.length=ws.length
 |[],k,k',ss,h=>by cases h;rfl
 |w::ws,k,k',ss,h=>by
  have h':(match stepK S k w with|none=>none|some r=>(qH S r.2 ws).map fun q:List Stp×Kd=>(r.1::q.1,q.2))=some (ss,k'):=h;cases hs:stepK S k w with
  |none=>rw[hs]at h';cases h'
  |some r =>
   rw[hs]at h';have h2:(qH S r.2 ws).map (fun q:List Stp×Kd=>(r.1::q.1,q.2))=some (ss,k'):=h';cases hq:qH S r.2 ws with
   |none=>rw[hq]at h2;cases h2
   |some q =>
    rw[hq]at h2;cases h2;exact congrArg (·+1) (uF (ss:=q.1) (k':=q.2) hq)
theorem tQ{sep:Str}(hs:sep.length=1):∀(ys:List Str),ys.length<=(xl sep ys).length+1
 |[]=>xy _
 |[y]=>by show 1<=_+1;omega
 |y::z::ys=>by
  have:=tQ hs (z::ys);rw[show xl sep (y::z::ys)=y++sep++xl sep (z::ys) from rfl,As,As,hs];show(z::ys).length+1<=_;omega
theorem tR(p:Str):(yu p lS).length<=p.length+1:=by
 have:=tQ (sep:=lS) rfl (yu p lS);rw[StrLaws.join_split p lS]at this;exact this
theorem aCs{w:Str}(h:w∈yu p lS):w.length<=p.length:=by
 have:=pD (sep:=lS) h;rw[StrLaws.join_split p lS]at this;exact this
def sV (d:Str):Str:=if d = "look" ∨ d = "store" then "num" else "pick"
def vS (S:List Shp) (k:Kd) (d p:Str):Option (List Stp):=match qH S k (yu p lS) with
 |none=>none
 |some q=>if fP q.2=sV d then some q.1 else none
def tG (K:Ω) (H:Hp):V->Stp->Prop
 |v,.wd s=>v=.str s
 |v,.no n=>v=.int n
 |v,.nm s=>∃t,v=.ref t/\SqT K H t [.str "name",.str s]
theorem tG.same{K:Ω}(h:tG K H v s)(g:jJ H H'):tG K H' v s:=by
 cases s with
 |nm s=>obtain⟨t,e,h⟩:=h;exact⟨t,e,g.tp h⟩
 |_=>exact h
def zQ (K:Ω) (H:Hp) (vs:List V) (ss:List Stp):Prop:=vs.length=ss.length/\∀(i:Nat) (v:V) (s:Stp),vs[i]?=some v->ss[i]?=some s->tG K H v s
theorem zQ.same{K:Ω}(h:zQ K H vs ss)(g:jJ H H'):zQ K H' vs ss:=⟨h.1,fun i v s a b=>(h.2 i v s a b).same g⟩
theorem zQ.snoc{K:Ω}(h:zQ K H vs ss)(h2:tG K H v s):zQ K H (vs++[v]) (ss++[s]):=by
 refine⟨by rw[η,η,h.1];rfl,fun i v' s' a b=>?_⟩;rcases xG a with a|⟨ei,ev⟩
 ·rcases xG b with b|⟨ei,_⟩
  ·exact h.2 i v' s' a b
  ·have:=(θ.mp a).1;have:=h.1;omega
 ·rcases xG b with b|⟨_,es⟩
  ·have:=(θ.mp b).1;have:=h.1;omega
  ·subst ev;subst es;exact h2
def T3 (c:Cl5) (sp4:(Kd->Bool)->Sp):Addr->Sp->Prop:=fun C sp=>(C=c.num/\sp=sp4 Kd.isNum)\/(C=c.nest/\sp=sp4 Kd.isNest)\/(C=c.pick/\sp=sp4 Kd.isPick)
def T4 (c:Cl5) (sp4:(Kd->Bool)->Sp):Addr->Sp->Prop:=fun C sp=>(C=c.num/\sp=sp4 Kd.isNum)\/(C=c.nest/\sp=sp4 Kd.isNest)\/(C=c.many/\sp=sp4 Kd.isMany)\/(C=c.pick/\sp=sp4 Kd.isPick)
theorem aQb{K:Ω}{sp4:(Kd->Bool)->Sp}{H:Hp}(hm:aIw m)(ho:KO c K H sa a kd):∃C dx fs sp,H a=some (.ins C dx fs)/\fs.lookup m=none/\T4 c sp4 C sp/\∃F:Kd->Bool,F kd=true/\sp=sp4 F:=by
 cases id ho with
 |num h=>exact⟨_,_,_,_,h,(hm _ .non).1,.inl ⟨rfl,rfl⟩,_,rfl,rfl⟩
 |nest e h=>exact⟨_,_,_,_,h,(hm _ .non).2.1,.inr (.inl ⟨rfl,rfl⟩),_,rfl,rfl⟩
 |many h _=>exact⟨_,_,_,_,h,(hm _ _).2.2.1,.inr (.inr (.inl ⟨rfl,rfl⟩)),_,rfl,rfl⟩
 |pick h _ _ _=>exact⟨_,_,_,_,h,(hm _ .non).2.2.2,.inr (.inr (.inr ⟨rfl,rfl⟩)),_,rfl,rfl⟩
theorem call3{K:Ω}{sp4:(Kd->Bool)->Sp}{H:Hp}(hm:aIw m)(ho:KO c K H sa a kd)(hk:kd.isMany=false):∃C dx fs sp,H a=some (.ins C dx fs)/\fs.lookup m=none/\T3 c sp4 C sp/\∃F:Kd->Bool,F kd=true/\sp=sp4 F:=by
 cases id ho with
 |num h=>exact⟨_,_,_,_,h,(hm _ .non).1,.inl ⟨rfl,rfl⟩,_,rfl,rfl⟩
 |nest e h=>exact⟨_,_,_,_,h,(hm _ .non).2.1,.inr (.inl ⟨rfl,rfl⟩),_,rfl,rfl⟩
 |many h _=>cases hk
 |pick h _ _ _=>exact⟨_,_,_,_,h,(hm _ .non).2.2.2,.inr (.inr ⟨rfl,rfl⟩),_,rfl,rfl⟩
def aEs (c:Cl5) (K:Ω) (F:Kd->Bool):Sp:=fun vs H Q _=>∃(a:Addr) (kd:Kd) (sa:List Addr),vs=[.ref a]/\F kd=true/\KO c K H sa a kd/\Q (.str (fP kd)) H
structure KdM (K:Ω) (c:Cl5):Prop where
 i1:wN K c.num
 i2:wN K c.nest
 i3:wN K c.many
 i4:wN K c.pick
 k1:yi K (.ref c.num) (.ref c.many)=some false
 k2:yi K (.ref c.nest) (.ref c.many)=some false
 k3:yi K (.ref c.many) (.ref c.many)=some true
 k4:yi K (.ref c.pick) (.ref c.many)=some false
theorem KdM.no{K:Ω}(h:KdM K c)(ho:KO c K H sa a k)(hk:k.isMany=false):∃t,gD K H (.ref a) t/\yi K t (.ref c.many)=some false:=by
 cases ho with
 |num e=>exact⟨_,h.i1.ty e,h.k1⟩
 |nest _ e=>exact⟨_,h.i2.ty e,h.k2⟩
 |many e _=>cases hk
 |pick e _ _ _=>exact⟨_,h.i4.ty e,h.k4⟩
def spSi (c:Cl5) (K:Ω):Sp:=fun vs H Q _=>∃(a:Addr) (w:Str) (kd:Kd) (sa:List Addr) (S:List Shp),vs=[.ref a,.str w]/\w.length<=1000/\kd.Fit S.length/\KO c K H sa a kd/\SW c K H sa S ∧
 (lA kd w≠.non->∀H',jJ H H'->Q (lA kd w) H')/\(lA kd w=.non->kT w=true->∀t H',jJ H H'->H t=none->H' t=some (.tup [.str "name",.str w])->Q (.ref t) H')/\(lA kd w=.non->kT w=false->∀H',jJ H H'->Q .non H')
def XAt (CN:Addr) (H:Hp) (e:Addr) (fs:List (Str×V)):Prop:=∃dx,H e=some (ExF e CN (some dx))/\H dx=some (XD dx fs)
def aPz (c:Cl5) (CW:Addr) (K:Ω):Sp:=fun vs H Q E=>∃(z:Addr) (li:V) (d p:Str) (n:Nat) (sa:List Addr) (S:List Shp) (xs:List Addr),vs=[.ref z,li,.str d,.str p]/\sa[n]?=some z/\SW c K H sa S/\Good S/\NOk (kN S) S.length/\p.length<=1000/\Al xs H ∧
 (∀ss,vS S (.nest n) d p=some ss->∀l us H',jJ H H'->SqL K (offs xs H') l us->zQ K (offs xs H') us ss->Q (.ref l) H') ∧
 (vS S (.nest n) d p=none->∀e H',jJ H H'->H e=none->XAt CW H' e [("line",li),("path",.str p)]->E (.ref e) none H')
structure Ln where
 ws:List Str
 fd:Str
 ps:List Str
def Ln.tx (l:Ln):Str:=xl spS l.ws
def Ln.d (l:Ln):Str:=((l.ps.zip l.ws).lookup ("OP" : Str)).getD l.fd
def sZ (d:Str):Str:=if d = "else" then "else" else if d = "end" then "end" else if d = "if" then "if a" else if d = "each" then "each a" else if d = "span" then "span b a c" else "out a"
def Ln.x (l:Ln):Str:=sZ l.d
def zD (l:Ln):Option Str:=(l.ps.zip l.ws).lookup ("PATH" : Str)
def vD (S:List Shp) (k:Kd) (l:Ln):Option (List Stp):=match zD l with
 |none=>some []
 |some p=>vS S k l.fd p
def yH (l:Ln):Str:=if ("=" : Str)∈l.ps then ((l.ps.zip l.ws).lookup ("A" : Str)).getD "" else ""
def Ln.rs (l:Ln):List Str:=rdF (yH l) (l.ps.zip l.ws)
def qE:List Str:=["each","span","if","else","end"]
structure LnW (l:Ln):Prop where
 w:∀w∈l.ws,w.length<=150/\32∉w.cps.toList/\10∉w.cps.toList
 w5:l.ws.length<=5
 ne:l.ws≠[]
 x0:l.tx.length≠0
structure LnF (l:Ln):Prop where
 a:LnW l
 fd:xH.find? (xX l.ws)=some (l.fd,l.ps)
 nd:l.ps.Nodup
 pl:l.ps.length=l.ws.length
 ga:("=" : Str)∈l.ps->("A" : Str)∈l.ps
 nu:("NUMBER" : Str)∉l.ps
 fl:l.fd∈qE\/l.d∈qE->l.d=l.fd
 rl:l.d = "each" ∨ l.d = "span"->l.rs≠[]
structure LnG (l:Ln):Prop where
 dl:lnD l.x=.loop ↔ l.d = "each" ∨ l.d = "span"
 dc:lnD l.x=.cond ↔ l.d = "if"
 de:lnD l.x=.els ↔ l.d = "else"
 df:lnD l.x=.fin ↔ l.d = "end"
 sd:lnD l.x=.loop\/lnD l.x=.cond->lnS l.x=l.d
 rl:lnD l.x=.loop->l.rs≠[]
theorem rep_f(d:Str):(lnD (sZ d)=.loop ↔ d = "each" ∨ d = "span")/\(lnD (sZ d)=.cond ↔ d = "if")/\(lnD (sZ d)=.els ↔ d = "else")/\(lnD (sZ d)=.fin ↔ d = "end")/\(lnD (sZ d)=.loop\/lnD (sZ d)=.cond->lnS (sZ d)=d):=by
 by_cases h1:d = "else"
 ·subst h1;ac_rfl
 by_cases h2:d = "end"
 ·subst h2;ac_rfl
 by_cases h3:d = "if"
 ·subst h3;ac_rfl
 by_cases h4:d = "each"
 ·subst h4;ac_rfl
 by_cases h5:d = "span"
 ·subst h5;ac_rfl
 have e:sZ d = "out a":=by unfold sZ;rw[if_neg h1,if_neg h2,if_neg h3,if_neg h4,if_neg h5]
 have e2:lnD "out a" = .row:=by ac_rfl
 rw[e,e2];refine⟨⟨(fun z=>by cases z),fun z=>(z.elim h4 h5).elim⟩,⟨(fun z=>by cases z),fun z=>absurd z h3⟩,⟨(fun z=>by cases z),fun z=>absurd z h1⟩,⟨(fun z=>by cases z),fun z=>absurd z h2⟩,fun z=>?_⟩;rcases z with z|z <;> cases z
theorem sP(h:LnF l):LnG l :=
 let ⟨a,b,c,d,e⟩:=rep_f l.d
 ⟨a,b,c,d,e,fun z=>h.rl (a.mp z)⟩
theorem aNn(hl:LnF l):l.d∈mB ↔ lnD l.x=.loop\/lnD l.x=.cond:=by
 have hF:=sP hl;constructor
 ·intro z;rcases χ.mp z with z|z
  ·exact .inl (hF.dl.mpr (.inl z))
  ·rcases χ.mp z with z|z
   ·exact .inl (hF.dl.mpr (.inr z))
   ·exact .inr (hF.dc.mpr (ω.mp z))
 ·rintro (z|z)
  ·rcases hF.dl.mp z with z|z
   ·rw[z];exact ο ..
   ·rw[z];exact π _ (ο ..)
  ·rw[hF.dc.mp z];exact π _ (π _ (ο ..))
def mP (CR:Addr) (K:Ω) (H:Hp) (a:Addr) (i:Nat) (l:Ln):Prop:=∃dx ra sa,H a=some (.ins CR dx [("line",.int i),("deed",.str l.d),("goal",.str (yH l)),("reads",.ref ra),("steps",.ref sa),("number",.int 0)])/\SqL K H ra (l.rs.map V.str)
theorem mP.same{CR:Addr}{K:Ω}{H H':Hp}{a:Addr}{i:Nat}{l:Ln}(h:mP CR K H a i l)(g:jJ H H'):mP CR K H' a i l:=by
 obtain⟨dx,ra,sa,h1,h2⟩:=h;exact⟨dx,ra,sa,g _ _ h1,g.seq h2⟩
inductive TAs (CR CLp CC:Addr) (K:Ω) (H:Hp):List Addr->List Tr->Prop
 |nil:TAs CR CLp CC K H [] []
 |row {a:Addr}{as:List Addr}{i:Nat}{l:Ln}{ts:List Tr} : mP CR K H a i l->TAs CR CLp CC K H as ts->TAs CR CLp CC K H (a::as) (.row i::ts)
 |loop {a dx ra:Addr}{d g rd:V}{as bs:List Addr}{i j:Nat}{rs ts:List Tr} : H a=some (.ins CLp dx [("line",.int i),("last",.int j),("deed",d),("goal",g),("reads",rd),("rows",.ref ra)])->SqL K H ra (bs.map V.ref)->TAs CR CLp CC K H bs rs->TAs CR CLp CC K H as ts->TAs CR CLp CC K H (a::as) (.loop i j rs::ts)
 |ch {a dx ra rb:Addr}{rd:V}{as bs cs:List Addr}{i j:Nat}{m:Option Nat}{rs os ts:List Tr} : H a=some (.ins CC dx [("line",.int i),("last",.int j),("middle",mV m),("reads",rd),("rows",.ref ra),("others",.ref rb)])->SqL K H ra (bs.map V.ref)->SqL K H rb (cs.map V.ref)->TAs CR CLp CC K H bs rs->TAs CR CLp CC K H cs os->TAs CR CLp CC K H as ts->TAs CR CLp CC K H (a::as) (.ch i j m rs os::ts)
theorem TAs.same{CR:Addr}{K:Ω}(h:TAs CR CLp CC K H as ts)(g:jJ H H'):TAs CR CLp CC K H' as ts:=by
 induction h with
 |nil=>exact .nil
 |row h _ ih=>exact .row (h.same g) ih
 |loop h1 h2 _ _ ih1 ih2=>exact .loop (g _ _ h1) (g.seq h2) ih1 ih2
 |ch h1 h2 h3 _ _ _ ih1 ih2 ih3=>exact .ch (g _ _ h1) (g.seq h2) (g.seq h3) ih1 ih2 ih3
theorem TAs.app{CR:Addr}{K:Ω}(h:TAs CR CLp CC K H as ts)(h2:TAs CR CLp CC K H bs us):TAs CR CLp CC K H (as++bs) (ts++us):=by
 induction h with
 |nil=>exact h2
 |row h _ ih=>exact .row h ih
 |loop h1 h2 h3 _ _ ih2=>exact .loop h1 h2 h3 ih2
 |ch h1 h2 h3 h4 h5 _ _ _ ih3=>exact .ch h1 h2 h3 h4 h5 ih3
theorem TAs.len{CR:Addr}{K:Ω}(h:TAs CR CLp CC K H as ts):as.length=ts.length:=by
 induction h with
 |nil=>rfl
 |row _ _ ih=>rw[Ξ,Ξ,ih]
 |loop _ _ _ _ _ ih=>rw[Ξ,Ξ,ih]
 |ch _ _ _ _ _ _ _ _ ih=>rw[Ξ,Ξ,ih]
structure TD (CR:Addr) (K:Ω) (H:Hp) (tl:Addr) (rs:List Addr) (ls:List Ln):Prop where
 l:SqL K H tl (rs.map V.ref)
 n:rs.length=ls.length
 m:∀x∈ls,LnF x
 r:∀(i:Nat) (a:Addr) (x:Ln),rs[i]?=some a->ls[i]?=some x->mP CR K H a i x
theorem TD.same{CR:Addr}{K:Ω}{H H':Hp}{tl:Addr}{rs:List Addr}{ls:List Ln}(h:TD CR K H tl rs ls)(g:jJ H H'):TD CR K H' tl rs ls:=⟨g.seq h.l,h.n,h.m,fun i a x ha hx=>(h.r i a x ha hx).same g⟩
def spLb (CR CLp CC:Addr) (K:Ω):Sp:=fun vs H Q _=>∃(a:Addr) (t:Tr),vs=[.ref a]/\TAs CR CLp CC K H [a] [t]/\Q (.int (nxt t:Nat)) H
inductive aLk (CR:Addr) (CLp:Addr) (CC:Addr) (K:Ω) (r:Nat) (vs:List V) (H:Hp) (Q:VK):Prop|mk:∀(tl:Addr) (n e d:Nat) (rs:List Addr) (ls:List Ln) (ts:List Tr) (xs:List Addr),vs=[.ref tl,.int (n:Int)]->r=d+1->Dp d ts->Prs (ls.map (·.x)) n ts e->Al xs H->TD CR K (offs xs H) tl rs ls->ls.length<=60->(∀(p ra:Addr) (as:List Addr) (H':Hp),jJ H H'->SqT K H' p [.ref ra,.int (e:Int)]->SqL K (offs xs H') ra (as.map V.ref)->TAs CR CLp CC K (offs xs H') as ts->Q (.ref p) H')->aLk CR CLp CC K r vs H Q
def spRF (CR CLp CC:Addr) (K:Ω) (r:Nat):Sp:=fun vs H Q _=>aLk CR CLp CC K r vs H Q
def spWR (CR CLp CC:Addr) (K:Ω) (r:Nat):Sp:=fun vs H Q _=>∃(tl:Addr) (n e d:Nat) (rs:List Addr) (ls:List Ln) (t:Tr) (ts:List Tr) (xs:List Addr),vs=[.ref tl,.int (n:Int)]/\r=d+1/\Dp d (t::ts)/\Prs (ls.map (·.x)) n (t::ts) e/\Al xs H/\TD CR K (offs xs H) tl rs ls/\ls.length<=60/\∀(a:Addr) (H':Hp),jJ H H'->TAs CR CLp CC K (offs xs H') [a] [t]->Q (.ref a) H'
theorem TD.at{CR:Addr}{K:Ω}{H:Hp}{tl:Addr}{rs:List Addr}{ls:List Ln}(h:TD CR K H tl rs ls){n:Nat}{x:Str}(hx:(ls.map (·.x))[n]?=some x):∃a l,rs[n]?=some a/\ls[n]?=some l/\LnF l/\l.x=x/\mP CR K H a n l:=by
 rw[xw]at hx;cases hl:ls[n]? with
 |none=>rw[hl]at hx;cases hx
 |some l =>
  rw[hl]at hx;cases hx;have hn:=(θ.mp hl).1;have ha:rs[n]?=some (rs[n]'(by rw[h.n];exact hn)):=ν _;exact⟨_,l,ha,rfl,h.m l (xk hl),rfl,h.r _ _ _ ha hl⟩
def stN:List Stp->List Str
 |[]=>[]
 |.nm s::r=>s::stN r
 |_::r=>stN r
theorem oF:∀(a b:List Stp),stN (a++b)=stN a++stN b
 |[],b=>rfl
 |.nm s::r,b=>by show s::stN (r++b)=s::stN r++stN b;rw[oF r b];rfl
 |.wd s::r,b=>oF r b
 |.no s::r,b=>oF r b
theorem fG:∀(a:List Stp),(stN a).length<=a.length
 |[]=>μ _
 |.nm s::r=>DL (fG r)
 |.wd s::r=>Nat.le_succ_of_le (fG r)
 |.no s::r=>Nat.le_succ_of_le (fG r)
def nmG (ss:List Stp):List (Str×Str)->List Str
 |[]=>[]
 |p::r=>(if p.1∈zA then [p.2] else [])++((if p.1 = "PATH" then stN ss else [])++nmG ss r)
theorem aNk(a b:List (Str×Str)):nmG ss (a++b)=nmG ss a++nmG ss b:=by
 induction a with
 |nil=>rfl
 |cons p r ih =>
  show(if p.1∈zA then [p.2] else [])++((if p.1 = "PATH" then stN ss else [])++nmG ss (r++b))=((if p.1∈zA then [p.2] else [])++((if p.1 = "PATH" then stN ss else [])++nmG ss r))++nmG ss b;rw[ih,yc,yc]
theorem wV{ss:List Stp}(h:ss.length<=160):∀(a:List (Str×Str)),(nmG ss a).length<=a.length*161
 |[]=>μ _
 |p::r=>by
  have h1:=wV h r;have h2:=fG ss;show((if p.1∈zA then [p.2] else [])++((if p.1 = "PATH" then stN ss else [])++nmG ss r)).length<=(r.length+1)*161;rw[η,η];have a1:(if p.1∈zA then [p.2] else ([]:List Str)).length<=1:=by split <;> simp
  have a2:(if p.1 = "PATH" then stN ss else []).length<=160:=by
   split
   ·omega
   ·simp
  omega
def gY (l:Ln):List (Key×V):=zo (fun x y=>((.inr x:Key),V.str y)) l.ps l.ws
theorem kv_at{j:Nat}(h:(gY l)[j]?=some kv):∃u v,l.ps[j]?=some u/\l.ws[j]?=some v/\kv=(.inr u,.str v):=by
 unfold gY at h;rw[DG]at h;cases hu:l.ps[j]? with
 |none=>rw[hu]at h;cases h
 |some u =>
  cases hv:l.ws[j]? with
  |none=>rw[hu,hv]at h;cases h
  |some v=>rw[hu,hv]at h;cases h;exact⟨u,v,rfl,rfl,rfl⟩
theorem iZ(hF:LnF l){u:Str}(h:u∈l.ps):∃v,(l.ps.zip l.ws).lookup u=some v/\v∈l.ws:=by
 obtain⟨j,hj⟩:=zd.mp h;obtain⟨v,hv⟩ : ∃v,l.ws[j]?=some v:=⟨_,ν (by have:=(θ.mp hj).1;have:=hF.pl;omega)⟩;exact⟨v,gU hF.nd hj hv,xk hv⟩
theorem aNe(hl:LnF l)(st:List Str):stp st l.x=if stB st l.d=true then some (bgS st l.d) else none:=by
 have hF:=sP hl;have hb:=aNn hl;unfold stp stB bgS;cases hd:lnD l.x with
 |row =>
  have n1:l.d∉mB:=fun z=>by rcases hb.mp z with z|z <;> rw[hd]at z <;> cases z
  have n2:¬ l.d = "else":=fun z=>by have:=hF.de.mpr z;rw[hd]at this;cases this
  have n3:¬ l.d = "end":=fun z=>by have:=hF.df.mpr z;rw[hd]at this;cases this
  rw[decide_eq_false n1,decide_eq_false n2,decide_eq_false n3,if_neg n1,if_neg n2,if_neg n3];rfl
 |loop =>
  have n1:l.d∈mB:=hb.mpr (.inl hd);have n2:¬ l.d = "else":=fun z=>by have:=hF.de.mpr z;rw[hd]at this;cases this
  have n3:¬ l.d = "end":=fun z=>by have:=hF.df.mpr z;rw[hd]at this;cases this
  rw[decide_eq_true n1,decide_eq_false n2,decide_eq_false n3,if_pos n1,hF.sd (.inl hd)]
  by_cases h3:st.length=3
  ·simp[h3]
  ·simp[h3]
 |cond =>
  have n1:l.d∈mB:=hb.mpr (.inr hd);have n2:¬ l.d = "else":=fun z=>by have:=hF.de.mpr z;rw[hd]at this;cases this
  have n3:¬ l.d = "end":=fun z=>by have:=hF.df.mpr z;rw[hd]at this;cases this
  rw[decide_eq_true n1,decide_eq_false n2,decide_eq_false n3,if_pos n1,hF.sd (.inr hd)]
  by_cases h3:st.length=3
  ·simp[h3]
  ·simp[h3]
 |els =>
  have n1:l.d∉mB:=fun z=>by rcases hb.mp z with z|z <;> rw[hd]at z <;> cases z
  have n2:l.d = "else":=hF.de.mp hd;rw[n2]at n1 ⊢;rw[decide_eq_false n1,if_neg n1]
  by_cases h3:st.getLast?=some "if"
  ·rw[if_pos h3,decide_eq_true h3];rfl
  ·rw[if_neg h3,decide_eq_false h3];rfl
 |fin =>
  have n1:l.d∉mB:=fun z=>by rcases hb.mp z with z|z <;> rw[hd]at z <;> cases z
  have n2:l.d = "end":=hF.df.mp hd;rw[n2]at n1 ⊢;rw[decide_eq_false n1,if_neg n1]
  by_cases h3:st=[]
  ·subst h3;rfl
  ·rw[if_neg h3,decide_eq_false h3];rfl
theorem nofl{d:Str}(h:d∉qE)(st:List Str):stB st d=true/\bgS st d=st:=by
 have n1:d∉mB:=fun z=>h (by
  rcases χ.mp z with z|z
  ·rw[z];exact ο ..
  ·rcases χ.mp z with z|z
   ·rw[z];exact π _ (ο ..)
   ·rw[ω.mp z];exact π _ (π _ (ο ..)))
 have n2:¬ d = "else":=fun z=>h (by rw[z];decide);have n3:¬ d = "end":=fun z=>h (by rw[z];decide);unfold stB bgS;rw[decide_eq_false n1,decide_eq_false n2,decide_eq_false n3,if_neg n1,if_neg n2,if_neg n3];exact⟨rfl,rfl⟩
theorem aLz(hl:LnF l)(st:List Str):stp st l.x=if stB st l.fd=true then some (bgS st l.fd) else none:=by
 rw[aNe hl]
 by_cases h:l.fd∈qE\/l.d∈qE
 ·rw[hl.fl h]
 ·obtain⟨a1,a2⟩:=nofl (fun z=>h (.inl z)) st;obtain⟨b1,b2⟩:=nofl (fun z=>h (.inr z)) st;rw[a1,a2,b1,b2]
def RowS (CR:Addr) (K:Ω) (H:Hp) (a:Addr) (i:Nat) (l:Ln) (ss:List Stp):Prop:=∃dx ra sa us,H a=some (.ins CR dx [("line",.int i),("deed",.str l.d),("goal",.str (yH l)),("reads",.ref ra),("steps",.ref sa),("number",.int 0)])/\SqL K H ra (l.rs.map V.str)/\SqL K H sa us/\zQ K H us ss
theorem RowS.row{CR:Addr}{K:Ω}(h:RowS CR K H a i l ss):mP CR K H a i l:=by
 obtain⟨dx,ra,sa,us,h1,h2,_⟩:=h;exact⟨dx,ra,sa,h1,h2⟩
def unS (ys:List Str) (acc:List Str) (x:Str):List Str:=if x∉ys/\x∉acc then acc++[x] else acc
def unq (ys xs:List Str):List Str:=xs.foldl (unS ys) []
theorem aJb{xs:List Str}{j:Nat}(h:xs[j]?=some x):unq ys (xs.take (j+1))=unS ys (unq ys (xs.take j)) x:=by
 unfold unq;rw[zk,h,Dy];rfl
theorem aDv{ys:List Str}: ∀(xs acc:List Str),(ys++acc).Nodup->(ys++xs.foldl (unS ys) acc).Nodup/\(∀x,x∈ys++xs.foldl (unS ys) acc ↔ x∈ys++acc\/x∈xs)/\(xs.foldl (unS ys) acc).length<=acc.length+xs.length
 |[],acc,h=>⟨h,fun x=>by simp,μ _⟩
 |x::xs,acc,h=>by
  have hf:(x::xs).foldl (unS ys) acc=xs.foldl (unS ys) (unS ys acc x):=rfl;rw[hf,Ξ]
  by_cases hx:x∉ys/\x∉acc
  ·have e:unS ys acc x=acc++[x]:=if_pos hx;rw[e];have h':(ys++(acc++[x])).Nodup:=by
    rw[←yc];refine Cg.mpr ⟨h,by simp,fun a ha b hb z=>?_⟩;rw[ω.mp hb]at z;rw[z]at ha;exact(xu.mp ha).elim hx.1 hx.2
   obtain⟨a1,a2,a3⟩:=aDv xs _ h';refine⟨a1,fun y=>(a2 y).trans ⟨fun z=>?_,fun z=>?_⟩,?_⟩
   ·rcases z with z|z
    ·rw[←yc]at z;rcases xu.mp z with z|z
     ·exact .inl z
     ·rw[ω.mp z];exact .inr (ο ..)
    ·exact .inr (π _ z)
   ·rw[←yc];rcases z with z|z
    ·exact .inl (Aq _ z)
    ·rcases χ.mp z with rfl|z
     ·exact .inl (xx _ (ο ..))
     ·exact .inr z
   ·rw[η,xm]at a3;omega
  ·have e:unS ys acc x=acc:=if_neg hx;rw[e];obtain⟨a1,a2,a3⟩:=aDv xs acc h;have hm:x∈ys++acc:=by
    rw[xu];rcases Classical.em (x∈ys) with z|z
    ·exact .inl z
    ·rcases Classical.em (x∈acc) with z2|z2
     ·exact .inr z2
     ·exact absurd ⟨z,z2⟩ hx
   refine⟨a1,fun y=>(a2 y).trans ⟨fun z=>?_,fun z=>?_⟩,by omega⟩
   ·rcases z with z|z
    ·exact .inl z
    ·exact .inr (π _ z)
   ·rcases z with z|z
    ·exact .inl z
    ·rcases χ.mp z with rfl|z
     ·exact .inl hm
     ·exact .inr z
theorem sD{ys:List Str}(h:ys.Nodup):(ys++unq ys xs).Nodup/\(∀x,x∈ys++unq ys xs ↔ x∈ys\/x∈xs)/\(unq ys xs).length<=xs.length:=by
 have:=aDv (ys:=ys) xs [] (by rw[ya];exact h);rw[ya]at this;exact⟨this.1,this.2.1,by simpa [unq] using this.2.2⟩
inductive Out where
 |ok
 |prog (i:Nat)
 |path (i:Nat) (p:Str)
 |much (i:Nat)
 deriving DecidableEq
def nmP (ss:List Stp) (l:Ln):List Str:=nmG ss (l.ps.zip l.ws)
def xY (S:List Shp) (k:Kd):List Ln->List Str->List Str->Nat->Out
 |[],st,_,i=>if st=[] then .ok else .prog i
 |l::ls,st,nm,i=>if xH.find? (xX l.ws)=none then .prog i else if stB st l.fd=false then .prog i else match vD S k l with
  |none=>.path i ((zD l).getD "")
  |some ss=>if 60<=i\/12<(nm++unq nm (nmP ss l)).length then .much i else xY S k ls (bgS st l.fd) (nm++unq nm (nmP ss l)) (i+1)
theorem aQp{ls:List Ln}{i:Nat}{st:List Str}(h:ls[i]?=some l):xY S k (ls.drop i) st nm i=if xH.find? (xX l.ws)=none then .prog i else if stB st l.fd=false then .prog i else match vD S k l with
  |none=>.path i ((zD l).getD "")
  |some ss=>if 60<=i\/12<(nm++unq nm (nmP ss l)).length then .much i else xY S k (ls.drop (i+1)) (bgS st l.fd) (nm++unq nm (nmP ss l)) (i+1):=by
 obtain⟨hi,e⟩:=θ.mp h;rw[zu hi,e];rfl
theorem aOw{ls:List Ln}{st:List Str}: xY S k (ls.drop ls.length) st nm ls.length=if st=[] then .ok else .prog ls.length:=by
 rw[DP];rfl
def spLi:Sp:=fun vs H Q _=>∃xs:List Str,vs=[.str (xl nlS xs)]/\xs≠[]/\(∀x∈xs,10∉x.cps.toList/\x.length<=800/\x.length≠0)/\xs.length<=100/\∀p,H p=none->Q (.ref p) (upd H p (.lst (xs.map V.str)))
def spFm (CN:Addr) (K:Ω):Sp:=fun vs H Q E=>∃(i:V) (a:Addr) (ws:List Str),vs=[i,.ref a]/\(∀w∈ws,w.length<=1000)/\ws.length<=5/\SqL K H a (ws.map V.str) ∧
 (∀d ps,xH.find? (xX ws)=some (d,ps)->∀t g H',jJ H H'->SqT K H' t [.str d,.ref g]->SqT K H' g (ps.map V.str)->Q (.ref t) H') ∧
 (xH.find? (xX ws)=none->∀e H',jJ H H'->H e=none->NLx CN H' e i->E (.ref e) none H')
def spRo (c:Cl5) (CR CW:Addr) (K:Ω):Sp:=fun vs H Q E=>∃(z:Addr) (i:Nat) (d:Addr) (l:Ln) (n:Nat) (sa:List Addr) (S:List Shp) (xs:List Addr) (H0:Hp),vs=[.ref z,.int i,.str l.fd,.ref d]/\LnF l/\sa[n]?=some z/\jJ H0 H/\H0 d=none/\SW c K H0 sa S/\Good S/\NOk (kN S) S.length/\H d=some (.dK (gY l))/\Al xs H ∧
 (∀ss,vD S (.nest n) l=some ss->∀r H',jJ H0 H'->RowS CR K (offs xs H') r i l ss->Q (.ref r) H') ∧
 (vD S (.nest n) l=none->∀p,zD l=some p->∀e H',jJ H0 H'->H0 e=none->XAt CW H' e [("line",.int i),("path",.str p)]->E (.ref e) none H')
def spNi (K:Ω):Sp:=fun vs H Q _=>∃(g a sl:Addr) (l:Ln) (us:List V) (ss:List Stp),vs=[.ref g,.ref a,.ref sl]/\LnF l/\SqT K H g (l.ps.map V.str)/\SqL K H a (l.ws.map V.str)/\SqL K H sl us/\zQ K H us ss/\ss.length<=160/\∀p H',jJ H H'->H' p=some (.lst ((nmG ss (l.ps.zip l.ws)).map V.str))->Q (.ref p) H'
def spUn (K:Ω):Sp:=fun vs H Q _=>∃(a b:Addr) (xs ys:List Str),vs=[.ref a,.ref b]/\SqL K H a (xs.map V.str)/\SqL K H b (ys.map V.str)/\ys.Nodup/\xs.length<=2000/\∀l H',jJ H H'->H' l=some (.lst ((unq ys xs).map V.str))->Q (.ref l) H'
theorem aQz{S:List Shp}{k:Kd}{l:Ln}{ss:List Stp}(hF:LnF l)(h:vD S k l=some ss):ss.length<=160:=by
 unfold vD at h;cases e:zD l with
 |none=>rw[e]at h;cases h;exact xy _
 |some p =>
  rw[e]at h;have hp:p∈l.ws:=by
   by_cases hP:("PATH" : Str)∈l.ps
   ·obtain⟨v,hv,hm⟩:=iZ hF hP;unfold zD at e;rw[hv]at e;cases e;exact hm
   ·unfold zD at e;rw[fB hP]at e;cases e
  have h':vS S k l.fd p=some ss:=h;unfold vS at h';cases hq:qH S k (yu p lS) with
  |none=>rw[hq]at h';cases h'
  |some q =>
   rw[hq]at h';have h2:(if fP q.2=sV l.fd then some q.1 else none)=some ss:=h'
   split at h2
   ·cases h2;have h3:=uF (ss:=q.1) (k':=q.2) hq;have h4:=tR p;have h5:=(hF.a.w p hp).1;omega
   ·cases h2
def spRP (c:Cl5) (CS CN CM CW:Addr) (K:Ω):Sp:=fun vs H Q E=>∃(ra z:Addr) (sa:List Addr) (S:List Shp) (ls:List Ln),vs=[.ref ra,.str (xl nlS (ls.map Ln.tx))]/\RO c CS K H ra (sa++[z]) S/\Good S/\NOk (kN S) S.length/\(∀l∈ls,LnF l\/(LnW l/\xH.find? (xX l.ws)=none))/\ls≠[]/\ls.length<=100 ∧
 (xY S (.nest sa.length) ls [] [] 0=.ok->∀(p:Addr) (H':Hp),jJ H H'->Q (.ref p) H') ∧
 (∀i,xY S (.nest sa.length) ls [] [] 0=.prog i->∀e H',jJ H H'->H e=none->NLx CN H' e (.int (i:Nat))->E (.ref e) none H') ∧
 (∀i p,xY S (.nest sa.length) ls [] [] 0=.path i p->∀e H',jJ H H'->H e=none->XAt CW H' e [("line",.int (i:Nat)),("path",.str p)]->E (.ref e) none H') ∧
 (∀i,xY S (.nest sa.length) ls [] [] 0=.much i->∀e H',jJ H H'->H e=none->NLx CM H' e (.int (i:Nat))->E (.ref e) none H')
theorem iW{c d:Nat}(hcd:c≠d):∀{ys:List Str},(∀y∈ys,c∉y.cps.toList)->c∉(xl ⟨#[d]⟩ ys).cps.toList
 |[],_,h=>by cases h
 |[y],hy,h=>hy y (ο ..) h
 |y::z::ys,hy,h=>by
  have e:(xl ⟨#[d]⟩ (y::z::ys)).cps.toList=y.cps.toList++([d]++(xl ⟨#[d]⟩ (z::ys)).cps.toList):=by
   show(y++⟨#[d]⟩++xl ⟨#[d]⟩ (z::ys)).cps.toList=_;rw[BI,BI,AM,AM,yc]
  rw[e]at h;rcases xu.mp h with h|h
  ·exact hy y (ο ..) h
  ·rcases xu.mp h with h|h
   ·exact hcd (ω.mp h)
   ·exact iW hcd (fun w hw=>hy w (π _ hw)) h
theorem mD:∀{ys:List Str},(∀y∈ys,y.length<=150)->(xl spS ys).length<=ys.length*151
 |[],_=>μ _
 |[y],hy=>by have:=hy y (ο ..);show y.length<=1*151;omega
 |y::z::ys,hy=>by
  have h1:=hy y (ο ..);have h2:=mD (ys:=z::ys) fun w hw=>hy w (π _ hw);rw[show xl spS (y::z::ys)=y++spS++xl spS (z::ys) from rfl,As,As,show spS.length=1 from rfl];rw[Ξ]at h2 ⊢;rw[Ξ];omega
theorem aFg(h:LnW l): 10∉l.tx.cps.toList/\l.tx.length<=800/\l.tx.length≠0:=by
 refine⟨iW (by decide) fun y hy=>(h.w y hy).2.2,?_,h.x0⟩;have:=mD fun y hy=>(h.w y hy).1;have:=h.w5;show(xl spS l.ws).length<=800;have:l.ws.length*151<=5*151:=Nat.mul_le_mul_right _ h.w5;omega
theorem pL(h:LnW l):yu l.tx (δ " ")=l.ws:=xQ (c:=32) h.ne (fun w hw=>(h.w w hw).2.1)
def strsOf:List Expr->Option (List Str)
 |[]=>some []
 |.Constant (.str n) _ _::es=>(strsOf es).map (n :: ·)
 |_=>none
def tStrs (ns:List Str):TA:=fun _ H Q=>Q (ns.map V.str) H
theorem aAl : ∀{es:List Expr}{ns:List Str},strsOf es=some ns->PA X es (tStrs ns)
 |[],ns,h=>by
  cases h;exact jB
 |.Constant (.str n) k p::es,ns,h=>by
  unfold strsOf at h;cases e:strsOf es with
  |none=>rw[e]at h;cases h
  |some ms =>
   rw[e]at h;cases h;exact jA jM (aAl e) aBp
end K32
namespace K32
open PySem L2
def nms:List Str:=["bb","cc","dd","ff","gg","hh","jj","kk","ll","mm","nn","pp","qq"]
def lM:List Str:=["=","look","store","take","copy","out","put","many","+","*","x","if","each","span","else","end"]
def xdS:Str:="x."
theorem at_x(h:StrLaws.At w xdS w.length k):w.cps.toList[k]?=some 120:=by
 have h2:=h.2;rw[StrLaws.subAt_eq]at h2;have e:(w.cps.toList.drop k).take 2=[120,46]:=eq_of_beq h2;have e2:=congrArg (fun l:List Nat=>l[0]?) e;simp only[List.getElem?_take,List.getElem?_drop]at e2;simpa using e2
theorem aIf{w:Str}(h : 120∉w.cps.toList):AD w xdS "" = w:=by
 unfold AD;obtain⟨f,hc,_⟩:=StrLaws.occ_tight w xdS (by decide);cases ho:zp w xdS 0 w.length (w.length+1) with
 |nil=>rfl
 |cons c r =>
  rw[ho]at hc;exact absurd (xk (at_x hc.2.1)) h
theorem cT(a b:Str):(a++b).cps.toList=a.cps.toList++b.cps.toList:=by rw[BI,AM]
theorem aBy{p q:Str}(hp : 120∉p.cps.toList)(hq : 120∉q.cps.toList):AD (p++(xdS++q)) xdS "" = p++q:=by
 have ht:(p++(xdS++q)).cps.toList=p.cps.toList++(120::46::q.cps.toList):=by
  rw[cT,cT];rfl
 have hlen:(p++(xdS++q)).length=p.length+(2+q.length):=by
  rw[As,As];rfl
 have pl:p.cps.toList.length=p.length:=Aw;have ql:q.cps.toList.length=q.length:=Aw;have only:∀k,(p++(xdS++q)).cps.toList[k]?=some 120->k=p.length:=fun k hk=>by
  rw[ht]at hk
  by_cases h1:k<p.cps.toList.length
  ·rw[xo h1]at hk;exact absurd (xk hk) hp
  ·rw[xa (by omega)]at hk;obtain⟨m,hm⟩ : ∃m,k=p.cps.toList.length+m:=⟨k-p.cps.toList.length,by omega⟩;rw[hm,Nat.add_sub_cancel_left]at hk
   match m,hk with
   |0,_=>omega
   |1,hk=>cases hk
   |m+2,hk =>
    have hk':q.cps.toList[m]?=some 120:=hk;exact absurd (xk hk') hq
 have here:StrLaws.At (p++(xdS++q)) xdS (p++(xdS++q)).length p.length:=by
  refine⟨by rw[hlen];show p.length+2<=_;omega,?_⟩;rw[StrLaws.subAt_eq,ht,←pl,List.drop_left']
  ·exact beq_self_eq_true _
  ·rfl
 obtain⟨f,hc,hn⟩:=StrLaws.occ_tight (p++(xdS++q)) xdS (by decide);have ho:zp (p++(xdS++q)) xdS 0 (p++(xdS++q)).length ((p++(xdS++q)).length+1)=[p.length]:=by
  cases ho:zp (p++(xdS++q)) xdS 0 (p++(xdS++q)).length ((p++(xdS++q)).length+1) with
  |nil =>
   rw[ho]at hc;have e:f=0:=hc;exact absurd here (hn p.length (by omega))
  |cons c r =>
   rw[ho]at hc;have e:=only c (at_x hc.2.1);subst e;cases r with
   |nil=>rfl
   |cons c' r' =>
    have h2:=hc.2.2.2;have h3:=only c' (at_x h2.2.1);have h4:p.length+2<=c':=h2.1;omega
 unfold AD;rw[ho,if_neg (by show ¬ ((xdS.length == 0&&(δ "").length == 0)=true);decide)];refine Str.ext' (Array.toList_inj.mp ?_);show((AH.Str.strSub (p++(xdS++q)) 0 p.length).cps++(#[]:Array Nat)++(AH.Str.strSub (p++(xdS++q)) (p.length+2) (p++(xdS++q)).length).cps).toList=_;rw[AM,AM,StrLaws.strSub_toList,StrLaws.strSub_toList,ht,hlen,cT,Dx,Nat.sub_zero,←pl,List.take_left']
 ·rw[show p.cps.toList.length+2=(p.cps.toList++[120,46]).length by simp,show p.cps.toList++120::46::q.cps.toList=(p.cps.toList++[120,46])++q.cps.toList by simp,List.drop_left' rfl,zh]
  ·simp
  ·simp;show q.cps.size<=p.cps.size+(2+q.cps.size)-(p.cps.size+2);omega
 ·rfl
theorem xO{x:Str}: ∀{ps:List Str},ps≠[]->xl sep (ps++[x])=xl sep ps++sep++x
 |[],h=>absurd rfl h
 |[a],_=>rfl
 |a::b::ps,_=>by
  have ih:=xO (sep:=sep) (x:=x) (ps:=b::ps) (by simp);rw[DN,lV (sep:=sep) (y:=a) (ys:=b::ps++[x]) (by simp),ih,lV (sep:=sep) (y:=a) (ys:=b::ps) (by simp)];simp only[Am]
def aMp:List Str:=["A","B","C","I","J","=","NUMBER","OP","look","PATH","store","which","choose","copy","put","take","many","out","each","span","if","else","end"]
theorem aPb:(xH.all fun f=>f.2.all fun p=>decide (p∈aMp))=true:=by ac_rfl
def Eqv (w v:Str):Prop:=∀p∈aMp,gF p w=gF p v
theorem aGs:∀{ps ws vs:List Str},(∀p∈ps,p∈aMp)->Do Eqv ws vs->zo gF ps ws=zo gF ps vs
 |[],_,_,_,_=>by simp
 |_::_,_,_,_,.nil=>rfl
 |p::ps,_,_,hp,.cons h t=>by
  rw[Av,Av,h p (hp p (ο ..)),aGs (fun q hq=>hp q (π _ hq)) t]
theorem aDs:∀{ws vs:List Str},Do Eqv ws vs->ws.length=vs.length
 |_,_,.nil=>rfl
 |_,_,.cons _ t=>congrArg (·+1) (aDs t)
theorem aOq(h:Do Eqv ws vs){f:Str×List Str}(hf:f∈xH):xX ws f=xX vs f:=by
 unfold xX;have hp:∀p∈f.2,p∈aMp:=fun p hp=>of_decide_eq_true (yh.mp (yh.mp aPb f hf) p hp);rw[aGs hp h,aDs h]
theorem aJj(h:Do Eqv ws vs):xH.find? (xX ws)=xH.find? (xX vs):=by
 have:∀(l:List (Str×List Str)),(∀f∈l,f∈xH)->l.find? (xX ws)=l.find? (xX vs):=fun l=>by
  induction l with
  |nil=>intro _;rfl
  |cons f r ih =>
   intro hl;rw[Bl,Bl,aOq h (hl f (ο ..)),ih fun g hg=>hl g (π _ hg)]
 exact this xH fun _ h=>h
def alike (w v:Str):Bool:=aMp.all fun p=>gF p w == gF p v
theorem aJd(h:alike w v=true):Eqv w v:=fun p hp=>eq_of_beq (yh.mp h p hp)
def wdB (w:Str):Bool:=decide (w.length<=10)&&decide (w.length≠0)&&w.cps.toList.all fun c=>decide (c≠32)&&decide (c≠10)
structure aEd (w:Str):Prop where
 l:w.length<=10
 z:w.length≠0
 b : 32∉w.cps.toList
 n : 10∉w.cps.toList
theorem aFi(h:wdB w=true):aEd w:=by
 unfold wdB at h;simp only[yt,decide_eq_true_eq,yh]at h;exact⟨h.1.1,h.1.2,fun z=>(h.2 _ z).1 rfl,fun z=>(h.2 _ z).2 rfl⟩
def shS:List Shp:=[(δ "s",[(δ "x",Kd.many 3 (.num 2)),(δ "y",Kd.num 1)])]
theorem aTc:(nms.all fun n=>alike n "bb" && alike (xdS++n) (xdS ++ "bb")&&wdB n&&wdB (xdS++n)&&(n.cps.toList.all fun c=>decide (c≠120))&&decide (n∉lM)&&decide (vS shS (.nest 0) "look" (xdS++n)=some [.wd "x",.nm n])&&decide (vS shS (.nest 0) "store" (xdS++n)=some [.wd "x",.nm n]))=true:=by ac_rfl
structure NmF (n:Str):Prop where
 q:Eqv n "bb"
 qx:Eqv (xdS++n) (xdS ++ "bb")
 w:aEd n
 wx:aEd (xdS++n)
 x : 120∉n.cps.toList
 o:n∉lM
 s1:vS shS (.nest 0) "look" (xdS++n)=some [.wd "x",.nm n]
 s2:vS shS (.nest 0) "store" (xdS++n)=some [.wd "x",.nm n]
theorem vQ{n:Str}(h:n∈nms):NmF n:=by
 have:=yh.mp aTc n h;simp only[yt,decide_eq_true_eq,yh]at this;obtain⟨⟨⟨⟨⟨⟨⟨a1,a2⟩,a3⟩,a4⟩,a5⟩,a6⟩,a7⟩,a8⟩:=this;exact⟨aJd a1,aJd a2,aFi a3,aFi a4,fun z=>a5 _ z rfl,a6,a7,a8⟩
end K32
namespace K32
open PySem L2
def nmL (l:Ln):List Str:=(yu (AD l.tx xdS "") (δ " ")).filter fun w=>!decide (w∈lM)
structure Gd (l:Ln):Prop where
 f:LnF l
 so:∃ss,vD shS (.nest 0) l=some ss/\nmP ss l=nmL l
 rp:∃ws:List Str,AD l.tx xdS "" = xl spS ws/\ws≠[]/\ws.length<=5/\∀w∈ws,w.length<=150/\32∉w.cps.toList
structure WdX (w:Str):Prop where
 k:aEd w
 x : 120∉w.cps.toList
def WsX (ws:List Str):Prop:=∀w∈ws,WdX w
def WsK (ws:List Str):Prop:=∀w∈ws,aEd w
theorem kJ:WsX []:=fun _ h=>by cases h
theorem jE(h:WdX w)(t:WsX ws):WsX (w::ws):=fun v hv=>by
 rcases χ.mp hv with rfl|hv
 ·exact h
 ·exact t v hv
theorem uK:WsK []:=fun _ h=>by cases h
theorem qU(h:aEd w)(t:WsK ws):WsK (w::ws):=fun v hv=>by
 rcases χ.mp hv with rfl|hv
 ·exact h
 ·exact t v hv
theorem kx(h:(wdB w&&w.cps.toList.all fun c=>decide (c≠120))=true:=by ac_rfl):WdX w:=by
 simp only[yt,decide_eq_true_eq,yh]at h;exact⟨aFi h.1,fun z=>h.2 _ z rfl⟩
theorem nx{n:Str}(h:n∈nms):WdX n:=⟨(vQ h).w,(vQ h).x⟩
theorem zM{w:Str}{r:List Str}(h:w∈nms):(w::r).filter (fun w=>!decide (w∈lM))=w::r.filter fun w=>!decide (w∈lM):=by
 rw[DJ,if_pos (by rw[decide_eq_false (vQ h).o];rfl)]
theorem cH{w:Str}{r:List Str}(h:w∈lM:=by ac_rfl):(w::r).filter (fun w=>!decide (w∈lM))=r.filter fun w=>!decide (w∈lM):=by
 rw[DJ,if_neg (by rw[decide_eq_true h];decide)]
theorem vR{p w:Str}{r:List (Str×Str)}(h:p∈zA/\p ≠ "PATH":=by ac_rfl):nmG ss ((p,w)::r)=w::nmG ss r:=by
 show(if p∈zA then [w] else [])++((if p = "PATH" then stN ss else [])++nmG ss r)=_;rw[if_pos h.1,if_neg h.2];rfl
theorem xV{p w:Str}{r:List (Str×Str)}(h:p∉zA/\p ≠ "PATH":=by ac_rfl):nmG ss ((p,w)::r)=nmG ss r:=by
 show(if p∈zA then [w] else [])++((if p = "PATH" then stN ss else [])++nmG ss r)=_;rw[if_neg h.1,if_neg h.2];rfl
theorem aQd{w:Str}{r:List (Str×Str)}: nmG ss (("PATH",w)::r)=stN ss++nmG ss r:=by
 show(if ("PATH" : Str)∈zA then [w] else [])++((if ("PATH" : Str) = "PATH" then stN ss else [])++nmG ss r)=_;rw[if_neg (by ac_rfl),if_pos rfl];rfl
def ckB (c:List Str) (fd:Str) (ps:List Str):Bool:=decide (xH.find? (xX c)=some (fd,ps))&&decide ps.Nodup&&decide (ps.length=c.length)&&decide (c.length<=5)&&decide (c≠[])&&decide (("=" : Str)∈ps->("A" : Str)∈ps)&&decide (("NUMBER" : Str)∉ps)
theorem ws_lw{fd:Str}{ps:List Str}(h:WsK ws)(h5:ws.length<=5)(hn:ws≠[]):LnW ⟨ws,fd,ps⟩:=by
 refine⟨fun w hw=>⟨by have:=(h w hw).l;omega,(h w hw).b,(h w hw).n⟩,h5,hn,?_⟩;cases ws with
 |nil=>exact absurd rfl hn
 |cons y ys =>
  have h1:=pD (sep:=spS) (ys:=y::ys) (y:=y) (ο ..);have h2:=(h y (ο ..)).z;show(xl spS (y::ys)).length≠0;omega
theorem eI{d:Str}(hw:WsK ws)(hc:Do Eqv ws c)(ck:ckB c fd ps=true)(hd:Ln.d ⟨ws,fd,ps⟩=d)(fl:fd∈qE\/d∈qE->d=fd)(rl:d = "each" ∨ d = "span"->Ln.rs ⟨ws,fd,ps⟩≠[]):LnF ⟨ws,fd,ps⟩:=by
 unfold ckB at ck;simp only[yt,decide_eq_true_eq]at ck;obtain⟨⟨⟨⟨⟨⟨a1,a2⟩,a3⟩,a4⟩,a5⟩,a6⟩,a7⟩:=ck;have hl:=aDs hc;exact⟨ws_lw hw (by rw[hl];exact a4) (fun z=>a5 (BJ.mp (by rw[←hl,z];rfl))),(aJj hc).trans a1,a2,a3.trans hl.symm,a6,a7,fun z=>hd.symm ▸ fl (hd ▸ z),fun z=>rl (hd ▸ z)⟩
theorem aI{ws ps:List Str}{fd:Str}(hf:LnF ⟨ws,fd,ps⟩)(so:vD shS (.nest 0) ⟨ws,fd,ps⟩=some ss)(rp:AD (xl spS ws) xdS "" = xl spS ws2)(h2:WsK ws2)(h5:ws2≠[]/\ws2.length<=5)
  (hn:nmG ss (ps.zip ws)=ws2.filter fun w=>!decide (w∈lM)):Gd ⟨ws,fd,ps⟩:=by
 refine⟨hf,⟨ss,so,?_⟩,ws2,rp,h5.1,h5.2,fun w hw=>⟨by have:=(h2 w hw).l;omega,(h2 w hw).b⟩⟩;show nmG ss (ps.zip ws)=(yu (AD (xl spS ws) xdS "") (δ " ")).filter _;rw[rp,show yu (xl spS ws2) (δ " ")=ws2 from xQ (c:=32) h5.1 fun w hw=>(h2 w hw).b];exact hn
theorem yG(h:WsX ws):WsK ws:=fun w hw=>(h w hw).k
theorem yO(h:WsX ws):AD (xl spS ws) xdS "" = xl spS ws:=aIf (iW (by decide) fun y hy=>(h y hy).x)
theorem yL{ws ps:List Str}{fd:Str}(h:("PATH" : Str)∉ps:=by ac_rfl):vD shS (.nest 0) ⟨ws,fd,ps⟩=some []:=by
 unfold vD zD;rw[fB h]
theorem aX{ws ps:List Str}{fd:Str}(h:("OP" : Str)∉ps:=by ac_rfl):Ln.d ⟨ws,fd,ps⟩=fd:=by
 unfold Ln.d;rw[fB h];rfl
theorem d_op{ws ps:List Str}{j:Nat}{fd:Str}(hn:ps.Nodup:=by ac_rfl)(hu:ps[j]?=some "OP":=by rfl)(hv:ws[j]?=some d:=by rfl):Ln.d ⟨ws,fd,ps⟩=d:=by
 unfold Ln.d;rw[gU hn hu hv];rfl
theorem aFm{ws ps:List Str}{j:Nat}(h:vS shS (.nest 0) fd p=some ss)(hn:ps.Nodup:=by ac_rfl)(hu:ps[j]?=some "PATH":=by rfl)(hv:ws[j]?=some p:=by rfl):vD shS (.nest 0) ⟨ws,fd,ps⟩=some ss:=by
 unfold vD zD;rw[gU hn hu hv];exact h
theorem dB{fd d:Str}{P:Prop}(h:fd∉qE/\d∉qE:=by ac_rfl):fd∈qE\/d∈qE->P:=fun z=>z.elim (fun z=>absurd z h.1) (fun z=>absurd z h.2)
theorem aS{d:Str}{P:Prop}(h:d ≠ "each"/\d ≠ "span":=by ac_rfl):d = "each" ∨ d = "span"->P:=fun z=>z.elim (fun z=>absurd z h.1) (fun z=>absurd z h.2)
theorem aLm{p w:Str}(hp:p∈zA/\p ≠ "A":=by ac_rfl):∀{xs:List (Str×Str)},(p,w)∈xs->rdF g xs≠[]
 |[],h=>by cases h
 |x::r,h=>by
  show(if x.1∈zA/\(x.1 ≠ "A" ∨ g = "") then x.2::rdF g r else rdF g r)≠[]
  split
  ·exact fun z=>by cases z
  ·rename_i hn;rcases χ.mp h with z|z
   ·rw[←z]at hn;exact absurd ⟨hp.1,.inl hp.2⟩ hn
   ·exact aLm hp z
theorem aOt{ps:List Str}{c:Str}(hn:ps≠[])(hp:∀w∈ps,120∉w.cps.toList)(hc : 120∉c.cps.toList):AD (xl spS (ps++[xdS++c])) xdS "" = xl spS (ps++[c]):=by
 rw[xO hn,xO hn];refine aBy (fun z=>?_) hc;rw[cT]at z;rcases xu.mp z with z|z
 ·exact iW (by decide) hp z
 ·exact absurd z (by decide)
theorem aLt{ps:List Str}{b c:Str}(hn:ps≠[])(hp:∀w∈ps,120∉w.cps.toList)(hb : 120∉b.cps.toList)(hc : 120∉c.cps.toList):AD (xl spS ((ps++[xdS++b])++[c])) xdS "" = xl spS ((ps++[b])++[c]):=by
 rw[xO (by simp),xO hn,xO (by simp),xO hn];have:=aBy (p:=xl spS ps++spS) (q:=b++spS++c) (fun z=>?_) (fun z=>?_)
 ·rw[show xl spS ps++spS++(xdS++b)++spS++c=(xl spS ps++spS)++(xdS++(b++spS++c)) by simp only[Am],this];simp only[Am]
 ·rw[cT]at z;rcases xu.mp z with z|z
  ·exact iW (by decide) hp z
  ·exact absurd z (by decide)
 ·rw[cT,cT]at z;rcases xu.mp z with z|z
  ·rcases xu.mp z with z|z
   ·exact hb z
   ·exact absurd z (by decide)
  ·exact hc z
def lq1 (a b:Str):Ln:=⟨[a,"=",b],"name",["A","=","B"]⟩
theorem fq1{a b:Str}(ha:a∈nms)(hb:b∈nms):LnF (lq1 a b):=eI (c:=["bb","=","bb"]) (yG (jE (nx ha) (jE (kx) (jE (nx hb) kJ)))) (.cons (vQ ha).q (.cons (fun _ _=>rfl) (.cons (vQ hb).q .nil))) (by ac_rfl) aX dB aS
theorem gq1{a b:Str}(ha:a∈nms)(hb:b∈nms):Gd (lq1 a b):=aI (ws2:=[a,"=",b]) (fq1 ha hb) yL (yO (jE (nx ha) (jE (kx) (jE (nx hb) kJ)))) (yG (jE (nx ha) (jE (kx) (jE (nx hb) kJ)))) ⟨(fun z=>by cases z),by show 3<=5;decide⟩ (by
 show nmG _ [("A",a),("=","="),("B",b)]=_;rw[vR,xV,vR,zM ha,cH,zM hb];rfl)
def lq2 (a:Str):Ln:=⟨["out",a],"out",["out","A"]⟩
theorem fq2{a:Str}(ha:a∈nms):LnF (lq2 a):=eI (c:=["out","bb"]) (yG (jE (kx) (jE (nx ha) kJ))) (.cons (fun _ _=>rfl) (.cons (vQ ha).q .nil)) (by ac_rfl) aX dB aS
theorem gq2{a:Str}(ha:a∈nms):Gd (lq2 a):=aI (ws2:=["out",a]) (fq2 ha) yL (yO (jE (kx) (jE (nx ha) kJ))) (yG (jE (kx) (jE (nx ha) kJ))) ⟨(fun z=>by cases z),by show 2<=5;decide⟩ (by
 show nmG _ [("out","out"),("A",a)]=_;rw[xV,vR,cH,zM ha];rfl)
def lq3 (a:Str):Ln:=⟨["take",a],"take",["take","I"]⟩
theorem fq3{a:Str}(ha:a∈nms):LnF (lq3 a):=eI (c:=["take","bb"]) (yG (jE (kx) (jE (nx ha) kJ))) (.cons (fun _ _=>rfl) (.cons (vQ ha).q .nil)) (by ac_rfl) aX dB aS
theorem gq3{a:Str}(ha:a∈nms):Gd (lq3 a):=aI (ws2:=["take",a]) (fq3 ha) yL (yO (jE (kx) (jE (nx ha) kJ))) (yG (jE (kx) (jE (nx ha) kJ))) ⟨(fun z=>by cases z),by show 2<=5;decide⟩ (by
 show nmG _ [("take","take"),("I",a)]=_;rw[xV,vR,cH,zM ha];rfl)
def lq4 (a b:Str):Ln:=⟨["copy",a,b],"copy",["copy","I","J"]⟩
theorem fq4{a b:Str}(ha:a∈nms)(hb:b∈nms):LnF (lq4 a b):=eI (c:=["copy","bb","bb"]) (yG (jE (kx) (jE (nx ha) (jE (nx hb) kJ)))) (.cons (fun _ _=>rfl) (.cons (vQ ha).q (.cons (vQ hb).q .nil))) (by ac_rfl) aX dB aS
theorem gq4{a b:Str}(ha:a∈nms)(hb:b∈nms):Gd (lq4 a b):=aI (ws2:=["copy",a,b]) (fq4 ha hb) yL (yO (jE (kx) (jE (nx ha) (jE (nx hb) kJ)))) (yG (jE (kx) (jE (nx ha) (jE (nx hb) kJ)))) ⟨(fun z=>by cases z),by show 3<=5;decide⟩ (by
 show nmG _ [("copy","copy"),("I",a),("J",b)]=_;rw[xV,vR,vR,cH,zM ha,zM hb];rfl)
def lq5 (a b c:Str):Ln:=⟨[a,"=","look",b,xdS++c],"look",["A","=","look","I","PATH"]⟩
theorem fq5{a b c:Str}(ha:a∈nms)(hb:b∈nms)(hc:c∈nms):LnF (lq5 a b c):=eI (c:=["bb","=","look","bb",xdS ++ "bb"]) (qU (nx ha).k (qU (kx (w:="=")).k (qU (kx (w:="look")).k (qU (nx hb).k (qU (vQ hc).wx uK))))) (.cons (vQ ha).q (.cons (fun _ _=>rfl) (.cons (fun _ _=>rfl) (.cons (vQ hb).q (.cons (vQ hc).qx .nil))))) (by ac_rfl) aX dB aS
theorem gq5{a b c:Str}(ha:a∈nms)(hb:b∈nms)(hc:c∈nms):Gd (lq5 a b c):=aI (ws2:=[a,"=","look",b,c]) (fq5 ha hb hc) (aFm (j:=4) (vQ hc).s1) (aOt (ps:=[a,"=","look",b]) (by simp) (fun w hw=>((jE (nx ha) (jE (kx) (jE (kx) (jE (nx hb) kJ)))) w hw).x) (vQ hc).x) (yG (jE (nx ha) (jE (kx) (jE (kx) (jE (nx hb) (jE (nx hc) kJ)))))) ⟨(fun z=>by cases z),by show 5<=5;decide⟩ (by
 show nmG _ [("A",a),("=","="),("look","look"),("I",b),("PATH",xdS++c)]=_;rw[vR,xV,xV,vR,aQd,zM ha,cH,cH,zM hb,zM hc];rfl)
def lq6 (a b c:Str):Ln:=⟨["store",a,xdS++b,c],"store",["store","I","PATH","B"]⟩
theorem fq6{a b c:Str}(ha:a∈nms)(hb:b∈nms)(hc:c∈nms):LnF (lq6 a b c):=eI (c:=["store","bb",xdS ++ "bb","bb"]) (qU (kx (w:="store")).k (qU (nx ha).k (qU (vQ hb).wx (qU (nx hc).k uK)))) (.cons (fun _ _=>rfl) (.cons (vQ ha).q (.cons (vQ hb).qx (.cons (vQ hc).q .nil)))) (by ac_rfl) aX dB aS
theorem gq6{a b c:Str}(ha:a∈nms)(hb:b∈nms)(hc:c∈nms):Gd (lq6 a b c):=aI (ws2:=["store",a,b,c]) (fq6 ha hb hc) (aFm (j:=2) (vQ hb).s2) (aLt (ps:=["store",a]) (by simp) (fun w hw=>((jE (kx) (jE (nx ha) kJ)) w hw).x) (vQ hb).x (vQ hc).x) (yG (jE (kx) (jE (nx ha) (jE (nx hb) (jE (nx hc) kJ))))) ⟨(fun z=>by cases z),by show 4<=5;decide⟩ (by
 show nmG _ [("store","store"),("I",a),("PATH",xdS++b),("B",c)]=_;rw[xV,vR,aQd,vR,cH,zM ha,zM hb,zM hc];rfl)
def lq7 (a b c:Str):Ln:=⟨[a,"=",b,"+",c],"OP",["A","=","B","OP","C"]⟩
theorem fq7{a b c:Str}(ha:a∈nms)(hb:b∈nms)(hc:c∈nms):LnF (lq7 a b c):=eI (c:=["bb","=","bb","+","bb"]) (yG (jE (nx ha) (jE (kx) (jE (nx hb) (jE (kx) (jE (nx hc) kJ)))))) (.cons (vQ ha).q (.cons (fun _ _=>rfl) (.cons (vQ hb).q (.cons (fun _ _=>rfl) (.cons (vQ hc).q .nil))))) (by ac_rfl) (d_op (j:=3)) dB aS
theorem gq7{a b c:Str}(ha:a∈nms)(hb:b∈nms)(hc:c∈nms):Gd (lq7 a b c):=aI (ws2:=[a,"=",b,"+",c]) (fq7 ha hb hc) yL (yO (jE (nx ha) (jE (kx) (jE (nx hb) (jE (kx) (jE (nx hc) kJ)))))) (yG (jE (nx ha) (jE (kx) (jE (nx hb) (jE (kx) (jE (nx hc) kJ)))))) ⟨(fun z=>by cases z),by show 5<=5;decide⟩ (by
 show nmG _ [("A",a),("=","="),("B",b),("OP","+"),("C",c)]=_;rw[vR,xV,vR,xV,vR,zM ha,cH,zM hb,cH,zM hc];rfl)
def lq8 (a:Str):Ln:=⟨[a,"=","put"],"put",["A","=","put"]⟩
theorem fq8{a:Str}(ha:a∈nms):LnF (lq8 a):=eI (c:=["bb","=","put"]) (yG (jE (nx ha) (jE (kx) (jE (kx) kJ)))) (.cons (vQ ha).q (.cons (fun _ _=>rfl) (.cons (fun _ _=>rfl) .nil))) (by ac_rfl) aX dB aS
theorem gq8{a:Str}(ha:a∈nms):Gd (lq8 a):=aI (ws2:=[a,"=","put"]) (fq8 ha) yL (yO (jE (nx ha) (jE (kx) (jE (kx) kJ)))) (yG (jE (nx ha) (jE (kx) (jE (kx) kJ)))) ⟨(fun z=>by cases z),by show 3<=5;decide⟩ (by
 show nmG _ [("A",a),("=","="),("put","put")]=_;rw[vR,xV,xV,zM ha,cH,cH];rfl)
def lq9 (a:Str):Ln:=⟨[a,"=","many"],"many",["A","=","many"]⟩
theorem fq9{a:Str}(ha:a∈nms):LnF (lq9 a):=eI (c:=["bb","=","many"]) (yG (jE (nx ha) (jE (kx) (jE (kx) kJ)))) (.cons (vQ ha).q (.cons (fun _ _=>rfl) (.cons (fun _ _=>rfl) .nil))) (by ac_rfl) aX dB aS
theorem gq9{a:Str}(ha:a∈nms):Gd (lq9 a):=aI (ws2:=[a,"=","many"]) (fq9 ha) yL (yO (jE (nx ha) (jE (kx) (jE (kx) kJ)))) (yG (jE (nx ha) (jE (kx) (jE (kx) kJ)))) ⟨(fun z=>by cases z),by show 3<=5;decide⟩ (by
 show nmG _ [("A",a),("=","="),("many","many")]=_;rw[vR,xV,xV,zM ha,cH,cH];rfl)
def lqA (a b c:Str):Ln:=⟨[a,"=",b,"*",c],"OP",["A","=","B","OP","C"]⟩
theorem fqA{a b c:Str}(ha:a∈nms)(hb:b∈nms)(hc:c∈nms):LnF (lqA a b c):=eI (c:=["bb","=","bb","*","bb"]) (yG (jE (nx ha) (jE (kx) (jE (nx hb) (jE (kx) (jE (nx hc) kJ)))))) (.cons (vQ ha).q (.cons (fun _ _=>rfl) (.cons (vQ hb).q (.cons (fun _ _=>rfl) (.cons (vQ hc).q .nil))))) (by ac_rfl) (d_op (j:=3)) dB aS
theorem gqA{a b c:Str}(ha:a∈nms)(hb:b∈nms)(hc:c∈nms):Gd (lqA a b c):=aI (ws2:=[a,"=",b,"*",c]) (fqA ha hb hc) yL (yO (jE (nx ha) (jE (kx) (jE (nx hb) (jE (kx) (jE (nx hc) kJ)))))) (yG (jE (nx ha) (jE (kx) (jE (nx hb) (jE (kx) (jE (nx hc) kJ)))))) ⟨(fun z=>by cases z),by show 5<=5;decide⟩ (by
 show nmG _ [("A",a),("=","="),("B",b),("OP","*"),("C",c)]=_;rw[vR,xV,vR,xV,vR,zM ha,cH,zM hb,cH,zM hc];rfl)
def lqI (a:Str):Ln:=⟨["if",a],"if",["if","A"]⟩
theorem fqI{a:Str}(ha:a∈nms):LnF (lqI a):=eI (c:=["if","bb"]) (yG (jE (kx) (jE (nx ha) kJ))) (.cons (fun _ _=>rfl) (.cons (vQ ha).q .nil)) (by ac_rfl) aX (fun _=>rfl) aS
theorem gqI{a:Str}(ha:a∈nms):Gd (lqI a):=aI (ws2:=["if",a]) (fqI ha) yL (yO (jE (kx) (jE (nx ha) kJ))) (yG (jE (kx) (jE (nx ha) kJ))) ⟨(fun z=>by cases z),by show 2<=5;decide⟩ (by
 show nmG _ [("if","if"),("A",a)]=_;rw[xV,vR,cH,zM ha];rfl)
def lqE (a:Str):Ln:=⟨["each",a],"each",["each","I"]⟩
theorem fqE{a:Str}(ha:a∈nms):LnF (lqE a):=eI (c:=["each","bb"]) (yG (jE (kx) (jE (nx ha) kJ))) (.cons (fun _ _=>rfl) (.cons (vQ ha).q .nil)) (by ac_rfl) aX (fun _=>rfl) (fun _=>aLm (p:="I") (w:=a) (by ac_rfl) (π _ (ο ..)))
theorem gqE{a:Str}(ha:a∈nms):Gd (lqE a):=aI (ws2:=["each",a]) (fqE ha) yL (yO (jE (kx) (jE (nx ha) kJ))) (yG (jE (kx) (jE (nx ha) kJ))) ⟨(fun z=>by cases z),by show 2<=5;decide⟩ (by
 show nmG _ [("each","each"),("I",a)]=_;rw[xV,vR,cH,zM ha];rfl)
def lqS (a b c:Str):Ln:=⟨["span",a,b,c],"span",["span","I","B","C"]⟩
theorem fqS{a b c:Str}(ha:a∈nms)(hb:b∈nms)(hc:c∈nms):LnF (lqS a b c):=eI (c:=["span","bb","bb","bb"]) (yG (jE (kx) (jE (nx ha) (jE (nx hb) (jE (nx hc) kJ))))) (.cons (fun _ _=>rfl) (.cons (vQ ha).q (.cons (vQ hb).q (.cons (vQ hc).q .nil)))) (by ac_rfl) aX (fun _=>rfl) (fun _=>aLm (p:="I") (w:=a) (by ac_rfl) (π _ (ο ..)))
theorem gqS{a b c:Str}(ha:a∈nms)(hb:b∈nms)(hc:c∈nms):Gd (lqS a b c):=aI (ws2:=["span",a,b,c]) (fqS ha hb hc) yL (yO (jE (kx) (jE (nx ha) (jE (nx hb) (jE (nx hc) kJ))))) (yG (jE (kx) (jE (nx ha) (jE (nx hb) (jE (nx hc) kJ))))) ⟨(fun z=>by cases z),by show 4<=5;decide⟩ (by
 show nmG _ [("span","span"),("I",a),("B",b),("C",c)]=_;rw[xV,vR,vR,vR,cH,zM ha,zM hb,zM hc];rfl)
def lqL:Ln:=⟨["else"],"else",["else"]⟩
theorem fqL:LnF lqL:=eI (c:=["else"]) (yG (jE (kx) kJ)) (.cons (fun _ _=>rfl) .nil) (by ac_rfl) aX (fun _=>rfl) aS
theorem gqL:Gd (lqL):=aI (ws2:=["else"]) (fqL) yL (yO (jE (kx) kJ)) (yG (jE (kx) kJ)) ⟨(fun z=>by cases z),by show 1<=5;decide⟩ (by
 show nmG _ [("else","else")]=_;rw[xV,cH];rfl)
def lqZ:Ln:=⟨["end"],"end",["end"]⟩
theorem fqZ:LnF lqZ:=eI (c:=["end"]) (yG (jE (kx) kJ)) (.cons (fun _ _=>rfl) .nil) (by ac_rfl) aX (fun _=>rfl) aS
theorem gqZ:Gd (lqZ):=aI (ws2:=["end"]) (fqZ) yL (yO (jE (kx) kJ)) (yG (jE (kx) kJ)) ⟨(fun z=>by cases z),by show 1<=5;decide⟩ (by
 show nmG _ [("end","end")]=_;rw[xV,cH];rfl)
def b0:Ln:=⟨["bb","=","look","bb","x"],"look",["A","=","look","I","PATH"]⟩
def b1:Ln:=⟨["out"],"",[]⟩
def b2:Ln:=⟨["store","bb","y.y","rr"],"store",["store","I","PATH","B"]⟩
def b3:Ln:=⟨["rr","=",""],"",[]⟩
def yY:List Ln:=[b0,b1,b2,b3]
theorem kk(h:wdB w=true:=by ac_rfl):aEd w:=aFi h
theorem oW:∀(ws:List Str),Do Eqv ws ws
 |[]=>.nil
 |_::r=>.cons (fun _ _=>rfl) (oW r)
theorem fb0:LnF b0:=eI (qU kk (qU kk (qU kk (qU kk (qU kk uK))))) (oW _) (by ac_rfl) aX dB aS
theorem fb2:LnF b2:=eI (qU kk (qU kk (qU kk (qU kk uK)))) (oW _) (by ac_rfl) aX dB aS
theorem sb0:vD shS (.nest 0) b0=none/\zD b0=some "x":=by ac_rfl
theorem sb2:vD shS (.nest 0) b2=none/\zD b2=some "y.y":=by ac_rfl
theorem wb1:LnW b1/\xH.find? (xX b1.ws)=none:=⟨⟨by ac_rfl,by decide,(fun z=>by cases z),by ac_rfl⟩,by ac_rfl⟩
theorem wb3:LnW b3/\xH.find? (xX b3.ws)=none:=⟨⟨by ac_rfl,by decide,(fun z=>by cases z),by ac_rfl⟩,by ac_rfl⟩
theorem eW{l:Ln}(h:l∈yY):l=b0\/l=b1\/l=b2\/l=b3:=by
 unfold yY at h;simpa only[χ,xq,or_false] using h
theorem aRx{l:Ln}(h:l∈yY):LnF l\/(LnW l/\xH.find? (xX l.ws)=none):=by
 rcases eW h with rfl|rfl|rfl|rfl
 ·exact .inl fb0
 ·exact .inr wb1
 ·exact .inl fb2
 ·exact .inr wb3
theorem nY(hg:Gd l)(h:(LnW b/\xH.find? (xX b.ws)=none)\/(LnF b/\vD shS (.nest 0) b=none)):l.tx≠b.tx:=fun e=>by
 have hb:LnW b:=h.elim (fun z=>z.1) (fun z=>z.1.a);have hw:l.ws=b.ws:=by rw[←pL hg.f.a,←pL hb,e]
 have hf:=hg.f.fd;rw[hw]at hf;rcases h with⟨_,h⟩|⟨hF,hs⟩
 ·rw[h]at hf;cases hf
 ·rw[hF.fd]at hf;obtain⟨ss,h1,_⟩:=hg.so;have el:l=b:=by
   obtain⟨w1,fq1,p1⟩:=l;obtain⟨w2,fq2,p2⟩:=b;cases hf;cases hw;rfl
  rw[el,hs]at h1;cases h1
def xB (l:Ln):Option (Nat->Out):=if l.tx=b0.tx then some (fun i=>.path i "x") else if l.tx=b1.tx then some .prog else if l.tx=b2.tx then some (fun i=>.path i "y.y") else if l.tx=b3.tx then some .prog else none
theorem aQj(h:Gd l):xB l=none:=by
 unfold xB;rw[if_neg (nY h (.inr ⟨fb0,sb0.1⟩)),if_neg (nY h (.inl wb1)),if_neg (nY h (.inr ⟨fb2,sb2.1⟩)),if_neg (nY h (.inl wb3))]
theorem bZ:b1.tx≠b0.tx/\b2.tx≠b0.tx/\b2.tx≠b1.tx/\b3.tx≠b0.tx/\b3.tx≠b1.tx/\b3.tx≠b2.tx:=by ac_rfl
theorem bo0:xB b0=some (fun i=>.path i "x"):=if_pos rfl
theorem bo1:xB b1=some .prog:=by
 unfold xB;rw[if_neg bZ.1,if_pos rfl]
theorem bo2:xB b2=some (fun i=>.path i "y.y"):=by
 unfold xB;rw[if_neg bZ.2.1,if_neg bZ.2.2.1,if_pos rfl]
theorem bo3:xB b3=some .prog:=by
 unfold xB;rw[if_neg bZ.2.2.2.1,if_neg bZ.2.2.2.2.1,if_neg bZ.2.2.2.2.2,if_pos rfl]
def knL (l:Ln) (kn:List Str):List Str:=kn++(nmL l).filter fun x=>!decide (x∈kn)
def dE:List Ln->List Str->Nat->Out
 |[],_,_=>.ok
 |l::ls,kn,i=>match xB l with
  |some o=>o i
  |none=>if 60<=i\/12<(unq [] (knL l kn)).length then .much i else dE ls (knL l kn) (i+1)
def nW:List Ln->List Str->Prop
 |[],st=>st=[]
 |l::ls,st=>l∈yY\/(stB st l.fd=true/\nW ls (bgS st l.fd))
theorem aAh:∀{ls:List Ln}{st nm kn:List Str}{i:Nat},(∀l∈ls,Gd l\/l∈yY)->nW ls st->nm.Nodup->(∀x,x∈nm ↔ x∈kn)->xY shS (.nest 0) ls st nm i=dE ls kn i
 |[],st,nm,kn,i,_,hs,_,_=>by
  show(if st=[] then Out.ok else .prog i)=.ok;exact if_pos hs
 |l::ls,st,nm,kn,i,hl,hs,hnd,hm=>by
  have path:∀{b:Ln}{p:Str},LnF b->b.fd∉qE->vD shS (.nest 0) b=none->zD b=some p->xY shS (.nest 0) (b::ls) st nm i=.path i p:=fun {b p} hF hfl hso hp=>by
   unfold xY;rw[if_neg (by rw[hF.fd];exact fun z=>by cases z),if_neg (by rw[(nofl hfl st).1];decide),hso];show Out.path i ((zD b).getD "")=_;rw[hp];rfl
  have prog:∀{b:Ln},xH.find? (xX b.ws)=none->xY shS (.nest 0) (b::ls) st nm i=.prog i:=fun {b} h=>by
   unfold xY;rw[if_pos h]
  have due:∀{b:Ln}{o:Nat->Out},xB b=some o->dE (b::ls) kn i=o i:=fun {b o} h=>by
   unfold dE;rw[h]
  rcases hl l (ο ..) with hg|hb
  ·have hnb:l∉yY:=fun z=>by
    have e:=aQj hg;rcases eW z with rfl|rfl|rfl|rfl
    ·rw[bo0]at e;cases e
    ·rw[bo1]at e;cases e
    ·rw[bo2]at e;cases e
    ·rw[bo3]at e;cases e
   obtain⟨h1,h2⟩:=hs.resolve_left hnb;obtain⟨ss,hso,hnm⟩:=hg.so;obtain⟨u1,u2,_⟩:=sD (ys:=nm) (xs:=nmP ss l) hnd;obtain⟨v1,v2,_⟩:=sD (ys:=[]) (xs:=knL l kn) Ct;rw[List.nil_append]at v1 v2;have hk:∀x,x∈knL l kn ↔ x∈nm++unq nm (nmP ss l):=fun x=>by
    rw[u2,hnm,hm];unfold knL;rw[xu,List.mem_filter];constructor
    ·rintro (z|z)
     ·exact .inl z
     ·exact .inr z.1
    ·rintro (z|z)
     ·exact .inl z
     ·rcases Classical.em (x∈kn) with y|y
      ·exact .inl y
      ·exact .inr ⟨z,by rw[decide_eq_false y];rfl⟩
   have hv:∀x,x∈unq [] (knL l kn) ↔ x∈nm++unq nm (nmP ss l):=fun x=>((v2 x).trans ⟨fun z=>z.resolve_left (fun z=>by cases z),.inr⟩).trans (hk x);have hlen:(unq [] (knL l kn)).length=(nm++unq nm (nmP ss l)).length:=Nat.le_antisymm (bA v1 fun x hx=>(hv x).mp hx) (bA u1 fun x hx=>(hv x).mpr hx);have ih:=aAh (ls:=ls) (st:=bgS st l.fd) (nm:=nm++unq nm (nmP ss l)) (kn:=knL l kn) (i:=i+1) (fun l' h'=>hl l' (π _ h')) h2 u1 fun x=>(hk x).symm;have e1:xY shS (.nest 0) (l::ls) st nm i=if 60<=i\/12<(nm++unq nm (nmP ss l)).length then .much i else xY shS (.nest 0) ls (bgS st l.fd) (nm++unq nm (nmP ss l)) (i+1):=by
    conv=>lhs;unfold xY
    rw[if_neg (by rw[hg.f.fd];exact fun z=>by cases z),if_neg (by rw[h1];decide),hso]
   have e2:dE (l::ls) kn i=if 60<=i\/12<(unq [] (knL l kn)).length then .much i else dE ls (knL l kn) (i+1):=by
    conv=>lhs;unfold dE
    rw[aQj hg]
   rw[e1,e2,hlen,ih]
  ·rcases eW hb with rfl|rfl|rfl|rfl
   ·rw[path fb0 (by ac_rfl) sb0.1 sb0.2,due bo0]
   ·rw[prog wb1.2,due bo1]
   ·rw[path fb2 (by ac_rfl) sb2.1 sb2.2,due bo2]
   ·rw[prog wb3.2,due bo3]
def fR:Out->List V
 |.ok=>[]
 |.prog i=>[.str "program",.int (i:Nat)]
 |.path i p=>[.str "path",.str p,.int (i:Nat)]
 |.much i=>[.str "much",.int (i:Nat)]
theorem aAz{l:Ln}{st:List Str}(h1:stB st l.fd=true)(h2:nW ls (bgS st l.fd)):nW (l::ls) st:=.inr ⟨h1,h2⟩
theorem aO{st:List Str}(h:nW ls st):∀{rs:List Ln},(∀l∈rs,l.fd∉qE)->nW (rs++ls) st
 |[],_=>h
 |l::rs,hr=>by
  obtain⟨a1,a2⟩:=nofl (hr l (ο ..)) st;refine .inr ⟨a1,?_⟩;rw[a2];exact aO h fun l' h'=>hr l' (π _ h')
theorem aFd{b:Ln}(hb:b∈yY):∀{P:List Ln}{st:List Str}(n:Nat),nW P st->nW (P.take n++[b]++P.drop n) st
 |P,st,0,_=>.inl hb
 |[],st,n+1,_=>.inl hb
 |l::P,st,n+1,h=>by
  rcases h with h|⟨h1,h2⟩
  ·exact .inl h
  ·exact .inr ⟨h1,aFd hb n h2⟩
def fk (k:Nat):Ln:=lq1 (nms.getD k "") (nms.getD (k+1) "")
def wX:List Ln:=(zt 10).map fk
theorem aSo:xY shS (.nest 0) wX [] [] 0=.ok:=by ac_rfl
structure PrO (P:List Ln):Prop where
 g:∀l∈P,Gd l
 s:nW P []
 n:P.length<=80
 t:P.take 10=wX
structure RwO (B:List Ln):Prop where
 g:∀l∈B,Gd l/\l.fd∉qE
 t:B.take 10=wX
theorem RwO.ten(h:RwO B): 10<=B.length:=by
 have:=congrArg List.length h.t;rw[wy,show wX.length=10 from rfl]at this;omega
theorem aKu{B C:List Ln}{n:Nat}(hB : 10<=B.length)(hn : 10<=n):(B.take n++C).take 10=B.take 10:=by
 rw[Bf (by rw[wy];omega),List.take_take,CZ hn]
theorem RwO.snoc(h:RwO B)(hl:Gd l/\l.fd∉qE):RwO (B++[l]):=⟨fun l' h'=>by
 rcases xu.mp h' with h'|h'
 ·exact h.g l' h'
 ·rw[ω.mp h'];exact hl,by rw[Bf h.ten];exact h.t⟩
theorem RwO.ins{B:List Ln}{l:Ln}{n:Nat}(h:RwO B)(hl:Gd l/\l.fd∉qE)(hn : 10<=n):RwO (B.take n++[l]++B.drop n):=⟨fun l' h'=>by
 rcases xu.mp h' with h'|h'
 ·rcases xu.mp h' with h'|h'
  ·exact h.g l' (Ai h')
  ·rw[ω.mp h'];exact hl
 ·exact h.g l' (zi h'),by rw[yc,aKu h.ten hn];exact h.t⟩
theorem aKy:RwO wX:=⟨fun l h=>by
 obtain⟨k,hk,rfl⟩:=zm.mp h;have hk':=List.mem_range.mp hk;have:∀j,j<13->nms.getD j "" ∈ nms:=by ac_rfl
 exact⟨gq1 (this k (by omega)) (this (k+1) (by omega)),show("name" : Str)∉qE by ac_rfl⟩,zh (by decide)⟩
theorem aBq:("bb" : Str)∈nms:=by ac_rfl
theorem aPa{I:List Ln}{hd:Ln}{n m:Nat}(h:RwO B)(hn : 10<=n)(hnm:n<=m)(h64:B.length<=70)(hI:(hd=lqI "bb"/\I=(B.take m).drop n++[lqL])\/((hd=lqE "bb" ∨ hd=lqS "bb" "bb" "bb")/\I=(B.take m).drop n)):
  PrO (B.take n++[hd]++I++(B.drop m).take 1++[lqZ]++(B.drop m).drop 1):=by
 have r1:∀l∈B.take n,l.fd∉qE:=fun l hl=>(h.g l (Ai hl)).2;have r2:∀l∈(B.take m).drop n,l.fd∉qE:=fun l hl=>(h.g l (Ai (zi hl))).2;have r3:∀l∈(B.drop m).take 1,l.fd∉qE:=fun l hl=>(h.g l (zi (Ai hl))).2;have r4:∀l∈(B.drop m).drop 1,l.fd∉qE:=fun l hl=>(h.g l (zi (zi hl))).2;have s4:nW ((B.drop m).drop 1) []:=by have:=aO (ls:=[]) (st:=[]) rfl r4;rwa [ya]at this
 have s3:∀y:Str,nW ((B.drop m).take 1++([lqZ]++(B.drop m).drop 1)) [y]:=fun y=>aO (aAz (l:=lqZ) rfl s4) r3;have assoc:B.take n++[hd]++I++(B.drop m).take 1++[lqZ]++(B.drop m).drop 1=B.take n++([hd]++(I++((B.drop m).take 1++([lqZ]++(B.drop m).drop 1)))):=by simp only[yc]
 have lI:I.length<=min m B.length-n+1:=by
  rcases hI with⟨_,rfl⟩|⟨_,rfl⟩
  ·rw[η,yo,wy,xm];omega
  ·rw[yo,wy];omega
 have gIn:∀l∈I,Gd l:=fun l hl=>by
  rcases hI with⟨_,rfl⟩|⟨_,rfl⟩
  ·rcases xu.mp hl with hl|hl
   ·exact(h.g l (Ai (zi hl))).1
   ·rw[ω.mp hl];exact gqL
  ·exact(h.g l (Ai (zi hl))).1
 have gH:Gd hd:=by
  rcases hI with⟨rfl,_⟩|⟨rfl|rfl,_⟩
  ·exact gqI aBq
  ·exact gqE aBq
  ·exact gqS aBq aBq aBq
 refine⟨fun l hl=>?_,?_,?_,?_⟩
 ·rw[assoc]at hl;rcases xu.mp hl with hl|hl
  ·exact(h.g l (Ai hl)).1
  rcases xu.mp hl with hl|hl
  ·rw[ω.mp hl];exact gH
  rcases xu.mp hl with hl|hl
  ·exact gIn l hl
  rcases xu.mp hl with hl|hl
  ·exact(h.g l (zi (Ai hl))).1
  rcases xu.mp hl with hl|hl
  ·rw[ω.mp hl];exact gqZ
  ·exact(h.g l (zi (zi hl))).1
 ·rw[assoc];refine aO ?_ r1;rcases hI with⟨rfl,rfl⟩|⟨rfl|rfl,rfl⟩
  ·refine .inr ⟨by ac_rfl,?_⟩;rw[show bgS [] (lqI "bb").fd=([("if" : Str)]:List Str) by ac_rfl,yc];refine aO (aAz (l:=lqL) (by ac_rfl) ?_) r2;rw[show bgS [("if" : Str)] lqL.fd=([("else" : Str)]:List Str) by ac_rfl];exact s3 _
  ·refine .inr ⟨by ac_rfl,?_⟩;rw[show bgS [] (lqE "bb").fd=([("each" : Str)]:List Str) by ac_rfl];exact aO (s3 _) r2
  ·refine .inr ⟨by ac_rfl,?_⟩;rw[show bgS [] (lqS "bb" "bb" "bb").fd=([("span" : Str)]:List Str) by ac_rfl];exact aO (s3 _) r2
 ·simp only[η,wy,yo,xm];omega
 ·rw[assoc,aKu h.ten hn];exact h.t
theorem aTd : [V.str (δ "shape s\nx row 3 num 2\ny num 1")]=[V.str (txt shS)]:=by
 have:txt shS=δ "shape s\nx row 3 num 2\ny num 1":=by ac_rfl
 rw[this]
theorem uI{i:Nat}(h:shS[i]?=some s):i=0/\s=(δ "s",[(δ "x",Kd.many 3 (.num 2)),(δ "y",Kd.num 1)]):=by
 match i,h with
 |0,h=>cases h;exact⟨rfl,rfl⟩
 |i+1,h=>simp[shS]at h
theorem aEr{s:Shp}(h:s∈shS):s=(δ "s",[(δ "x",Kd.many 3 (.num 2)),(δ "y",Kd.num 1)]):=ω.mp h
theorem aKx{f:Str×Kd}(h:f∈[(δ "x",Kd.many 3 (.num 2)),(δ "y",Kd.num 1)]):f=(δ "x",Kd.many 3 (.num 2))\/f=(δ "y",Kd.num 1):=by
 rcases χ.mp h with h|h
 ·exact .inl h
 ·exact .inr (ω.mp h)
theorem aDt:Wel shS where
 good:={
  ne:=fun i s h=>by rw[(uI h).2];simp
  few:=fun i s h=>by rw[(uI h).2];show 2<=6;decide
  fit:=fun i s h f hf=>by
   obtain⟨rfl,rfl⟩:=uI h;rcases aKx hf with rfl|rfl
   ·exact⟨⟨by decide,by decide,.inl ⟨2,rfl,by decide,by decide⟩⟩,by ac_rfl,by ac_rfl⟩
   ·exact⟨⟨by decide,by decide⟩,by ac_rfl,by ac_rfl⟩
  sz:=fun i=>by
   have e:(tabs shS).sz=[7]:=by ac_rfl
   rw[e]
   match i with
   |0=>decide
   |i+1=>simp }
 nm:=fun s h=>by rw[aEr h];ac_rfl
 fnm:=fun s h f hf=>by
  rw[aEr h]at hf;rcases aKx hf with rfl|rfl <;> ac_rfl
 nd:=by ac_rfl
 fnd:=fun s h=>by rw[aEr h];ac_rfl
 len:=by decide
 bd:=fun i s h=>by
  obtain⟨rfl,rfl⟩:=uI h;exact⟨by ac_rfl,by ac_rfl,by ac_rfl,by decide⟩
def bdK (a0 a1 a2 a3:Addr):List (Key×V):=[(.inr b0.tx,.ref a0),(.inr b1.tx,.ref a1),(.inr b2.tx,.ref a2),(.inr b3.tx,.ref a3)]
def aDa (K:Ω) (H:Hp) (d:Addr):Prop:=∃a0 a1 a2 a3:Addr,Rd H d (.dK (bdK a0 a1 a2 a3))/\SqL K H a0 [.str "path",.str "x"]/\SqL K H a1 [.str "program"]/\SqL K H a2 [.str "path",.str "y.y"]/\SqL K H a3 [.str "program"]
theorem aDa.same{K:Ω}(h:aDa K H d)(g:jJ H H'):aDa K H' d:=by
 obtain⟨a0,a1,a2,a3,r,h0,h1,h2,h3⟩:=h;exact⟨a0,a1,a2,a3,r.imp (g _ _) (fun ⟨o,z⟩=>⟨o,g _ _ z⟩),g.seq h0,g.seq h1,g.seq h2,g.seq h3⟩
theorem aDa.get{K:Ω}(h:aDa K H d)(l:Ln):(xB l=none->zZ H d (.str l.tx) none)/\∀o,xB l=some o->∃av pre,zZ H d (.str l.tx) (some (.ref av))/\SqL K H av pre/\pre.length<=2/\∀i:Nat,pre++[.int (i:Nat)]=fR (o i):=by
 obtain⟨a0,a1,a2,a3,r,h0,h1,h2,h3⟩:=h;have get:∀{v:Option V},xR (bdK a0 a1 a2 a3) (.inr l.tx)=v->zZ H d (.str l.tx) v:=fun e=>.inl ⟨_,.inr l.tx,r,rfl,e.symm⟩;unfold xB;have ne:∀{t:Str}{x:V}{rest:List (Key×V)},¬ l.tx=t->xR (((.inr t:Key),x)::rest) (.inr l.tx)=xR rest (.inr l.tx):=fun h=>vU (fun z=>h (AN z).symm);have eq:∀{t:Str}{x:V}{rest:List (Key×V)},l.tx=t->xR (((.inr t:Key),x)::rest) (.inr l.tx)=some x:=fun h=>eC (congrArg Az h.symm)
 by_cases c0:l.tx=b0.tx
 ·rw[if_pos c0];refine⟨(fun z=>by cases z),fun o ho=>?_⟩;cases ho;exact⟨a0,_,get (eq c0),h0,by decide,fun i=>rfl⟩
 rw[if_neg c0]
 by_cases c1:l.tx=b1.tx
 ·rw[if_pos c1];refine⟨(fun z=>by cases z),fun o ho=>?_⟩;cases ho;exact⟨a1,_,get ((ne c0).trans (eq c1)),h1,by decide,fun i=>rfl⟩
 rw[if_neg c1]
 by_cases c2:l.tx=b2.tx
 ·rw[if_pos c2];refine⟨(fun z=>by cases z),fun o ho=>?_⟩;cases ho;exact⟨a2,_,get ((ne c0).trans ((ne c1).trans (eq c2))),h2,by decide,fun i=>rfl⟩
 rw[if_neg c2]
 by_cases c3:l.tx=b3.tx
 ·rw[if_pos c3];refine⟨(fun z=>by cases z),fun o ho=>?_⟩;cases ho;exact⟨a3,_,get ((ne c0).trans ((ne c1).trans ((ne c2).trans (eq c3)))),h3,by decide,fun i=>rfl⟩
 rw[if_neg c3];exact⟨fun _=>get ((ne c0).trans ((ne c1).trans ((ne c2).trans (ne c3)))),fun o ho=>by cases ho⟩
def spNI:Sp:=fun vs H Q _=>∃l:Ln,vs=[.str l.tx]/\Gd l/\∀p H',jJ H H'->H' p=some (.lst ((nmL l).map V.str))->Q (.ref p) H'
theorem aMz(h:Gd l):(nmL l).length<=5:=by
 obtain⟨ws,e,hn,h5,hw⟩:=h.rp;unfold nmL;rw[e,show yu (xl spS ws) (δ " ")=ws from xQ (c:=32) hn fun w hw'=>(hw w hw').2];exact yb (Bx ..) h5
theorem aRv{ls:List Ln}{i:Nat}(h:ls[i]?=some l):dE (ls.drop i) kn i=match xB l with
  |some o=>o i
  |none=>if 60<=i\/12<(unq [] (knL l kn)).length then .much i else dE (ls.drop (i+1)) (knL l kn) (i+1):=by
 obtain⟨hi,e⟩:=θ.mp h;rw[zu hi,e];rfl
def spDu (K:Ω):Sp:=fun vs H Q _=>∃(a d:Addr) (ls:List Ln),vs=[.ref a,.ref d]/\SqL K H a ((ls.map Ln.tx).map V.str)/\aDa K H d/\(∀l∈ls,Gd l\/l∈yY)/\ls.length<=100/\∀p H',jJ H H'->SqL K H' p (fR (dE ls [] 0))->Q (.ref p) H'
def aQl (c:Cl5) (CS:Addr) (K:Ω):Sp:=fun vs H Q _=>∃(ra a z:Addr) (ls:List Ln),vs=[.ref ra,.ref a]/\RO c CS K H ra ([]++[z]) shS/\SqL K H a ((ls.map Ln.tx).map V.str)/\(∀l∈ls,LnF l\/(LnW l/\xH.find? (xX l.ws)=none))/\ls≠[]/\ls.length<=100/\∀p H',jJ H H'->SqL K H' p (fR (xY shS (.nest 0) ls [] [] 0))->Q (.ref p) H'
structure XN3 (CR CN CW CM:Addr):Prop where
 wn:(xg CW :: .ref CR::VB).contains (.ref CN)=false
 mn:(xg CM :: .ref CR::VB).contains (.ref CN)=false
 mw:(xg CM :: .ref CR::VB).contains (.ref CW)=false
def spLn (K:Ω):Sp:=fun vs H Q _=>∃(p na:Addr),vs=[.ref p,.ref na,.int 11]/\St3 H p/\H na=some (.lst (nms.map V.str))/\∀(l:Ln) (H':Hp),Gd l->l.fd∉qE->Drawn p H H'->Q (.str l.tx) H'
def spFs:Sp:=fun vs H Q _=>∃(p:Addr) (n o:Str),vs=[.ref p,.str n,.str o]/\n∈nms/\o∈nms/\St3 H p/\∀(l:Ln) (H':Hp),Gd l->l.fd∉qE->Drawn p H H'->Q (.str l.tx) H'
def spLs (K:Ω):Sp:=fun vs H Q _=>∃(a na:Addr) (ns:List Int) (m:Nat),vs=[.ref a,.ref na,.int (11+(m:Nat))]/\SqL K H a (ns.map V.int)/\H na=some (.lst (nms.map V.str))/\m<3/\∀(l:Addr) (P:List Ln) (H':Hp),jJ H H'->PrO P->H' l=some (.lst ((P.map Ln.tx).map V.str))->Q (.ref l) H'
theorem tx1{a b:Str}: a++δ " = " ++ b=(lq1 a b).tx:=by
 show _=(a++spS++(("=" : Str)++spS++b));rw[show δ " = " = ((spS)++(("=" : Str)++spS)) by ac_rfl];simp only[Am]
theorem tx2{a:Str}: δ "out " ++ a=(lq2 a).tx:=by
 show _=(("out" : Str)++spS++a);rw[show δ "out " = (("out" : Str)++spS) by ac_rfl]
theorem tx3{a:Str}: δ "take " ++ a=(lq3 a).tx:=by
 show _=(("take" : Str)++spS++a);rw[show δ "take " = (("take" : Str)++spS) by ac_rfl]
theorem tx4{a b:Str}: δ "copy " ++ a++δ " " ++ b=(lq4 a b).tx:=by
 show _=(("copy" : Str)++spS++(a++spS++b));rw[show δ "copy " = (("copy" : Str)++spS) by ac_rfl];rw[show δ " " = spS from rfl];simp only[Am]
theorem tx5{a b c:Str}: a++δ " = look " ++ b++δ " x." ++ c=(lq5 a b c).tx:=by
 show _=(a++spS++(("=" : Str)++spS++(("look" : Str)++spS++(b++spS++(xdS++c)))));rw[show δ " = look " = ((spS)++(("=" : Str)++((spS)++(("look" : Str)++spS)))) by ac_rfl];rw[show δ " x." = ((spS)++xdS) by ac_rfl];simp only[Am]
theorem tx6{a b c:Str}: δ "store " ++ a++δ " x." ++ b++δ " " ++ c=(lq6 a b c).tx:=by
 show _=(("store" : Str)++spS++(a++spS++((xdS++b)++spS++c)));rw[show δ "store " = (("store" : Str)++spS) by ac_rfl];rw[show δ " x." = ((spS)++xdS) by ac_rfl];rw[show δ " " = spS from rfl];simp only[Am]
theorem tx7{a b c:Str}: a++δ " = " ++ b++δ " + " ++ c=(lq7 a b c).tx:=by
 show _=(a++spS++(("=" : Str)++spS++(b++spS++(("+" : Str)++spS++c))));rw[show δ " = " = ((spS)++(("=" : Str)++spS)) by ac_rfl];rw[show δ " + " = ((spS)++(("+" : Str)++spS)) by ac_rfl];simp only[Am]
theorem tx8{a:Str}: a++δ " = put" = (lq8 a).tx:=by
 show _=(a++spS++(("=" : Str)++spS++("put" : Str)));rw[show δ " = put" = ((spS)++(("=" : Str)++((spS)++("put" : Str)))) by ac_rfl];simp only[Am]
theorem tx9{a:Str}: a++δ " = many" = (lq9 a).tx:=by
 show _=(a++spS++(("=" : Str)++spS++("many" : Str)));rw[show δ " = many" = ((spS)++(("=" : Str)++((spS)++("many" : Str)))) by ac_rfl];simp only[Am]
theorem txA{a b c:Str}: a++δ " = " ++ b++δ " * " ++ c=(lqA a b c).tx:=by
 show _=(a++spS++(("=" : Str)++spS++(b++spS++(("*" : Str)++spS++c))));rw[show δ " = " = ((spS)++(("=" : Str)++spS)) by ac_rfl];rw[show δ " * " = ((spS)++(("*" : Str)++spS)) by ac_rfl];simp only[Am]
theorem aEk{n:Str}(h:n∈nms):n.length<=10:=(vQ h).w.l
theorem aSd{a b c:Str}(ha:a∈nms)(hb:b∈nms)(hc:c∈nms):∀v:Nat,v<9->∃l,Gd l/\l.fd∉qE/\[(a++δ " = ")++b,δ "out " ++ a,δ "take " ++ a,((δ "copy " ++ a)++δ " ")++b,(((a++δ " = look ")++b)++δ " x.")++c,((((δ "store " ++ a)++δ " x.")++b)++δ " ")++c,(((a++δ " = ")++b)++δ " + ")++c,a++δ " = put",a++δ " = many"][v]?=some l.tx
 |0,_=>⟨lq1 a b,gq1 ha hb,show("name" : Str)∉qE by ac_rfl,congrArg some tx1⟩
 |1,_=>⟨lq2 a,gq2 ha,show("out" : Str)∉qE by ac_rfl,congrArg some tx2⟩
 |2,_=>⟨lq3 a,gq3 ha,show("take" : Str)∉qE by ac_rfl,congrArg some tx3⟩
 |3,_=>⟨lq4 a b,gq4 ha hb,show("copy" : Str)∉qE by ac_rfl,congrArg some tx4⟩
 |4,_=>⟨lq5 a b c,gq5 ha hb hc,show("look" : Str)∉qE by ac_rfl,congrArg some tx5⟩
 |5,_=>⟨lq6 a b c,gq6 ha hb hc,show("store" : Str)∉qE by ac_rfl,congrArg some tx6⟩
 |6,_=>⟨lq7 a b c,gq7 ha hb hc,show("OP" : Str)∉qE by ac_rfl,congrArg some tx7⟩
 |7,_=>⟨lq8 a,gq8 ha,show("put" : Str)∉qE by ac_rfl,congrArg some tx8⟩
 |8,_=>⟨lq9 a,gq9 ha,show("many" : Str)∉qE by ac_rfl,congrArg some tx9⟩
 |n+9,h=>absurd h (by omega)
theorem aRw{n o:Str}(hn:n∈nms)(ho:o∈nms):∀v:Nat,v<6->∃l,Gd l/\l.fd∉qE/\[(n++δ " = ")++o,δ "out " ++ n,((δ "copy " ++ o)++δ " ")++n,(((o++δ " = look ")++o)++δ " x.")++n,((((δ "store " ++ o)++δ " x.")++n)++δ " ")++o,(((o++δ " = ")++o)++δ " * ")++n][v]?=some l.tx
 |0,_=>⟨lq1 n o,gq1 hn ho,show("name" : Str)∉qE by ac_rfl,congrArg some tx1⟩
 |1,_=>⟨lq2 n,gq2 hn,show("out" : Str)∉qE by ac_rfl,congrArg some tx2⟩
 |2,_=>⟨lq4 o n,gq4 ho hn,show("copy" : Str)∉qE by ac_rfl,congrArg some tx4⟩
 |3,_=>⟨lq5 o o n,gq5 ho ho hn,show("look" : Str)∉qE by ac_rfl,congrArg some tx5⟩
 |4,_=>⟨lq6 o n o,gq6 ho hn ho,show("store" : Str)∉qE by ac_rfl,congrArg some tx6⟩
 |5,_=>⟨lqA o o n,gqA ho ho hn,show("OP" : Str)∉qE by ac_rfl,congrArg some txA⟩
 |n+6,h=>absurd h (by omega)
theorem aJn{v:Nat}(h:v<13):∃n,n∈nms/\nms[v]?=some n:=⟨nms[v]'h,Cv _,ν _⟩
def tV (B:List Ln):List V:=(B.map Ln.tx).map V.str
theorem vE : (tV B).length=B.length:=by unfold tV;rw[ε,ε]
theorem zL : tV A++tV B=tV (A++B):=by unfold tV;rw[Ψ,Ψ]
theorem eZ : (tV B).take n=tV (B.take n):=by unfold tV;rw[List.map_take,List.map_take]
theorem iD : (tV B).drop n=tV (B.drop n):=by unfold tV;rw[List.map_drop,List.map_drop]
theorem aDn{l:Ln}: [V.str l.tx]=tV [l]:=rfl
theorem cutM(xs:List V)(n m:Nat)(h:n<=m):zF xs (some (n:Int)) (some (m:Int))=(xs.take m).drop n:=by
 have e:∀(k d:Nat),HT.sIx xs.length d (some (k:Int))=min k xs.length:=fun k d=>by
  show(if (k:Int)<0 then ((k:Int)+xs.length).toNat else min (k:Int).toNat xs.length)=_;rw[if_neg (by omega)];rfl
 unfold zF;rw[e,e,List.drop_take]
 by_cases hn:n<=xs.length
 ·rw[CZ hn]
  by_cases hm:m<=xs.length
  ·rw[CZ hm]
  ·rw[DO (by omega),zh (by rw[yo];omega),zh (by rw[yo];omega)]
 ·have e2:min n xs.length=xs.length:=DO (by omega);rw[e2,BS (μ _),BS (by omega)];simp
theorem fk_tx : nms.getD k "" ++ δ " = " ++ nms.getD (k+1) "" = (fk k).tx:=tx1
theorem oO{k:Nat}(h:k<13):nms.getD k "" ∈ nms/\atI (nms.map V.str) (k:Nat)=some (.str (nms.getD k "")):=by
 obtain⟨n,hn,hat⟩:=aJn h;have e:nms.getD k "" = n:=by rw[xh,hat];rfl
 rw[e];exact⟨hn,zY (by rw[xw,hat];rfl)⟩
def aGz:Str:="bcdfghjklmnpq"
theorem aQu:nms=aGz.cps.toList.map fun c=>(⟨#[c]⟩ : Str)++⟨#[c]⟩:=by ac_rfl
theorem aRz{i:Nat}(h:aGz.cps.toList[i]?=some c):nms[i]?=some ((⟨#[c]⟩ : Str)++⟨#[c]⟩):=by
 rw[aQu,xw,h];rfl
theorem xP:b0.tx=δ "bb = look bb x"/\b1.tx=δ "out"/\b2.tx=δ "store bb y.y rr"/\b3.tx=δ "rr = ":=by ac_rfl
theorem aLy{k0 k1:Key}{v0 v1:V}(h:k0≠k1):vT [] [(k0,v0),(k1,v1)]=[(k0,v0),(k1,v1)]:=by
 show putK (putK [] k0 v0) k1 v1=_;rw[iO (kvs:=[]) v0 rfl];show putK [(k0,v0)] k1 v1=_;rw[iO v1 (vU h)];rfl
theorem aRq{k0 k1 k2 k3:Key}{v0 v1 v2 v3:V}(h1:k0≠k2/\k1≠k2)(h2:k0≠k3/\k1≠k3/\k2≠k3):vT [(k0,v0),(k1,v1)] [(k2,v2),(k3,v3)]=[(k0,v0),(k1,v1),(k2,v2),(k3,v3)]:=by
 show putK (putK [(k0,v0),(k1,v1)] k2 v2) k3 v3=_;rw[iO v2 ((vU h1.1).trans (vU h1.2))];show putK [(k0,v0),(k1,v1),(k2,v2)] k3 v3=_;rw[iO v3 ((vU h2.1).trans ((vU h2.2.1).trans (vU h2.2.2)))];rfl
theorem aMa{K:Ω}(o:Out):∀(i:Nat) x y,(fR o)[i]?=some x->(fR o)[i]?=some y->EqS K H 8 x y:=fun i x y hx hy=>by
 rw[hx]at hy;cases hy;refine .same (.inl ?_);have hm:=xk hx;cases o with
 |ok=>cases hm
 |prog i=>simp only[fR,χ,xq,or_false]at hm;rcases hm with rfl|rfl <;> rfl
 |path i p=>simp only[fR,χ,xq,or_false]at hm;rcases hm with rfl|rfl|rfl <;> rfl
 |much i=>simp only[fR,χ,xq,or_false]at hm;rcases hm with rfl|rfl <;> rfl
theorem aOy(o:Out):(fR o).length<=3:=by cases o <;> simp[fR]
theorem pr_ok(h:PrO P):(∀l∈P,LnF l\/(LnW l/\xH.find? (xX l.ws)=none))/\P≠[]/\(∀l∈P,Gd l\/l∈yY):=⟨fun l hl=>.inl (h.g l hl).f,(fun z=>by
 have:=h.t;rw[z]at this;cases this),fun l hl=>.inl (h.g l hl)⟩
theorem aSk{b:Ln}(h:PrO P)(hb:b∈yY)(n:Nat):(∀l∈P.take n++[b]++P.drop n,Gd l\/l∈yY)/\(∀l∈P.take n++[b]++P.drop n,LnF l\/(LnW l/\xH.find? (xX l.ws)=none))/\P.take n++[b]++P.drop n≠[]/\(P.take n++[b]++P.drop n).length<=100/\nW (P.take n++[b]++P.drop n) []:=by
 have h1:∀l∈P.take n++[b]++P.drop n,Gd l\/l∈yY:=fun l hl=>by
  rcases xu.mp hl with hl|hl
  ·rcases xu.mp hl with hl|hl
   ·exact .inl (h.g l (Ai hl))
   ·rw[ω.mp hl];exact .inr hb
  ·exact .inl (h.g l (zi hl))
 refine⟨h1,fun l hl=>(h1 l hl).elim (fun z=>.inl z.f) aRx,by simp,?_,aFd hb n h.s⟩;have:=h.n;simp only[η,wy,yo,xm];omega
theorem bk_at{i:Nat}(h:(bdK a0 a1 a2 a3)[i]?=some kv):∃b∈yY,kV kv.1=.str b.tx:=by
 match i,h with
 |0,h=>cases h;exact⟨b0,by simp[yY],rfl⟩
 |1,h=>cases h;exact⟨b1,by simp[yY],rfl⟩
 |2,h=>cases h;exact⟨b2,by simp[yY],rfl⟩
 |3,h=>cases h;exact⟨b3,by simp[yY],rfl⟩
 |i+4,h=>simp[bdK]at h
theorem aPi{K:Ω}{G:Hp}(h:G d=some (.dK kvs))(g:But d G G')(s:SqL K G b xs):SqL K G' b xs:=by
 rcases s with (s|⟨u,s⟩)|s
 ·exact .inl (.inl (g _ _ (fun z=>by rw[z,h]at s;cases s) s))
 ·exact .inl (.inr ⟨u,g _ _ (fun z=>by rw[z,h]at s;cases s) s⟩)
 ·exact .inr s
theorem aNz{K:Ω}(h:St3 G p)(g:Drawn p G G')(s:SqL K G b (fR o)):SqL K G' b (fR o):=by
 obtain⟨x,y,z,e⟩:=h;rcases s with (s|⟨u,s⟩)|s
 ·refine .inl (.inl (g.2 _ _ (fun z=>?_) s));rw[z,e]at s;cases o <;> simp[fR]at s
 ·exact .inl (.inr ⟨u,g.2 _ _ (fun z=>by rw[z,e]at s;cases s) s⟩)
 ·exact .inr s
end K32
namespace L2
open PySem PySem.Spec PyProof.Rows
theorem xK{K:Ω}: (dF CX P w K mg base N qual scope f cd A outer s H E).K=K:=rfl
theorem xN{X:Cx}: X.nox.K=X.K:=rfl
theorem aNd{t2:TS}(h:let r2:=t2;qV t1 r2 D σ H):qV t1 t2 D σ H:=h
theorem aPp{t3:TS}(h:let r3:=t3;let r2:=qV t2 r3;qV t1 r2 D σ H):qV t1 (qV t2 t3) D σ H:=h
theorem aNc{t4:TS}(h:let r4:=t4;let r3:=qV t3 r4;let r2:=qV t2 r3;qV t1 r2 D σ H):qV t1 (qV t2 (qV t3 t4)) D σ H:=h
theorem aNy{t5:TS}(h:let r5:=t5;let r4:=qV t4 r5;let r3:=qV t3 r4;let r2:=qV t2 r3;qV t1 r2 D σ H):qV t1 (qV t2 (qV t3 (qV t4 t5))) D σ H:=h
theorem aNg{t6:TS}(h:let r6:=t6;let r5:=qV t5 r6;let r4:=qV t4 r5;let r3:=qV t3 r4;let r2:=qV t2 r3;qV t1 r2 D σ H):qV t1 (qV t2 (qV t3 (qV t4 (qV t5 t6)))) D σ H:=h
theorem aOn{t7:TS}(h:let r7:=t7;let r6:=qV t6 r7;let r5:=qV t5 r6;let r4:=qV t4 r5;let r3:=qV t3 r4;let r2:=qV t2 r3;qV t1 r2 D σ H):qV t1 (qV t2 (qV t3 (qV t4 (qV t5 (qV t6 t7))))) D σ H:=h
end L2
local macro_rules | `(tactic| refine⟨_,($t),?_⟩) => `(tactic| (refine⟨_,$t,?_⟩; (try dsimp only[L2.xK,L2.xN]);first | (refine L2.aOn ?_;intros) | (refine L2.aNg ?_;intros) | (refine L2.aNy ?_;intros) | (refine L2.aNc ?_;intros) | (refine L2.aPp ?_;intros) | (refine L2.aNd ?_;intros)| skip))
namespace K32
open PySem L2 PyProof.Rows
set_option hygiene false in
local macro_rules | `(tactic| clear 1 $p:ident $H:ident $g:ident $k:ident $h:ident) => `(tactic| (generalize zq9 : upd _ $p _ = $H;obtain ⟨$g, $k⟩ := kQ zq9 $h))
set_option hygiene false in
local macro_rules | `(tactic| clear 0 $p:ident $H:ident $g:ident $k:ident) => `(tactic| (generalize zq9 : upd _ $p _ = $H;obtain ⟨$g, $k⟩ := aC zq9))
set_option hygiene false in
local macro_rules | `(tactic| walk_at"sc") => `(tactic| exact⟨rfl, rfl, rfl, by decide +kernel, rfl, by decide +kernel, by decide +kernel⟩)
set_option hygiene false in
local macro_rules | `(tactic| walk_at"hr") => `(tactic| have hr := hr0.mono (Be _))
set_option hygiene false in
local macro_rules | `(tactic| walk_at"o") => `(tactic| first | exact yl rfl | exact Or.inr rfl)
set_option hygiene false in
local macro_rules | `(tactic| w_cond $s:ident) => `(tactic| (obtain ⟨M, C, Ua, Ub, Uc, Ud, Ue, Uf, aj, bv, aw, bw, tRE, VI, am, bi, ap⟩ := Z; (first | refine F.ok $s (fun vs H Q E h => ?_) (fun cdv A outer s0 H vs Q E hr0 h => ?_) | refine F.okE $s (fun vs H Q E h => ?_) (fun cdv A outer s0 H vs Q E hr0 h => ?_)); (rotate_left;have hr := hr0.mono (Be _);rotate_right);try (· first | (cases h;subst_vars;rfl) | repeat (first | (obtain ⟨rfl, _⟩ := h;exact rfl) | obtain ⟨_, h⟩ := h))))
abbrev cO:Stmt:=top 18
theorem tD:jL ["thing","signs","most"] ["thing","signs","most"] (jG cO):=by walk_at"sc"
abbrev lO:Stmt:=top 17
theorem aFa:jL ["thing"] ["thing"] (jG lO):=by walk_at"sc"
abbrev dH:Stmt:=top 19
theorem iJ:jL ["text","low","high","number"] ["text","low","high"] (jG dH):=by walk_at"sc"
abbrev rX:Stmt:=top 22
theorem aIa:jL ["path","step"] ["path","step"] (jG rX):=by walk_at"sc"
abbrev zN:Stmt:=top 68
theorem lW:jL ["words"] ["words"] (jG zN):=by walk_at"sc"
abbrev gK:Stmt:=inClass (top 24) 3
theorem aAv:jL ["self"] ["self"] (jG gK):=by walk_at"sc"
abbrev bH:Stmt:=inClass (top 25) 3
theorem pY:jL ["self"] ["self"] (jG bH):=by walk_at"sc"
abbrev cU:Stmt:=inClass (top 28) 1
theorem sO:jL ["self"] ["self"] (jG cU):=by walk_at"sc"
abbrev dX:Stmt:=inClass (top 24) 4
theorem uH:jL ["self"] ["self"] (jG dX):=by walk_at"sc"
abbrev bC:Stmt:=inClass (top 25) 4
theorem nO:jL ["self"] ["self"] (jG bC):=by walk_at"sc"
abbrev bN:Stmt:=inClass (top 28) 2
theorem rW:jL ["self"] ["self"] (jG bN):=by walk_at"sc"
abbrev dG:Stmt:=inClass (top 26) 3
theorem wI:jL ["self"] ["self"] (jG dG):=by walk_at"sc"
abbrev cV:Stmt:=inClass (top 26) 4
theorem sS:jL ["self"] ["self"] (jG cV):=by walk_at"sc"
abbrev zP:Stmt:=inClass (top 27) 4
theorem mF:jL ["self"] ["self"] (jG zP):=by walk_at"sc"
abbrev cR:Stmt:=inClass (top 27) 5
theorem sU:jL ["self"] ["self"] (jG cR):=by walk_at"sc"
abbrev eM:Stmt:=inClass (top 27) 3
theorem wZ:jL ["self"] ["self"] (jG eM):=by walk_at"sc"
abbrev gQ:Stmt:=inClass (top 24) 0
theorem aBz:jL ["self","width"] ["self","width"] (jG gQ):=by walk_at"sc"
abbrev bM:Stmt:=inClass (top 25) 0
theorem rY:jL ["self","shape"] ["self","shape"] (jG bM):=by walk_at"sc"
abbrev eB:Stmt:=inClass (top 26) 0
theorem uQ:jL ["self","count","kind"] ["self","count","kind"] (jG eB):=by walk_at"sc"
abbrev eJ:Stmt:=inClass (top 27) 0
theorem wL:jL ["self","shapes"] ["self","shapes"] (jG eJ):=by walk_at"sc"
abbrev bV:Stmt:=inClass (top 29) 0
theorem oS:jL ["self","shapes"] ["self","shapes"] (jG bV):=by walk_at"sc"
abbrev aG:Stmt:=inClass (top 24) 6
theorem nF:jL ["self","path"] ["self","path"] (jG aG):=by walk_at"sc"
abbrev zG:Stmt:=inClass (top 27) 7
theorem lB:jL ["self","path"] ["self","path"] (jG zG):=by walk_at"sc"
abbrev zJ:Stmt:=inClass (top 25) 5
theorem lL:jL ["self"] ["self"] (jG zJ):=by walk_at"sc"
abbrev bX:Stmt:=inClass (top 26) 5
theorem pI:jL ["self"] ["self"] (jG bX):=by walk_at"sc"
abbrev zT:Stmt:=inClass (top 23) 2
theorem vZ:jL ["self","path","rows","step","kind"] ["self","path"] (jG zT):=by walk_at"sc"
abbrev bU:Stmt:=inClass (top 28) 3
theorem pA:jL ["self"] ["self"] (jG bU):=by walk_at"sc"
abbrev cK:Stmt:=inClass (top 28) 0
theorem sN:jL ["self","name","fields"] ["self","name","fields"] (jG cK):=by walk_at"sc"
abbrev dP:Stmt:=top 71
theorem wY:jL ["words"] ["words"] (jG dP):=by walk_at"sc"
abbrev lJ:Stmt:=top 70
theorem aEt:jL ["words"] ["words"] (jG lJ):=by walk_at"sc"
abbrev zI:Stmt:=top 69
theorem lH:jL ["words"] ["words"] (jG zI):=by walk_at"sc"
abbrev aZ:Stmt:=top 74
theorem nC:jL ["words"] ["words"] (jG aZ):=by walk_at"sc"
abbrev yJ:Stmt:=top 72
theorem iP:jL ["told","line","name"] ["told","line","name"] (jG yJ):=by walk_at"sc"
abbrev aY:Stmt:=top 75
theorem nA:jL ["told"] ["told"] (jG aY):=by walk_at"sc"
abbrev cX:Stmt:=top 73
theorem xE:jL ["told","line","words","named","at","name"] ["told","line","words"] (jG cX):=by walk_at"sc"
abbrev lD:Stmt:=top 77
theorem aEm:jL ["words","shapes"] ["words","shapes"] (jG lD):=by walk_at"sc"
abbrev bT:Stmt:=top 78
theorem rL:jL ["shape"] ["shape"] (jG bT):=by walk_at"sc"
abbrev cL:Stmt:=top 76
theorem bR:jL ["told","line","words","kind","shape"] ["told","line","words"] (jG cL):=by walk_at"sc"
abbrev bQ:Stmt:=top 67
theorem vH:jL ["text","lines","told","line","row","words"] ["text"] (jG bQ):=by walk_at"sc"
abbrev mH:Stmt:=top 82
theorem aFb:jL ["_law_cell_here"] ["_law_cell_here"] (jG mH):=by walk_at"sc"
abbrev yV:Stmt:=inClass (top 2) 0
theorem hU:jL ["self","words"] ["self","words"] (jG yV):=by walk_at"sc"
abbrev fY:Stmt:=inClass (top 39) 0
theorem aAo:jL ["self","line","deed","goal","reads","steps","number"] ["self","line","deed","goal","reads","steps","number"] (jG fY):=by walk_at"sc"
abbrev eQ:Stmt:=inClass (top 40) 0
theorem uS:jL ["self","line","last","deed","goal","reads","rows"] ["self","line","last","deed","goal","reads","rows"] (jG eQ):=by walk_at"sc"
abbrev bJ:Stmt:=inClass (top 41) 0
theorem sC:jL ["self","line","last","middle","reads","rows","others"] ["self","line","last","middle","reads","rows","others"] (jG bJ):=by walk_at"sc"
abbrev aQ:Stmt:=inClass (top 42) 0
theorem nL:jL ["self","shapes","rows","named","written"] ["self","shapes","rows","named","written"] (jG aQ):=by walk_at"sc"
abbrev bS:Stmt:=inClass (top 29) 2
theorem pH:jL ["self"] ["self"] (jG bS):=by walk_at"sc"
abbrev gO:Stmt:=top 20
theorem aAw:jL ["width"] ["width"] (jG gO):=by walk_at"sc"
abbrev aFc:Stmt:=top 46
theorem aOz:jL ["part","word"] ["part","word"] (jG aFc):=by walk_at"sc"
abbrev gT:Stmt:=top 80
theorem aCu:jL ["_law_script","_law_k"] ["_law_script","_law_k"] (jG gT):=by walk_at"sc"
abbrev dJ:Stmt:=top 81
theorem cN:jL ["_law_cell_here","_law_k","_law_number"] ["_law_cell_here","_law_k"] (jG dJ):=by walk_at"sc"
abbrev fS:Stmt:=top 83
theorem dM:jL ["_law_box_here","_law_many","_law_digit","_law_number"] ["_law_box_here","_law_many"] (jG fS):=by walk_at"sc"
abbrev yS:Stmt:=inClass (top 7) 0
theorem hZ:jL ["self","line"] ["self","line"] (jG yS):=by walk_at"sc"
abbrev aT:Stmt:=inClass (top 6) 0
theorem mX:jL ["self","line"] ["self","line"] (jG aT):=by walk_at"sc"
abbrev bI:Stmt:=top 55
theorem oP:jL ["row"] ["row"] (jG bI):=by walk_at"sc"
abbrev yM:Stmt:=inClass (top 8) 0
theorem iK:jL ["self","line","path"] ["self","line","path"] (jG yM):=by walk_at"sc"
abbrev aV:Stmt:=inClass (top 23) 1
theorem mZ:jL ["self","word"] ["self","word"] (jG aV):=by walk_at"sc"
abbrev aK:Stmt:=inClass (top 26) 6
theorem nK:jL ["self","word"] ["self","word"] (jG aK):=by walk_at"sc"
abbrev lC:Stmt:=top 51
theorem pW:jL ["kind","word","step"] ["kind","word"] (jG lC):=by walk_at"sc"
abbrev gR:Stmt:=top 50
theorem xU:jL ["shape","line","deed","path","kind","steps","word","step"] ["shape","line","deed","path"] (jG gR):=by walk_at"sc"
abbrev mC:Stmt:=inClass (top 24) 5
theorem aDq:jL ["self","step"] ["self","step"] (jG mC):=by walk_at"sc"
abbrev cM:Stmt:=inClass (top 25) 6
theorem bO:jL ["self","step","name","kind"] ["self","step"] (jG cM):=by walk_at"sc"
abbrev fU:Stmt:=inClass (top 27) 6
theorem mS:jL ["self","step","shape"] ["self","step"] (jG fU):=by walk_at"sc"
abbrev gL:Stmt:=inClass (top 24) 1
theorem aAy:jL ["self"] ["self"] (jG gL):=by walk_at"sc"
abbrev bY:Stmt:=inClass (top 25) 1
theorem oU:jL ["self"] ["self"] (jG bY):=by walk_at"sc"
abbrev dZ:Stmt:=inClass (top 26) 1
theorem wU:jL ["self"] ["self"] (jG dZ):=by walk_at"sc"
abbrev eF:Stmt:=inClass (top 27) 1
theorem wB:jL ["self"] ["self"] (jG eF):=by walk_at"sc"
abbrev gP:Stmt:=top 44
theorem aAp:jL ["text"] ["text"] (jG gP):=by walk_at"sc"
abbrev lG:Stmt:=top 45
theorem gC:jL ["line","words","deed","form"] ["line","words"] (jG lG):=by walk_at"sc"
abbrev zK:Stmt:=top 47
theorem lP:jL ["begun","line","deed"] ["begun","line","deed"] (jG zK):=by walk_at"sc"
abbrev aH:Stmt:=top 48
theorem nG:jL ["begun","deed"] ["begun","deed"] (jG aH):=by walk_at"sc"
abbrev pQ:Stmt:=top 53
theorem lT:jL ["names","ahead","found","name"] ["names","ahead"] (jG pQ):=by walk_at"sc"
abbrev gB:Stmt:=top 52
theorem bF:jL ["form","words","steps","names","part","word"] ["form","words","steps"] (jG gB):=by walk_at"sc"
abbrev rE:Stmt:=top 49
theorem cF:jL ["shape","line","deed","filled","goal","reads","steps","number"] ["shape","line","deed","filled"] (jG rE):=by walk_at"sc"
abbrev eE:Stmt:=top 54
theorem yB:jL ["told","first","rows","at","row"] ["told","first"] (jG eE):=by walk_at"sc"
abbrev eG:Stmt:=top 56
theorem vX:jL ["told","at","row","rows","behind","others","last"] ["told","at"] (jG eG):=by walk_at"sc"
abbrev aU:Stmt:=top 43
theorem kF:jL ["shapes","text","lines","told","begun","named","line","words","deed","form","row","rows","behind"] ["shapes","text"] (jG aU):=by walk_at"sc"
abbrev vG:Stmt:=top 86
def oa:List Str:=["=","look","store","take","copy","out","put","many","+","*","x"]
def ob:List Str:=["if","each","span","else","end"]
theorem aOd:∃st e0 p0 q0 r0 e1 p1 q1 r1 n1 b1 rest,vW vG=st :: .Assign [.Name "_law_own" q0] (.List e0 p0) r0 :: .Assign [.Name "_law_own" q1] (.BinOp (.Name "_law_own" n1) .Add (.List e1 p1) b1) r1::rest/\[st]=(vW vG).take 1/\rest=(vW vG).drop 3/\strsOf e0=some oa/\strsOf e1=some ob:=⟨_,_,_,_,_,_,_,_,_,_,_,_,rfl,rfl,rfl,by first|ac_rfl|rfl,by first|ac_rfl|rfl⟩
theorem xM:jL ["_law_line_here","_law_words","_law_own"] ["_law_line_here"] (jG vG):=by walk_at"sc"
abbrev lE:Stmt:=top 87
theorem aJ:jL ["_law_lines_here","_law_bad","_law_known","_law_at","_law_line_here"] ["_law_lines_here","_law_bad"] (jG lE):=by walk_at"sc"
abbrev gN:Stmt:=top 88
theorem bG:jL ["_law_shapes","_law_lines_here","e"] ["_law_shapes","_law_lines_here"] (jG gN):=by walk_at"sc"
abbrev fN:Stmt:=top 84
theorem xW:jL ["_law_box_here","_law_names","_law_many","_law_a","_law_b","_law_c","_law_some"] ["_law_box_here","_law_names","_law_many"] (jG fN):=by walk_at"sc"
abbrev dW:Stmt:=top 85
theorem cY:jL ["_law_box_here","_law_name","_law_old","_law_some"] ["_law_box_here","_law_name","_law_old"] (jG dW):=by walk_at"sc"
abbrev dN:Stmt:=top 89
theorem kW:jL ["_law_script","_law_names","_law_many","_law_box_here","_law_lines_here","_law_k","_law_at","_law_behind","_law_way","_law_head","_law_inner","_law_last"] ["_law_script","_law_names","_law_many"] (jG dN):=by walk_at"sc"
abbrev aMl:Stmt:=top 90
theorem zS:jL ["_law_script","_law_shapes","_law_letters","_law_names","_law_box_here","_law_lines_here","_law_bad","_law_much","_law_line_here","_law_at","_law_some"] ["_law_script"] (jG aMl):=by walk_at"sc"
structure ZZ (K:Ω) (mg:Str->Option Value) (t1 t2 t3 t4 t5 t6 t7 t8 t9 t10 t11 t12 t13 t14 t15 t16 t17:Tok) (ts tNa tSi tBe tFo:Addr) (Va cIu:Addr) (Vb cIv:Addr) (Vc cIx:Addr) (Vd cIy:Addr) (Ve cIz:Addr) (Vf cIw:Addr) (ah jg:Addr) (ar iu:Addr) (ai gu:Addr) (ci gp:Addr) (cRE fRE:Addr) (aa bc:Addr) (ak cw:Addr) (ac be:Addr):Prop where
 M:Blt mg
 C:Cst K mg t1 t2 t3 t4 t5 t6 t7 t8 t9 t10 t11 t12 t13 t14 t15 t16 t17 ts tNa tSi tBe tFo
 Ua:rV K mg "Num" Va cIu ["width"]
 Ub:rV K mg "Nested" Vb cIv ["shape"]
 Uc:rV K mg "Many" Vc cIx ["count","kind"]
 Ud:rV K mg "Pick" Vd cIy ["shapes"]
 Ue:rV K mg "Shape" Ve cIz ["name","fields"]
 Uf:rV K mg "Shapes" Vf cIw ["shapes"]
 aj:rV K mg "Row" ah jg ["line","deed","goal","reads","steps","number"]
 bv:rV K mg "Loop" ar iu ["line","last","deed","goal","reads","rows"]
 aw:rV K mg "Choice" ai gu ["line","last","middle","reads","rows","others"]
 bw:rV K mg "Program" ci gp ["shapes","rows","named","written"]
 tRE:TXB K mg cRE fRE
 VI:aLq K
 am:TX K mg "NoProgram" aa cRE bc ["line"]
 bi:TX K mg "TooMuch" ak cRE cw ["line"]
 ap:TX K mg "WrongPath" ac cRE be ["line","path"]
section
variable (P:za) (w:Af) {K:Ω}{mg:Str->Option Value}(base:yp) {t1 t2 t3 t4 t5 t6 t7 t8 t9 t10 t11 t12 t13 t14 t15 t16 t17:Tok}{ts tNa tSi tBe tFo:Addr}{Va cIu:Addr}{Vb cIv:Addr}{Vc cIx:Addr}{Vd cIy:Addr}{Ve cIz:Addr}{Vf cIw:Addr}{ah jg:Addr}{ar iu:Addr}{ai gu:Addr}{ci gp:Addr}{cRE fRE:Addr}{aa bc:Addr}{ak cw:Addr}{ac be:Addr}(Z:ZZ K mg t1 t2 t3 t4 t5 t6 t7 t8 t9 t10 t11 t12 t13 t14 t15 t16 t17 ts tNa tSi tBe tFo Va cIu Vb cIv Vc cIx Vd cIy Ve cIz Vf cIw ah jg ar iu ai gu ci gp cRE fRE aa bc ak cw ac be)
variable {f:Addr}{fd:yn}
include Z
set_option hygiene false in
local macro_rules|`(jJ $a $b $c $d $e)=>`(jK P w K mg base CX0 $a $b $c $d $e)
set_option hygiene false in
local macro_rules|`(jK 0)=>`(Cl5.mk Va Vb Vc Vd Ve)
theorem sW{k:Nat}(F:Fun K "is_text_of" "is_text_of" cO f fd):jJ (k+2) f fd ["thing","signs","most"] (oV K):=by
 w_cond tD;obtain⟨x,signs,most,rfl,h⟩:=h;refine⟨_,(jC (kL (PW.pt (sA (bP (yI (kA (vP.or iF tL) rfl M.isinstance BW (jA (pv 0) (jA (iS (v:=.ty "str") rfl M.str boot_str rfl) jB))))) (fW (bP (aCp uB uB jH (kA aCf rfl M.len yj (jA (pv 0) jB)) (pv 2)))))) (jD (jO aGc)) jX) (jD (jO (kA (sB rfl) rfl M.all boot_all (jA (qT ["sign"] ["signs"] [1] rfl (aMd (pv 0)) rfl ⟨rfl,trivial⟩ ⟨⟨rfl,rfl,rfl,_,rfl⟩,trivial⟩ (fun _ _ _ _=>(jT (i:=0) (show yy (["sign","signs"]:List Str) from by ac_rfl) rfl (yl rfl))) (fun _ _ _ _=>qX) (fun _ _ _ _=>(qY aHa (pv 0) (pv 1) (by with_unfolding_all rfl)))) jB))))),?_⟩;rcases h with⟨z,rfl,hz,q⟩|⟨t,ht,hns,q⟩
 ·have hl:=len_list z;refine⟨_,rfl,.inl ⟨_,_,"str",rfl,by decide,rfl,_,rfl,qA (by decide) ?_⟩⟩;refine⟨_,rfl,.str z,z.length,rfl,⟨small hz,rfl⟩,_,_,rfl,rfl,_,rfl,qP (fun c1=>?_) (fun c1=>?_)⟩
  ·refine⟨_,rfl,_,_,rfl,rfl,_,rfl,qP (fun c2=>?_) (fun c2=>?_)⟩
   ·have e:within z most=false:=by
     unfold within;have:decide ((z.length:Int)<=most)=false:=by simpa using c2
     rw[this,Bool.and_false]
    have:=q H (jJ.refl H);rw[e,Bd]at this;exact this
   ·have e:within z most=true:=by
     unfold within;have c2':decide ((z.length:Int)<=most)=true:=by simpa using c2
     rw[c2',c1];rfl
    refine⟨_,rfl,z,rfl,aCe (fun i ys H'=>H'=H/\ys=((z.cps.toList.take i).map fun c=>decide (c∈signs.cps.toList)).map V.bl) ⟨rfl,rfl⟩ (fun i ys H' _ w=>by rw[w.2,ε,ε];exact CG ..) (qG hz) (fun i c ys H' hc w=>?_) (fun ys H' w p hp=>?_)⟩
    ·obtain⟨rfl,rfl⟩:=w;refine⟨_,rfl,_,rfl,⟨#[c]⟩,signs,rfl,rfl,⟨rfl,?_⟩,_,rfl⟩;rw[aJm (fun c=>decide (c∈signs.cps.toList)) _ i hc,Ψ,aRt];rfl
    ·obtain⟨rfl,rfl⟩:=w;refine⟨p,(z.cps.toList.map fun c=>decide (c∈signs.cps.toList)),rfl,SqL.of ?_,?_⟩
     ·rw[jF,←hl,AV]
     ·have:=q _ (yE hp (.lst (((z.cps.toList.take z.length).map fun c=>decide (c∈signs.cps.toList)).map V.bl)));rw[e,Bool.true_and]at this;rw[all_map];exact this
  ·refine⟨_,rfl,?_⟩;have e:within z most=false:=by
    unfold within;have:decide (1<=(z.length:Int))=false:=by simpa using c1
    rw[this,Bd]
   have:=q H (jJ.refl H);rw[e,Bd]at this;exact vL (by decide) this
 ·rcases ht with ht|⟨rfl,p,kvs,rfl,hp⟩
  ·exact⟨_,rfl,.inl ⟨x,_,t,rfl,by decide,ht,_,rfl,vL (by rw[isa3 hns];rfl) (aIh q)⟩⟩
  ·exact⟨_,rfl,.inr ⟨p,_,kvs,rfl,by decide,hp,_,rfl,vL (by decide) (aIh q)⟩⟩
theorem aEp(F:Fun K "is_name" "is_name" lO f fd)(dn:Df K mg "is_text_of" gf ft ["thing","signs","most"])(jh:jJ k gf ft ["thing","signs","most"] (oV K)):jJ (k+2) f fd ["thing"] (zC K):=by
 w_cond aFa;obtain⟨x,rfl,h⟩:=h;refine⟨_,(jD (jO (bW (jN jh hr rfl dn.m dn.k dn.b .nil jS (jA (pv 0) (jA (kM (v:=.str "abcdefghijklmnopqrstuvwxyz") rfl C.SMALL_LETTERS ⟨_,rfl⟩) (jA (kM (v:=.int 6) rfl C.MOST_LETTERS ⟨_,rfl⟩) jB)))) (dR (qY xA (pv 0) (kM (v:=.ref ts) rfl C.OWN_WORDS rfl) (by with_unfolding_all rfl)))))),?_⟩;rcases h with⟨z,rfl,hz,q⟩|⟨t,ht,hns,q⟩
 ·refine⟨_,rfl,.str z,cG,6,rfl,.inl ⟨z,rfl,hz,fun H1 g1=>⟨_,rfl,qP (fun c=>?_) (fun c=>?_)⟩⟩⟩
  ·refine⟨_,rfl,ts,_,rfl,.inr (C.words _),rfl,kZ _,?_⟩;show Q (.bl (!inV (.str z) (ownL.map V.str))) H1;rw[qB];have:=q H1 g1;unfold kT at this;rw[c,Bool.true_and]at this;exact this
  ·have:=q H1 g1;unfold kT at this;rw[Bg.mpr c,Bd]at this;exact this
 ·exact⟨_,rfl,x,cG,6,rfl,.inr ⟨t,ht,hns,⟨_,rfl,pV (q H (jJ.refl H))⟩⟩⟩
theorem uX{k:Nat}(F:Fun K "number_in" "number_in" dH f fd){gf:Addr}{ft:yn}(dn:Df K mg "is_text_of" gf ft ["thing","signs","most"])(jh:jJ k gf ft ["thing","signs","most"] (oV K)):jJ (k+2) f fd ["text","low","high"] (aL K):=by
 w_cond iJ;obtain⟨x,lo,hi,rfl,h⟩:=h;refine⟨_,(jC (kL (bP (yI (jN jh hr rfl dn.m dn.k dn.b .nil jS (jA (pv 0) (jA (kM (v:=.str "0123456789") rfl C.FIGURES ⟨_,rfl⟩) (jA (kM (v:=.int 10) rfl C.MOST_FIGURES ⟨_,rfl⟩) jB)))))) (jD (jO yQ)) jX) (jC (kL (PW.pt (bL (jV qZ (kO aSy (pv 0) jH (fun _ _=>rfl)) jM (kB _)) (yW (jV fK (kA aCf rfl M.len yj (jA (pv 0) jB)) jH (kB _))))) (jD (jO yQ)) jX) (jC (jY (i:=3) iJ.nd rfl (by walk_at"o") (vY aA rfl M.int boot_int (jA (pv 0) jB))) (jD (jO (xF (aCp uB uB (pv 1) (pv 3) (pv 2)) (pv 3) yQ)))))),?_⟩;rcases h with⟨z,rfl,hz,q⟩|⟨t,ht,hns,q⟩
 ·have hl:=len_list z;refine⟨_,rfl,.str z,cC,10,rfl,.inl ⟨z,rfl,hz,fun H1 g1=>⟨_,rfl,qP (fun c=>?_) (fun c=>?_)⟩⟩⟩
  ·have e:bE z=none:=by
    unfold bE;rw[if_neg];intro w;rw[yt]at w;rw[w.1]at c;exact absurd c (by decide)
   have:=q H1 g1;rw[e]at this;exact this
  ·have c':(within z 10&&aFj z cC)=true:=by simpa using c
   have hw : 1<=(z.length:Int):=by
    rw[yt]at c';unfold within at c';have:=c'.1;rw[yt]at this;exact of_decide_eq_true this.1
   have hw2:(z.length:Int)<=10:=by
    rw[yt]at c';unfold within at c';have:=c'.1;rw[yt]at this;exact of_decide_eq_true this.2
   have hd:PySem.NumText.AllDigits z.cps.toList:=fun d hd=>by
    rw[yt]at c';have:=yh.mp c'.2 d hd;exact(aCq d).mp (of_decide_eq_true this)
   obtain⟨c0,hc0⟩ : ∃c0,z.cps.toList[0]?=some c0:=⟨_,ν (by omega)⟩;have at0:atI z.cps.toList 0=some c0:=by
    have:=zY (j:=0) hc0;simpa using this
   have lead:aCi z=(decide (c0=48)&&decide (1<(z.length:Int))):=by
    unfold aCi;rw[hc0]
    congr 1
    rw[Bj];simp
   have no:aCi z=true->Q .non H1:=fun w=>by
    have e:bE z=none:=by
     unfold bE;rw[if_neg];intro v;rw[yt,w]at v;exact absurd v.2 (by decide)
    have:=q H1 g1;rw[e]at this;exact this
   have yes:aCi z=false->bE z=some ((PySem.NumText.digitsVal z.cps.toList:Nat):Int):=fun w=>by
    unfold bE;rw[if_pos];rw[c',w];rfl
   have hnum:=PySem.intText_digits (x:=z) hd (by intro w;rw[w]at hc0;cases hc0) (by omega);refine⟨_,rfl,z,_,c0,rfl,rfl,small hz,at0,rfl,_,rfl,?_⟩;rw[is_0];refine qP (fun c1=>?_) (fun c1=>?_)
   ·refine⟨_,rfl,.str z,z.length,rfl,⟨small hz,rfl⟩,_,_,rfl,rfl,_,rfl,qP (fun c2=>?_) (fun c2=>?_)⟩
    ·exact no (by rw[lead,c1];simpa using c2)
    ·have ey:=yes (by rw[lead,Bg.mpr c2,Bool.and_false]);refine⟨_,rfl,z,_,rfl,hnum,by omega,?_⟩;refine⟨_,rfl,_,rfl,_,_,rfl,rfl,_,rfl,qP (fun d1=>⟨_,rfl,_,_,rfl,rfl,_,rfl,qP (fun d2=>⟨_,rfl,?_⟩) (fun d2=>?_)⟩) (fun d1=>⟨_,rfl,pV ?_⟩)⟩
     ·have:=q H1 g1;rw[ey,qW,if_pos ⟨of_decide_eq_true d1,of_decide_eq_true d2⟩]at this;exact this
     ·have:=q H1 g1;rw[ey,qW,if_neg (fun w=>d2 (decide_eq_true w.2))]at this;exact this
     ·have:=q H1 g1;rw[ey,qW,if_neg (fun w=>d1 (decide_eq_true w.1))]at this;exact this
   ·have ey:=yes (by rw[lead,Bg.mpr c1,Bd]);refine pV ⟨_,rfl,z,_,rfl,hnum,by omega,?_⟩;refine⟨_,rfl,_,rfl,_,_,rfl,rfl,_,rfl,qP (fun d1=>⟨_,rfl,_,_,rfl,rfl,_,rfl,qP (fun d2=>⟨_,rfl,?_⟩) (fun d2=>?_)⟩) (fun d1=>⟨_,rfl,pV ?_⟩)⟩
    ·have:=q H1 g1;rw[ey,qW,if_pos ⟨of_decide_eq_true d1,of_decide_eq_true d2⟩]at this;exact this
    ·have:=q H1 g1;rw[ey,qW,if_neg (fun w=>d2 (decide_eq_true w.2))]at this;exact this
    ·have:=q H1 g1;rw[ey,qW,if_neg (fun w=>d1 (decide_eq_true w.1))]at this;exact this
 ·exact⟨_,rfl,x,cC,10,rfl,.inr ⟨t,ht,hns,⟨_,rfl,vL (by decide) (q H (jJ.refl H))⟩⟩⟩
theorem aHz{k:Nat}(F:Fun K "joined" "joined" rX f fd):jJ (k+2) f fd ["path","step"] oQ:=by
 w_cond aIa;obtain⟨p,x,y,rfl,hy,hp,hl,q⟩:=h;refine⟨_,(jD (jO (xF (yZ (pv 0) (fun _=>rfl)) (aPc (aMm (pv 0) (aSm (aMm (pv 1) aSb)))) (aKp (pv 1))))),?_⟩;refine⟨_,rfl,_,⟨small hp,rfl⟩,qP (fun c=>?_) (fun c=>?_)⟩
 ·have hne:¬ p.length=0:=fun z=>by rw[z]at c;exact absurd c (by decide)
  have l1:(Str.empty++p).length<=Δ:=by rw[nZ];exact small hp
  have l2:(Str.empty++p++δ ".").length<=Δ:=by rw[nZ,As];exact aLd (by have:(δ ".").length=1:=rfl;omega)
  have l3:(Str.empty++p++δ "." ++ y).length<=Δ:=by rw[nZ,As,As];exact aLd (by have:(δ ".").length=1:=rfl;omega)
  refine⟨_,rfl,p,rfl,small hp,l1,l2,_,rfl,y,hy,small hl,l3,l3,?_⟩;rw[nZ];unfold pj at q;rw[if_neg hne]at q;exact q
 ·have hne:p.length=0:=by
   by_cases z:p.length=0
   ·exact z
   ·exact absurd (show((p.length:Int) != 0)=true from bne_iff_ne.mpr (by omega)) c
  unfold pj at q;rw[if_pos hne]at q;exact⟨_,rfl,y,hy,small hl,q⟩
theorem lN{k:Nat}(F:Fun K "is_shape_line" "is_shape_line" zN f fd){au:Addr}{aq:yn}(ao:Df K mg "is_name" au aq ["thing"])(bx:jJ k au aq ["thing"] (zC K)):jJ (k+2) f fd ["words"] (aPu K):=by
 w_cond lW;obtain⟨a,ws,rfl,hw,q⟩:=h;refine⟨_,(jD (jO (bW (qY qZ (kA kE rfl M.len yj (jA (pv 0) jB)) jH (kB _)) (bW (qY qZ (kO jZ (pv 0) jH (fun _ _=>rfl)) jM (kB _)) (dR (jN bx hr rfl ao.m ao.k ao.b .nil jS (jA (kO jZ (pv 0) jH (fun _ _=>rfl)) jB))))))),?_⟩;refine⟨_,rfl,a,_,rfl,.inl hw.l,rfl,_,rfl,?_⟩
 match ws,hw,q with
 |[],hw,q=>exact qA (by decide) (q _ (jJ.refl _))
 |[x],hw,q=>exact qA (by simp) (q _ (jJ.refl _))
 |x::y::z::r,hw,q=>exact qA (by simp;omega) (q _ (jJ.refl _))
 |[x,y],hw,q =>
  refine vL (by simp) ⟨_,rfl,a,_,_,_,rfl,rfl,hw.l,rfl,rfl,_,rfl,qP (fun c=>?_) (fun c=>?_)⟩
  ·refine⟨_,rfl,a,_,_,_,rfl,rfl,hw.l,rfl,.str y,rfl,.inl ⟨y,rfl,hw.s y (by simp),fun H1 g1=>?_⟩⟩;have e:aBs [x,y]=kT y:=by
    show(decide (x=δ "shape")&&kT y)=_;rw[decide_eq_true (show x=δ "shape" from by simpa using c),Bool.true_and]
   have:=q H1 g1;rw[e]at this;exact this
  ·have e:aBs [x,y]=false:=by
    show(decide (x=δ "shape")&&kT y)=_;rw[decide_eq_false (show ¬ x=δ "shape" from by simpa using c),Bd]
   have:=q _ (jJ.refl _);rw[e]at this;exact this
theorem mJ{k:Nat}(F:Fun K "size" "Num.size" gK f fd):jJ (k+2) f fd ["self"] (spV (jK 0) K r Kd.isNum vSz):=by
 w_cond aAv;obtain⟨a,kd,sa,S,rfl,hF,hk,hf,ho,hw,hg,q⟩:=h;refine⟨_,(jD (jO (kK (pv 0) rfl))),?_⟩;cases id ho with
 |num h1 =>
  exact⟨_,rfl,a,Va,_,_,_,rfl,h1,Ua.cl,Ua.na _ (by decide),rfl,q _ (jJ.refl _)⟩
 |_=>cases hF
theorem pR(F:Fun K "size" "Nested.size" bH f fd)(dg:DfM K Ve "size" cz cp ["self"])(gi:jJ k cz cp ["self"] (mL (jK 0) K r sSz)):jJ (k+2) f fd ["self"] (spV (jK 0) K (r+1) Kd.isNest vSz):=by
 w_cond pY;obtain⟨a,kd,sa,S,rfl,hF,hk,hf,ho,hw,hg,q⟩:=h;refine⟨_,(jD (jO (xJ (kK (pv 0) rfl) Ue.cl dg.me gi hr dg.b .nil jS))),?_⟩;cases id ho with
 | @nest a dx s i e h1 =>
  obtain⟨sh,hs,dx2,t,ps,h2,_⟩:=hw.at e;exact⟨_,rfl,a,Vb,_,_,_,rfl,h1,Ub.cl,Ub.na _ (by decide),rfl,s,dx2,_,rfl,h2,rfl,s,i,sa,S,rfl,e,(by have : 2*i+2<=r+1:=hk;omega),hw,hg,q⟩
 |_=>cases hF
theorem fL{k r:Nat}(F:Fun K "size" "Shape.size" cU f fd)(su:∀C sp,TV (jK 0) K r vSz C sp->yK P w K mg base CX0 k "size" C sp):jJ (k+2) f fd ["self"] (mL (jK 0) K r sSz):=by
 w_cond sO;obtain⟨a,i,sa,S,rfl,e,hi,hw,hg,q⟩:=h;refine⟨_,(jD (jO (kA (aKd rfl) rfl M.sum (show AG "sum" = some (.builtin "sum") from by ac_rfl) (jA (qT ["name","kind"] [] [] rfl (dL (kK (pv 0) rfl)) rfl trivial trivial (fun _ _ _ _=>(iM (K:=K) (n:=2) rfl rfl (kC (jT (i:=0) (show yy (["name","kind"]:List Str) from by ac_rfl) rfl (yl rfl)) (kC (jT (i:=1) (show yy (["name","kind"]:List Str) from by ac_rfl) rfl (yl rfl)) qS)))) (fun _ _ _ _=>qX) (fun _ _ _ _=>(aE (pv 1) su hr jS))) jB)))),?_⟩;obtain⟨s,hS,so⟩:=hw.at e;obtain⟨dx,t,ps,k1,k2,k3⟩:=so.fields;have zl:(ps.map V.ref).length=s.2.length:=by rw[ε];exact k3.len
 have hfit:=hg.fit i s hS;have htab:=wG hS fun f hf=>(hfit f hf).1.below;have hil:i<S.length:=(θ.mp hS).1;refine⟨_,rfl,a,Ve,_,_,_,rfl,k1,Ue.cl,Ue.na _ (by decide),rfl,t,rfl,⟨_,k2⟩,fC (xs:=ps.map V.ref) (fun j ys H'=>jJ H H'/\ys=((s.2.take j).map fun f=>V.int (vSz f.2 (tabs S)))) ⟨jJ.refl _,rfl⟩ (fun j ys H' _ z=>⟨z.1.tp k2,by rw[z.2,ε,wy];exact AO _ _⟩) (qG (by have:=hg.few i s hS;omega)) (fun j x ys H' os ho hx z=>?_) (fun ys H' z p hp=>?_)⟩
 ·obtain⟨g,rfl⟩:=z;obtain⟨o1,o2,rfl⟩:=aHm ho;obtain⟨u,hu,rfl⟩:=vF hx;obtain⟨x,y,kd,k,hf,ht,_,hko⟩:=k3.get hu;have hm:=hfit _ (xk hf);exact⟨u,_,rfl,g.tp ht,rfl,_,_,rfl,_,_,rfl,rfl,_,rfl,aGa (aDh (by simp)) (hm.1.rk.mono hi) (hm.1.mono (BL hil)) (hko.same g) (hw.same g) hg fun H2 g2=>⟨⟨g.trans g2,(aP hf).symm⟩,[_,_],rfl,rfl⟩⟩
 ·obtain⟨g,rfl⟩:=z;have g2:=yE hp (.lst ((s.2.take (ps.map V.ref).length).map fun f=>V.int (vSz f.2 (tabs S))));have kp:upd H' p (.lst ((s.2.take (ps.map V.ref).length).map fun f=>V.int (vSz f.2 (tabs S)))) p=some (.lst (((s.2.map fun f=>vSz f.2 (tabs S)).map fun n:Nat=>(n:Int)).map V.int)):=by
   rw[jF,zl,vM,Au,Au];rfl
  have q':=q _ (g.trans g2);refine⟨p,(s.2.map fun f=>vSz f.2 (tabs S)).map fun n:Nat=>(n:Int),rfl,SqL.of kp,?_⟩;rw[sumI];rw[show sSz i (tabs S)=(s.2.map fun f=>vSz f.2 (tabs S)).sum from htab.1]at q';exact q'
theorem gW{k:Nat}(F:Fun K "depth" "Num.depth" dX f fd):jJ (k+2) f fd ["self"] (spV (jK 0) K r Kd.isNum vDp):=by
 w_cond uH;obtain⟨a,kd,sa,S,rfl,hF,hk,hf,ho,hw,hg,q⟩:=h;refine⟨_,(jD (jO jH)),?_⟩;cases id ho with
 |num h1 =>
  exact q _ (jJ.refl _)
 |_=>cases hF
theorem nJ(F:Fun K "depth" "Nested.depth" bC f fd)(cu:DfM K Ve "depth" cq bz ["self"])(fu:jJ k cq bz ["self"] (mL (jK 0) K r sDp)):jJ (k+2) f fd ["self"] (spV (jK 0) K (r+1) Kd.isNest vDp):=by
 w_cond nO;obtain⟨a,kd,sa,S,rfl,hF,hk,hf,ho,hw,hg,q⟩:=h;refine⟨_,(jD (jO (xJ (kK (pv 0) rfl) Ue.cl cu.me fu hr cu.b .nil jS))),?_⟩;cases id ho with
 | @nest a dx s i e h1 =>
  obtain⟨sh,hs,dx2,t,ps,h2,_⟩:=hw.at e;exact⟨_,rfl,a,Vb,_,_,_,rfl,h1,Ub.cl,Ub.na _ (by decide),rfl,s,dx2,_,rfl,h2,rfl,s,i,sa,S,rfl,e,(by have : 2*i+2<=r+1:=hk;omega),hw,hg,q⟩
 |_=>cases hF
theorem dY{k r:Nat}(F:Fun K "depth" "Shape.depth" bN f fd)(qy:∀C sp,TV (jK 0) K r vDp C sp->yK P w K mg base CX0 k "depth" C sp):jJ (k+2) f fd ["self"] (mL (jK 0) K r sDp):=by
 w_cond rW;obtain⟨a,i,sa,S,rfl,e,hi,hw,hg,q⟩:=h;refine⟨_,(jD (jO (jP qI jH (kA (lQ rfl) rfl M.max boot_max (jA (qT ["name","kind"] [] [] rfl (dL (kK (pv 0) rfl)) rfl trivial trivial (fun _ _ _ _=>(iM (K:=K) (n:=2) rfl rfl (kC (jT (i:=0) (show yy (["name","kind"]:List Str) from by ac_rfl) rfl (yl rfl)) (kC (jT (i:=1) (show yy (["name","kind"]:List Str) from by ac_rfl) rfl (yl rfl)) qS)))) (fun _ _ _ _=>qX) (fun _ _ _ _=>(aE (pv 1) qy hr jS))) jB))))),?_⟩;obtain⟨s,hS,so⟩:=hw.at e;obtain⟨dx,t,ps,k1,k2,k3⟩:=so.fields;have zl:(ps.map V.ref).length=s.2.length:=by rw[ε];exact k3.len
 have hfit:=hg.fit i s hS;have htab:=wG hS fun f hf=>(hfit f hf).1.below;have hil:i<S.length:=(θ.mp hS).1;refine⟨_,rfl,a,Ve,_,_,_,rfl,k1,Ue.cl,Ue.na _ (by decide),rfl,t,rfl,⟨_,k2⟩,fC (xs:=ps.map V.ref) (fun j ys H'=>jJ H H'/\ys=((s.2.take j).map fun f=>V.int (vDp f.2 (tabs S)))) ⟨jJ.refl _,rfl⟩ (fun j ys H' _ z=>⟨z.1.tp k2,by rw[z.2,ε,wy];exact AO _ _⟩) (qG (by have:=hg.few i s hS;omega)) (fun j x ys H' os ho hx z=>?_) (fun ys H' z p hp=>?_)⟩
 ·obtain⟨g,rfl⟩:=z;obtain⟨o1,o2,rfl⟩:=aHm ho;obtain⟨u,hu,rfl⟩:=vF hx;obtain⟨x,y,kd,k,hf,ht,_,hko⟩:=k3.get hu;have hm:=hfit _ (xk hf);exact⟨u,_,rfl,g.tp ht,rfl,_,_,rfl,_,_,rfl,rfl,_,rfl,aGa (aDh (by simp)) (hm.1.rk.mono hi) (hm.1.mono (BL hil)) (hko.same g) (hw.same g) hg fun H2 g2=>⟨⟨g.trans g2,(aP hf).symm⟩,[_,_],rfl,rfl⟩⟩
 ·obtain⟨g,rfl⟩:=z;have g2:=yE hp (.lst ((s.2.take (ps.map V.ref).length).map fun f=>V.int (vDp f.2 (tabs S))));have kp:upd H' p (.lst ((s.2.take (ps.map V.ref).length).map fun f=>V.int (vDp f.2 (tabs S)))) p=some (.lst (((s.2.map fun f=>vDp f.2 (tabs S)).map fun n:Nat=>(n:Int)).map V.int)):=by
   rw[jF,zl,vM,Au,Au];rfl
  have q':=q _ (g.trans g2);refine⟨p,(s.2.map fun f=>vDp f.2 (tabs S)).map fun n:Nat=>(n:Int),rfl,SqL.of kp,(by simpa using hg.ne i s hS),fun m h1 h2=>?_⟩;rw[maxI h1 h2];refine⟨_,_,rfl,rfl,?_⟩;rw[show sDp i (tabs S)=1+yF (s.2.map fun f=>vDp f.2 (tabs S)) from htab.2.1,Int.natCast_add]at q';exact q'
theorem uY(F:Fun K "size" "Many.size" dG f fd)(su:∀C sp,TV (jK 0) K r vSz C sp->yK P w K mg base CX0 k "size" C sp):jJ (k+2) f fd ["self"] (spV (jK 0) K (r+1) Kd.isMany vSz):=by
 w_cond wI;obtain⟨a,kd,sa,S,rfl,hF,hk,hf,ho,hw,hg,q⟩:=h;refine⟨_,(jD (jO (jP zR (kK (pv 0) rfl) (aE (kK (pv 0) rfl) su hr jS)))),?_⟩;cases id ho with
 | @many a dx b n k h1 h2 =>
  refine⟨_,rfl,a,Vc,_,_,_,rfl,h1,Uc.cl,Uc.na _ (by decide),rfl,_,rfl,a,Vc,_,_,_,rfl,h1,Uc.cl,Uc.na _ (by decide),rfl,aGa (aDh (by simp)) hk.sub hf.sub h2 hw hg fun H' g=>⟨_,_,rfl,rfl,.inl ⟨by have:=hf.2.1;omega,by have:=hf.2.1;omega⟩,?_⟩⟩;have q':=q H' g;rw[show vSz (Kd.many n k) (tabs S)=n*vSz k (tabs S) from rfl,Int.natCast_mul]at q';exact q'
 |_=>cases hF
theorem sL(F:Fun K "depth" "Many.depth" cV f fd)(qy:∀C sp,TV (jK 0) K r vDp C sp->yK P w K mg base CX0 k "depth" C sp):jJ (k+2) f fd ["self"] (spV (jK 0) K (r+1) Kd.isMany vDp):=by
 w_cond sS;obtain⟨a,kd,sa,S,rfl,hF,hk,hf,ho,hw,hg,q⟩:=h;refine⟨_,(jD (jO (aE (kK (pv 0) rfl) qy hr jS))),?_⟩;cases id ho with
 | @many a dx b n k h1 h2 =>
  exact⟨_,rfl,a,Vc,_,_,_,rfl,h1,Uc.cl,Uc.na _ (by decide),rfl,aGa (aDh (by simp)) hk.sub hf.sub h2 hw hg q⟩
 |_=>cases hF
theorem cE{k r:Nat}(F:Fun K "greatest" "Pick.greatest" zP f fd){cz:Addr}{cp:yn}(dg:DfM K Ve "size" cz cp ["self"])(gi:jJ k cz cp ["self"] (mL (jK 0) K r sSz)):jJ (k+2) f fd ["self"] (spGr (jK 0) K (r+1)):=by
 w_cond mF;obtain⟨a,is,sa,S,rfl,hk,hf,ho,hw,hg,q⟩:=h;refine⟨_,(jD (jO (kA (lQ rfl) rfl M.max boot_max (jA (qT ["shape"] [] [] rfl (dL (kK (pv 0) rfl)) rfl trivial trivial (fun _ _ _ _=>(jT (i:=0) (show yy (["shape"]:List Str) from by ac_rfl) rfl (yl rfl))) (fun _ _ _ _=>qX) (fun _ _ _ _=>(xJ (pv 0) Ue.cl dg.me gi hr dg.b .nil jS))) jB)))),?_⟩;obtain⟨dx,t,ss,h1,h2,h3,h4⟩ : ∃(dx t:Addr) (ss:List Addr),H a=some (.ins Vd dx [("shapes",.ref t)])/\SqT K H t (ss.map V.ref)/\ss.length=is.length/\∀(j i:Nat) (s:Addr),is[j]?=some i->ss[j]?=some s->sa[i]?=some s:=by
  cases ho with
  |pick h1 h2 h3 h4=>exact⟨_,_,_,h1,h2,h3,h4⟩
 have zl:(ss.map V.ref).length=is.length:=by rw[ε];exact h3
 refine⟨_,rfl,a,Vd,_,_,_,rfl,h1,Ud.cl,Ud.na _ (by decide),rfl,t,rfl,⟨_,h2⟩,aCj (xs:=ss.map V.ref) (fun j ys H'=>jJ H H'/\ys=((is.take j).map fun i=>V.int (sSz i (tabs S)))) ⟨jJ.refl _,rfl⟩ (fun j ys H' _ z=>⟨z.1.tp h2,by rw[z.2,ε,wy];exact AO _ _⟩) (qG (by have:=hf.2.1;omega)) (fun j x ys H' hx z=>?_) (fun ys H' z p hp=>?_)⟩
 ·obtain⟨g,rfl⟩:=z;obtain⟨s,hs,rfl⟩:=vF hx;have hj:j<is.length:=by rw[←h3];exact(θ.mp hs).1
  have hi:is[j]?=some is[j]:=ν hj;have e:=h4 j _ s hi hs;obtain⟨sh,hS,dx2,t2,ps,k2,_⟩:=hw.at e;exact⟨_,rfl,s,dx2,_,rfl,g _ _ k2,rfl,s,is[j],sa,S,rfl,e,(by have:=hk _ (Cv hj);omega),hw.same g,hg,fun H2 g2=>⟨⟨g.trans g2,(aP hi).symm⟩,_,rfl⟩⟩
 ·obtain⟨g,rfl⟩:=z;have g2:=yE hp (.lst ((is.take (ss.map V.ref).length).map fun i=>V.int (sSz i (tabs S))));have kp:upd H' p (.lst ((is.take (ss.map V.ref).length).map fun i=>V.int (sSz i (tabs S)))) p=some (.lst (((is.map fun i=>sSz i (tabs S)).map fun n:Nat=>(n:Int)).map V.int)):=by
   rw[jF,zl,vM,Au,Au];rfl
  have q':=q _ (g.trans g2);refine⟨p,(is.map fun i=>sSz i (tabs S)).map fun n:Nat=>(n:Int),rfl,SqL.of kp,(by have:=hf.1;intro z;rw[Au,List.map_eq_nil_iff]at z;rw[z]at this;exact absurd this (by decide)),fun m h5 h6=>?_⟩;rw[maxI h5 h6];exact q'
theorem sQ{k r:Nat}(F:Fun K "depth" "Pick.depth" cR f fd){cq:Addr}{bz:yn}(cu:DfM K Ve "depth" cq bz ["self"])(fu:jJ k cq bz ["self"] (mL (jK 0) K r sDp)):jJ (k+2) f fd ["self"] (spV (jK 0) K (r+1) Kd.isPick vDp):=by
 w_cond sU;obtain⟨a,kd,sa,S,rfl,hF,hk,hf,ho,hw,hg,q⟩:=h;refine⟨_,(jD (jO (kA (lQ rfl) rfl M.max boot_max (jA (qT ["shape"] [] [] rfl (dL (kK (pv 0) rfl)) rfl trivial trivial (fun _ _ _ _=>(jT (i:=0) (show yy (["shape"]:List Str) from by ac_rfl) rfl (yl rfl))) (fun _ _ _ _=>qX) (fun _ _ _ _=>(xJ (pv 0) Ue.cl cu.me fu hr cu.b .nil jS))) jB)))),?_⟩;obtain⟨is,dx,t,ss,rfl,h1,h2,h3,h4⟩ : ∃(is:List Nat) (dx t:Addr) (ss:List Addr),kd=.pick is/\H a=some (.ins Vd dx [("shapes",.ref t)])/\SqT K H t (ss.map V.ref)/\ss.length=is.length/\∀(j i:Nat) (s:Addr),is[j]?=some i->ss[j]?=some s->sa[i]?=some s:=by
  cases ho with
  |pick h1 h2 h3 h4=>exact⟨_,_,_,_,rfl,h1,h2,h3,h4⟩
  |_=>cases hF
 have zl:(ss.map V.ref).length=is.length:=by rw[ε];exact h3
 refine⟨_,rfl,a,Vd,_,_,_,rfl,h1,Ud.cl,Ud.na _ (by decide),rfl,t,rfl,⟨_,h2⟩,aCj (xs:=ss.map V.ref) (fun j ys H'=>jJ H H'/\ys=((is.take j).map fun i=>V.int (sDp i (tabs S)))) ⟨jJ.refl _,rfl⟩ (fun j ys H' _ z=>⟨z.1.tp h2,by rw[z.2,ε,wy];exact AO _ _⟩) (qG (by have:=hf.2.1;omega)) (fun j x ys H' hx z=>?_) (fun ys H' z p hp=>?_)⟩
 ·obtain⟨g,rfl⟩:=z;obtain⟨s,hs,rfl⟩:=vF hx;have hj:j<is.length:=by rw[←h3];exact(θ.mp hs).1
  have hi:is[j]?=some is[j]:=ν hj;have e:=h4 j _ s hi hs;obtain⟨sh,hS,dx2,t2,ps,k2,_⟩:=hw.at e;exact⟨_,rfl,s,dx2,_,rfl,g _ _ k2,rfl,s,is[j],sa,S,rfl,e,(by have:=hk _ (Cv hj);omega),hw.same g,hg,fun H2 g2=>⟨⟨g.trans g2,(aP hi).symm⟩,_,rfl⟩⟩
 ·obtain⟨g,rfl⟩:=z;have g2:=yE hp (.lst ((is.take (ss.map V.ref).length).map fun i=>V.int (sDp i (tabs S))));have kp:upd H' p (.lst ((is.take (ss.map V.ref).length).map fun i=>V.int (sDp i (tabs S)))) p=some (.lst (((is.map fun i=>sDp i (tabs S)).map fun n:Nat=>(n:Int)).map V.int)):=by
   rw[jF,zl,vM,Au,Au];rfl
  have q':=q _ (g.trans g2);refine⟨p,(is.map fun i=>sDp i (tabs S)).map fun n:Nat=>(n:Int),rfl,SqL.of kp,(by have:=hf.1;intro z;rw[Au,List.map_eq_nil_iff]at z;rw[z]at this;exact absurd this (by decide)),fun m h5 h6=>?_⟩;rw[maxI h5 h6];exact q'
theorem wP{r:Nat}(F:Fun K "size" "Pick.size" eM f fd)(fb:DfM K Vd "greatest" dw dq ["self"])(gx:jJ k dw dq ["self"] (spGr (jK 0) K (r+1))):jJ (k+2) f fd ["self"] (spV (jK 0) K (r+1) Kd.isPick vSz):=by
 w_cond wZ;obtain⟨a,kd,sa,S,rfl,hF,hk,hf,ho,hw,hg,q⟩:=h;refine⟨_,(jD (jO (jP qI jH (xJ (pv 0) Ud.cl fb.me gx hr fb.b .nil jS)))),?_⟩;cases id ho with
 | @pick a dx t is ss h1 h2 h3 h4 =>
  refine⟨_,rfl,a,dx,_,rfl,h1,rfl,a,is,sa,S,rfl,hk,hf,ho,hw,hg,fun H' g=>⟨_,_,rfl,rfl,?_⟩⟩;have q':=q H' g;rw[show vSz (Kd.pick is) (tabs S)=1+yF (is.map fun i=>(tabs S).sz.getD i 0) from rfl,Int.natCast_add]at q';exact q'
 |_=>cases hF
theorem aBl{k:Nat}(F:Fun K "__init__" "Num.__init__" gQ f fd):jJ (k+2) f fd ["self","width"] (aEg Va "width"):=by
 w_cond aBz;obtain⟨a,dx,v,H1,rfl,hA,g,h0,q⟩:=h;refine⟨_,(jD (qD (pv 0) (pv 1) rfl)),?_⟩;exact⟨_,rfl,_,rfl,a,Va,dx,[],rfl,hA,Ua.cl,Ua.na _ (by decide),by decide,q _ (g.putn h0) jF⟩
theorem rH{k:Nat}(F:Fun K "__init__" "Nested.__init__" bM f fd):jJ (k+2) f fd ["self","shape"] (aEg Vb "shape"):=by
 w_cond rY;obtain⟨a,dx,v,H1,rfl,hA,g,h0,q⟩:=h;refine⟨_,(jD (qD (pv 0) (pv 1) rfl)),?_⟩;exact⟨_,rfl,_,rfl,a,Vb,dx,[],rfl,hA,Ub.cl,Ub.na _ (by decide),by decide,q _ (g.putn h0) jF⟩
theorem uR{k:Nat}(F:Fun K "__init__" "Many.__init__" eB f fd):jJ (k+2) f fd ["self","count","kind"] (spI2 Vc "count" "kind"):=by
 w_cond uQ;obtain⟨a,dx,v,u,H1,rfl,hA,g,h0,q⟩:=h;refine⟨_,(jC (qD (pv 0) (pv 1) rfl) (jD (qD (pv 0) (pv 2) rfl))),?_⟩;exact⟨_,rfl,_,rfl,a,Vc,dx,[],rfl,hA,Uc.cl,Uc.na _ (by decide),by decide,_,rfl,_,rfl,a,Vc,dx,_,rfl,jF,Uc.cl,Uc.na _ (by decide),(by show 1<1000;decide),q _ ((g.putn h0).putn h0) jF⟩
theorem wF{k:Nat}(F:Fun K "__init__" "Pick.__init__" eJ f fd):jJ (k+2) f fd ["self","shapes"] (spIT K Vd "shapes"):=by
 w_cond wL;obtain⟨a,dx,l,ys,H1,rfl,hA,g,h0,hl,q⟩:=h;refine⟨_,(jD (qD (pv 0) (vY bK rfl M.tuple boot_tuple (jA (pv 1) jB)) rfl)),?_⟩;refine⟨_,rfl,l,ys,rfl,.inl ⟨g.seq hl,fun t ht=>?_⟩⟩;clear 1 t H2 g2 k2 ht;exact⟨_,rfl,a,Vd,dx,[],rfl,g2 _ _ hA,Ud.cl,Ud.na _ (by decide),by decide,q t _ ((g.trans g2).putn h0) jF (SqT.of (by rw[jR (Ag (jI hA ht))];exact k2))⟩
theorem rP{k:Nat}(F:Fun K "__init__" "Shapes.__init__" bV f fd):jJ (k+2) f fd ["self","shapes"] (spIT K Vf "shapes"):=by
 w_cond oS;obtain⟨a,dx,l,ys,H1,rfl,hA,g,h0,hl,q⟩:=h;refine⟨_,(jD (qD (pv 0) (vY bK rfl M.tuple boot_tuple (jA (pv 1) jB)) rfl)),?_⟩;refine⟨_,rfl,l,ys,rfl,.inl ⟨g.seq hl,fun t ht=>?_⟩⟩;clear 1 t H2 g2 k2 ht;exact⟨_,rfl,a,Vf,dx,[],rfl,g2 _ _ hA,Uf.cl,Uf.na _ (by decide),by decide,q t _ ((g.trans g2).putn h0) jF (SqT.of (by rw[jR (Ag (jI hA ht))];exact k2))⟩
theorem dC{k:Nat}(F:Fun K "units_at" "Num.units_at" aG f fd):jJ (k+2) f fd ["self","path"] (spU (jK 0) K r Kd.isNum):=by
 w_cond nF;obtain⟨a,p,kd,sa,S,rfl,hp,hF,hk,hf,ho,hw,hg,q⟩:=h;refine⟨_,(jD (jO (kH (jA (zO (jA (pv 1) (jA (kK (pv 0) rfl) (jA jM jB)))) jB)))),?_⟩;cases id ho with
 |num h1 =>
  refine⟨_,rfl,_,rfl,a,Va,_,_,_,rfl,h1,Ua.cl,Ua.na _ (by decide),rfl,lU,fun t ht=>?_⟩;clear 1 t H1 g1 k1 ht;refine⟨iC,fun l hl=>?_⟩;clear 1 l H2 g2 k2 hl;exact q l H2 (g1.trans g2) (g1.free hl) ⟨[t],k2,.cons (g2.tp (SqT.of k1)) .nil⟩
 |_=>cases hF
theorem mG{r:Nat}(F:Fun K "units_at" "Pick.units_at" zG f fd)(gv:Df K mg "joined" ji ix ["path","step"])(qz:jJ k ji ix ["path","step"] oQ)(fb:DfM K Vd "greatest" dw dq ["self"])(gx:jJ k dw dq ["self"] (spGr (jK 0) K (r+1))):jJ (k+2) f fd ["self","path"] (spU (jK 0) K (r+1) Kd.isPick):=by
 w_cond lB;obtain⟨a,p,kd,sa,S,rfl,hp,hF,hk,hf,ho,hw,hg,q⟩:=h;refine⟨_,(jD (jO (kH (jA (zO (jA (jN qz hr rfl gv.m gv.k gv.b .nil jS (jA (pv 1) (jA jM jB))) (jA jH (jA jM jB)))) (jA (zO (jA (pv 1) (jA (xJ (pv 0) Ud.cl fb.me gx hr fb.b .nil jS) (jA jM jB)))) jB))))),?_⟩;cases id ho with
 | @pick a dx t is ss h1 h2 h3 h4 =>
  refine⟨_,rfl,p,_,_,rfl,rfl,(by omega),(by decide),lU,fun t1 ht1=>?_⟩;clear 1 t1 H1 g1 k1 ht1;refine⟨_,rfl,_,rfl,a,dx,_,rfl,g1 _ _ h1,rfl,a,is,sa,S,rfl,hk,hf,ho.same g1,hw.same g1,hg,fun H2 g2=>⟨lU,fun t2 ht2=>?_⟩⟩;clear 1 t2 H3 g3 k3 ht2;refine⟨vK,fun l hl=>?_⟩;clear 1 l H4 g4 k4 hl;exact q l H4 (((g1.trans g2).trans g3).trans g4) (((g1.trans g2).trans g3).free hl) ⟨[t1,t2],k4,.cons (((g2.trans g3).trans g4).tp (SqT.of k1)) (.cons (g4.tp (SqT.of k3)) .nil)⟩
 |_=>cases hF
theorem mE{k:Nat}(F:Fun K "parted" "Nested.parted" zJ f fd):jJ (k+2) f fd ["self"] (spP (jK 0) K Kd.isNest):=by
 w_cond lL;obtain⟨a,kd,sa,S,rfl,hF,hf,ho,hw,hg,q⟩:=h;refine⟨_,(jD (jO (vY wQ rfl M.list boot_list (jA (kK (kK (pv 0) rfl) rfl) jB)))),?_⟩;cases id ho with
 | @nest a dx s i e h1 =>
  obtain⟨sh,hs,so⟩:=hw.at e;obtain⟨dx2,t,ps,k1,k2,k3⟩:=so.fields;refine⟨_,rfl,a,Vb,_,_,_,rfl,h1,Ub.cl,Ub.na _ (by decide),rfl,s,Ve,_,_,_,rfl,k1,Ue.cl,Ue.na _ (by decide),rfl,t,_,rfl,.inr k2,fun l hl=>?_⟩;clear 1 l H1 g1 kl hl;refine q l H1 g1 hl ⟨ps,kl,?_⟩;rw[show(Kd.nest i).parts S=sh.2 by show(S.getD i _).2=_;rw[xh,hs];rfl];exact k3.same g1
 |_=>cases hF
theorem oY{k:Nat}(F:Fun K "parted" "Many.parted" bX f fd):jJ (k+2) f fd ["self"] (spP (jK 0) K Kd.isMany):=by
 w_cond pI;obtain⟨a,kd,sa,S,rfl,hF,hf,ho,hw,hg,q⟩:=h;refine⟨_,(jD (jO (qT ["number"] ["self"] [0] rfl (cB rfl M.range (jA (kK (pv 0) rfl) jB)) rfl ⟨rfl,trivial⟩ ⟨⟨rfl,rfl,rfl,_,rfl⟩,trivial⟩ (fun _ _ _ _=>(jT (i:=0) (show yy (["number","self"]:List Str) from by ac_rfl) rfl (yl rfl))) (fun _ _ _ _=>qX) (fun _ _ _ _=>(zO (jA (pv 0) (jA (wC (K:=K) rfl (pv 1) rfl) jB))))))),?_⟩;cases id ho with
 | @many a dx b n k h1 h2 =>
  have hn:n<=6:=hf.2.1;refine⟨_,rfl,a,Vc,_,_,_,rfl,h1,Uc.cl,Uc.na _ (by decide),rfl,n,rfl,by omega,by omega,fV (n:=n) (fun j ys H'=>jJ H H'/\∃tt:List Addr,ys=tt.map V.ref/\tt.length=j/\PR (jK 0) K H' sa tt ((zt j).map fun j=>(δ (toString j),k))) ⟨jJ.refl _,[],rfl,rfl,.nil⟩ (fun j ys H' _ z=>?_) (qG (by omega)) (fun j ys H' hj z=>?_) (fun ys H' z p hp=>?_)⟩
  ·obtain⟨_,tt,rfl,hl,_⟩:=z;rw[ε];omega
  ·obtain⟨g,tt,rfl,hl,hP⟩:=z;refine⟨_,rfl,_,rfl,a,Vc,_,_,_,rfl,g _ _ h1,Uc.cl,Uc.na _ (by decide),rfl,vK,fun t ht=>?_⟩;clear 1 t H1 g1 k1 ht;refine⟨⟨g.trans g1,tt++[t],by rw[Ψ];rfl,by rw[η,hl];rfl,?_⟩,_,rfl⟩;rw[BV,Ψ];refine(hP.same g1).snoc (x:=.int ((0:Int)+(j:Nat))) (SqT.of k1) ?_ (h2.same (g.trans g1));rw[Int.zero_add];exact if_pos (by show(j:Nat)<2 ^ 100;exact υ hj (by omega))
  ·obtain⟨g,tt,rfl,hl,hP⟩:=z;clear 1 p H1 g1 k1 hp;exact q p H1 (g.trans g1) (g.free hp) ⟨tt,k1,hP.same g1⟩
 |_=>cases hF
theorem cD{k r:Nat}{FF:Kd->Bool}(hFF:∀k,FF k=true->(∃i,k=.nest i)\/∃n q,k=.many n q)(F:Fun K "units_at" "Kind.units_at" zT f fd)(vy:∀C sp,TPt (jK 0) K C sp->yK P w K mg base CX0 k "parted" C sp)(ki:∀C sp,TU (jK 0) K r C sp->yK P w K mg base CX0 k "units_at" C sp){ji:Addr}{ix:yn}(gv:Df K mg "joined" ji ix ["path","step"])(qz:jJ k ji ix ["path","step"] oQ):jJ (k+2) f fd ["self","path"] (spU (jK 0) K (r+1) FF):=by
 w_cond vZ;obtain⟨a,p,kd,sa,S,rfl,hp,hF,hk,hf,ho,hw,hg,q⟩:=h;refine⟨_,(jC (jY (i:=2) vZ.nd rfl (by walk_at"o") (kH jB)) (jC (xC zw rfl (vO (aE (pv 0) vy hr jS)) (yU rfl (kC (jT (i:=3) vZ.nd rfl (yl rfl)) (kC (jT (i:=4) vZ.nd rfl (yl rfl)) qS))) (jD (qO (zV zb PySem.F.slot_list_extend PySem.F.type_list_extend tU (pv 2) (jA (iH (pv 4) ki hr jS (jA (jN qz hr rfl gv.m gv.k gv.b .nil jS (jA (pv 1) (jA (pv 3) jB))) jB)) jB))))) (jD (jO (pv 2))))),?_⟩;refine⟨dS,fun l hl=>?_⟩;generalize e1:upd H l _=H1;obtain⟨g1,k1⟩:=kQ e1 hl;refine⟨_,rfl,callP (aDh (by simp)) (hFF kd hF) hf (ho.same g1) (hw.same g1) hg fun l2 H2 g2 hl2 zq=>?_⟩;obtain⟨tt,k2,pr⟩:=zq;have kl2:=g2 _ _ k1;have n2:l2≠l:=Ag (jI k1 hl2);have hw2:=hw.same (g1.trans g2);have zl:tt.length=(kd.parts S).length:=pr.len;have bd:=Kd.size_bd hg.sz (by decide) hf;have lens:∀j,(((kd.parts S).take j).flatMap fun f=>un f.2 S (pj p f.1)).length<=6000:=fun j=>by
  have h1:(un kd S p).length<=_:=(hg.kd hf).2 p;rw[Kd.parts_un hg hf (hFF kd hF)]at h1
  conv at h1=>lhs;rw[←Bw j (kd.parts S)]
  rw[Bo,η]at h1;omega
 refine⟨l2,rfl,⟨_,SqL.of k2⟩,eH (xs:=tt.map V.ref) (fun j σ H'=>∃o3 o4,σ = [some (.ref a),some (.str p),some (.ref l),o3,o4]/\But l H2 H'/\UL K H' l (((kd.parts S).take j).flatMap fun f=>un f.2 S (pj p f.1))) ⟨_,_,rfl,But.refl,[],kl2,.nil⟩ (fun j σ H' _ z=>?_) (fun j x σ H' hx z=>?_) (fun σ H' z=>?_)⟩
 ·obtain⟨o3,o4,rfl,g,_⟩:=z;exact SqL.of (g _ _ n2 k2)
 ·obtain⟨o3,o4,rfl,g,us,ku,ur⟩:=z;obtain⟨t,ht,rfl⟩:=vF hx;obtain⟨x,y,kd',kk,hps,hq,hx',hko⟩:=pr.get ht;obtain⟨p1,p2,p3,p4⟩:=Kd.parts_ok hg hf hk (xk hps);obtain⟨C',dx',fs',sp',m1,m2,m3,m4⟩:=kdU (aDh (m:="units_at") (by simp)) p1 p2 (hko.but g kl2) (hw2.but g kl2) hg;have hyl:(pj p y).length<=p.length+7:=by
   have e1:(δ ".").length=1:=rfl;have p4':y.length<=6:=p4;unfold pj
   split
   ·omega
   ·rw[As,As];omega
  refine⟨t,_,rfl,g.tup kl2 hq,rfl,_,_,rfl,_,_,rfl,rfl,_,rfl,.inl ⟨rfl,_,SqL.of ku⟩,_,rfl,kk,C',dx',fs',sp',rfl,m1,m2,m3,_,rfl,_,rfl,p,x,y,rfl,hx',(by omega),(by have p4':y.length<=6:=p4;omega),m4 _ _ _ (by omega) fun l3 H3 g3 hl3 zq=>?_⟩;obtain⟨us3,k3,ur3⟩:=zq;have ku3:=g3 _ _ ku;have h6:=lens (j+1);rw[aGd hps,η,←ur.len,←ur3.len]at h6;refine⟨l,l3,_,_,rfl,rfl,ku3,k3,(by rw[ς,ε,ε];omega),?_⟩;clear 0 l H4 g4 k4;refine⟨_,_,rfl,(g.trans (But.of g3)).trans g4,us++us3,by rw[Ψ];exact k4,?_⟩;rw[aGd hps];exact((ur.same g3).but g4 ku3).app (ur3.but g4 ku3)
 ·obtain⟨o3,o4,rfl,g,u⟩:=z;rw[ε,zl,vM]at u;refine⟨_,rfl,q l H' (But.from (g1.trans g2) hl g) hl ?_⟩;rw[Kd.parts_un hg hf (hFF kd hF)];exact u
theorem sH(F:Fun K "units" "Shape.units" bU f fd)(dh:DfI K az ["self","shape"])(di:jJ k cIv az ["self","shape"] (aEg Vb "shape"))(ki:∀C sp,TU (jK 0) K r C sp->yK P w K mg base CX0 k "units_at" C sp):jJ (k+2) f fd ["self"] (aQm (jK 0) K r):=by
 w_cond pA;obtain⟨a,i,sa,S,rfl,e,hi,h8,hw,hg,q⟩:=h;refine⟨_,(jD (jO (iH (vJ Ub.ma di hr0 rfl Ub.m dh.b .nil jS (jA (pv 0) jB)) ki hr jS (jA jM jB)))),?_⟩;refine⟨_,rfl,fun x dx hx hdx _=>⟨x,dx,.ref a,H,rfl,jF,zU hx hdx,hx,fun H1 g1 k1=>⟨rfl,?_⟩⟩⟩;have hil:i<S.length:=by rw[←hw.1];exact(θ.mp e).1
 obtain⟨C',dx',fs',sp',m1,m2,m3,m4⟩:=kdU (kd:=.nest i) (r:=r) (aDh (m:="units_at") (by simp)) hi hil (.nest e k1) (hw.same g1) hg;exact⟨x,C',dx',fs',sp',rfl,m1,m2,m3,m4 _ _ _ (by show 0+8*r<=200;omega) fun l H2 g2 hl u=>q l H2 (g1.trans g2) (g1.free hl) u⟩
theorem sX{k:Nat}(F:Fun K "__init__" "Shape.__init__" cK f fd):jJ (k+2) f fd ["self","name","fields"] (aLv (jK 0) K):=by
 w_cond sN;obtain⟨a,dx,fl,nm,ps,fs,sa,H1,rfl,hA,g,h0,hl,hP,hn,q⟩:=h;refine⟨_,(jC (qD (pv 0) (pv 1) rfl) (jD (qD (pv 0) (vY bK rfl M.tuple boot_tuple (jA (qT ["field","kind"] [] [] rfl (aQq (pv 2)) rfl trivial trivial (fun _ _ _ _=>(iM (K:=K) (n:=2) rfl rfl (kC (jT (i:=0) (show yy (["field","kind"]:List Str) from by ac_rfl) rfl (yl rfl)) (kC (jT (i:=1) (show yy (["field","kind"]:List Str) from by ac_rfl) rfl (yl rfl)) qS)))) (fun _ _ _ _=>qX) (fun _ _ _ _=>(zO (jA (pv 0) (jA (pv 1) jB))))) jB)) rfl))),?_⟩;refine⟨_,rfl,_,rfl,a,Ve,dx,[],rfl,hA,Ue.cl,Ue.na _ (by decide),by decide,?_⟩;have ga:jJ H1 (upd H a (.ins Ve dx (aR "name" (.str nm) []))):=g.putn h0;have ka:upd H a (.ins Ve dx (aR "name" (.str nm) [])) a=some (.ins Ve dx [("name",.str nm)]):=jF;generalize upd H a (.ins Ve dx (aR "name" (.str nm) []))=H2 at ga ka;have zl:(ps.map V.ref).length=fs.length:=by rw[ε];exact hP.len
 have turn:∀(j:Nat) (x:V) (ys:List V) (H':Hp) (Pv:Nat->List V->Hp->Prop),Pv=(fun j ys H'=>jJ H2 H'/\∃tt:List Addr,ys=tt.map V.ref/\tt.length=j/\FO (jK 0) K H' sa tt (fs.take j))->(ps.map V.ref)[j]?=some x->Pv j ys H'->∃t nm kk,x=.ref t/\SqT K H' t [.str nm,.ref kk]/\∀u,H' u=none->Pv (j+1) (ys++[.ref u]) (upd H' u (.tup [.str nm,.ref kk])):=by
  intro j x ys H' Pv eP hx z;subst eP;obtain⟨g2,tt,rfl,htl,hF⟩:=z;obtain⟨t,ht,rfl⟩:=vF hx;obtain⟨nm',kd,kk,hfs,hq,hko⟩:=hP.get ht;refine⟨t,nm',kk,rfl,g2.tp (ga.tp hq),fun u hu=>?_⟩;generalize e3:upd H' u _=H3;obtain⟨g3,k3⟩:=kQ e3 hu;refine⟨g2.trans g3,tt++[u],by rw[Ψ];rfl,by rw[η,htl];rfl,?_⟩;have:=(hF.same g3).snoc (SqT.of k3) (hko.same ((ga.trans g2).trans g3));rw[zk,hfs];exact this
 have fin:∀(ys:List V) (H':Hp),(jJ H2 H'/\∃tt:List Addr,ys=tt.map V.ref/\tt.length=(ps.map V.ref).length/\FO (jK 0) K H' sa tt (fs.take (ps.map V.ref).length))->∀p,H' p=none->∀t,upd H' p (.lst ys) t=none->Q .non (upd (upd (upd H' p (.lst ys)) t (.tup ys)) a (.ins Ve dx [("name",.str nm),("fields",.ref t)])):=by
  intro ys H' z p hp t ht;obtain⟨g2,tt,rfl,htl,hF⟩:=z;generalize e3:upd H' p _=H3 at ht;obtain⟨g3,k3⟩:=kQ e3 hp;clear 1 t H4 g4 k4 ht;have ka4:H4 a=_:=(g2.trans g3 |>.trans g4) _ _ ka;rw[zl,vM]at hF;have G:jJ H1 (upd H4 a (.ins Ve dx [("name",.str nm),("fields",.ref t)])):=(((ga.trans g2).trans g3).trans g4).putn h0;have nta:t≠a:=Ag (jI ((g2.trans g3) _ _ ka) ht);refine q t tt _ G jF (SqT.of (by rw[jR nta];exact k4)) ?_;exact FO.insD (hF.same (g3.trans g4)) ka4
 have st:jJ H2 H2/\∃tt:List Addr,([]:List V)=tt.map V.ref/\tt.length=0/\FO (jK 0) K H2 sa tt (fs.take 0):=⟨jJ.refl _,[],rfl,rfl,by rw[List.take_zero];exact .nil⟩;have lst:∀(H':Hp) (p t:Addr) (ys:List V),(jJ H2 H'/\∃tt:List Addr,ys=tt.map V.ref/\tt.length=(ps.map V.ref).length/\FO (jK 0) K H' sa tt (fs.take (ps.map V.ref).length))->H' p=none->upd H' p (.lst ys) t=none->upd (upd H' p (.lst ys)) t (.tup ys) a=some (.ins Ve dx [("name",.str nm)]):=fun H' p t ys z hp ht=>(yE ht _) _ _ ((yE hp _) _ _ (z.1 _ _ ka));refine⟨_,rfl,fl,rfl,?_⟩;rcases hl with hl|hl
 ·refine .inl ⟨⟨_,ga.seq hl⟩,aDr (xs:=ps.map V.ref) (fun j ys H'=>jJ H2 H'/\∃tt:List Addr,ys=tt.map V.ref/\tt.length=j/\FO (jK 0) K H' sa tt (fs.take j)) st (fun j ys H' _ z=>⟨z.1.seq (ga.seq hl),by obtain⟨_,tt,rfl,hl,_⟩:=z;rw[ε];omega⟩) (qG (by omega)) (fun j x ys H' os ho hx z=>?_) (fun ys H' z p hp=>⟨p,ys,rfl,.inl ⟨SqL.of jF,fun t ht=>⟨_,rfl,a,Ve,dx,_,rfl,lst H' p t ys z hp ht,Ue.cl,Ue.na _ (by decide),(by show 1<1000;decide),fin ys H' z p hp t ht⟩⟩⟩)⟩;obtain⟨o1,o2,rfl⟩:=aHm ho;obtain⟨t,nm',kk,rfl,hq,nxt⟩:=turn j x ys H' _ rfl hx z;exact⟨t,_,rfl,hq,rfl,_,_,rfl,_,_,rfl,rfl,_,rfl,_,rfl,vK,fun u hu=>⟨nxt u hu,[_,_],rfl,rfl⟩⟩
 ·refine .inr ⟨⟨_,ga.tp hl⟩,fC (xs:=ps.map V.ref) (fun j ys H'=>jJ H2 H'/\∃tt:List Addr,ys=tt.map V.ref/\tt.length=j/\FO (jK 0) K H' sa tt (fs.take j)) st (fun j ys H' _ z=>⟨z.1.tp (ga.tp hl),by obtain⟨_,tt,rfl,hl,_⟩:=z;rw[ε];omega⟩) (qG (by omega)) (fun j x ys H' os ho hx z=>?_) (fun ys H' z p hp=>⟨p,ys,rfl,.inl ⟨SqL.of jF,fun t ht=>⟨_,rfl,a,Ve,dx,_,rfl,lst H' p t ys z hp ht,Ue.cl,Ue.na _ (by decide),(by show 1<1000;decide),fin ys H' z p hp t ht⟩⟩⟩)⟩;obtain⟨o1,o2,rfl⟩:=aHm ho;obtain⟨t,nm',kk,rfl,hq,nxt⟩:=turn j x ys H' _ rfl hx z;exact⟨t,_,rfl,hq,rfl,_,_,rfl,_,_,rfl,rfl,_,rfl,_,rfl,vK,fun u hu=>⟨nxt u hu,[_,_],rfl,rfl⟩⟩
theorem uZ(F:Fun K "is_single" "is_single" dP f fd)(ay:Df K mg "number_in" bt bj ["text","low","high"])(fj:jJ k bt bj ["text","low","high"] (aL K))(ao:Df K mg "is_name" au aq ["thing"])(bx:jJ k au aq ["thing"] (zC K)):jJ (k+2) f fd ["words"] (spSg K):=by
 w_cond wY;obtain⟨a,ws,rfl,hl,hs,q⟩:=h;refine⟨_,(jC (kL (jV qZ (kO jZ (pv 0) jH (fun _ _=>rfl)) jM (kB _)) (jD (jO (bW (qY qZ (kA kE rfl M.len yj (jA (pv 0) jB)) jH (kB _)) (dR (qY uT (jN fj hr rfl ay.m ay.k ay.b .nil jS (jA (kO jZ (pv 0) jH (fun _ _=>rfl)) (jA jH (jA (kM (v:=.int 4) rfl C.MOST_WIDTH ⟨_,rfl⟩) jB)))) yQ (kB _)))))) jX) (jD (jO (bW (qY qZ (kA kE rfl M.len yj (jA (pv 0) jB)) jH (kB _)) (dR (jN bx hr rfl ao.m ao.k ao.b .nil jS (jA (kO jZ (pv 0) jH (fun _ _=>rfl)) jB))))))),?_⟩;rcases hs with⟨w,w1,w4,rfl⟩|⟨x,hx,rfl⟩
 ·obtain⟨d1,d2,d3,_⟩:=dig (w:=w) (by omega);refine⟨_,rfl,a,_,_,_,rfl,rfl,hl,rfl,rfl,_,rfl,vL (by decide) ⟨_,rfl,a,_,rfl,.inl hl,rfl,_,rfl,vL (by simp) ⟨_,rfl,a,_,_,_,rfl,rfl,hl,rfl,.str _,1,4,rfl,.inl ⟨_,rfl,by omega,fun H1 g1=>⟨rfl,?_⟩⟩⟩⟩⟩;rw[d1,show qW (some (w:Int)) 1 4=some (w:Int) from if_pos ⟨by omega,by omega⟩];exact q H1 g1
 ·have hne:=cQ hx (y:="num") (by decide);refine⟨_,rfl,a,_,_,_,rfl,rfl,hl,rfl,rfl,_,rfl,qA (by simpa using hne) ⟨_,rfl,a,_,rfl,.inl hl,rfl,_,rfl,vL (by simp) ⟨_,rfl,a,_,_,_,rfl,rfl,hl,rfl,.str x,rfl,.inl ⟨x,rfl,by have:=(yA hx).2;omega,fun H1 g1=>?_⟩⟩⟩⟩;rw[hx];exact q H1 g1
theorem aDz(F:Fun K "is_kind" "is_kind" lJ f fd)(ay:Df K mg "number_in" bt bj ["text","low","high"])(fj:jJ k bt bj ["text","low","high"] (aL K))(fz:Df K mg "is_single" qa oh ["words"])(qb:jJ k qa oh ["words"] (spSg K))(ao:Df K mg "is_name" au aq ["thing"])(bx:jJ k au aq ["thing"] (zC K)):jJ (k+2) f fd ["words"] (spKd K):=by
 w_cond aEt;obtain⟨a,nm,n,kd,rfl,hl,hf,hn,q⟩:=h;refine⟨_,(jC (kL (jV qZ (kO jZ (pv 0) jH (fun _ _=>rfl)) jM (kB _)) (jD (jO (bW (qY fK (kA kE rfl M.len yj (jA (pv 0) jB)) jH (kB _)) (bW (qY uT (jN fj hr rfl ay.m ay.k ay.b .nil jS (jA (kO jZ (pv 0) jH (fun _ _=>rfl)) (jA jH (jA (kM (v:=.int 6) rfl C.MOST_COUNT ⟨_,rfl⟩) jB)))) yQ (kB _)) (dR (jN qb hr rfl fz.m fz.k fz.b .nil jS (jA (kS qF (pv 0) (qC jH) qJ) jB))))))) jX) (jC (kL (jV qZ (kO jZ (pv 0) jH (fun _ _=>rfl)) jM (kB _)) (jD (jO (bW (aMv uB uB (kM (v:=.int 2) rfl C.LEAST_PICKED ⟨_,rfl⟩) (jP gJ (kA kE rfl M.len yj (jA (pv 0) jB)) jH) (kM (v:=.int 4) rfl C.MOST_PICKED ⟨_,rfl⟩)) (dR (kA (sB rfl) rfl M.all boot_all (jA (qT ["word"] [] [] rfl (vO (kS qF (pv 0) (qC jH) qJ)) rfl trivial trivial (fun _ _ _ _=>(jT (i:=0) (show yy (["word"]:List Str) from by ac_rfl) rfl (yl rfl))) (fun _ _ _ _=>qX) (fun _ _ _ _=>(jN bx hr rfl ao.m ao.k ao.b .nil jS (jA (pv 0) jB)))) jB)))))) jX) (jD (jO (jN qb hr rfl fz.m fz.k fz.b .nil jS (jA (pv 0) jB)))))),?_⟩;cases kd with
 |num w=>exact⟨_,rfl,a,_,_,_,rfl,rfl,hl,rfl,rfl,_,rfl,qA (by decide) ⟨_,rfl,a,_,_,_,rfl,rfl,hl,rfl,rfl,_,rfl,qA (by decide) ⟨_,rfl,a,_,rfl,hl,.inl ⟨w,hf.1,hf.2,rfl⟩,q⟩⟩⟩
 |nest i =>
  have hx:=hn i hf;have h1:=cQ hx (y:="row") (by decide);have h2:=cQ hx (y:="pick") (by decide);exact⟨_,rfl,a,_,_,_,rfl,rfl,hl,rfl,rfl,_,rfl,qA (by simpa using h1) ⟨_,rfl,a,_,_,_,rfl,rfl,hl,rfl,rfl,_,rfl,qA (by simpa using h2) ⟨_,rfl,a,_,rfl,hl,.inr ⟨_,hx,rfl⟩,q⟩⟩⟩
 |many m k =>
  have hm:=hf.2.1;have hm1:=hf.1;obtain⟨d1,d2,d3,_⟩:=dig (w:=m) (by omega);have hne:=Kd.words_ne nm k;have h0 : 0<(k.words nm).length:=CA.mpr hne;have hl':SqL K H a (V.str (δ "row")::V.str (δ (toString (m:Int)))::(k.words nm).map V.str):=hl;refine⟨_,rfl,a,_,_,_,rfl,rfl,hl',at0,rfl,_,rfl,vL (by decide) ⟨_,rfl,a,_,rfl,.inl hl',_,_,rfl,rfl,_,rfl,vL (by simp;omega) ⟨_,rfl,a,_,_,_,rfl,rfl,hl',at1,.str _,1,6,rfl,.inl ⟨_,rfl,by omega,fun H1 g1=>⟨rfl,_,rfl,?_⟩⟩⟩⟩⟩;rw[d1,show qW (some (m:Int)) 1 6=some (m:Int) from if_pos ⟨by omega,by omega⟩];refine vL (by rfl) ⟨_,rfl,_,rfl,a,_,rfl,g1.seq hl,fun p hp=>?_⟩;rw[show zF ((Kd.words nm (.many m k)).map V.str) (some 2) none=(k.words nm).map V.str from aQf _ _ _];clear 1 p H2 g2 k2 hp;refine⟨p,k.words nm,rfl,SqL.of k2,?_,fun H3 g3=>q H3 ((g1.trans g2).trans g3)⟩;rcases hf.2.2 with⟨w,rfl,hw⟩|⟨i,rfl,hi⟩
  ·exact .inl ⟨w,hw.1,hw.2,rfl⟩
  ·exact .inr ⟨_,hn i hi,rfl⟩
 |pick is =>
  have h1:=hf.1;have h2:=hf.2.1;have hl':SqL K H a (V.str (δ "pick")::(is.map nm).map V.str):=hl;have zl:((is.map nm).map V.str).length=is.length:=by rw[ε,ε]
  refine⟨_,rfl,a,_,_,_,rfl,rfl,hl',at0,rfl,_,rfl,qA (by decide) ⟨_,rfl,a,_,_,_,rfl,rfl,hl',at0,rfl,_,rfl,vL (by decide) ⟨_,rfl,a,_,rfl,.inl hl',_,_,rfl,rfl,_,_,rfl,rfl,_,rfl,vL (by simp;omega) ⟨_,_,rfl,rfl,_,rfl,vL (by simp;omega) ⟨_,rfl,_,rfl,a,_,rfl,hl',fun p hp=>?_⟩⟩⟩⟩⟩;rw[aAx];clear 1 p H2 g2 k2 hp;refine⟨p,rfl,⟨_,SqL.of k2⟩,xT (xs:=(is.map nm).map V.str) (fun j ys H'=>jJ H2 H'/\ys=((is.take j).map fun _=>true).map V.bl) ⟨jJ.refl _,rfl⟩ (fun j ys H' _ z=>⟨z.1.seq (SqL.of k2),by rw[z.2,ε,ε,wy];exact AO _ _⟩) (qG (by omega)) (fun j x ys H' hx z=>?_) (fun ys H' z p hp=>?_)⟩
  ·obtain⟨g,rfl⟩:=z;obtain⟨y,hy,rfl⟩:=qM hx;rw[xw]at hy;cases e:is[j]? with
   |none=>rw[e]at hy;cases hy
   |some i =>
    rw[e]at hy;cases hy;have hx:=hn i (hf.2.2.2 i (xk e));refine⟨_,rfl,.str (nm i),rfl,.inl ⟨_,rfl,by have:=(yA hx).2;omega,fun H3 g3=>⟨⟨g.trans g3,?_⟩,_,rfl⟩⟩⟩;rw[aP e,hx,Ψ];rfl
  ·obtain⟨g,rfl⟩:=z;have g3:=yE hp (.lst (((is.take ((is.map nm).map V.str).length).map fun _=>true).map V.bl));refine⟨p,_,rfl,SqL.of jF,?_⟩;rw[show((is.take ((is.map nm).map V.str).length).map fun _=>true).all id=true from yh.mpr fun b hb=>by obtain⟨_,_,rfl⟩:=zm.mp hb;rfl];exact q _ ((g2.trans g).trans g3)
theorem lX(F:Fun K "is_field_line" "is_field_line" zI f fd)(ao:Df K mg "is_name" au aq ["thing"])(bx:jJ k au aq ["thing"] (zC K))(om:Df K mg "is_kind" ua rh ["words"])(vz:jJ k ua rh ["words"] (spKd K)):jJ (k+2) f fd ["words"] (spFl K):=by
 w_cond lH;obtain⟨a,nm,n,kd,fn,rfl,hl,hfn,hf,hn,q⟩:=h;refine⟨_,(jD (jO (bW (qY fK (kA kE rfl M.len yj (jA (pv 0) jB)) jH (kB _)) (bW (jN bx hr rfl ao.m ao.k ao.b .nil jS (jA (kO jZ (pv 0) jH (fun _ _=>rfl)) jB)) (dR (jN vz hr rfl om.m om.k om.b .nil jS (jA (kS qF (pv 0) (qC jH) qJ) jB))))))),?_⟩;have h0 : 0<(kd.words nm).length:=CA.mpr (Kd.words_ne nm kd);refine⟨_,rfl,a,_,rfl,.inl hl,_,_,rfl,rfl,_,rfl,vL (by simp;omega) ⟨_,rfl,a,_,_,_,rfl,rfl,hl,at0,.str fn,rfl,.inl ⟨fn,rfl,by have:=(yA hfn).2;omega,fun H1 g1=>⟨_,rfl,vL hfn ⟨_,rfl,_,rfl,a,_,rfl,g1.seq hl,fun p hp=>?_⟩⟩⟩⟩⟩;rw[show zF ((fn::kd.words nm).map V.str) (some 1) none=(kd.words nm).map V.str from aAx _ _];clear 1 p H2 g2 k2 hp;exact⟨p,nm,n,kd,rfl,SqL.of k2,hf,hn,fun H3 g3=>q H3 ((g1.trans g2).trans g3)⟩
theorem nV(F:Fun K "shapes_named" "shapes_named" aZ f fd)(ao:Df K mg "is_name" au aq ["thing"])(bx:jJ k au aq ["thing"] (zC K)):jJ (k+2) f fd ["words"] (aGw K):=by
 w_cond nC;obtain⟨a,nm,n,kd,fn,rfl,hl,hf,hn,q⟩:=h;refine⟨_,(jD (jO (qT ["word"] [] [] rfl (vO (kS qF (pv 0) (qC jH) qJ)) rfl trivial trivial (fun _ _ _ _=>(jT (i:=0) (show yy (["word"]:List Str) from by ac_rfl) rfl (yl rfl))) (fun _ _ _ _=>(gV (yI (jN bx hr rfl ao.m ao.k ao.b .nil jS (jA (pv 0) jB))))) (fun _ _ _ _=>(pv 0))))),?_⟩;obtain⟨w6,w5⟩:=uC hn hf;refine⟨_,rfl,_,rfl,a,_,rfl,hl,fun p hp=>?_⟩;rw[show zF ((fn::kd.words nm).map V.str) (some 1) none=(kd.words nm).map V.str from aAx _ _];clear 1 p H2 g2 k2 hp;refine⟨p,rfl,⟨_,SqL.of k2⟩,xT (xs:=(kd.words nm).map V.str) (fun j ys H'=>jJ H2 H'/\ys=(((kd.words nm).take j).filter kT).map V.str) ⟨jJ.refl _,rfl⟩ (fun j ys H' hj z=>⟨z.1.seq (SqL.of k2),?_⟩) (qG (by rw[ε];omega)) (fun j x ys H' hx z=>?_) (fun ys H' z l hl=>?_)⟩
 ·rw[z.2,ε];refine yb (Bx ..) ?_;rw[wy];exact AO _ _
 ·obtain⟨g,rfl⟩:=z;obtain⟨y,hy,rfl⟩:=qM hx;have hy6:=w6 y (xk hy);refine⟨_,rfl,.str y,rfl,.inl ⟨_,rfl,by omega,fun H3 g3=>⟨_,rfl,qP (fun c=>⟨_,rfl,⟨g.trans g3,?_⟩,_,rfl⟩) (fun c=>⟨⟨g.trans g3,?_⟩,_,rfl⟩)⟩⟩⟩
  ·rw[eY hy,if_pos c,Ψ];rfl
  ·rw[eY hy,if_neg c,ya]
 ·obtain⟨g,rfl⟩:=z;clear 1 l H3 g3 k3 hl;rw[ε,vM,aAi hn hf]at k3;exact q l H3 ((g2.trans g).trans g3) ((g2.trans g).free hl) k3
theorem iG{k:Nat}(F:Fun K "need_new_shape" "need_new_shape" yJ f fd):jJ (k+2) f fd ["told","line","name"] (aQa (jK 0) K):=by
 w_cond iP;obtain⟨tl,x,nm,sa,T,rfl,hl,hw,hne,hnm,hlen,q⟩:=h;refine⟨_,(jC (kL (PW.pt (bL (yZ (pv 0) (fun _=>rfl)) (yW (bP (yZ (kK (kO jZ (pv 0) (cI yR jH) (fun _ _=>rfl)) rfl) (fun _=>rfl)))))) (jD xL) jX) (jC (kL (jV vN (pv 2) (qT ["shape"] [] [] rfl (vO (pv 0)) rfl trivial trivial (fun _ _ _ _=>(jT (i:=0) (show yy (["shape"]:List Str) from by ac_rfl) rfl (yl rfl))) (fun _ _ _ _=>qX) (fun _ _ _ _=>(wC (K:=K) rfl (pv 0) rfl))) (by with_unfolding_all rfl)) (jD xL) jX) (jD (kL (jV qZ (kA kE rfl M.len yj (jA (pv 0) jB)) (kM (v:=.int 8) rfl C.MOST_SHAPES ⟨_,rfl⟩) (kB _)) (jD xL) jX)))),?_⟩;have zl:(sa.map V.ref).length=T.length:=by rw[ε];exact hw.1
 refine aBm (fun σ' H'=>σ'=[some (.ref tl),some x,some (.str nm)]/\H'=H) (fun σ' H' z=>?_) (fun nx hnx=>?_)
 ·obtain⟨rfl,rfl⟩:=z;refine⟨_,rfl,_,rfl,tl,rfl,⟨_,SqL.of hl⟩,xT (xs:=sa.map V.ref) (fun j ys H2=>H2=H'/\ys=((T.take j).map (·.1)).map V.str) ⟨rfl,rfl⟩ (fun j ys H2 _ z=>⟨by rw[z.1];exact SqL.of hl,by rw[z.2,ε,ε,wy];exact AO _ _⟩) (qG (by omega)) (fun j x ys H2 hx z=>?_) (fun ys H2 z p hp=>?_)⟩
  ·obtain⟨rfl,rfl⟩:=z;obtain⟨s,hs,rfl⟩:=vF hx;obtain⟨sh,hS,dx,t,ps,k1,_⟩:=hw.at hs;refine⟨_,rfl,s,Ve,_,_,_,rfl,k1,Ue.cl,Ue.na _ (by decide),rfl,⟨rfl,?_⟩,_,rfl⟩;rw[aP hS,Ψ];rfl
  ·obtain⟨rfl,rfl⟩:=z;clear 1 p H3 g3 k3 hp;refine⟨p,_,rfl,.inl (SqL.of k3),rfl,kZ _,_,rfl,?_⟩;rw[if_neg ρ,qB,zl,vM];refine qA (by rw[decide_eq_false hnm];decide) ⟨_,rfl,tl,_,rfl,.inl (SqL.of (g3 _ _ hl)),rfl,_,rfl,qA (by rw[zl];simp;omega) (q H3 g3)⟩
 ·rcases Ca sa with rfl|⟨sa0,z,rfl⟩
  ·exact⟨_,rfl,false,.inl ⟨_,SqL.of hl,rfl⟩,qA (by decide) (qA (by decide) (hnx _ _ ⟨rfl,rfl⟩))⟩
  ·rw[Cb]at *;obtain⟨s,hS,so⟩:=hw.at (i:=sa0.length) (a:=z) (by rw[xa (μ _),Ap];rfl);obtain⟨dx,t,ps,k1,k2,k3⟩:=so;have hp:ps≠[]:=fun e=>hne s (xk hS) (BJ.mp (by rw[←k3.len,e];rfl));exact⟨_,rfl,true,.inl ⟨_,SqL.of hl,by simp⟩,vL rfl ⟨_,rfl,_,rfl,tl,_,_,_,rfl,rfl,SqL.of hl,aD _ _,z,Ve,_,_,_,rfl,k1,Ue.cl,Ue.na _ (by decide),rfl,true,.inr (.inl ⟨_,k2,by cases ps with|nil=>exact absurd rfl hp|cons _ _=>rfl⟩),qA (by decide) (hnx _ _ ⟨rfl,rfl⟩)⟩⟩
theorem nI{k:Nat}(F:Fun K "whole_shapes" "whole_shapes" aY f fd):jJ (k+2) f fd ["told"] (spWh (jK 0) K):=by
 w_cond nA;obtain⟨tl,z,sa,T,s,rfl,hl,hw,hnd,hlen,q⟩:=h;refine⟨_,(jD (jO (aLg ["shape"] [] [] rfl (vO (kS qF (pv 0) qJ (qC (cI yR jH)))) rfl trivial trivial (fun _ _ _ _=>(jT (i:=0) (show yy (["shape"]:List Str) from by ac_rfl) rfl (yl rfl))) (fun _ _ _ _=>qX) (fun _ _ _ _=>(wC (K:=K) rfl (pv 0) rfl)) (fun _ _ _ _=>(pv 0))))),?_⟩;obtain⟨hw0,_⟩:=hw.init;have zl:(sa.map V.ref).length=T.length:=by rw[ε];exact hw0.1
 refine⟨_,rfl,_,rfl,_,rfl,tl,_,rfl,SqL.of hl,fun p hp=>?_⟩;rw[cutC];generalize e2:upd H p _=H2;obtain⟨g2,k2⟩:=kQ e2 hp;refine⟨p,rfl,⟨_,SqL.of k2⟩,aDu (xs:=sa.map V.ref) (fun D j ys H'=>jJ H2 H'/\H2 D=none/\H' D=some (.dK ys)/\ys=dk (T.take j) (sa.take j)) (fun D hD=>⟨(jJ.refl H2).putn hD,hD,jF,rfl⟩) (fun D j ys H' _ z=>z.1.seq (SqL.of k2)) (fun D j x ys H' hx z=>?_) (fun D ys H' z=>?_)⟩
 ·obtain⟨g,hD,kD,rfl⟩:=z;obtain⟨a,ha,rfl⟩:=vF hx;obtain⟨sh,hS,dx,t,ps,k1,_⟩:=hw0.at ha;have hj:=(θ.mp hS).1;have hnk:∀x∈dk (T.take j) (sa.take j),x.1≠(.inr sh.1:Key):=fun x hx e=>by
   obtain⟨u,hu,eu⟩:=aOi x hx;obtain⟨i,hi⟩:=zd.mp hu;have hij:i<j:=by have:=(θ.mp hi).1;rw[wy]at this;omega
   rw[CI hij]at hi;have e2:kN T i=kN T j:=by rw[xI hi,xI hS];exact AN (eu.symm.trans e)
   have:=aJu hnd (θ.mp hi).1 hj e2;omega
  refine⟨_,rfl,a,Ve,_,_,_,rfl,g _ _ (g2 _ _ k1),Ue.cl,Ue.na _ (by decide),rfl,_,rfl,.inr sh.1,rfl,kD,?_,?_⟩
  ·have:(dk (T.take j) (sa.take j)).length<=100:=by unfold dk;rw[CF,wy];omega
   exact zx this (by decide)
  ·rw[aIe hnk];exact⟨⟨g.putn hD,hD,jF,(aOh hS ha).symm⟩,_,rfl⟩
 ·obtain⟨g,hD,kD,rfl⟩:=z;rw[zl,vM,←hw0.1,vM]at kD;exact q D H' (g2.trans g) (g2.free hD) kD
theorem sR(F:Fun K "need_field" "need_field" cX f fd)(ia:Df K mg "is_field_line" jw jk ["words"])(rj:jJ k jw jk ["words"] (spFl K))(ik:Df K mg "shapes_named" ky jx ["words"])(sx:jJ k ky jx ["words"] (aGw K))(cy:Df K mg "whole_shapes" fq fc ["told"])(io:jJ k fq fc ["told"] (spWh (jK 0) K)):jJ (k+2) f fd ["told","line","words"] (spNF (jK 0) K):=by
 w_cond xE;obtain⟨tl,a,z,x,sa,T,s,fn,kd,rfl,hl,hw,hws,hfn,hnew,hs100,hf,hn,hnd,hlen,q⟩:=h;refine⟨_,(jC (kL (PW.pt (sA (bP (yZ (pv 0) (fun _=>rfl))) (fW (bP (yI (jN rj hr rfl ia.m ia.k ia.b .nil jS (jA (pv 2) jB))))))) (jD xL) jX) (jC (kL (jV vN (kO jZ (pv 2) jH (fun _ _=>rfl)) (qT ["name","kind"] [] [] rfl (dL (kK (kO jZ (pv 0) (cI yR jH) (fun _ _=>rfl)) rfl)) rfl trivial trivial (fun _ _ _ _=>(iM (K:=K) (n:=2) rfl rfl (kC (jT (i:=0) (show yy (["name","kind"]:List Str) from by ac_rfl) rfl (yl rfl)) (kC (jT (i:=1) (show yy (["name","kind"]:List Str) from by ac_rfl) rfl (yl rfl)) qS)))) (fun _ _ _ _=>qX) (fun _ _ _ _=>(pv 0))) (by with_unfolding_all rfl)) (jD xL) jX) (jC (jY (i:=3) xE.nd rfl (by walk_at"o") (jN sx hr rfl ik.m ik.k ik.b .nil jS (jA (pv 2) jB))) (jC (xC zw rfl (oM rfl M.enumerate (jA (pv 3) jB)) (yU rfl (kC (jT (i:=4) xE.nd rfl (yl rfl)) (kC (jT (i:=5) xE.nd rfl (yl rfl)) qS))) (jD (kL (jV vN (pv 5) (kS qF (pv 3) qJ (qC (pv 4))) (by with_unfolding_all rfl)) (jD xL) jX))) (jD (xC zw rfl (vO (pv 3)) (jT (i:=5) xE.nd rfl (yl rfl)) (jD (kL (rJ (aIs hr.units1 (pv 5) (jN io hr rfl cy.m cy.k cy.b .nil jS (jA (pv 0) jB)))) (jD xL) jX)))))))),?_⟩;obtain⟨hw0,dx,t,ps,k1,k2,k3⟩:=hw.init;obtain⟨n1,n4,n2⟩:=aBh hnd hf;have zl:(ps.map V.ref).length=s.2.length:=by rw[ε];exact k3.len
 refine⟨_,rfl,true,.inl ⟨_,SqL.of hl,by simp⟩,qA (by decide) ⟨_,rfl,a,kN T,T.length,kd,fn,rfl,hws,hfn,hf,hn,fun H1 g1=>⟨_,rfl,qA (by decide) ?_⟩⟩⟩;refine⟨_,rfl,a,_,_,_,rfl,rfl,g1.seq hws,at0,_,rfl,_,rfl,tl,_,_,_,rfl,rfl,SqL.of (g1 _ _ hl),aD _ _,z,Ve,_,_,_,rfl,(g1 _ _ k1),Ue.cl,Ue.na _ (by decide),rfl,t,rfl,⟨_,g1.tp k2⟩,fC (xs:=ps.map V.ref) (fun j ys H2=>H2=H1/\ys=((s.2.take j).map (·.1)).map V.str) ⟨rfl,rfl⟩ (fun j ys H2 _ z=>⟨by rw[z.1];exact g1.tp k2,by rw[z.2,ε,ε,wy];exact AO _ _⟩) (qG (by omega)) (fun j x ys H2 os ho hx z=>?_) (fun ys H2 z p hp=>?_)⟩
 ·obtain⟨rfl,rfl⟩:=z;obtain⟨o1,o2,rfl⟩:=aHm ho;obtain⟨u,hu,rfl⟩:=vF hx;obtain⟨nm',kd',kk,hfs,hq,hko⟩:=k3.get hu;refine⟨u,_,rfl,g1.tp hq,rfl,_,_,rfl,_,_,rfl,rfl,_,rfl,⟨rfl,?_⟩,[_,_],rfl,rfl⟩;rw[aP hfs,Ψ];rfl
 ·obtain⟨rfl,rfl⟩:=z;clear 1 p H3 g3 k4 hp;refine⟨p,_,rfl,.inl (SqL.of k4),rfl,kZ _,_,rfl,?_⟩;rw[if_neg ρ,qB,zl,vM];refine qA (by rw[decide_eq_false hnew];decide) ⟨_,rfl,a,kN T,T.length,kd,fn,rfl,g3.seq (g1.seq hws),hf,hn,fun l H4 g4 hl4 k5=>?_⟩;have g14:=(g1.trans g3).trans g4;have zn:((Kd.named (kN T) kd).map V.str).length=(Kd.named (kN T) kd).length:=ε _;refine⟨_,rfl,l,_,rfl,SqL.of k5,iB (xs:=(Kd.named (kN T) kd).map V.str) (fun i σ H'=>∃o4 o5,σ = [some (.ref tl),some x,some (.ref a),some (.ref l),o4,o5]/\jJ H4 H') ⟨_,_,rfl,jJ.refl _⟩ (fun i σ H' _ z=>?_) (fun i x σ H' p hx z hp=>?_) (fun σ H' z=>?_)⟩
  ·obtain⟨o4,o5,rfl,g⟩:=z;exact g.seq (SqL.of k5)
  ·obtain⟨o4,o5,rfl,g⟩:=z;obtain⟨y,hy,rfl⟩:=qM hx;have g5:=yE hp (.tup [.int (i:Int),.str y]);have k6:upd H' p (.tup [.int (i:Int),.str y]) p=_:=jF;generalize upd H' p (.tup [.int (i:Int),.str y])=H5 at g5 k6;refine⟨p,_,rfl,SqT.of k6,rfl,_,_,rfl,_,_,rfl,rfl,_,rfl,_,rfl,_,rfl,_,rfl,l,_,rfl,(g.trans g5).seq (SqL.of k5),fun p2 hp2=>?_⟩;rw[aHd];clear 1 p2 H6 g6 k7 hp2;rw[←List.map_take]at k7;refine⟨p2,_,rfl,.inl (SqL.of k7),rfl,kZ _,_,rfl,?_⟩;rw[if_neg ρ,qB];refine qA (fun z=>?_) ⟨_,_,rfl,(g.trans g5).trans g6⟩;have hm:y∈(Kd.named (kN T) kd).take i:=of_decide_eq_true z;obtain⟨j,hj⟩:=zd.mp hm;have hji:j<i:=by have:=(θ.mp hj).1;rw[wy]at this;omega
   rw[CI hji]at hj;obtain⟨a1,b1⟩:=θ.mp hj;obtain⟨a2,b2⟩:=θ.mp hy;exact List.pairwise_iff_getElem.mp n1 j i a1 a2 hji (b1.trans b2.symm)
  ·obtain⟨o4,o5,rfl,g⟩:=z;refine⟨_,rfl,l,rfl,⟨_,g.seq (SqL.of k5)⟩,eH (xs:=(Kd.named (kN T) kd).map V.str) (fun i σ H'=>∃o4 o5,σ = [some (.ref tl),some x,some (.ref a),some (.ref l),o4,o5]/\jJ H4 H') ⟨_,_,rfl,g⟩ (fun i σ H' _ z=>?_) (fun i x σ H' hx z=>?_) (fun σ H' z=>?_)⟩
   ·obtain⟨o4,o5,rfl,g⟩:=z;exact g.seq (SqL.of k5)
   ·obtain⟨o4,o5,rfl,g⟩:=z;obtain⟨y,hy,rfl⟩:=qM hx;obtain⟨j,hj,rfl⟩:=n2 y (xk hy);have hT:T[j]?=some T[j]:=ν hj;have hsa:sa[j]?=some (sa[j]'(by rw[hw0.1];exact hj)):=ν _;have hv:=aMq hnd hT hsa;rw[←xI hT]at hv;refine⟨_,rfl,_,rfl,tl,z,sa,T,s,rfl,(g14.trans g) _ _ hl,hw.same (g14.trans g),hnd,hlen,fun d H5 g5 hd k6=>⟨d,_,rfl,zZ.k (k:=Az (kN T j)) k6,_,rfl,?_⟩⟩;rw[hv];exact qA (by simp) ⟨_,_,rfl,g.trans g5⟩
   ·obtain⟨o4,o5,rfl,g⟩:=z;exact q H' (g14.trans g)
theorem aEz(F:Fun K "kind_in" "kind_in" lD f fd)(gj:Df K mg "kind_in" iy ib ["words","shapes"])(oo:jJ k iy ib ["words","shapes"] (aFs (jK 0) K r))(vi:DfI K qd ["self","width"])(vj:jJ k cIu qd ["self","width"] (aEg Va "width"))(dh:DfI K az ["self","shape"])(di:jJ k cIv az ["self","shape"] (aEg Vb "shape"))(uy:DfI K oq ["self","count","kind"])(uz:jJ k cIx oq ["self","count","kind"] (spI2 Vc "count" "kind"))(va:DfI K ou ["self","shapes"])(vb:jJ k cIy ou ["self","shapes"] (spIT K Vd "shapes")):jJ (k+2) f fd ["words","shapes"] (aFs (jK 0) K (r+1)):=by
 w_cond aEm;obtain⟨a,d,kd,sa,T,rfl,hlv,hl,hd,hf,hn,hnd,hsl,q⟩:=h;refine⟨_,(jC (kL (jV qZ (kO jZ (pv 0) jH (fun _ _=>rfl)) jM (kB _)) (jD (jO (vJ Ua.ma vj hr0 rfl Ua.m vi.b .nil jS (jA (vY aA rfl M.int boot_int (jA (kO jZ (pv 0) jH (fun _ _=>rfl)) jB)) jB)))) jX) (jC (kL (jV qZ (kO jZ (pv 0) jH (fun _ _=>rfl)) jM (kB _)) (jD (jO (vJ Uc.ma uz hr0 rfl Uc.m uy.b .nil jS (jA (vY aA rfl M.int boot_int (jA (kO jZ (pv 0) jH (fun _ _=>rfl)) jB)) (jA (jN oo hr rfl gj.m gj.k gj.b .nil jS (jA (kS qF (pv 0) (qC jH) qJ) (jA (pv 1) jB))) jB))))) jX) (jC (kL (jV qZ (kO jZ (pv 0) jH (fun _ _=>rfl)) jM (kB _)) (jD (jO (vJ Ud.ma vb hr0 rfl Ud.m va.b .nil jS (jA (qT ["name"] ["shapes"] [1] rfl (vO (kS qF (pv 0) (qC jH) qJ)) rfl ⟨rfl,trivial⟩ ⟨⟨rfl,rfl,rfl,_,rfl⟩,trivial⟩ (fun _ _ _ _=>(jT (i:=0) (show yy (["name","shapes"]:List Str) from by ac_rfl) rfl (yl rfl))) (fun _ _ _ _=>qX) (fun _ _ _ _=>(cW hr.units1 (pv 1) (pv 0) (fun _ _=>rfl)))) jB)))) jX) (jD (jO (vJ Ub.ma di hr0 rfl Ub.m dh.b .nil jS (jA (cW hr.units1 (pv 1) (kO jZ (pv 0) jH (fun _ _=>rfl)) (fun _ _=>rfl)) jB))))))),?_⟩;have look:∀i,i<T.length->∃s,sa[i]?=some s/\xR (dk T sa) (.inr (kN T i))=some (.ref s):=fun i hi=>by
  have hT:T[i]?=some T[i]:=ν hi;have hs:sa[i]?=some (sa[i]'(by omega)):=ν _;exact⟨_,hs,by rw[xI hT];exact aMq hnd hT hs⟩
 cases kd with
 |num w =>
  obtain⟨_,d2,_,d4⟩:=dig (w:=w) (by have:=hf.2;omega);exact⟨_,rfl,a,_,_,_,rfl,rfl,hl,rfl,rfl,_,rfl,vL (by decide) ⟨_,rfl,a,_,_,_,rfl,rfl,hl,rfl,_,_,rfl,d4,by omega,fun x dx hx hdx _=>⟨x,dx,.int w,H,rfl,jF,zU hx hdx,hx,fun H1 g1 k1=>⟨rfl,q x H1 g1 (.num k1)⟩⟩⟩⟩
 |nest i =>
  have hx:=hn i hf;obtain⟨s,hs,hv⟩:=look i hf;exact⟨_,rfl,a,_,_,_,rfl,rfl,hl,rfl,rfl,_,rfl,qA (by simpa using cQ hx (y:="num") (by decide)) ⟨_,rfl,a,_,_,_,rfl,rfl,hl,rfl,rfl,_,rfl,qA (by simpa using cQ hx (y:="row") (by decide)) ⟨_,rfl,a,_,_,_,rfl,rfl,hl,rfl,rfl,_,rfl,qA (by simpa using cQ hx (y:="pick") (by decide)) ⟨_,rfl,_,rfl,a,_,_,_,rfl,rfl,hl,rfl,d,.ref s,rfl,(by rw[←hv];exact zZ.k (k:=Az (kN T i)) hd),fun x dx hx hdx _=>⟨x,dx,.ref s,H,rfl,jF,zU hx hdx,hx,fun H1 g1 k1=>⟨rfl,q x H1 g1 (.nest hs k1)⟩⟩⟩⟩⟩⟩
 |many m k =>
  obtain⟨_,d2,_,d4⟩:=dig (w:=m) (by have:=hf.2.1;omega);have hl':SqL K H a (V.str (δ "row")::V.str (δ (toString (m:Int)))::(k.words (kN T)).map V.str):=hl;refine⟨_,rfl,a,_,_,_,rfl,rfl,hl',at0,rfl,_,rfl,qA (by decide) ⟨_,rfl,a,_,_,_,rfl,rfl,hl',at0,rfl,_,rfl,vL (by decide) ⟨_,rfl,a,_,_,_,rfl,rfl,hl',at1,_,_,rfl,d4,by omega,_,rfl,_,rfl,a,_,rfl,hl',fun p hp=>?_⟩⟩⟩;rw[aQf];clear 1 p H1 g1 k1 hp;have hlk:k.lv=0:=by rcases hf.2.2 with⟨w,rfl,_⟩|⟨i,rfl,_⟩ <;> rfl
  refine⟨_,rfl,p,d,k,sa,T,rfl,(by rw[hlk];have : 1<r+1:=hlv;omega),SqL.of k1,g1 _ _ hd,hf.sub,hn,hnd,hsl,fun b H2 g2 ko=>?_⟩;exact fun x dx hx hdx _=>⟨x,dx,.int m,.ref b,H2,rfl,jF,zU hx hdx,hx,fun H3 g3 k3=>⟨rfl,q x H3 ((g1.trans g2).trans g3) (.many k3 (ko.same g3))⟩⟩
 |pick is =>
  have hl':SqL K H a (V.str (δ "pick")::(is.map (kN T)).map V.str):=hl;have h2:=hf.2.1;have zl:((is.map (kN T)).map V.str).length=is.length:=by rw[ε,ε]
  refine⟨_,rfl,a,_,_,_,rfl,rfl,hl',at0,rfl,_,rfl,qA (by decide) ⟨_,rfl,a,_,_,_,rfl,rfl,hl',at0,rfl,_,rfl,qA (by decide) ⟨_,rfl,a,_,_,_,rfl,rfl,hl',at0,rfl,_,rfl,vL (by decide) ⟨_,rfl,_,rfl,a,_,rfl,hl',fun p hp=>?_⟩⟩⟩⟩;rw[aAx];clear 1 p H1 g1 k1 hp;refine⟨p,rfl,⟨_,SqL.of k1⟩,xT (xs:=(is.map (kN T)).map V.str) (fun j ys H'=>H'=H1/\∃ss:List Addr,ys=ss.map V.ref/\ss.length=j/\∀(b i:Nat) (s:Addr),is[b]?=some i->ss[b]?=some s->sa[i]?=some s) ⟨rfl,[],rfl,rfl,fun b i s _ z=>by simp at z⟩ (fun j ys H' _ z=>?_) (qG (by omega)) (fun j x ys H' hx z=>?_) (fun ys H' z p2 hp2=>?_)⟩
  ·obtain⟨rfl,ss,rfl,hss,_⟩:=z;exact⟨SqL.of k1,by rw[ε];omega⟩
  ·obtain⟨rfl,ss,rfl,hss,hall⟩:=z;obtain⟨y,hy,rfl⟩:=qM hx;rw[xw]at hy;cases e:is[j]? with
   |none=>rw[e]at hy;cases hy
   |some i =>
    rw[e]at hy;cases hy;obtain⟨s,hs,hv⟩:=look i (hf.2.2.2 i (xk e));refine⟨_,rfl,_,rfl,d,.ref s,rfl,(by rw[←hv];exact zZ.k (k:=Az (kN T i)) (g1 _ _ hd)),⟨rfl,ss++[s],by rw[Ψ];rfl,by rw[η,hss];rfl,fun b i' s' hb1 hb2=>?_⟩,_,rfl⟩;rcases xG hb2 with hb2|⟨eb,es⟩
    ·exact hall b i' s' hb1 hb2
    ·rw[eb,hss,e]at hb1;cases hb1;rw[es];exact hs
  ·obtain⟨rfl,ss,rfl,hss,hall⟩:=z;clear 1 p2 H2 g2 k2 hp2;exact fun x dx hx hdx _=>⟨x,dx,p2,_,H2,rfl,jF,zU hx hdx,hx,SqL.of k2,fun t H3 g3 k3 k4=>⟨rfl,q x H3 ((g1.trans g2).trans g3) (.pick k3 k4 (by rw[hss,zl]) hall)⟩⟩
theorem pS(F:Fun K "is_too_much" "is_too_much" bT f fd)(dg:DfM K Ve "size" cz cp ["self"])(gi:jJ k cz cp ["self"] (mL (jK 0) K r sSz))(my:DfM K Ve "units" mx lf ["self"])(ug:jJ k mx lf ["self"] (aQm (jK 0) K r))(cu:DfM K Ve "depth" cq bz ["self"])(fu:jJ k cq bz ["self"] (mL (jK 0) K r sDp)):jJ (k+2) f fd ["shape"] (spTM (jK 0) K r):=by
 w_cond rL;obtain⟨a,i,sa,S,rfl,e,hi,h8,hw,hg,⟨b1,b2,b3⟩,q⟩:=h;refine⟨_,(jC (kL (PW.pt (sA (jV fK (kA kE rfl M.len yj (jA (kK (pv 0) rfl) jB)) (kM (v:=.int 6) rfl C.MOST_FIELDS ⟨_,rfl⟩) (kB _)) (fW (jV fK (xJ (pv 0) Ue.cl dg.me gi hr dg.b .nil jS) (kM (v:=.int 64) rfl C.MOST_CELLS ⟨_,rfl⟩) (kB _))))) (jD (jO aGc)) jX) (jD (jO (pe_or (qY fK (kA kE rfl M.len yj (jA (xJ (pv 0) Ue.cl my.me ug hr my.b .nil jS) jB)) (kM (v:=.int 40) rfl C.MOST_UNITS ⟨_,rfl⟩) (kB _)) (dR (qY fK (xJ (pv 0) Ue.cl cu.me fu hr cu.b .nil jS) (kM (v:=.int 4) rfl C.MOST_DEPTH ⟨_,rfl⟩) (kB _))))))),?_⟩;obtain⟨s,hS,dx,t,ps,k1,k2,k3⟩:=hw.at e;have h6:=hg.few i s hS;have zl:(ps.map V.ref).length=s.2.length:=by rw[ε];exact k3.len
 refine⟨_,rfl,a,Ve,_,_,_,rfl,k1,Ue.cl,Ue.na _ (by decide),rfl,t,_,rfl,.inr k2,_,_,rfl,rfl,_,rfl,qA (by rw[zl];simp;omega) ⟨_,rfl,a,dx,_,rfl,k1,rfl,a,i,sa,S,rfl,e,(by omega),hw,hg,fun H1 g1=>⟨_,_,rfl,rfl,_,rfl,qA (by have:sSz i (tabs S)<=64:=b1;simp;omega) ?_⟩⟩⟩;refine⟨_,rfl,a,dx,_,rfl,g1 _ _ k1,rfl,a,i,sa,S,rfl,e,hi,h8,hw.same g1,hg,fun l H2 g2 hl ⟨us,ku,ur⟩=>⟨l,_,rfl,.inl (SqL.of ku),_,_,rfl,rfl,_,rfl,qA (by rw[ε,ur.len];simp;omega) ?_⟩⟩;refine⟨_,rfl,a,dx,_,rfl,g2 _ _ (g1 _ _ k1),rfl,a,i,sa,S,rfl,e,(by omega),hw.same (g1.trans g2),hg,fun H3 g3=>⟨_,_,rfl,rfl,?_⟩⟩
 (try dsimp only)
 rw[decide_eq_false (by have:sDp i (tabs S)<=4:=b3;omega)];exact q H3 ((g1.trans g2).trans g3)
theorem sI(F:Fun K "with_field" "with_field" cL f fd)(gj:Df K mg "kind_in" iy ib ["words","shapes"])(oo:jJ k iy ib ["words","shapes"] (aFs (jK 0) K 2))(cy:Df K mg "whole_shapes" fq fc ["told"])(io:jJ k fq fc ["told"] (spWh (jK 0) K))(jl:DfI K fw ["self","name","fields"])(jm:jJ k cIz fw ["self","name","fields"] (aLv (jK 0) K))(jb:Df K mg "is_too_much" mz lg ["shape"])(uh:jJ k mz lg ["shape"] (spTM (jK 0) K r)):jJ (k+2) f fd ["told","line","words"] (spWF (jK 0) K r):=by
 w_cond bR;obtain⟨tl,a,z,x,sa,T,s,fn,kd,rfl,hl,hw,hws,hf,hn,hnd,hlen,hr1,h8,hs50,hg,hb,q⟩:=h;refine⟨_,(jC (jY (i:=3) bR.nd rfl (by walk_at"o") (jN oo hr rfl gj.m gj.k gj.b .nil jS (jA (kS qF (pv 2) (qC jH) qJ) (jA (jN io hr rfl cy.m cy.k cy.b .nil jS (jA (pv 0) jB)) jB)))) (jC (jY (i:=4) bR.nd rfl (by walk_at"o") (vJ Ue.ma jm hr0 rfl Ue.m jl.b .nil jS (jA (kK (kO jZ (pv 0) (cI yR jH) (fun _ _=>rfl)) rfl) (jA (jP aMf (kK (kO jZ (pv 0) (cI yR jH) (fun _ _=>rfl)) rfl) (zO (jA (zO (jA (kO jZ (pv 2) jH (fun _ _=>rfl)) (jA (pv 3) jB))) jB))) jB)))) (jC (kL (yI (jN uh hr rfl jb.m jb.k jb.b .nil jS (jA (pv 4) jB))) (jD xL) jX) (jD (jO (pv 4)))))),?_⟩;obtain⟨hw0,dx,t,ps,k1,k2,k3⟩:=hw.init;refine⟨_,rfl,_,rfl,a,_,rfl,hws,fun p hp=>?_⟩;rw[show zF ((fn::kd.words (kN T)).map V.str) (some 1) none=(kd.words (kN T)).map V.str from aAx _ _];clear 1 p H1 g1 kp hp;refine⟨_,rfl,tl,z,sa,T,s,rfl,g1 _ _ hl,hw.same g1,hnd,hlen,fun d H2 g2 hd kd2=>?_⟩;refine⟨p,d,kd,sa,T,rfl,(by cases kd <;> simp[Kd.lv]),g2.seq (SqL.of kp),kd2,hf,hn,hnd,hw0.1,fun k H3 g3 ko=>?_⟩;have g13:=(g1.trans g2).trans g3;refine⟨_,rfl,_,rfl,tl,_,_,_,rfl,rfl,SqL.of (g13 _ _ hl),aD _ _,z,Ve,_,_,_,rfl,(g13 _ _ k1),Ue.cl,Ue.na _ (by decide),rfl,_,rfl,_,rfl,tl,_,_,_,rfl,rfl,SqL.of (g13 _ _ hl),aD _ _,z,Ve,_,_,_,rfl,(g13 _ _ k1),Ue.cl,Ue.na _ (by decide),rfl,_,rfl,a,_,_,_,rfl,rfl,g13.seq hws,at0,_,rfl,vK,fun u hu=>?_⟩;clear 1 u H4 g4 k4 hu;refine⟨iC,fun v hv=>?_⟩;clear 1 v H5 g5 k5 hv;have hps:ps.length=s.2.length:=k3.len;refine⟨t,v,ps.map V.ref,[.ref u],rfl,rfl,(g4.trans g5).tp (g13.tp k2),SqT.of k5,(by simp),(by rw[ς,ε];simp;omega),fun fl H6 g6 hfl=>?_⟩;have g36:=(g4.trans g5).trans g6;refine fun y dy hy hdy _=>⟨y,dy,fl,s.1,ps++[u],s.2++[(fn,kd)],sa,H6,rfl,jF,zU hy hdy,hy,.inr (by rw[Ψ];exact hfl),(k3.same (g13.trans g36)).snoc ((g5.trans g6).tp (SqT.of k4)) (ko.same g36),(by rw[η];show s.2.length+1<=100;omega),fun t' ps' H7 g7 k7 st fo=>⟨rfl,?_⟩⟩;have gA:=(g13.trans g36).trans g7;have so:SO (jK 0) K H7 sa y (s.1,s.2++[(fn,kd)]):=⟨dy,t',ps',k7,st,fo⟩;have hsw:=(hw0.same gA).snoc so;have hsl:sa.length=T.length:=hw0.1;exact⟨_,rfl,y,T.length,sa++[y],_,rfl,(by rw[←hsl,xa (μ _),Ap];rfl),hr1,h8,hsw,hg,hb,fun H8 g8=>⟨_,rfl,qA (by decide) ⟨_,rfl,q y H8 (gA.trans g8) (so.same g8)⟩⟩⟩
theorem rQ{k r:Nat}(F:Fun K "read_shapes" "read_shapes" bQ f fd){jy:Addr}{jo:yn}(ic:Df K mg "is_shape_line" jy jo ["words"])(rm:jJ k jy jo ["words"] (aPu K)){jp:Addr}{je:yn}(gw:Df K mg "need_new_shape" jp je ["told","line","name"])(rc:jJ k jp je ["told","line","name"] (aQa (jK 0) K)){fw:yn}(jl:DfI K fw ["self","name","fields"])(jm:jJ k cIz fw ["self","name","fields"] (aLv (jK 0) K)){ow:Addr}{ng:yn}(jq:Df K mg "need_field" ow ng ["told","line","words"])(uq:jJ k ow ng ["told","line","words"] (spNF (jK 0) K)){oy:Addr}{nh:yn}(jr:Df K mg "with_field" oy nh ["told","line","words"])(uu:jJ k oy nh ["told","line","words"] (spWF (jK 0) K r)){lh:yn}(ui:DfI K lh ["self","shapes"])(uj:jJ k cIw lh ["self","shapes"] (spIT K Vf "shapes")):jJ (k+2) f fd ["text"] (spRd (jK 0) Vf K r):=by
 w_cond vH;obtain⟨S,rfl,hW,hne,hr12,h8,q⟩:=h;refine⟨_,(jC (kL (bP (yI (kA iF rfl M.isinstance BW (jA (pv 0) (jA (iS (v:=.ty "str") rfl M.str boot_str rfl) jB))))) (jD xL) jX) (jC (jY (i:=1) vH.nd rfl (by walk_at"o") (zV Aj AJ AK aF (pv 0) (jA jM jB))) (jC (jY (i:=2) vH.nd rfl (by walk_at"o") (kH jB)) (jC (xC zw rfl (oM rfl M.enumerate (jA (pv 1) jB)) (yU rfl (kC (jT (i:=3) vH.nd rfl (yl rfl)) (kC (jT (i:=4) vH.nd rfl (yl rfl)) qS))) (jC (jY (i:=5) vH.nd rfl (by walk_at"o") (zV Aj AJ AK aF (pv 4) (jA jM jB))) (jD (kL (yI (jN rm hr rfl ic.m ic.k ic.b .nil jS (jA (pv 5) jB))) (jC (qO (jN rc hr rfl gw.m gw.k gw.b .nil jS (jA (pv 2) (jA (pv 3) (jA (kO jZ (pv 5) jH (fun _ _=>rfl)) jB))))) (jD (qO (zV zb zy Aa xS (pv 2) (jA (vJ Ue.ma jm hr0 rfl Ue.m jl.b .nil jS (jA (kO jZ (pv 5) jH (fun _ _=>rfl)) (jA (kH jB) jB))) jB))))) (jC (qO (jN uq hr rfl jq.m jq.k jq.b .nil jS (jA (pv 2) (jA (pv 3) (jA (pv 5) jB))))) (jD (eN (jN uu hr rfl jr.m jr.k jr.b .nil jS (jA (pv 2) (jA (pv 3) (jA (pv 5) jB)))) (aEu (pv 2) (cI yR jH) set_list)))))))) (jC (kL (bP (yZ (kK (kO jZ (pv 2) (cI yR jH) (fun _ _=>rfl)) rfl) (fun _=>rfl))) (jD xL) jX) (jD (jO (vJ Uf.ma uj hr0 rfl Uf.m ui.b .nil jS (jA (pv 2) jB))))))))),?_⟩;obtain⟨h30,hrow,htl,hsp⟩:=aSf hW hne;have hok:=aGm hW;refine⟨_,rfl,_,_,"str",rfl,by decide,rfl,_,rfl,qA (by decide) ⟨_,rfl,rfl,_,_,rfl,rfl,rfl,(by rw[ς];omega),fun p hp=>?_⟩⟩;rw[show yu (txt S) (δ "\n")=_ from hsp];clear 1 p H1 g1 k1 hp;refine⟨dS,fun tl hq=>?_⟩;clear 1 tl H2 g2 k2 hq;have hq0:H tl=none:=g1.free hq;have npt:p≠tl:=jI k1 hq;have k12:=g2 _ _ k1;have zl:(((xD S).map fun it=>xl spS (it.line (kN S))).map V.str).length=(xD S).length:=by rw[ε,ε]
 refine⟨_,rfl,p,_,rfl,SqL.of k12,iB (xs:=((xD S).map fun it=>xl spS (it.line (kN S))).map V.str) (fun i σ H'=>∃(o3 o4 o5:Option V) (sa:List Addr) (T:List Shp),σ = [some (.str (txt S)),some (.ref p),some (.ref tl),o3,o4,o5]/\But tl H2 H'/\H' tl=some (.lst (sa.map V.ref))/\SW (jK 0) K H' sa T/\nM S i T) ⟨_,_,_,[],[],rfl,But.refl,k2,SW.nil,nM.start S⟩ (fun i σ H' _ z=>?_) (fun i x σ H' p2 hx z hp2=>?_) (fun σ H' z=>?_)⟩
 ·obtain⟨o3,o4,o5,sa,T,rfl,g,_⟩:=z;exact SqL.of (g _ _ npt k12)
 ·obtain⟨o3,o4,o5,sa,T,rfl,g,kl,hw,hst⟩:=z;obtain⟨row,hrw,rfl⟩:=qM hx;rw[xw]at hrw;cases eit:(xD S)[i]? with
  |none=>rw[eit]at hrw;cases hrw
  |some it =>
  rw[eit]at hrw;cases hrw;have hit:=xk eit;obtain⟨r100,rsp⟩:=hrow it hit;obtain⟨ok1,ok2,ok3⟩:=hok it hit;obtain⟨S1,s,S2,eS,hnx⟩:=hst.next (θ.mp eit).1;clear 1 p2 H3 g3 k3 hp2;refine⟨p2,_,rfl,SqT.of k3,rfl,_,_,rfl,_,_,rfl,rfl,_,rfl,rfl,_,_,rfl,rfl,rfl,(by rw[ς];show(xl L2.spS (it.line (kN S))).length+2<=_;omega),fun wa hwa=>?_⟩;rw[show yu (xl spS (it.line (kN S))) (δ " ")=_ from rsp];clear 1 wa H4 g4 k4 hwa;have g34:=g3.trans g4;refine⟨_,rfl,wa,it.line (kN S),rfl,⟨SqL.of k4,fun w hw=>by have:=(ok1 w hw).2;omega,by omega⟩,fun H5 g5=>⟨_,rfl,?_⟩⟩;have g35:=g34.trans g5;have kl5:=g35 _ _ kl;have hw5:=hw.same g35;have kw5:=g5 _ _ k4;have hsS:s∈S:=by rw[eS];exact xx _ (ο ..)
  have hS1:∀t∈S1,t∈S:=fun t ht=>by rw[eS];exact Aq _ ht
  have hlen:=hW.len;have hnd1:(S1.map (·.1)).Nodup/\s.1∉S1.map (·.1):=by
   have:=hW.nd;rw[eS,Ψ,Cg]at this;exact⟨this.1,fun z=>this.2.2 _ z _ (ο ..) rfl⟩
  have hl1:S1.length<5:=by rw[eS,η,Ξ]at hlen;omega
  rcases hnx with⟨ei,rfl,hst2⟩|⟨f1,n,kd,f2,ef,ei,rfl,hst2⟩
  ·rw[eit]at ei;cases ei;have hnm:=hW.nm s hsS;have hws:SqL K H5 wa [V.str (δ "shape"),V.str s.1]:=SqL.of kw5;refine vL (by show(decide (δ "shape" = δ "shape")&&kT s.1)=true;rw[hnm];decide) ⟨_,rfl,_,rfl,_,rfl,wa,_,_,_,rfl,rfl,hws,rfl,tl,_,s.1,sa,T,rfl,kl5,hw5,(fun t ht=>?_),hnd1.2,by omega,fun H6 g6=>?_⟩
   ·obtain⟨j,hj⟩:=zd.mp ht;exact hW.good.ne j t (by rw[eS,xo (θ.mp hj).1];exact hj)
   have kl6:=g6 _ _ kl5;refine⟨_,rfl,.inl ⟨rfl,_,SqL.of kl6⟩,_,rfl,wa,_,_,_,rfl,rfl,g6.seq hws,rfl,dS,fun el hel=>?_⟩;clear 1 el H7 g7 k7 hel;refine fun y dy hy hdy _=>⟨y,dy,el,s.1,[],[],sa,H7,rfl,jF,zU hy hdy,hy,.inl (SqL.of k7),.nil,by decide,fun t ps' H8 g8 k8 st fo=>⟨rfl,?_⟩⟩;have g58:=(g6.trans g7).trans g8;have kl8:=g58 _ _ kl5;have hsl:=hw.1;refine⟨tl,_,_,rfl,rfl,kl8,(by rw[ε];exact zx (show sa.length<=5 by omega) (by decide)),?_⟩;clear 0 tl H9 g9 k9;exact⟨_,_,_,sa++[y],_,rfl,(g.trans (But.of (g35.trans g58))).trans g9,by rw[Ψ];exact k9,((hw5.same g58).snoc (s:=(s.1,[])) ⟨dy,t,ps',k8,st,fo⟩).but g9 kl8,hst2⟩
  ·rw[eit]at ei;cases ei;obtain⟨sa0,z,rfl⟩:=aGx hw.1;have hfm:(n,kd)∈s.2:=by rw[ef];exact xx _ (ο ..)
   have hnm:=hW.fnm s hsS _ hfm;have hi1:S[S1.length]?=some s:=by rw[eS,xa (μ _),Ap];rfl
   have hfit:=(hW.good.fit _ _ hi1 _ hfm).1;have hns:NOk (kN S1) S1.length:=aEe fun t ht=>hW.nm t (hS1 t ht);have ew:kd.words (kN S)=kd.words (kN S1):=mU (fun j hj=>by rw[eS];exact aLe hj) hfit.below;have hws:SqL K H5 wa ((n::kd.words (kN S1)).map V.str):=by rw[←ew];exact SqL.of kw5
   obtain⟨pg,pb,p5⟩:=hW.pre (f1:=f1++[(n,kd)]) (f2:=f2) eS (by rw[ef,yc];rfl) (by simp);rw[η,xm]at p5;have hfn:n∉f1.map (·.1):=fun z=>by
    have:=hW.fnd s hsS;rw[ef,Ψ,Cg]at this;exact this.2.2 _ z _ (ο ..) rfl
   refine qA (by rw[show aBs ((Itm.fd n kd).line (kN S))=false from aOr hnm];decide) ⟨_,rfl,_,rfl,_,rfl,tl,wa,z,_,sa0,S1,(s.1,f1),n,kd,rfl,kl5,hw5,hws,hnm,hfn,(by show f1.length<=100;omega),hfit,hns,hnd1.1,by omega,fun H6 g6=>?_⟩;refine⟨_,rfl,_,rfl,_,rfl,tl,wa,z,_,sa0,S1,(s.1,f1),n,kd,rfl,g6 _ _ kl5,hw5.same g6,g6.seq hws,hfit,hns,hnd1.1,by omega,by omega,h8,(by show f1.length<=50;omega),pg,pb,fun y H7 g7 so=>?_⟩;have g57:=g6.trans g7;have kl7:=g57 _ _ kl5;refine⟨_,rfl,_,rfl,tl,_,_,_,rfl,rfl,kl7,aMg _ _,?_⟩;rw[aKq];clear 0 tl H9 g9 k9;exact⟨_,_,_,sa0++[y],_,rfl,(g.trans (But.of (g35.trans g57))).trans g9,k9,((hw5.init.1.same g57).snoc so).but g9 kl7,hst2⟩
 ·obtain⟨o3,o4,o5,sa,T,rfl,g,kl,hw,hst⟩:=z;rw[zl]at hst;have eT:=hst.done;subst eT;have gH:jJ H H':=But.from (g1.trans g2) hq0 g;rcases Ca T with rfl|⟨T0,s,rfl⟩
  ·exact absurd rfl hne
  ·rw[Cb]at *;obtain⟨sa0,z,rfl⟩:=aGx hw.1;obtain⟨hw0,dx,t,ps,m1,m2,m3⟩:=hw.init;have hs:=hW.good.ne T0.length s (by rw[xa (μ _),Ap];rfl);have hps:ps≠[]:=fun e=>hs (BJ.mp (by rw[←m3.len,e];rfl));refine⟨_,rfl,_,rfl,tl,_,_,_,rfl,rfl,SqL.of kl,aD _ _,z,Ve,_,_,_,rfl,m1,Ue.cl,Ue.na _ (by decide),rfl,true,.inr (.inl ⟨_,m2,by cases ps with|nil=>exact absurd rfl hps|cons _ _=>rfl⟩),qA (by decide) ⟨_,rfl,?_⟩⟩;exact fun y dy hy hdy _=>⟨y,dy,tl,_,H',rfl,jF,zU hy hdy,hy,SqL.of kl,fun t H3 g3 k3 k4=>⟨rfl,q y dy t _ H3 (gH.trans g3) k3 k4 (hw.same g3)⟩⟩
theorem aEw{k:Nat}(F:Fun K "_law_box" "_law_box" mH f fd):jJ (k+2) f fd ["_law_cell_here"] aLo:=by
 w_cond aFb;obtain⟨c,rfl,q⟩:=h;refine⟨_,(jD (jO (kH (jA (kA (aHg rfl) rfl M.max boot_max (jA jH (jA (jP gJ (pv 0) (jP aRc jH jH)) jB))) (jA (jP eK (pv 0) jH) (jA jH jB)))))),?_⟩;exact⟨_,rfl,_,_,rfl,rfl,⟨by decide,by decide,by decide⟩,_,_,rfl,rfl,_,_,rfl,_,rfl,_,_,rfl,rfl,(by show(0:Int)<_;decide),lU,fun p hp=>q p _ hp ⟨⟨_,_,_,jF⟩,fun b o n e=>by rw[jR n];exact e⟩⟩
theorem iT{k:Nat}(F:Fun K "__init__" "RoomError.__init__" yV f fd):jJ (k+2) f fd ["self","words"] (spRE K):=by
 w_cond hU;obtain⟨e,v,C',R,fI,dx,rfl,he,cx,q⟩:=h;refine⟨_,(jD (qO (aMu VI (iS (v:=.ty "ValueError") rfl M.ValueError (show AG "ValueError" = some (.type "ValueError") from by ac_rfl) rfl) (jA (pv 0) (jA (pv 1) jB))))),?_⟩;exact⟨_,rfl,_,rfl,e,v,C',R,fI,dx,rfl,he,cx,q⟩
theorem aCm{k:Nat}(F:Fun K "__init__" "Row.__init__" fY f fd):jJ (k+2) f fd ["self","line","deed","goal","reads","steps","number"] (aHt ah "line" "deed" "goal" "reads" "steps" "number"):=by
 w_cond aAo;obtain⟨a,dx,v1,v2,v3,v4,v5,v6,H1,rfl,hA,g,h0,q⟩:=h;refine⟨_,(jC (qD (pv 0) (pv 1) rfl) (jC (qD (pv 0) (pv 2) rfl) (jC (qD (pv 0) (pv 3) rfl) (jC (qD (pv 0) (pv 4) rfl) (jC (qD (pv 0) (pv 5) rfl) (jD (qD (pv 0) (pv 6) rfl))))))),?_⟩;exact⟨_,rfl,_,rfl,a,ah,dx,[],rfl,hA,aj.cl,aj.na _ (by decide),by decide,_,rfl,_,rfl,a,ah,dx,_,rfl,jF,aj.cl,aj.na _ (by decide),(by show 1<1000;decide),_,rfl,_,rfl,a,ah,dx,_,rfl,jF,aj.cl,aj.na _ (by decide),(by show 2<1000;decide),_,rfl,_,rfl,a,ah,dx,_,rfl,jF,aj.cl,aj.na _ (by decide),(by show 3<1000;decide),_,rfl,_,rfl,a,ah,dx,_,rfl,jF,aj.cl,aj.na _ (by decide),(by show 4<1000;decide),_,rfl,_,rfl,a,ah,dx,_,rfl,jF,aj.cl,aj.na _ (by decide),(by show 5<1000;decide),q _ ((((((g.putn h0).putn h0).putn h0).putn h0).putn h0).putn h0) jF⟩
theorem uP{k:Nat}(F:Fun K "__init__" "Loop.__init__" eQ f fd):jJ (k+2) f fd ["self","line","last","deed","goal","reads","rows"] (aHt ar "line" "last" "deed" "goal" "reads" "rows"):=by
 w_cond uS;obtain⟨a,dx,v1,v2,v3,v4,v5,v6,H1,rfl,hA,g,h0,q⟩:=h;refine⟨_,(jC (qD (pv 0) (pv 1) rfl) (jC (qD (pv 0) (pv 2) rfl) (jC (qD (pv 0) (pv 3) rfl) (jC (qD (pv 0) (pv 4) rfl) (jC (qD (pv 0) (pv 5) rfl) (jD (qD (pv 0) (pv 6) rfl))))))),?_⟩;exact⟨_,rfl,_,rfl,a,ar,dx,[],rfl,hA,bv.cl,bv.na _ (by decide),by decide,_,rfl,_,rfl,a,ar,dx,_,rfl,jF,bv.cl,bv.na _ (by decide),(by show 1<1000;decide),_,rfl,_,rfl,a,ar,dx,_,rfl,jF,bv.cl,bv.na _ (by decide),(by show 2<1000;decide),_,rfl,_,rfl,a,ar,dx,_,rfl,jF,bv.cl,bv.na _ (by decide),(by show 3<1000;decide),_,rfl,_,rfl,a,ar,dx,_,rfl,jF,bv.cl,bv.na _ (by decide),(by show 4<1000;decide),_,rfl,_,rfl,a,ar,dx,_,rfl,jF,bv.cl,bv.na _ (by decide),(by show 5<1000;decide),q _ ((((((g.putn h0).putn h0).putn h0).putn h0).putn h0).putn h0) jF⟩
theorem pU{k:Nat}(F:Fun K "__init__" "Choice.__init__" bJ f fd):jJ (k+2) f fd ["self","line","last","middle","reads","rows","others"] (aHt ai "line" "last" "middle" "reads" "rows" "others"):=by
 w_cond sC;obtain⟨a,dx,v1,v2,v3,v4,v5,v6,H1,rfl,hA,g,h0,q⟩:=h;refine⟨_,(jC (qD (pv 0) (pv 1) rfl) (jC (qD (pv 0) (pv 2) rfl) (jC (qD (pv 0) (pv 3) rfl) (jC (qD (pv 0) (pv 4) rfl) (jC (qD (pv 0) (pv 5) rfl) (jD (qD (pv 0) (pv 6) rfl))))))),?_⟩;exact⟨_,rfl,_,rfl,a,ai,dx,[],rfl,hA,aw.cl,aw.na _ (by decide),by decide,_,rfl,_,rfl,a,ai,dx,_,rfl,jF,aw.cl,aw.na _ (by decide),(by show 1<1000;decide),_,rfl,_,rfl,a,ai,dx,_,rfl,jF,aw.cl,aw.na _ (by decide),(by show 2<1000;decide),_,rfl,_,rfl,a,ai,dx,_,rfl,jF,aw.cl,aw.na _ (by decide),(by show 3<1000;decide),_,rfl,_,rfl,a,ai,dx,_,rfl,jF,aw.cl,aw.na _ (by decide),(by show 4<1000;decide),_,rfl,_,rfl,a,ai,dx,_,rfl,jF,aw.cl,aw.na _ (by decide),(by show 5<1000;decide),q _ ((((((g.putn h0).putn h0).putn h0).putn h0).putn h0).putn h0) jF⟩
theorem nH{k:Nat}(F:Fun K "__init__" "Program.__init__" aQ f fd):jJ (k+2) f fd ["self","shapes","rows","named","written"] (spI4 ci "shapes" "rows" "named" "written"):=by
 w_cond nL;obtain⟨a,dx,v1,v2,v3,v4,H1,rfl,hA,g,h0,q⟩:=h;refine⟨_,(jC (qD (pv 0) (pv 1) rfl) (jC (qD (pv 0) (pv 2) rfl) (jC (qD (pv 0) (pv 3) rfl) (jD (qD (pv 0) (pv 4) rfl))))),?_⟩;exact⟨_,rfl,_,rfl,a,ci,dx,[],rfl,hA,bw.cl,bw.na _ (by decide),by decide,_,rfl,_,rfl,a,ci,dx,_,rfl,jF,bw.cl,bw.na _ (by decide),(by show 1<1000;decide),_,rfl,_,rfl,a,ci,dx,_,rfl,jF,bw.cl,bw.na _ (by decide),(by show 2<1000;decide),_,rfl,_,rfl,a,ci,dx,_,rfl,jF,bw.cl,bw.na _ (by decide),(by show 3<1000;decide),q _ ((((g.putn h0).putn h0).putn h0).putn h0) jF⟩
theorem pZ{k:Nat}(F:Fun K "main" "Shapes.main" bS f fd):jJ (k+2) f fd ["self"] (spMn (jK 0) Vf K):=by
 w_cond pH;obtain⟨ra,z,sa,S,rfl,⟨dx,t,k1,k2,hw⟩,q⟩:=h;refine⟨_,(jD (jO (kO aJp (kK (pv 0) rfl) (cI yR jH) (fun _ _=>rfl)))),?_⟩;exact⟨_,rfl,ra,Vf,_,_,_,rfl,k1,Uf.cl,Uf.na _ (by decide),rfl,_,rfl,t,_,_,_,rfl,rfl,k2,aD _ _,q⟩
theorem aCa{k:Nat}(F:Fun K "bound_of" "bound_of" gO f fd):jJ (k+2) f fd ["width"] spBo:=by
 w_cond aAw;obtain⟨rfl,q⟩:=h;refine⟨_,(jD (jO (jP aRe jH (jP zR jH (pv 0))))),?_⟩;exact⟨_,rfl,_,_,rfl,rfl,(by unfold CMul;decide),_,_,rfl,rfl,⟨by decide,by decide,by decide⟩,q⟩
theorem aPg(F:Fun K "fits" "fits" aFc f fd)(ao:Df K mg "is_name" au aq ["thing"])(bx:jJ k au aq ["thing"] (zC K))(ay:Df K mg "number_in" bt bj ["text","low","high"])(fj:jJ k bt bj ["text","low","high"] (aL K))(mh:Df K mg "bound_of" rn qe ["width"])(vk:jJ k rn qe ["width"] spBo):jJ (k+2) f fd ["part","word"] spFi:=by
 w_cond aOz;obtain⟨p,x,rfl,hx,q⟩:=h;refine⟨_,(jC (kL (jV vN (pv 0) (kM (v:=.ref tNa) rfl C.NAMES rfl) (by with_unfolding_all rfl)) (jD (jO (jN bx hr rfl ao.m ao.k ao.b .nil jS (jA (pv 1) jB)))) jX) (jC (kL (jV qZ (pv 0) jM (kB _)) (jD (jO (qY uT (jN fj hr rfl ay.m ay.k ay.b .nil jS (jA (pv 1) (jA jH (jA (jP gJ (jN vk hr rfl mh.m mh.k mh.b .nil jS (jA (kM (v:=.int 4) rfl C.WORD_CELLS ⟨_,rfl⟩) jB)) jH) jB)))) yQ (kB _)))) jX) (jC (kL (jV qZ (pv 0) jM (kB _)) (jD (jO (qY vN (pv 1) (kM (v:=.ref tSi) rfl C.SIGNS rfl) (by with_unfolding_all rfl)))) jX) (jC (kL (jV qZ (pv 0) jM (kB _)) (jD (jO (qY aFf (pv 1) jM (kB _)))) jX) (jD (jO (qY qZ (pv 1) (pv 0) (kB _)))))))),?_⟩;refine⟨_,rfl,tNa,_,rfl,.inr (C.nams H),rfl,kZ _,_,rfl,?_⟩;rw[if_neg ρ,qB];refine qP (fun c=>?_) (fun c=>?_)
 ·have c':=of_decide_eq_true c;refine⟨_,rfl,.str x,rfl,.inl ⟨x,rfl,hx,fun H1 g1=>?_⟩⟩;have:=q H1 g1;unfold gF at this;rw[if_pos c']at this;exact this
 have c':=of_decide_eq_false (Bg.mpr c);refine⟨_,rfl,rfl,_,rfl,qP (fun d=>?_) (fun d=>?_)⟩
 ·have d':=V.str.inj (of_decide_eq_true d);refine⟨_,rfl,rfl,_,_,rfl,rfl,.str x,0,4294967295,rfl,.inl ⟨x,rfl,hx,fun H1 g1=>⟨rfl,?_⟩⟩⟩;have:=q H1 g1;unfold gF at this;rw[if_neg c',if_pos d']at this;cases e:qW (bE x) 0 4294967295 with
  |none=>rw[e]at this;exact this
  |some i=>rw[e]at this;exact this
 have d':=fun z=>d (decide_eq_true (congrArg V.str z));refine⟨_,rfl,rfl,_,rfl,qP (fun e=>?_) (fun e=>?_)⟩
 ·have e':=V.str.inj (of_decide_eq_true e);refine⟨_,rfl,tSi,_,rfl,.inr (C.sgns H),rfl,kZ _,?_⟩;rw[if_neg ρ,qB];have:=q H (jJ.refl _);unfold gF at this;rw[if_neg c',if_neg d',if_pos e']at this;exact this
 have e':=fun z=>e (decide_eq_true (congrArg V.str z));refine⟨_,rfl,rfl,_,rfl,qP (fun f'=>?_) (fun f'=>?_)⟩
 ·have f2:=V.str.inj (of_decide_eq_true f');refine⟨_,rfl,rfl,?_⟩;have:=q H (jJ.refl _);unfold gF at this;rw[if_neg c',if_neg d',if_neg e',if_pos f2]at this;exact(show(!decide (V.str x=V.str (δ ""))) = !decide (x=δ "") by simp) ▸ this
 have f2:=fun z=>f' (decide_eq_true (congrArg V.str z));refine⟨_,rfl,_,rfl,rfl,?_⟩;have:=q H (jJ.refl _);unfold gF at this;rw[if_neg c',if_neg d',if_neg e',if_neg f2]at this;exact(show(decide (V.str x=V.str p))=decide (x=p) by simp) ▸ this
theorem aAn{k:Nat}(F:Fun K "_law_cell" "_law_cell" gT f fd):jJ (k+2) f fd ["_law_script","_law_k"] (spLc K):=by
 w_cond aCu;obtain⟨a,ns,k,rfl,hS,hk0,hk1,q⟩:=h;refine⟨_,(jC (kL (jV (aBv hr.units) (pv 0) (kH jB) (kB _)) (jD (jO (jP qI (jP zR jH (pv 1)) jH))) jX) (jC (kL (jV aPy (pv 1) (kA kE rfl M.len yj (jA (pv 0) jB)) (kB _)) (jD (jO (kO jZ (pv 0) (pv 1) (fun _ _=>rfl)))) jX) (jD (jO (jP qI (jP oG (kO jZ (pv 0) (jP eK (pv 1) (kA kE rfl M.len yj (jA (pv 0) jB))) (fun _ _=>rfl)) (jP qI (pv 1) jH)) (jP zR jH (pv 1))))))),?_⟩;have hl:(ns.map V.int).length=ns.length:=ε _;refine⟨_,rfl,dS,fun l0 hl0=>?_⟩;clear 1 l0 H1 g1 k1 hl0;have hS1:=g1.seq hS;refine⟨a,l0,_,rfl,rfl,hS1,SqL.of k1,_,rfl,qP (fun c=>?_) (fun c=>?_)⟩
 ·exact⟨_,rfl,_,_,rfl,rfl,.inl ⟨by omega,by omega⟩,_,_,rfl,rfl,q _ H1 g1⟩
 have hne : 0<ns.length:=by
  cases ns with
  |nil=>exact absurd rfl c
  |cons _ _=>exact Nat.succ_pos _
 refine⟨_,rfl,_,rfl,a,_,rfl,.inl hS1,_,_,rfl,rfl,_,rfl,?_⟩;refine qP (fun c=>?_) (fun c=>?_)
 ·have c':k<(((ns.map V.int).length:Nat):Int):=of_decide_eq_true c;rw[hl]at c';obtain⟨v,hv⟩:=aAq ns hk0 c';exact⟨_,rfl,_,rfl,a,_,_,_,rfl,rfl,hS1,hv,q _ H1 g1⟩
 ·have hp:(0:Int)<(((ns.map V.int).length:Nat):Int):=by rw[hl];omega
  obtain⟨v,hv⟩:=aAq ns (i:=k % (((ns.map V.int).length:Nat):Int)) (Int.emod_nonneg _ (by rw[hl];omega)) (by have:=Int.emod_lt_of_pos k hp;rw[hl]at this ⊢;exact this);exact⟨_,rfl,_,rfl,_,rfl,a,_,rfl,.inl hS1,_,_,rfl,rfl,hp,a,_,_,_,rfl,rfl,hS1,hv,_,rfl,_,_,rfl,rfl,_,_,rfl,rfl,⟨by omega,by omega⟩,_,rfl,_,_,rfl,rfl,.inl ⟨by omega,by omega⟩,_,_,rfl,rfl,q _ H1 g1⟩
theorem aAf{k:Nat}(F:Fun K "_law_mixed" "_law_mixed" dJ f fd):jJ (k+2) f fd ["_law_cell_here","_law_k"] spMx:=by
 w_cond cN;obtain⟨c,k,rfl,q⟩:=h;refine⟨_,(jC (jY (i:=2) cN.nd rfl (by walk_at"o") (jP eK (jP qI (jP qI (jP zR (pv 0) jH) (jP zR jH (pv 1))) jH) jH)) (jC (jY (i:=2) cN.nd rfl (by walk_at"o") (jP eK (jP qI (jP qI (jP zR (pv 2) (pv 2)) (jP zR jH (pv 1))) jH) jH)) (jD (jO (jP oG (jP eK (jP zR (pv 2) (pv 2)) jH) jH))))),?_⟩;refine⟨_,rfl,_,_,rfl,rfl,.inr ⟨by omega,by omega⟩,_,rfl,_,_,rfl,rfl,.inl ⟨by omega,by omega⟩,_,_,rfl,rfl,_,_,rfl,rfl,_,_,rfl,rfl,(by show(0:Int)<_;decide),?_⟩;refine⟨_,rfl,_,rfl,_,_,rfl,rfl,.inl ⟨by omega,by omega⟩,_,rfl,_,_,rfl,rfl,.inl ⟨by omega,by omega⟩,_,_,rfl,rfl,_,_,rfl,rfl,_,_,rfl,rfl,(by show(0:Int)<_;decide),?_⟩;exact⟨_,rfl,_,rfl,_,_,rfl,rfl,.inl ⟨by omega,by omega⟩,_,_,rfl,rfl,(by show(0:Int)<_;decide),_,_,rfl,rfl,⟨by decide,by decide⟩,q _⟩
theorem aBg(F:Fun K "_law_take" "_law_take" fS f fd)(gc:Df K mg "_law_mixed" qf oz ["_law_cell_here","_law_k"])(qg:jJ k qf oz ["_law_cell_here","_law_k"] spMx):jJ (k+2) f fd ["_law_box_here","_law_many"] oX:=by
 w_cond dM;obtain⟨p,m,rfl,hm,hm2,⟨a,b,c,h⟩,q⟩:=h;refine⟨_,(jC (kL (jV fK (kO jZ (pv 0) jH (fun _ _=>rfl)) jH (kB _)) (jC (jY (i:=2) dM.nd rfl (by walk_at"o") (jP eK (kO jZ (pv 0) jH (fun _ _=>rfl)) (pv 1))) (jC (eN (jP oG (kO jZ (pv 0) jH (fun _ _=>rfl)) (pv 1)) (aEu (pv 0) jH set_list)) (jD (jO (pv 2))))) jX) (jC (eN (jP qI (kO jZ (pv 0) jH (fun _ _=>rfl)) jH) (aEu (pv 0) jH set_list)) (jC (jY (i:=3) dM.nd rfl (by walk_at"o") (jP qI (jP zR (jN qg hr rfl gc.m gc.k gc.b .nil jS (jA (kO jZ (pv 0) jH (fun _ _=>rfl)) (jA (jP zR jH (kO jZ (pv 0) jH (fun _ _=>rfl))) jB))) jH) (jN qg hr rfl gc.m gc.k gc.b .nil jS (jA (jP qI (kO jZ (pv 0) jH (fun _ _=>rfl)) jH) (jA (jP qI (jP zR jH (kO jZ (pv 0) jH (fun _ _=>rfl))) jH) jB))))) (jD (jO (jP eK (pv 3) (pv 1))))))),?_⟩;have nat:∀x:Int,∃v:Nat,x % m=(v:Int)/\(v:Int)<m:=fun x=>by
  have h0:=Int.emod_nonneg x (show m≠0 by omega);have h1:=Int.emod_lt_of_pos x hm;exact⟨(x % m).toNat,by omega,by omega⟩
 refine⟨_,rfl,p,_,_,_,rfl,rfl,SqL.of h,rfl,_,_,rfl,rfl,_,rfl,qP (fun cc=>?_) (fun cc=>?_)⟩
 ·refine⟨_,rfl,p,_,_,_,rfl,rfl,SqL.of h,rfl,_,rfl,_,_,rfl,rfl,hm,?_⟩;refine⟨_,rfl,p,_,_,_,rfl,rfl,SqL.of h,rfl,_,rfl,_,_,rfl,rfl,⟨hm,hm2⟩,_,rfl,p,_,_,0,rfl,rfl,h,rfl,?_⟩;obtain⟨v,hv,hl⟩:=nat a;refine⟨_,rfl,?_⟩;show Q (.int (a % m)) _;rw[hv];exact q v _ hl ⟨⟨_,_,_,jF⟩,fun b' o n e=>by rw[jR n];exact e⟩
 ·refine⟨_,rfl,p,_,_,_,rfl,rfl,SqL.of h,rfl,_,_,rfl,rfl,_,rfl,p,_,_,2,rfl,rfl,h,rfl,?_⟩;have h1:upd H p (.lst [.int a,.int b,.int (c+1)]) p=some (.lst [.int a,.int b,.int (c+1)]):=jF;refine⟨_,rfl,p,_,_,_,rfl,rfl,SqL.of h1,rfl,_,rfl,p,_,_,_,rfl,rfl,SqL.of h1,rfl,_,_,rfl,rfl,.inl ⟨by omega,by omega⟩,_,_,rfl,fun v1=>?_⟩;refine⟨_,_,rfl,rfl,.inr ⟨by omega,by omega⟩,_,rfl,p,_,_,_,rfl,rfl,SqL.of h1,rfl,_,_,rfl,rfl,_,rfl,p,_,_,_,rfl,rfl,SqL.of h1,rfl,_,_,rfl,rfl,.inl ⟨by omega,by omega⟩,_,_,rfl,rfl,_,_,rfl,fun v2=>?_⟩;refine⟨_,_,rfl,rfl,_,rfl,_,rfl,_,_,rfl,rfl,hm,?_⟩;obtain⟨v,hv,hl⟩:=nat (v1*268435399+v2);show Q (.int ((v1*268435399+v2) % m)) _;rw[hv];exact q v _ hl ⟨⟨_,_,_,jF⟩,fun b' o n e=>by rw[jR n];exact e⟩
theorem iQ(F:Fun K "__init__" "NoProgram.__init__" yS f fd)(du:DfI K bf ["self","words"])(dv:jJ k fRE bf ["self","words"] (spRE K)):jK P w K mg base (CXE P w) (k+2) f fd ["self","line"] (aHf aa):=by
 w_cond hZ;obtain⟨e,v,rfl,he,q⟩:=h;refine⟨_,(jC (qO (pE tRE.i (kM (v:=.ref cRE) rfl tRE.m rfl) dv hr du.b .nil jS (jA (pv 0) (jA jM jB)))) (jD (oA (pv 0) (pv 1) rfl))),?_⟩;refine⟨_,rfl,e,_,aa,cRE,bc,none,rfl,he,am.c,?_⟩;exact⟨_,rfl,_,rfl,e,aa,cRE,bc,rfl,am.c,am.n _ (ω.mpr rfl),.inl ⟨he,fun dx hd=>q dx hd⟩⟩
theorem nE(F:Fun K "__init__" "TooMuch.__init__" aT f fd)(du:DfI K bf ["self","words"])(dv:jJ k fRE bf ["self","words"] (spRE K)):jK P w K mg base (CXE P w) (k+2) f fd ["self","line"] (aHf ak):=by
 w_cond mX;obtain⟨e,v,rfl,he,q⟩:=h;refine⟨_,(jC (qO (pE tRE.i (kM (v:=.ref cRE) rfl tRE.m rfl) dv hr du.b .nil jS (jA (pv 0) (jA jM jB)))) (jD (oA (pv 0) (pv 1) rfl))),?_⟩;refine⟨_,rfl,e,_,ak,cRE,cw,none,rfl,he,bi.c,?_⟩;exact⟨_,rfl,_,rfl,e,ak,cRE,cw,rfl,bi.c,bi.n _ (ω.mpr rfl),.inl ⟨he,fun dx hd=>q dx hd⟩⟩
theorem rS{k:Nat}(F:Fun K "line_behind" "line_behind" bI f fd)(KP:PrC K ah ar ai):jJ (k+2) f fd ["row"] (spLb ah ar ai K):=by
 w_cond oP;obtain⟨a,t,rfl,ht,q⟩:=h;refine⟨_,(jD (jO (xF (yI (kA (aCr (K:=K) rfl) rfl M.isinstance BW (jA (pv 0) (jA (kM (v:=.ref ah) rfl aj.m rfl) jB)))) (jP qI (kK (pv 0) rfl) jH) (jP qI (kK (pv 0) rfl) jH)))),?_⟩;cases ht with
 |row h1 _ =>
  obtain⟨dx,ra,sa,h1,_⟩:=h1;exact⟨_,rfl,.ref a,ah,_,_,rfl,KP.i1.ty h1,KP.rr,_,rfl,vL rfl ⟨_,rfl,a,ah,_,_,_,rfl,h1,aj.cl,aj.na _ (by decide),rfl,_,_,rfl,rfl,q⟩⟩
 |loop h1 _ _ _=>exact⟨_,rfl,.ref a,ah,_,_,rfl,KP.i2.ty h1,KP.lr,_,rfl,qA (by decide) ⟨_,rfl,a,ar,_,_,_,rfl,h1,bv.cl,bv.na _ (by decide),rfl,_,_,rfl,rfl,q⟩⟩
 |ch h1 _ _ _ _ _=>exact⟨_,rfl,.ref a,ah,_,_,rfl,KP.i3.ty h1,KP.cr,_,rfl,qA (by decide) ⟨_,rfl,a,ai,_,_,_,rfl,h1,aw.cl,aw.na _ (by decide),rfl,_,_,rfl,rfl,q⟩⟩
theorem iL(F:Fun K "__init__" "WrongPath.__init__" yM f fd)(du:DfI K bf ["self","words"])(dv:jJ k fRE bf ["self","words"] (spRE K)):jK P w K mg base (CXE P w) (k+2) f fd ["self","line","path"] (spXn ac ["line","path"]):=by
 w_cond iK
 ·obtain⟨e,xs,rfl,hl,_⟩:=h;exact congrArg (·+1) hl
 obtain⟨e,xs,rfl,hl,he,q⟩:=h;refine⟨_,(jC (qO (pE tRE.i (kM (v:=.ref cRE) rfl tRE.m rfl) dv hr du.b .nil jS (jA (pv 0) (jA jM jB)))) (jC (oA (pv 0) (pv 1) rfl) (jD (oA (pv 0) (pv 2) rfl)))),?_⟩
 match xs,hl,q with
 |[x0,x1],_,q =>
  refine⟨_,rfl,e,_,ac,cRE,be,none,rfl,he,ap.c,?_⟩;refine⟨_,rfl,_,rfl,e,ac,cRE,be,rfl,ap.c,ap.n _ (by simp),.inl ⟨he,fun dx hd=>?_⟩⟩;have F1:=Fl.first (CN:=ac) (f:="line") (y:=x0) he hd;refine⟨_,rfl,_,rfl,e,ac,cRE,be,rfl,ap.c,ap.n _ (by simp),.inr ⟨dx,_,F1.ae,F1.ad,(by simp),?_⟩⟩;have F2:=F1.next (fs':=[("line",x0),("path",x1)]);exact q dx _ F2
theorem zE{k r:Nat}{FF:Kd->Bool}(hFF:∀n k,FF (.many n k)=true->False)(F:Fun K "step_of" "Kind.step_of" aV f fd):jJ (k+2) f fd ["self","word"] (aJe (jK 0) K FF):=by
 w_cond mZ;obtain⟨a,w,kd,sa,S,rfl,hwl,hF,hf,ho,hw,q⟩:=h;refine⟨_,(jD (jO (pv 1))),?_⟩;cases kd with
 |many n k=>exact(hFF _ _ hF).elim
 |_=>exact⟨_,rfl,q H (jJ.refl _)⟩
theorem nN{r:Nat}(F:Fun K "step_of" "Many.step_of" aK f fd)(ay:Df K mg "number_in" bt bj ["text","low","high"])(fj:jJ k bt bj ["text","low","high"] (aL K)):jJ (k+2) f fd ["self","word"] (aJe (jK 0) K Kd.isMany):=by
 w_cond nK;obtain⟨a,w,kd,sa,S,rfl,hwl,hF,hf,ho,hw,q⟩:=h;refine⟨_,(jD (jO (jN fj hr rfl ay.m ay.k ay.b .nil jS (jA (pv 1) (jA jH (jA (jP gJ (kK (pv 0) rfl) jH) jB)))))),?_⟩;cases id ho with
 | @many a dx b n k h1 h2 =>
  exact⟨_,rfl,_,rfl,a,Vc,_,_,_,rfl,h1,Uc.cl,Uc.na _ (by decide),rfl,_,_,rfl,rfl,.str w,0,_,rfl,.inl ⟨w,rfl,hwl,fun H1 g1=>q H1 g1⟩⟩
 |_=>cases hF
theorem aDp(F:Fun K "step_in" "step_in" lC f fd)(vm:∀C sp,T4 (jK 0) (aJe (jK 0) K) C sp->yK P w K mg base CX0 k "step_of" C sp)(ao:Df K mg "is_name" au aq ["thing"])(bx:jJ k au aq ["thing"] (zC K)):jJ (k+2) f fd ["kind","word"] (spSi (jK 0) K):=by
 w_cond pW;obtain⟨a,w,kd,sa,S,rfl,hw1,hf,ho,hw,q1,q2,q3⟩:=h;refine⟨_,(jC (jY (i:=2) pW.nd rfl (by walk_at"o") (iH (pv 0) vm hr jS (jA (pv 1) jB))) (jC (kL (PW.pt (bL (jV aDk (pv 2) yQ (kB _)) (yW (yI (jN bx hr rfl ao.m ao.k ao.b .nil jS (jA (pv 1) jB)))))) (jD (jO (zO (jA jM (jA (pv 1) jB))))) jX) (jD (jO (pv 2))))),?_⟩;obtain⟨C',dx,fs,sp',k1,k2,k3,F',hF',rfl⟩:=aQb (sp4:=aJe (jK 0) K) (m:="step_of") (fun _ _=>⟨rfl,rfl,rfl,rfl⟩) ho;refine⟨_,rfl,a,C',dx,fs,_,rfl,k1,k2,k3,_,rfl,a,w,kd,sa,S,rfl,hw1,hF',hf,ho,hw,fun H1 g1=>?_⟩
 by_cases hv:lA kd w=.non
 ·rw[hv];refine⟨_,rfl,rfl,_,rfl,vL rfl ⟨_,rfl,.str w,rfl,.inl ⟨w,rfl,hw1,fun H2 g2=>⟨_,rfl,?_⟩⟩⟩⟩;cases hn:kT w with
  |true =>
   refine vL rfl ⟨_,rfl,vK,fun t ht=>?_⟩;generalize e3:upd H2 t _=H3;obtain⟨g3,k3'⟩:=kQ e3 ht;exact q2 hv hn t H3 ((g1.trans g2).trans g3) ((g1.trans g2).free ht) k3'
  |false=>exact qA (by decide) ⟨_,rfl,q3 hv hn H2 (g1.trans g2)⟩
 ·exact⟨_,rfl,rfl,_,rfl,qA (by rw[decide_eq_false hv];decide) ⟨_,rfl,q1 hv H1 g1⟩⟩
theorem aBr{k:Nat}(F:Fun K "steps_in" "steps_in" gR f fd){az:yn}(dh:DfI K az ["self","shape"])(di:jJ k cIv az ["self","shape"] (aEg Vb "shape")){ub:Addr}{rq:yn}(pd:Df K mg "step_in" ub rq ["kind","word"])(wc:jJ k ub rq ["kind","word"] (spSi (jK 0) K))(wq:∀C sp,T3 (jK 0) (tX (jK 0) K) C sp->yK P w K mg base CX0 k "led" C sp)(KM:KdM K (jK 0))(wm:∀C sp,T4 (jK 0) (aEs (jK 0) K) C sp->yK P w K mg base CX0 k "word" C sp){jf:yn}(jt:DfI K jf ["self","line","path"])(ju:jK P w K mg base (CXE P w) k be jf ["self","line","path"] (spXn ac ["line","path"])):jK P w K mg base (CXE P w) (k+2) f fd ["shape","line","deed","path"] (aPz (jK 0) ac K):=by
 w_cond xU;obtain⟨z,li,d,p,n,sa,S,xs,rfl,hz,hw,hg,hn,hp,hA,q,qx⟩:=h;refine⟨_,(jC (jY (i:=4) xU.nd rfl (by walk_at"o") (vJ Ub.ma di hr0 rfl Ub.m dh.b .nil jS (jA (pv 0) jB))) (jC (jY (i:=5) xU.nd rfl (by walk_at"o") (kH jB)) (jC (xC ownE rfl (vO (zV Aj AJ AK aF (pv 3) (jA jM jB))) (jT (i:=6) xU.nd rfl (yl rfl)) (jC (jY (i:=7) xU.nd rfl (by walk_at"o") (jN wc hr rfl pd.m pd.k pd.b .nil jS (jA (pv 4) (jA (pv 6) jB)))) (jC (jY (i:=4) xU.nd rfl (by walk_at"o") (xF (yI (kA (aCr (K:=K) rfl) rfl M.isinstance BW (jA (pv 4) (jA (kM (v:=.ref Vc) rfl Uc.m rfl) jB)))) (kK (pv 4) rfl) (iH (pv 4) wq hr jS (jA (pv 7) jB)))) (jC (kL (PW.pt (sA (jV aDk (pv 7) yQ (kB _)) (fW (jV aDk (pv 4) yQ (kB _))))) (jD (yC ap.c ju hr0 rfl ap.m jt.b .nil zX (jA (pv 1) (jA (pv 3) jB)))) jX) (jD (qO (zV zb zy Aa xS (pv 5) (jA (pv 7) jB)))))))) (jC (kL (jV aFf (aE (pv 4) wm hr jS) (xF (jV vN (pv 2) (zO (jA jM (jA jM jB))) (by with_unfolding_all rfl)) jM jM) (kB _)) (jD (yC ap.c ju hr0 rfl ap.m jt.b .nil zX (jA (pv 1) (jA (pv 3) jB)))) jX) (jD (jO (pv 5))))))),?_⟩;have fin:∀{H1:Hp},jJ H H1->vS S (.nest n) d p=none->∀e,H1 e=none->∀dx H2,Fl ac e dx (upd H1 e (Ex0 e ac none)) H2 [("line",li),("path",.str p)]->E (.ref e) none (upd H2 e (ExF e ac (some dx))):=fun {H1} g hno e he dx H2 F=>by
  obtain⟨g2,k1,k2⟩:=F.fly he;exact qx hno e _ (g.trans g2) (g.free he) ⟨dx,k1,k2⟩
 have hi:n<S.length:=by have:=(θ.mp hz).1;rw[hw.1]at this;exact this
 refine⟨_,rfl,fun x dx hx hdx _=>⟨x,dx,.ref z,H,rfl,jF,zU hx hdx,hx,fun H1 g1 k1=>⟨rfl,?_⟩⟩⟩;refine⟨dS,fun l hl=>?_⟩;clear 1 l H2 g2 k2 hl;refine⟨_,rfl,rfl,_,_,rfl,rfl,rfl,(by rw[ς];omega),fun wl hwl=>?_⟩;clear 1 wl H3 g3 k3 hwl;have kl3:=g3 _ _ k2;have hA3:Al (l::xs) H3:=uU (((hA.same g1).same g2).same g3) kl3;have nwl:wl≠l:=fun z=>by rw[z,k2]at hwl;cases hwl
 have lx:l∉xs:=(hA.same g1).new hl;have hno:∀j,qH S (.nest n) ((yu p lS).take j)=none->vS S (.nest n) d p=none:=fun j h=>by unfold vS;rw[aEn h]
 refine⟨wl,rfl,⟨_,SqL.of k3⟩,eH (xs:=(yu p lS).map V.str) (fun j σ H'=>∃(kc:Addr) (kd:Kd) (us:List V) (ss:List Stp) (o6 o7:Option V),σ = [some (.ref z),some li,some (.str d),some (.str p),some (.ref kc),some (.ref l),o6,o7]/\But l H3 H'/\H' l=some (.lst us)/\jJ (offs (l::xs) H3) (offs (l::xs) H')/\zQ K (offs (l::xs) H') us ss/\KO (jK 0) K H' sa kc kd/\kd.Fit S.length/\us.length=j/\qH S (.nest n) ((yu p lS).take j)=some (ss,kd)) ⟨x,.nest n,[],[],_,_,rfl,But.refl,kl3,jJ.refl _,⟨rfl,fun i v s h=>by simp at h⟩,(KO.nest hz k1).same (g2.trans g3),hi,rfl,rfl⟩ (fun j σ H' _ z=>?_) (fun j y σ H' hy z=>?_) (fun σ H' z=>?_)⟩
 ·obtain⟨kc,kd,us,ss,o6,o7,rfl,g,_⟩:=z;exact SqL.of (g _ _ nwl k3)
 ·obtain⟨kc,kd,us,ss,o6,o7,rfl,g,kl,go,hst,ho,hf,hj,hwk⟩:=z;obtain⟨w',hw',rfl⟩:=qM hy;have hwl':w'.length<=1000:=yb (aCs (xk hw')) hp;have hjl:us.length<=1001:=by
   have:=(θ.mp hw').1;have:=tR p;omega
  have gH:jJ H H':=But.from (g1.trans (g2.trans (jJ.refl _))) (g1.free hl) (But.trans (But.of g3) g);have hAl:=hA.same gH;have hnx:=aEi hw' hwk;have hwH:=hw.same gH;have hAx:Al (l::xs) H':=uU hAl kl;have put:∀{H5:Hp}{v:V}{s:Stp}{kc':Addr}{kd':Kd},jJ H' H5->tG K (offs (l::xs) H5) v s->KO (jK 0) K H5 sa kc' kd'->stepK S kd w'=some (s,kd')->H5 l=some (.lst us)/\us.length<Δ/\∃H6,upd H5 l (.lst (us++[v]))=H6/\But l H3 H6/\H6 l=some (.lst (us++[v]))/\jJ (offs (l::xs) H3) (offs (l::xs) H6)/\zQ K (offs (l::xs) H6) (us++[v]) (ss++[s])/\KO (jK 0) K H6 sa kc' kd'/\kd'.Fit S.length/\(us++[v]).length=j+1/\qH S (.nest n) ((yu p lS).take (j+1))=some (ss++[s],kd'):=fun {H5 v s kc' kd'} g5 hs ho5 e=>by
   have kl5:=g5 _ _ kl;refine⟨kl5,zx hjl (by decide),_,rfl,(g.trans (But.of g5)).trans But.upd,jF,?_,?_,?_,aOm hg hn hf e,by rw[η,hj];rfl,by rw[hnx,e];rfl⟩
   ·rw[dU];exact go.trans (jU g5)
   ·rw[dU];exact(hst.same (jU g5)).snoc hs
   ·have:=KO.off kl5 ho5;rw[←dU (xs:=[]) (o:=.lst (us++[v]))]at this;exact this.same jW
  have bad:stepK S kd w'=none->vS S (.nest n) d p=none:=fun e=>hno (j+1) (by rw[hnx,e];rfl)
  by_cases hm:kd.isMany=false
  ·have sv:lA kd w'=.str w':=by cases kd <;> first|rfl|cases hm
   have sk:stepK S kd w'=(ledK S kd w').map fun k'=>(.wd w',k'):=by cases kd <;> first|rfl|cases hm
   refine⟨_,rfl,_,rfl,kc,w',kd,sa,S,rfl,hwl',hf,ho,hwH,fun hv H4 g4=>?_,(fun hv=>by rw[sv]at hv;cases hv),(fun hv=>by rw[sv]at hv;cases hv)⟩;have ho4:=ho.same g4;obtain⟨ty,hty,hkit⟩:=KM.no ho4 hm;obtain⟨C1,d1,f1,sp1,h1,l1,t1,F1,hF1,rfl⟩:=call3 (sp4:=tX (jK 0) K) (m:="led") (fun _ _=>⟨rfl,rfl,rfl,rfl⟩) ho4 hm;refine⟨_,rfl,.ref kc,Vc,ty,_,rfl,hty,hkit,_,rfl,qA (by decide) ⟨_,rfl,kc,C1,d1,f1,_,rfl,h1,l1,t1,_,rfl,kc,w',kd,sa,S,rfl,hF1,hf,ho4,hwH.same g4,hg,?_⟩⟩;rw[sv];cases hled:ledK S kd w' with
   |none =>
    rw[hled]at sk;exact .inl ⟨rfl,fun H5 g5=>⟨_,rfl,rfl,_,rfl,qA (by simp) ⟨_,rfl,rfl,_,rfl,vL rfl ⟨yg,_,rfl,_,rfl,(by show 2<=1000;decide),fun e he=>⟨e,[_,_],rfl,rfl,jF,fun dx H1 F=>⟨rfl,e,some dx,rfl,F.ae,fin ((gH.trans g4).trans g5) (bad sk) e he dx H1 F⟩⟩⟩⟩⟩⟩
   |some k' =>
    rw[hled]at sk;refine .inr ⟨k',rfl,fun a' H5 g5 ho5=>?_⟩;obtain⟨kl5,hlt,H6,e6,r1,r2,r3,r4,r5,r6,r7,r8⟩:=put (v:=.str w') (s:=.wd w') (g4.trans g5) rfl ho5 sk;refine⟨_,rfl,rfl,_,rfl,qA (by simp) ⟨_,rfl,rfl,_,rfl,qA (by simp) ⟨_,rfl,.inl ⟨rfl,_,SqL.of kl5⟩,_,rfl,l,_,_,rfl,rfl,kl5,hlt,?_⟩⟩⟩;rw[show upd H5 l (.lst (us++[.str w']))=H6 from e6];exact⟨a',k',_,_,_,_,rfl,r1,r2,r3,r4,r5,r6,r7,r8⟩
  cases kd with
  |many m k' =>
   obtain⟨dx',b,hk1,hk2⟩ : ∃dx' b,H' kc=some (.ins Vc dx' [("count",.int (m:Nat)),("kind",.ref b)])/\KO (jK 0) K H' sa b k':=by
    cases ho with|many h1 h2=>exact⟨_,_,h1,h2⟩
   have sv:lA (.many m k') w'=aMw (qW (bE w') 0 ((m:Int)-1)):=rfl;have sk:stepK S (.many m k') w'=match qW (bE w') 0 ((m:Int)-1) with|some j=>some (.no j,k')|none=>if kT w'=true then some (.nm w',k') else none:=rfl
   refine⟨_,rfl,_,rfl,kc,w',.many m k',sa,S,rfl,hwl',hf,ho,hwH,fun hv H4 g4=>?_,fun hv hnm t H4 g4 ht kt=>?_,fun hv hnm H4 g4=>?_⟩
   all_goals
    have hk4:=g4 _ _ hk1;refine⟨_,rfl,.ref kc,Vc,_,_,rfl,KM.i3.ty hk4,KM.k3,_,rfl,vL rfl ⟨_,rfl,kc,Vc,_,_,_,rfl,hk4,Uc.cl,Uc.na _ (by decide),rfl,?_⟩⟩
   ·cases hb:qW (bE w') 0 ((m:Int)-1) with
    |none=>rw[sv,hb]at hv;exact absurd rfl hv
    |some i =>
     rw[sv,hb];rw[hb]at sk;obtain⟨kl5,hlt,H6,e6,r1,r2,r3,r4,r5,r6,r7,r8⟩:=put (v:=.int i) (s:=.no i) g4 rfl (hk2.same g4) sk;refine⟨_,rfl,rfl,_,rfl,qA (by simp[aMw]) ⟨_,rfl,rfl,_,rfl,qA (by simp) ⟨_,rfl,.inl ⟨rfl,_,SqL.of kl5⟩,_,rfl,l,_,_,rfl,rfl,kl5,hlt,?_⟩⟩⟩;rw[show upd H4 l (.lst (us++[aMw (some i)]))=H6 from e6];exact⟨b,k',_,_,_,_,rfl,r1,r2,r3,r4,r5,r6,r7,r8⟩
   ·have hb:qW (bE w') 0 ((m:Int)-1)=none:=by
     cases hb:qW (bE w') 0 ((m:Int)-1) with
     |none=>rfl
     |some i=>rw[sv,hb]at hv;cases hv
    rw[hb]at sk;have sk':stepK S (.many m k') w'=some (.nm w',k'):=by rw[sk];exact if_pos hnm
    obtain⟨kl5,hlt,H6,e6,r1,r2,r3,r4,r5,r6,r7,r8⟩:=put (v:=.ref t) (s:=.nm w') g4 ⟨t,rfl,SqT.of (qQ (hAx.new ht) kt)⟩ (hk2.same g4) sk';refine⟨_,rfl,rfl,_,rfl,qA (by simp) ⟨_,rfl,rfl,_,rfl,qA (by simp) ⟨_,rfl,.inl ⟨rfl,_,SqL.of kl5⟩,_,rfl,l,_,_,rfl,rfl,kl5,hlt,?_⟩⟩⟩;rw[show upd H4 l (.lst (us++[.ref t]))=H6 from e6];exact⟨b,k',_,_,_,_,rfl,r1,r2,r3,r4,r5,r6,r7,r8⟩
   ·have hb:qW (bE w') 0 ((m:Int)-1)=none:=by
     cases hb:qW (bE w') 0 ((m:Int)-1) with
     |none=>rfl
     |some i=>rw[sv,hb]at hv;cases hv
    rw[hb]at sk;have sk':stepK S (.many m k') w'=none:=by rw[sk];exact if_neg (by rw[hnm];decide)
    exact⟨_,rfl,rfl,_,rfl,vL rfl (aIh ⟨yg,_,rfl,_,rfl,(by show 2<=1000;decide),fun e he=>⟨e,[_,_],rfl,rfl,jF,fun dx H1 F=>⟨rfl,e,some dx,rfl,F.ae,fin (gH.trans g4) (bad sk') e he dx H1 F⟩⟩⟩)⟩
  |_=>exact absurd rfl hm
 ·obtain⟨kc,kd,us,ss,o6,o7,rfl,g,kl,go,hst,ho,hf,hj,hwk⟩:=z;have gH:jJ H H':=But.from (g1.trans (g2.trans (jJ.refl _))) (g1.free hl) (But.trans (But.of g3) g);rw[ε,AV]at hwk;have sp:vS S (.nest n) d p=if fP kd=sV d then some ss else none:=by unfold vS;rw[hwk]
  obtain⟨C1,d1,f1,sp1,h1,l1,t1,F1,hF1,rfl⟩:=aQb (sp4:=aEs (jK 0) K) (m:="word") (fun _ _=>⟨rfl,rfl,rfl,rfl⟩) ho;refine⟨_,rfl,kc,C1,d1,f1,_,rfl,h1,l1,t1,kc,kd,sa,rfl,hF1,ho,?_⟩;refine⟨_,rfl,vK,fun pt hpt=>?_⟩;clear 1 pt H4 g4 k4 hpt;have ein:inV (V.str d) [V.str (δ "look"),V.str (δ "store")]=decide (d∈([δ "look",δ "store"]:List Str)):=qB (x:=d) (ys:=[δ "look",δ "store"]);refine⟨pt,_,rfl,.inr (SqT.of k4),rfl,rfl,_,rfl,?_⟩;rw[if_neg ρ,ein];have okk:fP kd=sV d->Q (.ref l) H4:=fun h=>by
   rw[if_pos h]at sp;exact q ss sp l us H4 (gH.trans g4) (SqL.of (qQ lx (g4 _ _ kl))) ((hst.same (jU g4)).same (pN fun b hb=>π _ hb))
  by_cases hd:d∈([δ "look",δ "store"]:List Str)
  ·have ew:sV d=δ "num":=by
    unfold sV;rw[if_pos (by rcases χ.mp hd with h|h;exact .inl h;exact .inr (ω.mp h))]
   refine vL (by rw[decide_eq_true hd]) ⟨rfl,_,rfl,qP (fun c=>?_) (fun c=>?_)⟩
   ·have c2:¬ fP kd=sV d:=by rw[ew];simpa using c
    exact⟨yg,_,rfl,_,rfl,(by show 2<=1000;decide),fun e he=>⟨e,[_,_],rfl,rfl,jF,fun dx H1 F=>⟨rfl,e,some dx,rfl,F.ae,fin (gH.trans g4) (by rw[sp];exact if_neg c2) e he dx H1 F⟩⟩⟩
   ·exact⟨_,rfl,okk (by rw[ew];simpa using c)⟩
  ·have ew:sV d=δ "pick":=by
    unfold sV;rw[if_neg (by rintro (h|h) <;> exact hd (by rw[h];decide))]
   refine qA (by rw[decide_eq_false hd];decide) ⟨rfl,_,rfl,qP (fun c=>?_) (fun c=>?_)⟩
   ·have c2:¬ fP kd=sV d:=by rw[ew];simpa using c
    exact⟨yg,_,rfl,_,rfl,(by show 2<=1000;decide),fun e he=>⟨e,[_,_],rfl,rfl,jF,fun dx H1 F=>⟨rfl,e,some dx,rfl,F.ae,fin (gH.trans g4) (by rw[sp];exact if_neg c2) e he dx H1 F⟩⟩⟩
   ·exact⟨_,rfl,okk (by rw[ew];simpa using c)⟩
theorem aEf{k r:Nat}(F:Fun K "led" "Num.led" mC f fd):jJ (k+2) f fd ["self","step"] (tX (jK 0) K Kd.isNum):=by
 w_cond aDq;obtain⟨a,w,kd,sa,S,rfl,hF,hf,ho,hw,hg,q⟩:=h;refine⟨_,(jD (jO yQ)),?_⟩;cases kd with
 |num n =>
  rcases q with⟨_,q⟩|⟨k',e,_⟩
  ·exact q H (jJ.refl _)
  ·cases e
 |_=>cases hF
theorem sY{k r:Nat}(F:Fun K "led" "Nested.led" cM f fd):jJ (k+2) f fd ["self","step"] (tX (jK 0) K Kd.isNest):=by
 w_cond bO;obtain⟨a,w,kd,sa,S,rfl,hF,hf,ho,hw,hg,q⟩:=h;refine⟨_,(jC (xC zw rfl (dL (kK (kK (pv 0) rfl) rfl)) (yU rfl (kC (jT (i:=2) bO.nd rfl (yl rfl)) (kC (jT (i:=3) bO.nd rfl (yl rfl)) qS))) (jD (kL (jV qZ (pv 2) (pv 1) (kB _)) (jD (jO (pv 3))) jX))) (jD (jO yQ))),?_⟩;cases id ho with
 | @nest a dx s i e h1 =>
  obtain⟨sh,hS,dx2,t,ps,k1,k2,k3⟩:=hw.at e;have hled:ledK S (.nest i) w=(sh.2.find? fun f=>decide (f.1=w)).map (·.2):=by
   unfold ledK;show Option.map _ (((S.getD i (Str.empty,[])).2).find? _)=_;rw[xh,hS];rfl
  rw[hled]at q;refine⟨_,rfl,a,Vb,_,_,_,rfl,h1,Ub.cl,Ub.na _ (by decide),rfl,s,Ve,_,_,_,rfl,k1,Ue.cl,Ue.na _ (by decide),rfl,t,rfl,⟨_,k2⟩,uM (xs:=ps.map V.ref) (fun j σ H'=>H'=H/\(∃o2 o3,σ = [some (.ref a),some (.str w),o2,o3])/\∀m g,m<j->sh.2[m]?=some g->g.1≠w) ⟨rfl,⟨_,_,rfl⟩,fun m g z=>absurd z (BA _)⟩ (fun j σ H' _ z=>?_) (fun j x σ H' hx z=>?_) (fun σ H' z=>?_)⟩
  ·obtain⟨e',_⟩:=z;rw[e'];exact k2
  ·obtain⟨e',⟨o2,o3,rfl⟩,hn⟩:=z;subst e';obtain⟨p,hp,rfl⟩:=vF hx;obtain⟨nm,kd,kk,hfs,kt,hko⟩:=k3.get hp;refine⟨p,_,rfl,kt,rfl,_,_,rfl,_,_,rfl,rfl,_,rfl,_,rfl,rfl,_,rfl,qP (fun c=>?_) (fun c=>?_)⟩
   ·have ew:nm=w:=by simpa using c
    rw[gE hfs ew hn]at q;rcases q with⟨e2,_⟩|⟨k',e2,q⟩
    ·cases e2
    ·cases e2;exact⟨_,rfl,q kk H' (jJ.refl _) (by have:=hko.more (sa.drop i);rwa [Bw]at this)⟩
   ·have ew:¬ nm=w:=by simpa using c
    exact⟨rfl,⟨_,_,rfl⟩,aGo hfs ew hn⟩
  ·obtain⟨e',⟨o2,o3,rfl⟩,hn⟩:=z;subst e';rw[aFp (fun m g hm hg=>hn m g (by rw[ε,k3.len];exact hm) hg)]at q;rcases q with⟨_,q⟩|⟨k',e2,_⟩
   ·exact q H' (jJ.refl _)
   ·cases e2
 |_=>cases hF
theorem aBf{r:Nat}(F:Fun K "led" "Pick.led" fU f fd)(dh:DfI K az ["self","shape"])(di:jJ k cIv az ["self","shape"] (aEg Vb "shape")):jJ (k+2) f fd ["self","step"] (tX (jK 0) K Kd.isPick):=by
 w_cond mS;obtain⟨a,w,kd,sa,S,rfl,hF,hf,ho,hw,hg,q⟩:=h;refine⟨_,(jC (xC zw rfl (dL (kK (pv 0) rfl)) (jT (i:=2) mS.nd rfl (yl rfl)) (jD (kL (jV qZ (kK (pv 2) rfl) (pv 1) (kB _)) (jD (jO (vJ Ub.ma di hr0 rfl Ub.m dh.b .nil jS (jA (pv 2) jB)))) jX))) (jD (jO yQ))),?_⟩;cases id ho with
 | @pick a dx t is ss h1 k2 hl hall =>
  have hled:ledK S (.pick is) w=((is.map fun i=>(kN S i,Kd.nest i)).find? fun f=>decide (f.1=w)).map (·.2):=rfl;rw[hled]at q;refine⟨_,rfl,a,Vd,_,_,_,rfl,h1,Ud.cl,Ud.na _ (by decide),rfl,t,rfl,⟨_,k2⟩,uM (xs:=ss.map V.ref) (fun j σ H'=>H'=H/\(∃o2,σ = [some (.ref a),some (.str w),o2])/\∀m g,m<j->(is.map fun i=>(kN S i,Kd.nest i))[m]?=some g->g.1≠w) ⟨rfl,⟨_,rfl⟩,fun m g z=>absurd z (BA _)⟩ (fun j σ H' _ z=>?_) (fun j x σ H' hx z=>?_) (fun σ H' z=>?_)⟩
  ·obtain⟨e',_⟩:=z;rw[e'];exact k2
  ·obtain⟨e',⟨o2,rfl⟩,hn⟩:=z;subst e';obtain⟨s,hs,rfl⟩:=vF hx;have hj:j<is.length:=by rw[←hl];exact(θ.mp hs).1
   have hi:is[j]?=some is[j]:=ν hj;generalize is[j]=i at hi;have hsa:=hall j i s hi hs;obtain⟨sh,hS,dx2,t2,ps,k1,_⟩:=hw.at hsa;have hfs:(is.map fun i=>(kN S i,Kd.nest i))[j]?=some (sh.1,Kd.nest i):=by rw[xw,hi,←xI hS];rfl
   refine⟨_,rfl,s,Ve,_,_,_,rfl,k1,Ue.cl,Ue.na _ (by decide),rfl,_,rfl,rfl,_,rfl,qP (fun c=>?_) (fun c=>?_)⟩
   ·have ew:sh.1=w:=by simpa using c
    rw[gE hfs ew hn]at q;rcases q with⟨e2,_⟩|⟨k',e2,q⟩
    ·cases e2
    ·cases e2;exact⟨_,rfl,fun x dx hx hdx _=>⟨x,dx,.ref s,H',rfl,jF,zU hx hdx,hx,fun H1 g1 k1=>⟨rfl,q x H1 g1 (.nest hsa k1)⟩⟩⟩
   ·have ew:¬ sh.1=w:=by simpa using c
    exact⟨rfl,⟨_,rfl⟩,aGo hfs ew hn⟩
  ·obtain⟨e',⟨o2,rfl⟩,hn⟩:=z;subst e';rw[aFp (fun m g hm hg=>hn m g (by rw[ε,hl];simpa using hm) hg)]at q;rcases q with⟨_,q⟩|⟨k',e2,_⟩
   ·exact q H' (jJ.refl _)
   ·cases e2
 |_=>cases hF
theorem aAm{k r:Nat}(F:Fun K "word" "Num.word" gL f fd):jJ (k+2) f fd ["self"] (aEs (jK 0) K Kd.isNum):=by
 w_cond aAy;obtain⟨a,kd,sa,rfl,hF,ho,q⟩:=h;refine⟨_,(jD (jO jM)),?_⟩;cases kd <;> first
  |exact absurd hF ρ
  |exact q
theorem pM{k r:Nat}(F:Fun K "word" "Nested.word" bY f fd):jJ (k+2) f fd ["self"] (aEs (jK 0) K Kd.isNest):=by
 w_cond oU;obtain⟨a,kd,sa,rfl,hF,ho,q⟩:=h;refine⟨_,(jD (jO jM)),?_⟩;cases kd <;> first
  |exact absurd hF ρ
  |exact q
theorem uN{k r:Nat}(F:Fun K "word" "Many.word" dZ f fd):jJ (k+2) f fd ["self"] (aEs (jK 0) K Kd.isMany):=by
 w_cond wU;obtain⟨a,kd,sa,rfl,hF,ho,q⟩:=h;refine⟨_,(jD (jO jM)),?_⟩;cases kd <;> first
  |exact absurd hF ρ
  |exact q
theorem wD{k r:Nat}(F:Fun K "word" "Pick.word" eF f fd):jJ (k+2) f fd ["self"] (aEs (jK 0) K Kd.isPick):=by
 w_cond wB;obtain⟨a,kd,sa,rfl,hF,ho,q⟩:=h;refine⟨_,(jD (jO jM)),?_⟩;cases kd <;> first
  |exact absurd hF ρ
  |exact q
theorem aBx{k:Nat}(F:Fun K "lines_in" "lines_in" gP f fd):jJ (k+2) f fd ["text"] spLi:=by
 w_cond aAp;obtain⟨xs,rfl,hne,hx,hl,q⟩:=h;refine⟨_,(jD (jO (xF (yZ (pv 0) (fun _=>rfl)) (zV Aj AJ AK aF (pv 0) (jA jM jB)) (kH jB)))),?_⟩;have h1:(xl nlS xs).length<=xs.length*801:=rR (c:=10) (m:=800) fun w hw=>(hx w hw).2.1;have h0:(xl nlS xs).length≠0:=by
  cases xs with
  |nil=>exact absurd rfl hne
  |cons x xs =>
   have hx0:=(hx x (ο ..)).2.2
   by_cases z:xs=[]
   ·subst z;rw[join_one];exact hx0
   ·rw[lV z,len_app,len_app];omega
 refine⟨_,rfl,_,⟨(by rw[ς];omega),rfl⟩,vL (bne_iff_ne.mpr (by omega)) ⟨_,rfl,rfl,_,_,rfl,rfl,rfl,(by rw[ς];omega),fun p hp=>?_⟩⟩;rw[show yu (xl nlS xs) (δ "\n")=xs from xQ (c:=10) hne fun x hx'=>(hx x hx').1];exact q p hp
theorem aDf{k:Nat}(F:Fun K "form_of" "form_of" lG f fd){we:Addr}{vh:yn}(uv:Df K mg "fits" we vh ["part","word"])(wt:jJ k we vh ["part","word"] spFi){bh:yn}(bo:DfI K bh ["self","line"])(bp:jK P w K mg base (CXE P w) k bc bh ["self","line"] (aHf aa)):jK P w K mg base (CXE P w) (k+2) f fd ["line","words"] (spFm aa K):=by
 w_cond gC;obtain⟨x,a,ws,rfl,hw1000,hw5,ha,q,qx⟩:=h;refine⟨_,(jC (xC ownE rfl (dL (kM (v:=.ref tFo) rfl C.FORMS rfl)) (yU rfl (kC (jT (i:=2) gC.nd rfl (yl rfl)) (kC (jT (i:=3) gC.nd rfl (yl rfl)) qS))) (jD (kL (PW.pt (bL (jV qZ (kA kE rfl M.len yj (jA (pv 3) jB)) (kA kE rfl M.len yj (jA (pv 1) jB)) (kB _)) (yW (yI (kA (sB rfl) rfl M.all boot_all (jA (qT ["part","word"] [] [] rfl (aFu rfl M.zip (jA (pv 3) (jA (pv 1) jB))) rfl trivial trivial (fun _ _ _ _=>(iM (K:=K) (n:=2) rfl rfl (kC (jT (i:=0) (show yy (["part","word"]:List Str) from by ac_rfl) rfl (yl rfl)) (kC (jT (i:=1) (show yy (["part","word"]:List Str) from by ac_rfl) rfl (yl rfl)) qS)))) (fun _ _ _ _=>qX) (fun _ _ _ _=>(jN wt hr rfl uv.m uv.k uv.b .nil jS (jA (pv 0) (jA (pv 1) jB))))) jB)))))) (jD (jO (zO (jA (pv 2) (jA (pv 3) jB))))) jX))) (jD (yC am.c bp hr0 rfl am.m bo.b .nil zX (jA (pv 0) jB)))),?_⟩;have fin:∀{H1:Hp},jJ H H1->∀e,H1 e=none->∀dx',upd H1 e (Ex0 e aa none) dx'=none->(∀e H',jJ H H'->H e=none->NLx aa H' e x->E (.ref e) none H')->E (.ref e) none (upd (upd (upd (upd H1 e (Ex0 e aa none)) dx' (XD dx' [("line",x)])) e (Ex0 e aa (some dx'))) e (ExF e aa (some dx'))):=fun {H1} g e he dx' hd qx=>by
  obtain⟨g2,hx⟩:=aEj (v:=x) g he hd;exact qx e _ g2 (g.free he) hx
 obtain⟨fas,hfo,hfl,hfs⟩:=C.frms H;refine⟨tFo,rfl,⟨_,hfo⟩,uM (xs:=fas.map V.ref) (fun j σ H'=>(∃o2 o3,σ = [some x,some (.ref a),o2,o3])/\jJ H H'/\∀m f',m<j->xH[m]?=some f'->xX ws f'=false) ⟨⟨_,_,rfl⟩,jJ.refl _,fun m f' z=>absurd z (BA _)⟩ (fun j σ H' _ z=>z.2.1.tp hfo) (fun j x σ H' hx z=>?_) (fun σ H' z=>?_)⟩
 ·obtain⟨⟨o2,o3,rfl⟩,g,hno⟩:=z;obtain⟨fa,hfa,rfl⟩:=vF hx;have hj:j<xH.length:=by rw[←hfl];exact(θ.mp hfa).1
  obtain⟨f',hf'⟩ : ∃f',xH[j]?=some f':=⟨_,ν hj⟩;obtain⟨ga,s1,s2⟩:=hfs j fa f' hfa hf';have s1':=g.tp s1;have s2':=g.tp s2;have ha':=g.seq ha;refine⟨fa,_,rfl,s1',rfl,_,_,rfl,_,_,rfl,rfl,_,rfl,ga,_,rfl,.inr s2',_,rfl,a,_,rfl,.inl ha',rfl,_,rfl,qP (fun c=>?_) (fun c=>pV ?_)⟩
  ·have c':f'.2.length=ws.length:=by have:=V.int.inj (of_decide_eq_true c);rw[ε,ε]at this;omega
   have zl:(f'.2.map V.str).length=f'.2.length:=ε _;have zz:(zo gF f'.2 ws).length=f'.2.length:=by rw[CF];omega
   have hf5:f'.2.length<=5:=by rw[c'];exact hw5
   refine⟨true,false,_,rfl,_,rfl,ga,a,f'.2.map V.str,ws.map V.str,rfl,s2',ha',aHl (fun j zs H2=>jJ H' H2/\zs=((zo gF f'.2 ws).take j).map V.bl) (by rw[ε,ε];omega) ⟨jJ.refl _,rfl⟩ (fun j zs H2 _ z=>⟨z.1.tp s2',z.1.seq ha',by rw[z.2,ε,wy];exact AO _ _⟩) (qG (by omega)) (fun j x y zs H2 p os ho hx hy z hp=>?_) (fun zs H2 z p hp=>?_)⟩
   ·obtain⟨g2,rfl⟩:=z;obtain⟨o1,o2,rfl⟩:=aHm ho;obtain⟨u,hu,rfl⟩:=qM hx;obtain⟨v,hv,rfl⟩:=qM hy;clear 1 p H3 g3 k3 hp;refine⟨p,_,rfl,SqT.of k3,rfl,_,_,rfl,_,_,rfl,rfl,_,rfl,_,rfl,u,v,rfl,hw1000 v (xk hv),fun H4 g4=>⟨⟨g2.trans (g3.trans g4),?_⟩,[_,_],rfl,rfl⟩⟩;rw[zk,DG,hu,hv,Ψ];rfl
   ·obtain⟨g2,rfl⟩:=z;clear 1 p H3 g3 k3 hp;rw[zl,←zz,vM]at k3;have g4:=g.trans (g2.trans g3);refine⟨p,_,rfl,SqL.of k3,_,rfl,qP (fun d=>?_) (fun d=>?_)⟩
    ·have hB:xX ws f'=true:=by unfold xX;rw[decide_eq_true c',d];rfl
     have ef:=aOo hf' hB hno;obtain⟨fd',ps'⟩:=f';refine⟨_,rfl,_,rfl,vK,fun t ht=>?_⟩;clear 1 t H5 g5 k5 ht;exact q fd' ps' ef t ga H5 (g4.trans g5) (SqT.of k5) ((g4.trans g5).tp s2)
    ·have hB:xX ws f'=false:=by unfold xX;rw[Bg.mpr d,Bool.and_false]
     exact⟨⟨_,_,rfl⟩,g4,aFz hf' hB hno⟩
  ·have c':¬ f'.2.length=ws.length:=fun z=>c (decide_eq_true (by rw[ε,ε,z]));have hB:xX ws f'=false:=by unfold xX;rw[decide_eq_false c',Bd]
   exact⟨⟨_,_,rfl⟩,g,aFz hf' hB hno⟩
 ·obtain⟨⟨o2,o3,rfl⟩,g,hno⟩:=z;have hz:xH.find? (xX ws)=none:=List.find?_eq_none.mpr fun f' hf'=>by
   obtain⟨j,hj⟩:=zd.mp hf';rw[hno j f' (by rw[ε,hfl];exact(θ.mp hj).1) hj];exact ρ
  exact⟨yg,_,rfl,(by show 1<=1000;decide),fun e he=>⟨e,_,rfl,jF,fun dx' hd=>⟨rfl,e,some dx',rfl,jF,fin g e he dx' hd (qx hz)⟩⟩⟩
theorem lK(F:Fun K "need_standing" "need_standing" zK f fd)(bo:DfI K bh ["self","line"])(bp:jK P w K mg base (CXE P w) k bc bh ["self","line"] (aHf aa)):jK P w K mg base (CXE P w) (k+2) f fd ["begun","line","deed"] (spNs aa K):=by
 w_cond lP;obtain⟨a,x,d,st,s,rfl,rfl,ha,hst,q,qx⟩:=h;refine⟨_,(jC (kL (PW.pt (bL (jV qZ (pv 2) jM (kB _)) (yW (jV (aPh hr.units) (kS qF (pv 0) (qC (cI yR jH)) qJ) (kH (jA jM jB)) (kB _))))) (jD (yC am.c bp hr0 rfl am.m bo.b .nil zX (jA (pv 1) jB))) jX) (jC (kL (PW.pt (bL (jV qZ (pv 2) jM (kB _)) (yW (bP (yZ (pv 0) (fun _=>rfl)))))) (jD (yC am.c bp hr0 rfl am.m bo.b .nil zX (jA (pv 1) jB))) jX) (jD (kL (PW.pt (bL (jV vN (pv 2) (kM (v:=.ref tBe) rfl C.BEGINNINGS rfl) (by with_unfolding_all rfl)) (yW (jV qZ (kA kE rfl M.len yj (jA (pv 0) jB)) (kM (v:=.int 3) rfl C.MOST_BEGUN ⟨_,rfl⟩) (kB _))))) (jD (yC am.c bp hr0 rfl am.m bo.b .nil zX (jA (pv 1) jB))) jX)))),?_⟩;have fin:∀{H1:Hp},jJ H H1->∀e,H1 e=none->∀dx',upd H1 e (Ex0 e aa none) dx'=none->(∀e H',jJ H H'->H e=none->NLx aa H' e x->E (.ref e) none H')->E (.ref e) none (upd (upd (upd (upd H1 e (Ex0 e aa none)) dx' (XD dx' [("line",x)])) e (Ex0 e aa (some dx'))) e (ExF e aa (some dx'))):=fun {H1} g e he dx' hd qx=>by
  obtain⟨g2,hx⟩:=aEj (v:=x) g he hd;exact qx e _ g2 (g.free he) hx
 refine aBm (fun σ' H'=>σ'=[some (.ref a),some x,some (.str s)]/\jJ H H'/\(s = "else"->st.getLast?=some "if")) (fun σ' H' z=>?_) (fun nx hnx=>?_)
 ·obtain⟨rfl,g,h1⟩:=z;refine aBm (fun σ' H2=>σ'=[some (.ref a),some x,some (.str s)]/\jJ H H2/\(s = "end"->st≠[])) (fun σ' H2 z=>?_) (fun nx hnx=>?_)
  ·obtain⟨rfl,g2,h2⟩:=z;have ok:(s∈mB->st.length≠3)->stB st s=true:=fun h3=>by
    unfold stB;rw[Bool.not_eq_true',Bool.or_eq_false_iff,Bool.or_eq_false_iff];refine⟨⟨?_,?_⟩,?_⟩
    ·by_cases z:s = "else"
     ·rw[decide_eq_true (h1 z)];simp
     ·rw[decide_eq_false z];rfl
    ·by_cases z:s = "end"
     ·rw[decide_eq_false (h2 z)];simp
     ·rw[decide_eq_false z];rfl
    ·by_cases z:s∈mB
     ·rw[decide_eq_false (h3 z)];simp
     ·rw[decide_eq_false z];rfl
   refine⟨_,rfl,tBe,_,rfl,.inr (C.begs H2),rfl,kZ _,_,rfl,?_⟩;rw[if_neg ρ,qB];refine qP (fun c=>?_) (fun c=>pV (q (ok fun z=>absurd (decide_eq_true z) c) H2 g2));have cx:=of_decide_eq_true c;refine⟨_,rfl,a,_,rfl,.inl (g2.seq ha),rfl,_,rfl,qP (fun d=>?_) (fun d=>q (ok fun _ z=>d (decide_eq_true (by rw[ε,z];rfl))) H2 g2)⟩;have dd:st.length=3:=by have:=V.int.inj (of_decide_eq_true d);rw[ε]at this;omega
   exact⟨yg,_,rfl,(by show 1<=1000;decide),fun e he=>⟨e,_,rfl,jF,fun dx' hd=>⟨rfl,e,some dx',rfl,jF,fin g2 e he dx' hd (qx (by unfold stB;rw[decide_eq_true cx,decide_eq_true dd];simp))⟩⟩⟩
  ·refine⟨_,rfl,rfl,_,rfl,qP (fun c=>?_) (fun c=>pV (hnx _ _ ⟨rfl,g,fun z=>absurd (decide_eq_true (congrArg V.str z)) c⟩))⟩;have cx:=V.str.inj (of_decide_eq_true c);refine⟨_,rfl,_,.inl ⟨_,g.seq ha,rfl⟩,?_⟩;cases st with
   |nil=>exact vL rfl ⟨yg,_,rfl,(by show 1<=1000;decide),fun e he=>⟨e,_,rfl,jF,fun dx' hd=>⟨rfl,e,some dx',rfl,jF,fin g e he dx' hd (qx (by unfold stB;rw[decide_eq_true (show s=δ "end" from cx)];simp))⟩⟩⟩
   |cons y ys=>exact qA (by simp) (hnx _ _ ⟨rfl,g,fun _=>by simp⟩)
 ·refine⟨_,rfl,rfl,_,rfl,qP (fun c=>?_) (fun c=>pV (hnx _ _ ⟨rfl,jJ.refl _,fun z=>absurd (decide_eq_true (congrArg V.str z)) c⟩))⟩;have cx:=V.str.inj (of_decide_eq_true c);refine⟨_,rfl,_,rfl,_,rfl,a,_,rfl,ha,fun p hp=>?_⟩;rw[cutL];clear 1 p H2 g2 k2 hp;refine⟨iC,fun p2 hp2=>?_⟩;clear 1 p2 H3 g3 k3 hp2;refine⟨p,p2,st.getLast?,"if",rfl,rfl,SqL.of (g3 _ _ k2),SqL.of k3,_,rfl,qP (fun d=>?_) (fun d=>?_)⟩
  ·have dd:st.getLast?≠some "if":=by simpa using d
   exact⟨yg,_,rfl,(by show 1<=1000;decide),fun e he=>⟨e,_,rfl,jF,fun dx' hd=>⟨rfl,e,some dx',rfl,jF,fin (g2.trans g3) e he dx' hd (qx (by unfold stB;rw[decide_eq_true (show s=δ "else" from cx),decide_eq_false dd];simp))⟩⟩⟩
  ·exact hnx _ _ ⟨rfl,g2.trans g3,fun _=>by simpa using d⟩
theorem mY{k:Nat}(F:Fun K "begun_behind" "begun_behind" aH f fd):jJ (k+2) f fd ["begun","deed"] (spBg K):=by
 w_cond nG;obtain⟨a,st,d,xs,rfl,hA,hao,hst,q⟩:=h;refine⟨_,(jC (kL (jV vN (pv 1) (kM (v:=.ref tBe) rfl C.BEGINNINGS rfl) (by with_unfolding_all rfl)) (jD (jO (jP qN (pv 0) (kH (jA (pv 1) jB))))) jX) (jC (kL (jV qZ (pv 1) jM (kB _)) (jD (jO (jP qN (kS qF (pv 0) qJ (qC (cI yR jH))) (kH (jA (pv 1) jB))))) jX) (jD (jO (xF (jV qZ (pv 1) jM (kB _)) (kS qF (pv 0) qJ (qC (cI yR jH))) (pv 0)))))),?_⟩;have ha:=jW.seq hao;have add:∀{H1:Hp}{b:Addr}{ys:List Str},jJ H H1->SqL K H1 b (ys.map V.str)->ys.length<=3->ys++[d]=bgS st d->((1:Nat)<=Δ/\∀p,H1 p=none->∃(a' b':Addr) (xs zs:List V),V.ref b=.ref a'/\V.ref p=.ref b'/\SqL K (upd H1 p (.lst [.str d])) a' xs/\SqL K (upd H1 p (.lst [.str d])) b' zs/\xs.length+zs.length<=Δ/\∀l,upd H1 p (.lst [.str d]) l=none->Q (.ref l) (upd (upd H1 p (.lst [.str d])) l (.lst (xs++zs)))):=fun {H1 b ys} g hb hy he=>by
  refine⟨by decide,fun p hp=>?_⟩;clear 1 p H2 g2 k2 hp;refine⟨b,p,_,_,rfl,rfl,g2.seq hb,SqL.of k2,(by rw[ε,ς];show ys.length+1<=_;omega),fun l hl=>?_⟩;clear 1 l H3 g3 k3 hl;refine q l H3 (g.trans (g2.trans g3)) ?_;rw[←he,Ψ];exact SqL.of (qQ ((hA.same (g.trans g2)).new hl) k3)
 refine⟨_,rfl,tBe,_,rfl,.inr (C.begs H),rfl,kZ _,_,rfl,?_⟩;rw[if_neg ρ,qB];refine qP (fun c=>?_) (fun c=>?_)
 ·have c':=of_decide_eq_true c;obtain⟨z1,z2⟩:=add (jJ.refl H) ha hst (by unfold bgS;rw[if_pos c']);exact⟨_,rfl,_,rfl,z1,(fun p hp=>by obtain⟨a',b',xs,zs,y1,y2,y3,y4,y5,y6⟩:=z2 p hp;exact⟨a',b',xs,zs,y1,y2,y3,y4,y5,y6⟩)⟩
 have c':=of_decide_eq_false (Bg.mpr c);refine⟨_,rfl,rfl,_,rfl,qP (fun d'=>?_) (fun d'=>?_)⟩
 ·have d2:=V.str.inj (of_decide_eq_true d');refine⟨_,rfl,_,rfl,_,rfl,a,_,rfl,ha,fun p hp=>?_⟩;rw[cutI];clear 1 p H2 g2 k2 hp;obtain⟨z1,z2⟩:=add g2 (SqL.of k2) (by rw[DW];omega) (by unfold bgS;rw[if_neg c',if_pos d2]);exact⟨_,rfl,z1,(fun p hp=>by obtain⟨a',b',xs,zs,y1,y2,y3,y4,y5,y6⟩:=z2 p hp;exact⟨a',b',xs,zs,y1,y2,y3,y4,y5,y6⟩)⟩
 have d2:=fun z=>d' (decide_eq_true (congrArg V.str z));refine⟨_,rfl,rfl,_,rfl,qP (fun f'=>?_) (fun f'=>?_)⟩
 ·have f2:=V.str.inj (of_decide_eq_true f');refine⟨_,rfl,_,rfl,_,rfl,a,_,rfl,ha,fun p hp=>?_⟩;rw[cutI];clear 1 p H2 g2 k2 hp;refine q p H2 g2 ?_;unfold bgS;rw[if_neg c',if_neg d2,if_pos f2];exact SqL.of (qQ (hA.new hp) k2)
 ·have f2:=fun z=>f' (decide_eq_true (congrArg V.str z));refine⟨_,rfl,q a H (jJ.refl _) ?_⟩;unfold bgS;rw[if_neg c',if_neg d2,if_neg f2];exact hao
theorem aHx{k:Nat}(F:Fun K "unlike" "unlike" pQ f fd):jJ (k+2) f fd ["names","ahead"] (spUn K):=by
 w_cond lT;obtain⟨a,b,xs,ys,rfl,ha,hb,hys,hx,q⟩:=h;refine⟨_,(jC (jY (i:=2) lT.nd rfl (by walk_at"o") (kH jB)) (jC (xC zw rfl (vO (pv 0)) (jT (i:=3) lT.nd rfl (yl rfl)) (jD (kL (PW.pt (bL (jV xA (pv 3) (pv 1) (by with_unfolding_all rfl)) (yW (jV xA (pv 3) (pv 2) (by with_unfolding_all rfl))))) (jD (qO (zV zb zy Aa xS (pv 2) (jA (pv 3) jB)))) jX))) (jD (jO (pv 2))))),?_⟩;refine⟨dS,fun l hl=>?_⟩;clear 1 l H2 g2 k2 hl;refine⟨_,rfl,a,rfl,⟨_,g2.seq ha⟩,eH (xs:=xs.map V.str) (fun j σ H'=>∃(o3:Option V),σ = [some (.ref a),some (.ref b),some (.ref l),o3]/\But l H2 H'/\H' l=some (.lst ((unq ys (xs.take j)).map V.str))) ⟨_,rfl,But.refl,k2⟩ (fun j σ H' _ z=>?_) (fun j x σ H' hxj z=>?_) (fun σ H' z=>?_)⟩
 ·obtain⟨o3,rfl,g,_⟩:=z;exact(But.from g2 hl g).seq ha
 ·obtain⟨o3,rfl,g,kz⟩:=z;obtain⟨y,hy',rfl⟩:=qM hxj;have gH:=But.from g2 hl g;have eu:=aJb (ys:=ys) hy';refine⟨_,rfl,_,rfl,b,_,rfl,.inl (gH.seq hb),rfl,kZ _,_,rfl,?_⟩;rw[if_pos rfl,qB];refine qP (fun c=>?_) (fun c=>pV ⟨_,rfl,g,?_⟩)
  case refine_2 =>
   rw[eu,show unS ys (unq ys (xs.take j)) y=unq ys (xs.take j) from if_neg (fun z=>c (by rw[decide_eq_false z.1];rfl))];exact kz
  have c':y∉ys:=by simpa using c
  refine⟨_,rfl,_,rfl,l,_,rfl,.inl (SqL.of kz),rfl,kZ _,_,rfl,?_⟩;rw[if_pos rfl,qB];refine qP (fun d=>?_) (fun d=>⟨_,rfl,g,?_⟩)
  case refine_2 =>
   rw[eu,show unS ys (unq ys (xs.take j)) y=unq ys (xs.take j) from if_neg (fun z=>d (by rw[decide_eq_false z.2];rfl))];exact kz
  have d':y∉unq ys (xs.take j):=by simpa using d
  have hlen:=(sD (ys:=ys) (xs:=xs.take j) hys).2.2;have hlen2:(xs.take j).length<=2000:=by rw[wy];omega
  refine⟨_,rfl,.inl ⟨rfl,_,SqL.of kz⟩,_,rfl,l,_,_,rfl,rfl,kz,(by rw[ε];exact zx (yb hlen hlen2) (by decide)),?_⟩;clear 0 l H3 g3 k3;refine⟨_,rfl,g.trans g3,?_⟩;rw[eu,show unS ys (unq ys (xs.take j)) y=unq ys (xs.take j)++[y] from if_pos ⟨c',d'⟩,Ψ];exact k3
 ·obtain⟨o3,rfl,g,kz⟩:=z;rw[ε,AV]at kz;exact⟨_,rfl,q l H' (But.from g2 hl g) kz⟩
theorem aCk{k:Nat}(F:Fun K "names_in" "names_in" gB f fd):jJ (k+2) f fd ["form","words","steps"] (spNi K):=by
 w_cond bF;obtain⟨ga,a,sl,l,us,ss,rfl,hF,hg,ha,hs,hst,hss,q⟩:=h;refine⟨_,(jC (jY (i:=3) bF.nd rfl (by walk_at"o") (kH jB)) (jC (xC zw rfl (aFu rfl M.zip (jA (pv 0) (jA (pv 1) jB))) (yU rfl (kC (jT (i:=4) bF.nd rfl (yl rfl)) (kC (jT (i:=5) bF.nd rfl (yl rfl)) qS))) (jC (kL (jV vN (pv 4) (kM (v:=.ref tNa) rfl C.NAMES rfl) (by with_unfolding_all rfl)) (jD (qO (zV zb zy Aa xS (pv 3) (jA (pv 5) jB)))) jX) (jD (kL (jV qZ (pv 4) jM (kB _)) (jD (qO (zV zb PySem.F.slot_list_extend PySem.F.type_list_extend tU (pv 3) (jA (qT ["step"] [] [] rfl (vO (pv 2)) rfl trivial trivial (fun _ _ _ _=>(jT (i:=0) (show yy (["step"]:List Str) from by ac_rfl) rfl (yl rfl))) (fun _ _ _ _=>(gV (yI (kA (aHw (K:=K) rfl) rfl M.isinstance BW (jA (pv 0) (jA (iS (v:=.ty "tuple") rfl M.tuple boot_tuple rfl) jB)))))) (fun _ _ _ _=>(kO (aOc K rfl) (pv 0) jH (fun _ _=>rfl)))) jB)))) jX)))) (jD (jO (pv 3))))),?_⟩;have hw5:=hF.a.w5;have hpl:=hF.pl;refine⟨dS,fun n hn=>?_⟩;clear 1 n H2 g2 k2 hn;refine⟨true,false,_,rfl,_,rfl,ga,a,l.ps.map V.str,l.ws.map V.str,rfl,g2.tp hg,g2.seq ha,aKr (xs:=l.ps.map V.str) (ys:=l.ws.map V.str) (fun j σ H'=>∃o4 o5,σ = [some (.ref ga),some (.ref a),some (.ref sl),some (.ref n),o4,o5]/\But n H2 H'/\H' n=some (.lst ((nmG ss ((l.ps.zip l.ws).take j)).map V.str))) (by rw[ε,ε];exact hpl.symm) ⟨_,_,rfl,But.refl,k2⟩ (fun j σ H' _ z=>?_) (fun j u v σ H' p hu0 hv0 z hp=>?_) (fun σ H' z=>?_)⟩
 ·obtain⟨o4,o5,rfl,g,_⟩:=z;exact⟨(But.from g2 hn g).tp hg,(But.from g2 hn g).seq ha⟩
 ·obtain⟨o4,o5,rfl,g,kn⟩:=z;obtain⟨u,hu,rfl⟩:=qM hu0;obtain⟨v,hv,rfl⟩:=qM hv0;clear 1 p H3 g3 k3 hp;have kn3:=g3 _ _ kn;have few:(nmG ss ((l.ps.zip l.ws).take j)).length<=1000:=by
   have:=wV hss ((l.ps.zip l.ws).take j);have h2:((l.ps.zip l.ws).take j).length<=5:=by rw[wy,List.length_zip];omega
   omega
  have es:=eL hu hv;have en:nmG ss ((l.ps.zip l.ws).take (j+1))=nmG ss ((l.ps.zip l.ws).take j)++((if u∈zA then [v] else [])++(if u = "PATH" then stN ss else [])):=by
   rw[es,aNk];show _++((if u∈zA then [v] else [])++((if u = "PATH" then stN ss else [])++[]))=_;rw[ya]
  refine⟨p,_,rfl,SqT.of k3,rfl,_,_,rfl,_,_,rfl,rfl,aBm (fun σ' H4=>σ'=[some (.ref ga),some (.ref a),some (.ref sl),some (.ref n),some (.str u),some (.str v)]/\But n H2 H4/\H4 n=some (.lst ((nmG ss ((l.ps.zip l.ws).take j)++(if u∈zA then [v] else [])).map V.str))) (fun σ' H4 z=>?_) (fun nx hnx=>?_)⟩
  ·obtain⟨rfl,g4,k4⟩:=z;refine⟨_,rfl,rfl,_,rfl,qP (fun c=>?_) (fun c=>?_)⟩
   ·have c':=V.str.inj (of_decide_eq_true c);have gH4:=But.from g2 hn g4;have zl:us.length=ss.length:=hst.1;refine⟨_,rfl,.inl ⟨rfl,_,SqL.of k4⟩,_,rfl,sl,rfl,⟨_,gH4.seq hs⟩,xT (xs:=us) (fun i ys H5=>H5=H4/\ys=(stN (ss.take i)).map V.str) ⟨rfl,rfl⟩ (fun i ys H5 _ z=>⟨by rw[z.1];exact gH4.seq hs,by rw[z.2,ε];exact yb (fG _) (CG ..)⟩) (qG (by omega)) (fun i x ys H5 hx z=>?_) (fun ys H5 z l5 hl5=>?_)⟩
    ·obtain⟨rfl,rfl⟩:=z;have hi:i<ss.length:=by rw[←zl];exact(θ.mp hx).1
     obtain⟨st,hst'⟩ : ∃st,ss[i]?=some st:=⟨_,ν hi⟩;have hat:=hst.2 i x st hx hst';have et:stN (ss.take (i+1))=stN (ss.take i)++stN [st]:=by rw[zk,hst',oF];rfl
     cases st with
     |wd w =>
      cases hat;exact⟨_,rfl,_,"tuple","str",rfl,by decide,rfl,_,rfl,qA (by decide) ⟨⟨rfl,by rw[et];show _=(stN (ss.take i)++[]).map V.str;rw[ya]⟩,_,rfl⟩⟩
     |no w =>
      cases hat;exact⟨_,rfl,_,"tuple","int",rfl,by decide,rfl,_,rfl,qA (by decide) ⟨⟨rfl,by rw[et];show _=(stN (ss.take i)++[]).map V.str;rw[ya]⟩,_,rfl⟩⟩
     |nm w =>
      obtain⟨t,rfl,ht⟩:=hat;exact⟨_,rfl,_,"tuple","tuple",rfl,by decide,.inr ⟨rfl,_,gH4.tp ht⟩,_,rfl,vL (by decide) ⟨_,rfl,t,_,_,_,rfl,rfl,gH4.tp ht,rfl,⟨rfl,by rw[et,Ψ];rfl⟩,_,rfl⟩⟩
    ·obtain⟨rfl,rfl⟩:=z;rw[zl,AV];clear 1 l5 H6 g6 k6 hl5;have k46:=g6 _ _ k4;refine⟨n,l5,_,_,rfl,rfl,k46,k6,?_,?_⟩
     ·rw[ε,ε,η,ς];have:=fG ss;have:(if u∈zA then [v] else ([]:List Str)).length<=1:=by split <;> simp
      omega
     ·clear 0 n H7 g7 k7;refine⟨_,_,rfl,(g4.trans (But.of g6)).trans g7,?_⟩;rw[en,if_pos c',←yc,Ψ];exact k7
   ·have c':¬ u = "PATH":=fun z=>c (decide_eq_true (congrArg V.str z));refine⟨_,_,rfl,g4,?_⟩;rw[en,if_neg c',ya];exact k4
  ·refine⟨_,rfl,tNa,_,rfl,.inr (C.nams H3),rfl,kZ _,_,rfl,?_⟩;rw[if_neg ρ,qB];refine qP (fun c=>?_) (fun c=>?_)
   ·have c':=of_decide_eq_true c;refine⟨_,rfl,.inl ⟨rfl,_,SqL.of kn3⟩,_,rfl,n,_,_,rfl,rfl,kn3,(by rw[ε];exact zx few (by decide)),?_⟩;clear 0 n H5 g5 k5;exact hnx _ _ ⟨rfl,(g.trans (But.of g3)).trans g5,by rw[if_pos c',Ψ];exact k5⟩
   ·have c':=of_decide_eq_false (Bg.mpr c);exact hnx _ _ ⟨rfl,g.trans (But.of g3),by rw[if_neg c',ya];exact kn3⟩
 ·obtain⟨o4,o5,rfl,g,kn⟩:=z;rw[ε,zh (by rw[List.length_zip];omega)]at kn;exact⟨_,rfl,q n H' (But.from g2 hn g) kn⟩
theorem aHq(F:Fun K "row_in" "row_in" rE f fd)(mi:Df K mg "steps_in" se qh ["shape","line","deed","path"])(vn:jK P w K mg base (CXE P w) k se qh ["shape","line","deed","path"] (aPz (jK 0) ac K))(vo:DfI K qi ["self","line","deed","goal","reads","steps","number"])(vp:jJ k jg qi ["self","line","deed","goal","reads","steps","number"] (aHt ah "line" "deed" "goal" "reads" "steps" "number")):jK P w K mg base (CXE P w) (k+2) f fd ["shape","line","deed","filled"] (spRo (jK 0) ah ac K):=by
 w_cond cF;obtain⟨z,i,d,l,n,sa,S,xs,H0,rfl,hF,hz,g0,hd0,hw,hg,hn,hd,hA,q,qx⟩:=h;refine⟨_,(jC (jY (i:=4) cF.nd rfl (by walk_at"o") (xF (rJ (uO hr.units1 jM (pv 3))) (cW hr.units1 (pv 3) jM (fun _ _=>rfl)) jM)) (jC (aAg (i:=5) ["part"] ["filled","goal"] [3,4] cF.nd rfl rfl rfl (aGe (pv 3)) rfl ⟨rfl,⟨rfl,trivial⟩⟩ ⟨⟨rfl,rfl,rfl,_,rfl⟩,⟨⟨rfl,rfl,rfl,_,rfl⟩,trivial⟩⟩ (fun _ _ _ _=>(jT (i:=0) (show yy (["part","filled","goal"]:List Str) from by ac_rfl) rfl (yl rfl))) (fun _ _ _ _=>(gV (PW.pt (bL (jV (aEy (K:=K) rfl) (pv 0) (kM (v:=.ref tNa) rfl C.NAMES rfl) (by with_unfolding_all rfl)) (yW (PW.pt (sA (jV aFf (pv 0) jM (kB _)) (fW (jV qZ (pv 2) jM (kB _)))))))))) (fun _ _ _ _=>(cW hr.units1 (pv 1) (pv 0) (fun _ _=>rfl)))) (jC (jY (i:=6) cF.nd rfl (by walk_at"o") (xF (rJ (uO hr.units1 jM (pv 3))) (jN vn hr rfl mi.m mi.k mi.b .nil (aGl fun _ _ _ z=>z) (jA (pv 0) (jA (pv 1) (jA (pv 2) (jA (cW hr.units1 (pv 3) jM (fun _ _=>rfl)) jB))))) (kH jB))) (jC (jY (i:=7) cF.nd rfl (by walk_at"o") (xF (rJ (uO hr.units1 jM (pv 3))) (vY aA rfl M.int boot_int (jA (cW hr.units1 (pv 3) jM (fun _ _=>rfl)) jB)) jH)) (jD (jO (vJ aj.ma vp hr0 rfl aj.m vo.b .nil jS (jA (pv 1) (jA (aKi hr.units1 (pv 3) jM (pv 2) ⟨rfl,rfl,rfl,rfl⟩) (jA (pv 4) (jA (pv 5) (jA (pv 6) (jA (pv 7) jB vC) vC) vC) vC) aOk) vC)))))))),?_⟩;have hw5:=hF.a.w5;have hpl:=hF.pl;have val:∀k,xR (gY l) (.inr k)=((l.ps.zip l.ws).lookup k).map V.str:=fun k=>aIy _ _ k;have no:∀{k:Str},k∉l.ps->xR (gY l) (.inr k)=none:=fun {k} h=>by rw[val,fB h];rfl
 have kl:(gY l).length=l.ps.length:=by unfold gY;rw[CF];omega
 refine ifJ (.str (yH l)) ?_ (fun Q' hq=>?_)
 case' refine_2 =>
  by_cases hn':("=" : Str)∈l.ps
  ·obtain⟨v,hv,_⟩:=iZ hF (hF.ga hn');obtain⟨v2,hv2,_⟩:=iZ hF hn';have e1:yH l=v:=by unfold yH;rw[if_pos hn',hv];rfl
   have e2:xR (gY l) (.inr "A")=some (.str v):=by rw[val,hv];rfl
   have e3:xR (gY l) (.inr "=")=some (.str v2):=by rw[val,hv2];rfl
   exact⟨_,rfl,d,_,rfl,zZ.k (k:=Az "=") hd,_,rfl,vL (by rw[e3];rfl) ⟨_,rfl,d,.str v,rfl,(by rw[←e2];exact zZ.k (k:=Az "A") hd),e1 ▸ hq⟩⟩
  ·have e1:yH l = "":=by unfold yH;rw[if_neg hn']
   exact⟨_,rfl,d,_,rfl,zZ.k (k:=Az "=") hd,_,rfl,qA (by rw[no hn'];decide) (e1 ▸ hq)⟩
 refine⟨_,rfl,d,_,rfl,hd,fun o=>?_⟩;generalize e1:upd H d _=H1;have hA1:Al xs H1:=by rw[←e1];exact aSp hA
 obtain⟨g1,kd⟩:=aC e1;have g01:jJ H0 H1:=But.from g0 hd0 g1;have hwd:=hw.same g01;have dno:∀{k:Str}{H':Hp},k∉l.ps->H' d=some (.frz o (.dK (gY l)))->zZ H' d (.str k) none:=fun {k H'} h hk=>by rw[←no h];exact gM (k:=Az k) hk
 refine aHi (fun j ys H'=>H'=H1/\ys=(rdF (yH l) ((l.ps.zip l.ws).take j)).map V.str/\(rdF (yH l) ((l.ps.zip l.ws).take j)).length<=j) ⟨rfl,rfl,μ _⟩ (fun j ys H' _ z=>⟨by rw[z.1];exact kd,by rw[z.2.1,ε];exact z.2.2⟩) (by rw[kl,ς];omega) (fun j kv ys H' hkv z=>?_) (fun ys H' z p hp=>?_)
 ·obtain⟨rfl,rfl,hj⟩:=z;obtain⟨u,v,hu,hv,rfl⟩:=kv_at hkv;have hvv:xR (gY l) (.inr u)=some (.str v):=by rw[val,gU hF.nd hu hv];rfl
  have es:=aKt (g:=yH l) hu hv;have yes:(u∈zA/\(u ≠ "A" ∨ yH l = ""))->rdF (yH l) ((l.ps.zip l.ws).take (j+1))=rdF (yH l) ((l.ps.zip l.ws).take j)++[v]:=fun h=>by rw[es,if_pos h]
  have nay:¬ (u∈zA/\(u ≠ "A" ∨ yH l = ""))->rdF (yH l) ((l.ps.zip l.ws).take (j+1))=rdF (yH l) ((l.ps.zip l.ws).take j):=fun h=>by rw[es,if_neg h,ya]
  refine⟨_,rfl,tNa,_,rfl,.inr (C.nams H'),rfl,kZ _,_,rfl,?_⟩;have ein:inV (kV ((Az u:Key),V.str v).fst) (zA.map V.str)=decide (u∈zA):=qB ..;rw[if_neg ρ,ein];refine qP (fun c=>?_) (fun c=>pV ⟨⟨rfl,?_,?_⟩,_,rfl⟩)
  ·have c':=of_decide_eq_true c;refine⟨_,rfl,rfl,_,rfl,qP (fun c2=>?_) (fun c2=>?_)⟩
   ·have c2':u ≠ "A":=by simpa [kV] using c2
    have en:=yes ⟨c',.inl c2'⟩;exact aIh ⟨_,rfl,_,rfl,d,.str v,rfl,(by rw[←hvv];exact gM (k:=Az u) kd),⟨rfl,by rw[en,Ψ];rfl,by rw[en,η];exact DL hj⟩,_,rfl⟩
   ·have c2':u = "A":=by simpa [kV] using c2
    refine⟨_,rfl,rfl,_,rfl,qP (fun c3=>?_) (fun c3=>?_)⟩
    ·have en:=yes ⟨c',.inr (V.str.inj (of_decide_eq_true c3))⟩;exact⟨_,rfl,_,rfl,d,.str v,rfl,(by rw[←hvv];exact gM (k:=Az u) kd),⟨rfl,by rw[en,Ψ];rfl,by rw[en,η];exact DL hj⟩,_,rfl⟩
    ·have en:=nay (fun z=>z.2.elim (fun h=>h c2') (fun h=>c3 (decide_eq_true (congrArg V.str h))));exact⟨⟨rfl,by rw[en],by rw[en];omega⟩,_,rfl⟩
  ·rw[nay (fun z=>c (decide_eq_true z.1))]
  ·rw[nay (fun z=>c (decide_eq_true z.1))];omega
 ·obtain⟨e',rfl,_⟩:=z;subst e';generalize e2:upd H' p _=H2;obtain⟨g2,k2⟩:=kQ e2 hp;rw[kl,zh (by rw[List.length_zip];omega)]at k2;have k2o:offs xs H2 p=some (.lst (l.rs.map V.str)):=qQ (hA1.new hp) k2;have edd:(xR (gY l) (.inr "OP")).getD (V.str l.fd)=V.str l.d:=by rw[val];unfold Ln.d;cases (l.ps.zip l.ws).lookup ("OP" : Str) <;> rfl
  have kd2:=g2 _ _ kd
  by_cases hP:("PATH" : Str)∈l.ps
  ·obtain⟨pt,hpt,hptm⟩:=iZ hF hP;have e3:xR (gY l) (.inr "PATH")=some (.str pt):=by rw[val,hpt];rfl
   have so:vD S (.nest n) l=vS S (.nest n) l.fd pt:=by unfold vD zD;rw[hpt]
   refine⟨_,rfl,d,_,rfl,gM (k:=Az "PATH") kd2,_,rfl,vL (by rw[e3];rfl) ⟨_,rfl,_,rfl,_,rfl,_,rfl,d,.str pt,rfl,(by rw[←e3];exact gM (k:=Az "PATH") kd2),z,_,l.fd,pt,n,sa,S,xs,rfl,hz,hwd.same g2,hg,hn,(by have:=(hF.a.w _ hptm).1;omega),hA1.same g2,fun ss hss sl us H4 g4 s4 st4=>?_,fun hno e H4 g4 he hx=>qx (by rw[so];exact hno) pt (by unfold zD;exact hpt) e H4 ((g01.trans g2).trans g4) ((g01.trans g2).free he) hx⟩⟩
   ·have kd4:=g4 _ _ kd2;rw[←so]at hss;refine⟨_,rfl,d,_,rfl,dno hF.nu kd4,_,rfl,qA (by decide) ?_⟩;refine⟨_,rfl,_,rfl,d,rfl,.inl ⟨_,.inr ⟨o,kd4⟩⟩,_,rfl,_,gM (k:=Az "OP") kd4,_,rfl,_,rfl,_,rfl,_,rfl,fun y dy hy hdy _=>⟨y,dy,_,_,_,_,_,_,H4,rfl,jF,zU hy hdy,hy,fun H5 g5 k5=>⟨rfl,?_⟩⟩⟩;exact q _ hss y H5 (((g01.trans g2).trans g4).trans g5) ⟨dy,_,_,_,qQ (((hA1.same g2).same g4).new hy) (by rw[edd]at k5;exact k5),SqL.of (jU g5 _ _ (jU g4 _ _ k2o)),(jU g5).seq s4,st4.same (jU g5)⟩
  ·have hss:vD S (.nest n) l=some []:=by unfold vD zD;rw[fB hP]
   refine⟨_,rfl,d,_,rfl,dno hP kd2,_,rfl,qA (by decide) ⟨dS,fun p2 hp2=>?_⟩⟩;generalize e3:upd H2 p2 _=H4;obtain⟨g4,k4⟩:=kQ e3 hp2;have kd4:=g4 _ _ kd2;have s4:SqL K (offs xs H4) p2 []:=SqL.of (qQ ((hA1.same g2).new hp2) k4);have st4:zQ K (offs xs H4) [] []:=⟨rfl,fun i v s h=>by simp at h⟩;refine⟨_,rfl,d,_,rfl,dno hF.nu kd4,_,rfl,qA (by decide) ?_⟩;refine⟨_,rfl,_,rfl,d,rfl,.inl ⟨_,.inr ⟨o,kd4⟩⟩,_,rfl,_,gM (k:=Az "OP") kd4,_,rfl,_,rfl,_,rfl,_,rfl,fun y dy hy hdy _=>⟨y,dy,_,_,_,_,_,_,H4,rfl,jF,zU hy hdy,hy,fun H5 g5 k5=>⟨rfl,?_⟩⟩⟩;exact q _ hss y H5 (((g01.trans g2).trans g4).trans g5) ⟨dy,_,_,_,qQ (((hA1.same g2).same g4).new hy) (by rw[edd]at k5;exact k5),SqL.of (jU g5 _ _ (jU g4 _ _ k2o)),(jU g5).seq s4,st4.same (jU g5)⟩
theorem wT{r:Nat}(F:Fun K "rows_from" "rows_from" eE f fd)(kj:Df K mg "whole_row" qj pe ["told","at"])(vc:jJ k qj pe ["told","at"] (spWR ah ar ai K (r+1)))(jc:Df K mg "line_behind" nj lm ["row"])(uk:jJ k nj lm ["row"] (spLb ah ar ai K)):jJ (k+2) f fd ["told","first"] (spRF ah ar ai K (r+1)):=by
 w_cond yB;obtain⟨tl,n,e,d,rs,ls,ts,xs,rfl,hr1,hdp,hps,hA,hT,h60,q⟩:=h;refine⟨_,(jC (jY (i:=2) yB.nd rfl (by walk_at"o") (kH jB)) (jC (jY (i:=3) yB.nd rfl (by walk_at"o") (pv 1)) (jC (aMk zw (PW.pt (bL (jV aPy (pv 3) (kA kE rfl M.len yj (jA (pv 0) jB)) (kB _)) (yW (jV xA (kK (kO jZ (pv 0) (pv 3) (fun _ _=>rfl)) rfl) (zO (jA jM (jA jM jB))) (by with_unfolding_all rfl))))) (jC (jY (i:=4) yB.nd rfl (by walk_at"o") (jN vc hr rfl kj.m kj.k kj.b .nil jS (jA (pv 0) (jA (pv 3) jB)))) (jC (qO (zV zb zy Aa xS (pv 2) (jA (pv 4) jB))) (jD (jY (i:=3) yB.nd rfl (by walk_at"o") (jN uk hr rfl jc.m jc.k jc.b .nil jS (jA (pv 4) jB))))))) (jD (jO (zO (jA (pv 2) (jA (pv 3) jB)))))))),?_⟩;have hlen:=hT.n;refine⟨dS,fun l hl=>?_⟩;clear 1 l H2 g2 k2 hl;have hA2:=hA.same g2;have hTx:TD ah K (offs (l::xs) H2) tl rs ls:=hT.same (aKm hl g2);refine⟨_,rfl,fun m σ H'=>∃(n':Nat) (as:List Addr) (t1 t2:List Tr) (o4:Option V),m=100-n'/\σ = [some (.ref tl),some (.int (n:Int)),some (.ref l),some (.int (n':Int)),o4]/\But l H2 H'/\H' l=some (.lst (as.map V.ref))/\jJ (offs (l::xs) H2) (offs (l::xs) H')/\TAs ah ar ai K (offs (l::xs) H') as t1/\ts=t1++t2/\Prs (ls.map (·.x)) n' t2 e/\Dp d t2/\as.length<=n',⟨_,n,[],[],ts,_,rfl,rfl,But.refl,k2,jJ.refl _,.nil,rfl,hps,hdp,xy _⟩,fun m σ H' z=>?_⟩;obtain⟨n',as,t1,t2,o4,rfl,rfl,g,kl,go,ha,ets,hp2,hd2,han⟩:=z;have gH:=But.from g2 hl g;have hTo:=hTx.same go;have hT':=hTo.same jW;have hA':=uU (hA.same gH) kl;have lx:l∉xs:=hA.new hl;have dl:(ls.map (·.x)).length=ls.length:=ε _;refine⟨_,rfl,_,rfl,tl,_,rfl,.inl hT'.l,_,_,rfl,rfl,_,rfl,qP (fun c=>?_) (fun c=>?_)⟩
 ·have c':n'<ls.length:=by have:=of_decide_eq_true c;rw[ε]at this;omega
  obtain⟨y,hy⟩ : ∃y,(ls.map (·.x))[n']?=some y:=⟨_,ν (by omega)⟩;obtain⟨a,ln,har,hln,hlt,hxy,hrow⟩:=hT'.at hy;obtain⟨dx,ra,sa,h1,h2⟩:=hrow;have hF:=sP hlt;refine⟨_,rfl,_,rfl,tl,_,_,_,rfl,rfl,hT'.l,cP har,a,ah,_,_,_,rfl,h1,aj.cl,aj.na _ (by decide),rfl,vK,fun pt hpt=>?_⟩;clear 1 pt H3 g3 k3 hpt;have ein:inV (V.str ln.d) [V.str (δ "else"),V.str (δ "end")]=decide (ln.d∈([δ "else",δ "end"]:List Str)):=qB (x:=ln.d) (ys:=[δ "else",δ "end"]);refine⟨pt,_,rfl,.inr (SqT.of k3),rfl,rfl,_,rfl,?_⟩;rw[if_pos rfl,ein];have g23:=g.trans (But.of g3);have kl3:=g3 _ _ kl;have go3:=go.trans (jU g3);have ha3:=ha.same (jU (xs:=l::xs) g3);rcases aCx hp2 with⟨rfl,rfl,hst⟩|⟨t,ts',x,rfl,hx,n1,n2⟩
  ·have hmem:ln.d∈([δ "else",δ "end"]:List Str):=by
    rcases hst with hst|⟨x,hx,hxd⟩
    ·omega
    ·rw[hy]at hx;cases hx;rw[←hxy]at hxd;rcases hxd with hxd|hxd
     ·rw[hF.de.mp hxd];exact ο ..
     ·rw[hF.df.mp hxd];exact π _ (ο ..)
   refine qA (by rw[decide_eq_true hmem];decide) ⟨_,rfl,_,rfl,vK,fun p hp=>?_⟩;generalize e5:upd H3 p _=H5;obtain⟨g5,k5⟩:=kQ e5 hp;rw[ya]at ets;subst ets;exact q p l as H5 ((gH.trans g3).trans g5) (SqT.of k5) (SqL.of (qQ lx (g5 _ _ kl3))) ((ha3.same (jU g5)).same (pN fun b hb=>π _ hb))
  ·rw[hy]at hx;cases hx;rw[←hxy]at n1 n2;have hmem:ln.d∉([δ "else",δ "end"]:List Str):=fun z=>by
    rcases χ.mp z with z|z
    ·exact n1 (hF.de.mpr z)
    ·exact n2 (hF.df.mpr (ω.mp z))
   refine vL (by rw[decide_eq_false hmem];rfl) ⟨_,fun _ _ h=>h,?_⟩;obtain⟨htl,hlt2⟩:=aLa hp2;refine⟨_,rfl,_,rfl,tl,n',e,d,rs,ls,t,ts',l::xs,rfl,hr1,hd2,hp2,hA'.same g3,hTo.same (jU g3),h60,fun a' H4 g4 ta=>?_⟩;have kl4:=g4 _ _ kl3;refine⟨_,rfl,.inl ⟨rfl,_,SqL.of kl4⟩,_,rfl,l,_,_,rfl,rfl,kl4,(by rw[ε];exact zx (show as.length<=60 by omega) (by decide)),?_⟩;generalize e5:upd H4 l _=H5;have eo:offs (l::xs) H5=offs (l::xs) H4:=by rw[←e5];exact dU
   obtain⟨g5,k5⟩:=aC e5;have ta5:TAs ah ar ai K (offs (l::xs) H5) [a'] [t]:=by rw[eo];exact ta
   refine⟨_,rfl,a',t,rfl,ta5.same jW,100-nxt t,?_,nxt t,as++[a'],t1++[t],ts',_,rfl,rfl,(g23.trans (But.of g4)).trans g5,by rw[Ψ];exact k5,by rw[eo];exact go3.trans (jU g4),by rw[eo]at ta5 ⊢;exact(ha3.same (jU g4)).app ta5,by rw[ets,yc];rfl,htl,aNw hd2,by rw[η,xm];omega⟩;omega
 ·have c':¬ n'<ls.length:=fun z=>c (decide_eq_true (by rw[ε];omega));rcases aCx hp2 with⟨rfl,rfl,hst⟩|⟨t,ts',x,rfl,hx,n1,n2⟩
  ·refine pV ⟨_,rfl,_,rfl,vK,fun p hp=>?_⟩;generalize e5:upd H' p _=H5;obtain⟨g5,k5⟩:=kQ e5 hp;rw[ya]at ets;subst ets;exact q p l as H5 (gH.trans g5) (SqT.of k5) (SqL.of (qQ lx (g5 _ _ kl))) ((ha.same (jU g5)).same (pN fun b hb=>π _ hb))
  ·have:=(θ.mp hx).1;omega
theorem uV(F:Fun K "whole_row" "whole_row" eG f fd)(cf:Df K mg "rows_from" gq gm ["told","first"])(iw:jJ k gq gm ["told","first"] (spRF ah ar ai K r))(vd:DfI K ph ["self","line","last","deed","goal","reads","rows"])(ve:jJ k iu ph ["self","line","last","deed","goal","reads","rows"] (aHt ar "line" "last" "deed" "goal" "reads" "rows"))(nk:DfI K lq ["self","line","last","middle","reads","rows","others"])(nq:jJ k gu lq ["self","line","last","middle","reads","rows","others"] (aHt ai "line" "last" "middle" "reads" "rows" "others")):jJ (k+2) f fd ["told","at"] (spWR ah ar ai K (r+1)):=by
 w_cond vX;obtain⟨tl,n,e,d,rs,ls,t,ts,xs,rfl,hr1,hdp,hps,hA,hT,h60,q⟩:=h;refine⟨_,(jC (jY (i:=2) vX.nd rfl (by walk_at"o") (kO jZ (pv 0) (pv 1) (fun _ _=>rfl))) (jC (kL (jV xA (kK (pv 2) rfl) (kM (v:=.ref tBe) rfl C.BEGINNINGS rfl) (by with_unfolding_all rfl)) (jD (jO (pv 2))) jX) (jC (eN (jN iw hr rfl cf.m cf.k cf.b .nil jS (jA (pv 0) (jA (jP qI (pv 1) jH) jB))) (yU rfl (kC (jT (i:=3) vX.nd rfl (yl rfl)) (kC (jT (i:=4) vX.nd rfl (yl rfl)) qS)))) (jC (kL (jV aFf (kK (pv 2) rfl) jM (kB _)) (jD (jO (vJ bv.ma ve hr0 rfl bv.m vd.b .nil jS (jA (pv 1) (jA (pv 4) (jA (kK (pv 2) rfl) (jA (kO jZ (kK (pv 2) rfl) jH (fun _ _=>rfl)) (jA (kS qF (kK (pv 2) rfl) (qC jH) qJ) (jA (pv 3) jB vC) aMr) aMr)) vC) vC)))) jX) (jC (kL (jV qZ (kK (kO jZ (pv 0) (pv 4) (fun _ _=>rfl)) rfl) jM (kB _)) (jD (jO (vJ aw.ma nq hr0 rfl aw.m nk.b .nil jS (jA (pv 1) (jA (pv 4) (jA yQ (jA (kK (pv 2) rfl) (jA (pv 3) (jA (kH jB) jB aNs) vC)) aBp) vC) vC)))) jX) (jC (eN (jN iw hr rfl cf.m cf.k cf.b .nil jS (jA (pv 0) (jA (jP qI (pv 4) jH) jB))) (yU rfl (kC (jT (i:=5) vX.nd rfl (yl rfl)) (kC (jT (i:=6) vX.nd rfl (yl rfl)) qS)))) (jD (jO (vJ aw.ma nq hr0 rfl aw.m nk.b .nil jS (jA (pv 1) (jA (pv 6) (jA (pv 4) (jA (kK (pv 2) rfl) (jA (pv 3) (jA (pv 5) jB vC) vC)) vC) vC) vC)))))))))),?_⟩;have hT':=hT.same jW;have er:r=d:=Nat.succ.inj hr1;subst er;have start:∀{x:Str},(ls.map (·.x))[n]?=some x->∃a l dx ra sa,rs[n]?=some a/\LnF l/\l.x=x/\offs xs H a=some (.ins ah dx [("line",.int n),("deed",.str l.d),("goal",.str (yH l)),("reads",.ref ra),("steps",.ref sa),("number",.int 0)])/\SqL K (offs xs H) ra (l.rs.map V.str):=fun {x} hx=>by
  obtain⟨a,l,h1,h2,h3,h4,dx,ra,sa,h5,h6⟩:=hT.at hx;exact⟨a,l,dx,ra,sa,h1,h3,h4,h5,h6⟩
 have beg:∀{l:Ln},LnF l->(l.d∈mB ↔ lnD l.x=.loop\/lnD l.x=.cond):=fun {l} hl=>by
  have hF:=sP hl;constructor
  ·intro z;rcases χ.mp z with z|z
   ·exact .inl (hF.dl.mpr (.inl z))
   ·rcases χ.mp z with z|z
    ·exact .inl (hF.dl.mpr (.inr z))
    ·exact .inr (hF.dc.mpr (ω.mp z))
  ·rintro (z|z)
   ·rcases hF.dl.mp z with z|z
    ·rw[z];exact ο ..
    ·rw[z];exact π _ (ο ..)
   ·rw[hF.dc.mp z];exact π _ (π _ (ο ..))
 cases hps with
 |row hx hd hp =>
  obtain⟨a,l,dx,ra,sa,har,hl,ex,h1,h2⟩:=start hx;have h1':=jW _ _ h1;have h2':=jW.seq h2;have hF:=sP hl;rw[←ex]at hd;refine⟨_,rfl,_,rfl,tl,_,_,_,rfl,rfl,hT'.l,cP har,_,rfl,a,ah,_,_,_,rfl,h1',aj.cl,aj.na _ (by decide),rfl,tBe,_,rfl,.inr (C.begs H),rfl,kZ _,_,rfl,?_⟩;rw[if_pos rfl,qB];exact vL (by rw[decide_eq_false (fun z=>by rcases (beg hl).mp z with z|z <;> rw[hd]at z <;> cases z)];rfl) ⟨_,rfl,q a H (jJ.refl _) (.row ⟨dx,ra,sa,h1,h2⟩ .nil)⟩
 | @loop _ b _ x y rs' _ hx hd p1 hy hyd p2 =>
  obtain⟨dd,dp1⟩ : ∃dd,r=dd+1/\Dp dd rs':=by cases hdp with|loop h _=>exact⟨_,rfl,h⟩
  obtain⟨rfl,dp1⟩:=dp1;obtain⟨a,l,dx,ra,sa,har,hl,ex,h1,h2⟩:=start hx;have h1':=jW _ _ h1;have h2':=jW.seq h2;have hF:=sP hl;rw[←ex]at hd;refine⟨_,rfl,_,rfl,tl,_,_,_,rfl,rfl,hT'.l,cP har,_,rfl,a,ah,_,_,_,rfl,h1',aj.cl,aj.na _ (by decide),rfl,tBe,_,rfl,.inr (C.begs H),rfl,kZ _,_,rfl,?_⟩;rw[if_pos rfl,qB];refine qA (by rw[decide_eq_true ((beg hl).mpr (.inl hd))];decide) ⟨_,rfl,_,rfl,_,_,rfl,rfl,tl,n+1,b,dd,rs,ls,rs',xs,rfl,rfl,dp1,p1,hA,hT,h60,fun p rp as H2 g2 s2 l2 ta2=>⟨p,_,rfl,s2,rfl,_,_,rfl,_,_,rfl,rfl,?_⟩⟩;have h12:=g2 _ _ h1';have hA2:=hA.same g2;have hT2:=hT.same (jU g2);have nif:l.d ≠ "if":=fun z=>by have:=hF.dc.mpr z;rw[hd]at this;cases this
  refine⟨_,rfl,a,ah,_,_,_,rfl,h12,aj.cl,aj.na _ (by decide),rfl,rfl,_,rfl,vL (by simpa using nif) ?_⟩;obtain⟨r0,rr,er⟩ : ∃r0 rr,l.rs=r0::rr:=by
   cases e:l.rs with
   |nil=>exact absurd e (hF.rl hd)
   |cons r0 rr=>exact⟨r0,rr,rfl⟩
  have h22:SqL K H2 ra (V.str r0::rr.map V.str):=by have:=g2.seq h2';rw[er]at this;exact this
  refine⟨_,rfl,_,rfl,_,rfl,a,ah,_,_,_,rfl,h12,aj.cl,aj.na _ (by decide),rfl,_,rfl,a,ah,_,_,_,rfl,h12,aj.cl,aj.na _ (by decide),rfl,ra,_,_,_,rfl,rfl,h22,at0,_,rfl,a,ah,_,_,_,rfl,h12,aj.cl,aj.na _ (by decide),rfl,_,rfl,ra,_,rfl,h22,fun pc hpc=>?_⟩;clear 1 pc H3 g3 k3 hpc;refine⟨_,rfl,fun z dz hz hdz _=>⟨z,dz,_,_,_,_,_,_,H3,rfl,jF,zU hz hdz,hz,fun H4 g4 k4=>⟨rfl,?_⟩⟩⟩;have g24:=g3.trans g4;exact q z H4 (g2.trans g24) (.loop (qQ ((hA2.same g3).new hz) k4) ((jU g24).seq l2) (ta2.same (jU g24)) .nil)
 | @if1 _ b _ x y rs' _ hx hd p1 hy hyd p2 =>
  obtain⟨dd,dp1⟩ : ∃dd,r=dd+1/\Dp dd rs':=by cases hdp with|ch h _ _=>exact⟨_,rfl,h⟩
  obtain⟨rfl,dp1⟩:=dp1;obtain⟨a,l,dx,ra,sa,har,hl,ex,h1,h2⟩:=start hx;have h1':=jW _ _ h1;have h2':=jW.seq h2;have hF:=sP hl;rw[←ex]at hd;refine⟨_,rfl,_,rfl,tl,_,_,_,rfl,rfl,hT'.l,cP har,_,rfl,a,ah,_,_,_,rfl,h1',aj.cl,aj.na _ (by decide),rfl,tBe,_,rfl,.inr (C.begs H),rfl,kZ _,_,rfl,?_⟩;rw[if_pos rfl,qB];refine qA (by rw[decide_eq_true ((beg hl).mpr (.inr hd))];decide) ⟨_,rfl,_,rfl,_,_,rfl,rfl,tl,n+1,b,dd,rs,ls,rs',xs,rfl,rfl,dp1,p1,hA,hT,h60,fun p rp as H2 g2 s2 l2 ta2=>⟨p,_,rfl,s2,rfl,_,_,rfl,_,_,rfl,rfl,?_⟩⟩;have h12:=g2 _ _ h1';have hA2:=hA.same g2;have hT2:=hT.same (jU g2);refine⟨_,rfl,a,ah,_,_,_,rfl,h12,aj.cl,aj.na _ (by decide),rfl,rfl,_,rfl,qA (by rw[hF.dc.mp hd];decide) ?_⟩;obtain⟨a2,l2',har2,_,hl2,ex2,dx2,ra2,sa2,h21,_⟩:=hT2.at hy;have hF2:=sP hl2;rw[←ex2]at hyd;refine⟨_,rfl,_,rfl,tl,_,_,_,rfl,rfl,(hT2.same jW).l,cP har2,a2,ah,_,_,_,rfl,(jW _ _ h21),aj.cl,aj.na _ (by decide),rfl,rfl,_,rfl,vL (by rw[hF2.df.mp hyd];decide) ⟨_,rfl,_,rfl,_,rfl,a,ah,_,_,_,rfl,h12,aj.cl,aj.na _ (by decide),rfl,_,rfl,dS,fun pc hpc=>?_⟩⟩;clear 1 pc H3 g3 k3 hpc;refine fun z dz hz hdz _=>⟨z,dz,_,_,_,_,_,_,H3,rfl,jF,zU hz hdz,hz,fun H4 g4 k4=>⟨rfl,?_⟩⟩;have g24:=g3.trans g4;exact q z H4 (g2.trans g24) (.ch (m:=none) (cs:=[]) (qQ ((hA2.same g3).new hz) k4) ((jU g24).seq l2) (SqL.of (qQ (hA2.new hpc) (g4 _ _ k3))) (ta2.same (jU g24)) .nil .nil)
 | @if2 _ b c _ x y z' rs' os _ hx hd p1 hy hyd p2 hz hzd p3 =>
  obtain⟨dd,dp1⟩ : ∃dd,r=dd+1/\Dp dd rs'/\Dp dd os:=by cases hdp with|ch h h' _=>exact⟨_,rfl,h,h'⟩
  obtain⟨rfl,dp1,dp2⟩:=dp1;obtain⟨a,l,dx,ra,sa,har,hl,ex,h1,h2⟩:=start hx;have h1':=jW _ _ h1;have h2':=jW.seq h2;have hF:=sP hl;rw[←ex]at hd;refine⟨_,rfl,_,rfl,tl,_,_,_,rfl,rfl,hT'.l,cP har,_,rfl,a,ah,_,_,_,rfl,h1',aj.cl,aj.na _ (by decide),rfl,tBe,_,rfl,.inr (C.begs H),rfl,kZ _,_,rfl,?_⟩;rw[if_pos rfl,qB];refine qA (by rw[decide_eq_true ((beg hl).mpr (.inr hd))];decide) ⟨_,rfl,_,rfl,_,_,rfl,rfl,tl,n+1,b,dd,rs,ls,rs',xs,rfl,rfl,dp1,p1,hA,hT,h60,fun p rp as H2 g2 s2 l2 ta2=>⟨p,_,rfl,s2,rfl,_,_,rfl,_,_,rfl,rfl,?_⟩⟩;have h12:=g2 _ _ h1';have hA2:=hA.same g2;have hT2:=hT.same (jU g2);refine⟨_,rfl,a,ah,_,_,_,rfl,h12,aj.cl,aj.na _ (by decide),rfl,rfl,_,rfl,qA (by rw[hF.dc.mp hd];decide) ?_⟩;obtain⟨a2,l2',har2,_,hl2,ex2,dx2,ra2,sa2,h21,_⟩:=hT2.at hy;have hF2:=sP hl2;rw[←ex2]at hyd;refine⟨_,rfl,_,rfl,tl,_,_,_,rfl,rfl,(hT2.same jW).l,cP har2,a2,ah,_,_,_,rfl,(jW _ _ h21),aj.cl,aj.na _ (by decide),rfl,rfl,_,rfl,qA (by rw[hF2.de.mp hyd];decide) ⟨_,rfl,_,rfl,_,_,rfl,rfl,tl,b+1,c,dd,rs,ls,os,xs,rfl,rfl,dp2,p2,hA2,hT2,h60,fun p' rp' as' H3 g3 s3 l3 ta3=>⟨p',_,rfl,s3,rfl,_,_,rfl,_,_,rfl,rfl,_,rfl,_,rfl,_,rfl,_,rfl,a,ah,_,_,_,rfl,(g3 _ _ h12),aj.cl,aj.na _ (by decide),rfl,_,rfl,_,rfl,?_⟩⟩⟩;refine fun z dz hz hdz _=>⟨z,dz,_,_,_,_,_,_,H3,rfl,jF,zU hz hdz,hz,fun H4 g4 k4=>⟨rfl,?_⟩⟩;have g24:=g3.trans g4;exact q z H4 (g2.trans g24) (.ch (m:=some b) (qQ ((hA2.same g3).new hz) k4) ((jU g24).seq l2) ((jU g4).seq l3) (ta2.same (jU g24)) (ta3.same (jU g4)) .nil)
theorem nQ(F:Fun K "read_program" "read_program" aU f fd)(mj:Df K mg "lines_in" sf qk ["text"])(vq:jJ k sf qk ["text"] spLi)(pk:Df K mg "form_of" uc sg ["line","words"])(wf:jK P w K mg base (CXE P w) k uc sg ["line","words"] (spFm aa K))(ie:Df K mg "need_standing" jz jv ["begun","line","deed"])(si:jK P w K mg base (CXE P w) k jz jv ["begun","line","deed"] (spNs aa K))(nv:DfM K Vf "main" nr lu ["self"])(ul:jJ k nr lu ["self"] (spMn (jK 0) Vf K))(rf:Df K mg "row_in" uw ud ["shape","line","deed","filled"])(wj:jK P w K mg base (CXE P w) k uw ud ["shape","line","deed","filled"] (spRo (jK 0) ah ac K))(ml:Df K mg "names_in" sj qo ["form","words","steps"])(vt:jJ k sj qo ["form","words","steps"] (spNi K))(rg:Df K mg "unlike" ux ue ["names","ahead"])(wk:jJ k ux ue ["names","ahead"] (spUn K))(ip:Df K mg "begun_behind" lw kb ["begun","deed"])(sy:jJ k lw kb ["begun","deed"] (spBg K))(cf:Df K mg "rows_from" gq gm ["told","first"])(iw:jJ k gq gm ["told","first"] (spRF ah ar ai K 4))(tf:DfI K ke ["self","shapes","rows","named","written"])(tj:jJ k gp ke ["self","shapes","rows","named","written"] (spI4 ci "shapes" "rows" "named" "written"))(bo:DfI K bh ["self","line"])(bp:jK P w K mg base (CXE P w) k bc bh ["self","line"] (aHf aa))(tm:DfI K kf ["self","line"])(tq:jK P w K mg base (CXE P w) k cw kf ["self","line"] (aHf ak)):jK P w K mg base (CXE P w) (k+2) f fd ["shapes","text"] (spRP (jK 0) Vf aa ak ac K):=by
 w_cond kF;obtain⟨ra,z,sa,S,ls,rfl,hro,hgS,hnS,hls,hne,h100,q,qp,qw,qm⟩:=h;refine⟨_,(jC (kL (bP (yI (kA aHp rfl M.isinstance BW (jA (pv 1) (jA (iS (v:=.ty "str") rfl M.str boot_str rfl) jB))))) (jD (yC am.c bp hr0 rfl am.m bo.b .nil zX (jA jH jB))) jX) (jC (jY (i:=2) kF.nd rfl (by walk_at"o") (jN vq hr rfl mj.m mj.k mj.b .nil jS (jA (pv 1) jB))) (jC (jY (i:=3) kF.nd rfl (by walk_at"o") (kH jB)) (jC (jY (i:=4) kF.nd rfl (by walk_at"o") (kH jB)) (jC (jY (i:=5) kF.nd rfl (by walk_at"o") (kH jB)) (jC (xC ownE rfl (oM rfl M.enumerate (jA (qT ["row"] [] [] rfl (vO (pv 2)) rfl trivial trivial (fun _ _ _ _=>(jT (i:=0) (show yy (["row"]:List Str) from by ac_rfl) rfl (yl rfl))) (fun _ _ _ _=>qX) (fun _ _ _ _=>(aJz (K:=K) rfl Aj AJ AK aF (pv 0) (jA jM jB)))) jB)) (yU rfl (kC (jT (i:=6) kF.nd rfl (yl rfl)) (kC (jT (i:=7) kF.nd rfl (yl rfl)) qS))) (jC (eN (jN wf hr rfl pk.m pk.k pk.b .nil (aGl fun _ _ _ z=>z) (jA (pv 6) (jA (pv 7) jB))) (yU rfl (kC (jT (i:=8) kF.nd rfl (yl rfl)) (kC (jT (i:=9) kF.nd rfl (yl rfl)) qS)))) (jC (qO (jN si hr rfl ie.m ie.k ie.b .nil (aGl fun _ _ _ z=>z) (jA (pv 4) (jA (pv 6) (jA (pv 8) jB))))) (jC (jY (i:=10) kF.nd rfl (by walk_at"o") (jN wj hr rfl rf.m rf.k rf.b .nil (aGl fun _ _ _ z=>z) (jA (xJ (pv 0) Uf.cl nv.me ul hr nv.b .nil jS) (jA (pv 6) (jA (pv 8) (jA (aNh rfl M.dict rfl M.zip rfl (jA (pv 9) (jA (pv 7) jB))) jB)))))) (jC (jY (i:=5) kF.nd rfl (by walk_at"o") (jP qN (pv 5) (jN wk hr rfl rg.m rg.k rg.b .nil jS (jA (jN vt hr rfl ml.m ml.k ml.b .nil jS (jA (pv 9) (jA (pv 7) (jA (kK (pv 10) rfl) jB)))) (jA (pv 5) jB))))) (jC (kL (PW.pt (sA (jV aQg (pv 6) (kM (v:=.int 60) rfl C.MOST_LINES ⟨_,rfl⟩) (kB _)) (fW (jV fK (kA kE rfl M.len yj (jA (pv 5) jB)) (kM (v:=.int 12) rfl C.MOST_NAMES ⟨_,rfl⟩) (kB _))))) (jD (yC bi.c tq hr0 rfl bi.m tm.b .nil zX (jA (pv 6) jB))) jX) (jC (jY (i:=4) kF.nd rfl (by walk_at"o") (jN sy hr rfl ip.m ip.k ip.b .nil jS (jA (pv 4) (jA (pv 8) jB)))) (jD (qO (zV zb zy Aa xS (pv 3) (jA (pv 10) jB))))))))))) (jC (kL (yZ (pv 4) (fun _=>rfl)) (jD (yC am.c bp hr0 rfl am.m bo.b .nil zX (jA (kA kE rfl M.len yj (jA (pv 2) jB)) jB))) jX) (jC (eN (jN iw hr rfl cf.m cf.k cf.b .nil jS (jA (pv 3) (jA jH jB))) (yU rfl (kC (jT (i:=11) kF.nd rfl (yl rfl)) (kC (jT (i:=12) kF.nd rfl (yl rfl)) qS)))) (jD (jO (vJ bw.ma tj hr0 rfl bw.m tf.b .nil jS (jA (pv 0) (jA (pv 11) (jA (pv 5) (jA (pv 1) jB))))))))))))))),?_⟩;have hds:(ls.map Ln.tx).length=ls.length:=ε _;have hdx:(ls.map (·.x)).length=ls.length:=ε _;have hsa:(sa++[z])[sa.length]?=some z:=by rw[xa (μ _),Ap];rfl
 have hlw:∀l∈ls,LnW l:=fun l hl=>(hls l hl).elim (fun h=>h.a) (fun h=>h.1);refine⟨_,rfl,_,"str","str",rfl,by decide,.inl rfl,_,rfl,qA (by decide) ⟨_,rfl,ls.map Ln.tx,rfl,(by simpa using hne),(fun x hx=>by obtain⟨l,hl,rfl⟩:=zm.mp hx;exact aFg (hlw l hl)),(by rw[hds];exact h100),fun lp hlp=>?_⟩⟩;clear 1 lp H1 g1 kp1 hlp;refine⟨dS,fun tl htl=>?_⟩;clear 1 tl H2 g2 kt2 htl;refine⟨dS,fun bg hbg=>?_⟩;clear 1 bg H3 g3 kb3 hbg;refine⟨dS,fun nd hnd=>?_⟩;clear 1 nd H4 g4 kn4 hnd;have kb4:=g4 _ _ kb3;have kt4:=g4 _ _ (g3 _ _ kt2);have g04:jJ H H4:=((g1.trans g2).trans g3).trans g4;have ht0:H tl=none:=g1.free htl;have kp4:H4 lp=some (.lst ((ls.map Ln.tx).map V.str)):=g4 _ _ (g3 _ _ (g2 _ _ kp1));have nbt:bg≠tl:=fun z=>by rw[z,kt2]at hbg;cases hbg
 have nnt:nd≠tl:=fun z=>by rw[z,g3 _ _ kt2]at hnd;cases hnd
 have hof:∀{b:Addr}{o:HO}{G:Hp},b≠tl->G b=some o->offs [tl] G b=some o:=fun n e=>qQ (fun z=>n (ω.mp z)) e;refine⟨_,rfl,lp,rfl,⟨_,SqL.of kp4⟩,xT (xs:=(ls.map Ln.tx).map V.str) (fun j ys H'=>∃was:List Addr,ys=was.map V.ref/\was.length=j/\jJ H4 H'/\∀(m:Nat) (wa:Addr) (l:Ln),was[m]?=some wa->ls[m]?=some l->offs [tl] H' wa=some (.lst (l.ws.map V.str))) ⟨[],rfl,rfl,jJ.refl _,fun m wa l h=>by simp at h⟩ (fun j ys H' _ z=>?_) (by rw[ε,hds,ς];omega) (fun j x ys H' hx z=>?_) (fun ys H' z wl hwl=>?_)⟩
 ·obtain⟨was,rfl,hj,g,_⟩:=z;exact⟨SqL.of (g _ _ kp4),by rw[ε,hj];exact μ _⟩
 ·obtain⟨was,rfl,hj,g,hws⟩:=z;obtain⟨y,hy,rfl⟩:=qM hx;rw[xw]at hy;cases hl:ls[j]? with
  |none=>rw[hl]at hy;cases hy
  |some l =>
  rw[hl]at hy;cases hy;have hlt:=hlw l (xk hl);have hx10:=(aFg hlt).2.1;refine⟨_,rfl,rfl,_,_,rfl,rfl,rfl,(by rw[ς];show l.tx.length+2<=_;omega),fun wa hwa=>?_⟩;rw[pL hlt];clear 1 wa H5 g5 k5 hwa;refine⟨⟨was++[wa],by rw[Ψ];rfl,by rw[η,hj];rfl,g.trans g5,fun m wb l' hm hl'=>?_⟩,_,rfl⟩;rcases xG hm with hm|⟨rfl,rfl⟩
  ·exact jU g5 _ _ (hws m wb l' hm hl')
  ·rw[hj,hl]at hl';cases hl';exact hof (fun z=>by rw[z,g _ _ kt4]at hwa;cases hwa) k5
 obtain⟨was,rfl,hwn,g,hws0⟩:=z;rw[ε,hds]at hwn;clear 1 wl H5 g5 kwl hwl;have nwt:wl≠tl:=fun z=>by rw[z,g _ _ kt4]at hwl;cases hwl
 have hws:∀(m:Nat) (wa:Addr) (l:Ln),was[m]?=some wa->ls[m]?=some l->offs [tl] H5 wa=some (.lst (l.ws.map V.str)):=fun m wa l h1 h2=>jU g5 _ _ (hws0 m wa l h1 h2);have g45:=g.trans g5;have gH5:jJ H (offs [tl] H5):=aLp ht0 (g04.trans g45);obtain⟨dxr,tS,kra,_,hSW⟩:=id hro;have finN:∀{G:Hp}{C':Addr}{i:Nat},jJ H G->(∀e H',jJ H H'->H e=none->NLx C' H' e (.int (i:Nat))->E (.ref e) none H')->∀e,G e=none->∀dx',upd G e (Ex0 e C' none) dx'=none->E (.ref e) none (upd (upd (upd (upd G e (Ex0 e C' none)) dx' (XD dx' [("line",.int (i:Nat))])) e (Ex0 e C' (some dx'))) e (ExF e C' (some dx'))):=fun {G C' i} g qx e he dx' hd=>by
  obtain⟨g2,hx⟩:=aEj (v:=.int (i:Nat)) g he hd;exact qx e _ g2 (g.free he) hx
 refine⟨wl,_,rfl,SqL.of kwl,iB (xs:=was.map V.ref) (fun i σ H'=>∃(bg nd:Addr) (st nm:List Str) (rs:List Addr) (o6 o7 o8 o9 o10 o11 o12:Option V),σ = [some (.ref ra),some (.str (xl nlS (ls.map Ln.tx))),some (.ref lp),some (.ref tl),some (.ref bg),some (.ref nd),o6,o7,o8,o9,o10,o11,o12]/\jJ (offs [tl] H5) (offs [tl] H')/\H' tl=some (.lst (rs.map V.ref))/\rs.length=i/\i<=60/\(∀(j:Nat) (l:Ln),j<i->ls[j]?=some l->LnF l)/\(∀(j:Nat) (a:Addr) (l:Ln),rs[j]?=some a->ls[j]?=some l->mP ah K (offs [tl] H') a j l)/\SqL K (offs [tl] H') bg (st.map V.str)/\SqL K (offs [tl] H') nd (nm.map V.str)/\nm.Nodup/\nm.length<=12/\st.length<=3/\xY S (.nest sa.length) (ls.drop i) st nm i=xY S (.nest sa.length) ls [] [] 0/\due ((ls.map (·.x)).drop i) st i=due (ls.map (·.x)) [] 0) ⟨bg,nd,[],[],[],_,_,_,_,_,_,_,rfl,jJ.refl _,g45 _ _ kt4,rfl,xy _,(fun j l h=>absurd h (BA _)),(fun j a l h=>by simp at h),SqL.of (hof nbt (g45 _ _ kb4)),SqL.of (hof nnt (g45 _ _ kn4)),Ct,xy _,xy _,rfl,rfl⟩ (fun i σ H' _ z=>?_) (fun i x σ H' p2 hx z hp2=>?_) (fun σ H' z=>?_)⟩
 ·obtain⟨bg,nd,st,nm,rs,o6,o7,o8,o9,o10,o11,o12,rfl,go,_⟩:=z;exact SqL.of (jW _ _ (go _ _ (hof nwt kwl)))
 ·obtain⟨bg,nd,st,nm,rs,o6,o7,o8,o9,o10,o11,o12,rfl,go,kt,hrs,hi60,hlf,hrow,sb,sn,hnd,hnm,hst,hout,hdue⟩:=z;obtain⟨wa,hwa,rfl⟩:=vF hx;have hi:i<ls.length:=by rw[←hwn];exact(θ.mp hwa).1
  obtain⟨l,hl⟩ : ∃l,ls[i]?=some l:=⟨_,ν hi⟩;have hW:=hlw l (xk hl);have hw5:=hW.w5;have ho:=aQp (S:=S) (k:=.nest sa.length) (st:=st) (nm:=nm) hl;have kw:offs [tl] H' wa=some (.lst (l.ws.map V.str)):=go _ _ (hws i wa l hwa hl);have A':Al [tl] H':=fun b hb=>by rw[ω.mp hb];exact⟨_,kt⟩
  clear 1 p2 H6 g6 k6 hp2;have gH6:jJ H H6:=((gH5.trans go).trans jW).trans g6;refine⟨p2,_,rfl,SqT.of k6,rfl,_,_,rfl,_,_,rfl,rfl,_,rfl,_,rfl,.int (i:Int),wa,l.ws,rfl,(fun w hw=>by have:=(hW.w w hw).1;omega),hw5,SqL.of (g6 _ _ (jW _ _ kw)),fun fd' ps' hf t fg H7 g7 s7 s7'=>⟨t,_,rfl,s7,rfl,_,_,rfl,_,_,rfl,rfl,?_⟩,fun hf e H7 g7 he hx=>?_⟩
  case refine_2 =>
   rw[if_pos hf]at ho;exact qp i (hout.symm.trans ho) e H7 (gH6.trans g7) (gH6.free he) hx
  rw[if_neg (by rw[hf];exact fun z=>by cases z)]at ho;have hF:LnF l:=(hls l (xk hl)).elim id fun z=>by rw[z.2]at hf;cases hf
  rw[hF.fd]at hf;cases hf;have hpl:=hF.pl;have g67:=g6.trans g7;have gx7:jJ (offs [tl] H') (offs [tl] H7):=jU g67;have hx1:(ls.map (·.x))[i]?=some l.x:=by rw[xw,hl];rfl
  have hds':=aIx (st:=st) hx1;rw[aLz hF]at hds';have gH7:jJ H (offs [tl] H7):=(gH5.trans go).trans gx7;refine⟨_,rfl,_,rfl,_,rfl,bg,.int (i:Int),.str l.fd,st,l.fd,rfl,rfl,jW.seq (gx7.seq sb),hst,fun hs H8 g8=>?_,fun hs e H8 g8 he hnl=>?_⟩
  case refine_2 =>
   rw[if_pos hs]at ho;exact qp i (hout.symm.trans ho) e H8 ((gH7.trans jW).trans g8) ((gH7.trans jW).free he) hnl
  rw[if_pos hs]at hds';rw[if_neg (by rw[hs];decide)]at ho;have gx8:=gx7.trans (jU (xs:=[tl]) g8);have gH8:jJ H H8:=(gH7.trans (jU g8)).trans jW;refine⟨_,rfl,ra,dxr,_,rfl,gH8 _ _ kra,rfl,ra,z,sa,S,rfl,iE hro gH8,_,rfl,_,rfl,_,rfl,_,rfl,true,false,fg,wa,l.ps,l.ws,rfl,g8.tp s7',SqL.of (jW _ _ (gx8 _ _ kw)),hpl,by omega,fun d hd=>?_⟩;rw[show vT [] _=gY l from(mR l.ps l.ws [] hF.nd (fun _ _ _ h=>by cases h)).trans (List.nil_append _)];clear 1 d H9 g9 k9 hd;have A9:Al [tl] H9:=((A'.same g67).same g8).same g9;refine⟨z,i,d,l,sa.length,sa++[z],S,[tl],H8,rfl,hF,hsa,g9,hd,hSW.same gH8,hgS,hnS,k9,A9,fun ss hss r H10 g8x hr10=>?_,fun hno p hp e H10 g810 he hx=>?_⟩
  case refine_2 =>
   rw[hno]at ho;have ho':xY S (.nest sa.length) (ls.drop i) st nm i=.path i p:=by rw[ho];show Out.path i ((zD l).getD "")=_;rw[hp];rfl
   exact qw i p (hout.symm.trans ho') e H10 (gH8.trans g810) (gH8.free he) hx
  rw[hss]at ho;have ho2:xY S (.nest sa.length) (ls.drop i) st nm i=if 60<=i\/12<(nm++unq nm (nmP ss l)).length then .much i else xY S (.nest sa.length) (ls.drop (i+1)) (bgS st l.fd) (nm++unq nm (nmP ss l)) (i+1):=ho
  have gx10:=gx8.trans (jU (xs:=[tl]) g8x);obtain⟨dx',rra,rsa,us,hr1,hr2,hr3,hr4⟩:=id hr10;have hss160:=aQz hF hss;have nml:(nmG ss (l.ps.zip l.ws)).length<=2000:=by
   have h1:=wV hss160 (l.ps.zip l.ws);have h2:(l.ps.zip l.ws).length<=5:=by rw[List.length_zip];omega
   omega
  refine⟨_,rfl,_,rfl,_,rfl,_,rfl,r,ah,_,_,_,rfl,(jW _ _ hr1),aj.cl,aj.na _ (by decide),rfl,fg,wa,rsa,l,us,ss,rfl,hF,(g8.trans g8x).tp s7',SqL.of (jW _ _ (gx10 _ _ kw)),jW.seq hr3,hr4.same jW,hss160,fun pn H11 g11 kn=>⟨_,rfl,pn,nd,_,nm,rfl,SqL.of kn,jW.seq ((gx10.trans (jU g11)).seq sn),hnd,nml,fun pu H12 g12 ku=>?_⟩⟩;obtain⟨un1,un2,un3⟩:=sD (ys:=nm) (xs:=nmG ss (l.ps.zip l.ws)) hnd;have gx12:=(gx10.trans (jU (xs:=[tl]) g11)).trans (jU (xs:=[tl]) g12);refine⟨nd,pu,_,_,rfl,rfl,jW.seq (gx12.seq sn),SqL.of ku,(by rw[ε,ε,ς];omega),fun pq hpq=>?_⟩;clear 1 pq H13 g13 k13 hpq;rw[←Ψ]at k13;have A12:Al [tl] H12:=(((((A'.same g67).same g8).same g8x).same g11).same g12);have gx13:=gx12.trans (jU (xs:=[tl]) g13);have gH13:jJ H H13:=((gH5.trans go).trans gx13).trans jW;refine⟨_,rfl,_,_,rfl,rfl,_,rfl,qP (fun c=>aIh ?_) (fun c=>⟨_,rfl,pq,_,rfl,.inl (SqL.of k13),_,_,rfl,rfl,_,rfl,qP (fun c2=>?_) (fun c2=>?_)⟩)⟩
  ·have c' : 60<=i:=by have:=of_decide_eq_true c;omega
   rw[if_pos (.inl c')]at ho2;exact⟨yg,_,rfl,(by show 1<=1000;decide),fun e he=>⟨e,_,rfl,jF,fun dx' hd=>⟨rfl,e,some dx',rfl,jF,finN gH13 (qm i (hout.symm.trans ho2)) e he dx' hd⟩⟩⟩
  ·have c' : 12<(nm++unq nm (nmP ss l)).length:=by have:=of_decide_eq_true c2;rw[ε]at this;exact Int.ofNat_lt.mp this
   rw[if_pos (.inr c')]at ho2;exact⟨yg,_,rfl,(by show 1<=1000;decide),fun e he=>⟨e,_,rfl,jF,fun dx' hd=>⟨rfl,e,some dx',rfl,jF,finN gH13 (qm i (hout.symm.trans ho2)) e he dx' hd⟩⟩⟩
  have c1':i<60:=Nat.lt_of_not_le fun z=>c (decide_eq_true (by omega));have c2':(nm++unq nm (nmP ss l)).length<=12:=Nat.le_of_not_lt fun z=>c2 (decide_eq_true (by rw[ε];exact Int.ofNat_lt.mpr z));rw[if_neg (fun z=>z.elim (fun z=>by omega) (fun z=>by omega))]at ho2;refine⟨_,rfl,_,rfl,bg,st,l.fd,[tl],rfl,A12.same g13,gx13.seq sb,hst,fun b H14 g14 sb14=>?_⟩;have g10y:=((g11.trans g12).trans g13).trans g14;have kt14:H14 tl=some (.lst (rs.map V.ref)):=(((g67.trans g8).trans g8x).trans g10y) _ _ kt;have gx14:=gx13.trans (jU (xs:=[tl]) g14);refine⟨_,rfl,.inl ⟨rfl,_,SqL.of kt14⟩,_,rfl,tl,_,_,rfl,rfl,kt14,(by rw[ε];exact zx (show rs.length<=60 by omega) (by decide)),?_⟩;generalize e15:upd H14 tl _=H15;have eo:offs [tl] H15=offs [tl] H14:=by rw[←e15];exact dU
  obtain⟨g15,k15⟩:=aC e15;refine⟨b,pq,bgS st l.fd,nm++unq nm (nmP ss l),rs++[r],_,_,_,_,_,_,_,rfl,by rw[eo];exact go.trans gx14,by rw[Ψ];exact k15,by rw[η,hrs];rfl,c1',fun j l' hj hl'=>?_,fun j a l' hj hl'=>?_,by rw[eo];exact sb14,?_,un1,c2',aNm hst (by rw[aLz hF,if_pos hs]),ho2.symm.trans hout,hds'.symm.trans hdue⟩
  ·by_cases hji:j=i
   ·rw[hji,hl]at hl';cases hl';exact hF
   ·exact hlf j l' (by omega) hl'
  ·rw[eo];rcases xG hj with hj|⟨rfl,rfl⟩
   ·exact(hrow j a l' hj hl').same gx14
   ·rw[hrs,hl]at hl';cases hl';rw[hrs];exact hr10.row.same (jU g10y)
  ·rw[eo];exact SqL.of (jU g14 _ _ (qQ (A12.new hpq) k13))
 ·obtain⟨bg,nd,st,nm,rs,o6,o7,o8,o9,o10,o11,o12,rfl,go,kt,hrs,hi60,hlf,hrow,sb,sn,hnd,hnm,hst,hout,hdue⟩:=z;rw[ε,hwn]at hrs hdue hout hi60 hlf;rw[aOw]at hout;have hde:=aOa (ds:=ls.map (·.x)) (st:=st);rw[hdx]at hde;rw[hde]at hdue;have gH':jJ H H':=(gH5.trans go).trans jW;have hlF:∀l∈ls,LnF l:=fun l hl=>by
   obtain⟨j,hj⟩:=zd.mp hl;exact hlf j l (θ.mp hj).1 hj
  refine⟨_,rfl,_,.inl ⟨_,jW.seq sb,rfl⟩,?_⟩;cases st with
  |cons y ys =>
   have kl':SqL K H' lp ((ls.map Ln.tx).map V.str):=SqL.of (jW _ _ (go _ _ (hof (fun z=>by rw[←z,kp1]at htl;cases htl) (g45 _ _ kp4))));refine vL (by simp) ⟨yg,_,rfl,lp,_,rfl,.inl kl',(by show 1<=1000;decide),fun e he=>?_⟩;rw[ε,hds];exact⟨e,_,rfl,jF,fun dx' hd=>⟨rfl,e,some dx',rfl,jF,finN gH' (qp ls.length (hout.symm.trans (if_neg (by simp)))) e he dx' hd⟩⟩
  |nil =>
   rw[if_pos rfl]at hdue hout;obtain⟨ts,e,ps,dp⟩:=aNj hdue.symm;have hT:TD ah K (offs [] H') tl rs ls:=by rw[aLl];exact⟨SqL.of kt,hrs,hlF,fun j a l h1 h2=>(hrow j a l h1 h2).same jW⟩
   exact qA (by decide) ⟨_,rfl,tl,0,e,3,rs,ls,ts,[],rfl,rfl,dp,ps,(fun b hb=>by cases hb),hT,hi60,fun p' rp as H6 g6 s6 l6 ta6=>⟨p',_,rfl,s6,rfl,_,_,rfl,_,_,rfl,rfl,_,rfl,_,rfl,_,rfl,_,rfl,fun y dy hy hdy _=>⟨y,dy,_,_,_,_,H6,rfl,jF,zU hy hdy,hy,fun H7 g7 k7=>⟨rfl,q hout.symm y H7 ((gH'.trans g6).trans g7)⟩⟩⟩⟩
theorem nP{k:Nat}(F:Fun K "_law_names_in" "_law_names_in" vG f fd):jJ (k+2) f fd ["_law_line_here"] spNI:=by
 refine F.okT xM (fun vs H Q E h=>?_) (fun cdv A outer s0 H vs Q E hr0 h=>?_)
 ·obtain⟨l,rfl,_⟩:=h;rfl
 obtain⟨l,rfl,hg,q⟩:=h;walk_at"hr";obtain⟨st,e0,p0,q0,r0,e1,p1,q1,r1,n1,b1,rest,hb,hst,hrest,s0,s1⟩:=aOd;rw[hb];refine⟨_,(aHv (by cases hst;exact(aNb (i:=1) xM.nd rfl (by walk_at"o") (aTb Aj AJ AK aF (aKj (pv 0)) (jA jM jB)))) (jC (jY (i:=2) xM.nd rfl (by walk_at"o") (kH (aAl s0))) (jC (jY (i:=2) xM.nd rfl (by walk_at"o") (jP qN (pv 2) (kH (aAl s1)))) (by rw[hrest];exact jD (jO (qT ["_law_word"] ["_law_own"] [2] rfl (vO (pv 1)) rfl ⟨rfl,trivial⟩ ⟨⟨rfl,rfl,rfl,_,rfl⟩,trivial⟩ (fun _ _ _ _=>(jT (i:=0) (show yy (["_law_word","_law_own"]:List Str) from by ac_rfl) rfl (yl rfl))) (fun _ _ _ _=>(gV (jV (fM (K:=K) rfl) (pv 0) (pv 1) (by with_unfolding_all rfl)))) (fun _ _ _ _=>(pv 0)))))))),?_⟩;obtain⟨ws,ew,hn,h5,hw⟩:=hg.rp;have hl:=(aFg hg.f.a).2.1;have hj:(xl spS ws).length<=1000:=by
  have h1:=mD fun y hy=>(hw y hy).1;have:ws.length*151<=5*151:=Nat.mul_le_mul_right _ h5;omega
 have es:yu (xl spS ws) (δ " ")=ws:=xQ (c:=32) hn fun w hw'=>(hw w hw').2;have en:nmL l=ws.filter fun w=>!decide (w∈lM):=by unfold nmL;rw[ew,es]
 refine⟨_,rfl,l.tx,rfl,(by show l.tx.length+(l.tx.length+1)*0<=16777216;omega),rfl,_,_,rfl,rfl,rfl,(by rw[show AD l.tx (δ "x.") (δ "")=xl spS ws from ew,ς];omega),fun wl hwl=>?_⟩;rw[show AD l.tx (δ "x.") (δ "")=xl spS ws from ew,es];generalize e1:upd H wl _=H1;obtain⟨g1,k1⟩:=kQ e1 hwl;refine⟨(by show 11<=Δ;decide),fun o1 ho1=>?_⟩;clear 1 o1 H2 g2 k2 ho1;refine⟨_,rfl,aGy,fun o2 ho2=>?_⟩;clear 1 o2 H3 g3 k3 ho2;refine⟨o1,o2,_,_,rfl,rfl,SqL.of (g3 _ _ k2),SqL.of k3,(by decide),fun o3 ho3=>?_⟩;clear 1 o3 H4 g4 k4 ho3;have k4':H4 o3=some (.lst (lM.map V.str)):=k4;have kw:H4 wl=some (.lst (ws.map V.str)):=g4 _ _ (g3 _ _ (g2 _ _ k1));refine⟨_,rfl,wl,rfl,⟨_,SqL.of kw⟩,xT (xs:=ws.map V.str) (fun i ys H5=>H5=H4/\ys=((ws.take i).filter fun x=>!decide (x∈lM)).map V.str) ⟨rfl,rfl⟩ (fun i ys H5 _ z=>⟨by rw[z.1];exact SqL.of kw,by rw[z.2,ε];exact yb (Bx ..) (CG ..)⟩) (by rw[ε,ς];omega) (fun i x ys H5 hx z=>?_) (fun ys H5 z p hp=>?_)⟩
 ·obtain⟨rfl,rfl⟩:=z;obtain⟨y,hy,rfl⟩:=qM hx;have ef:=eY (f:=fun x=>!decide (x∈lM)) hy;refine⟨_,rfl,_,rfl,o3,_,rfl,.inl (SqL.of k4'),rfl,kZ _,_,rfl,?_⟩;rw[if_pos rfl,qB];refine qP (fun c=>?_) (fun c=>?_)
  ·exact⟨_,rfl,⟨rfl,by rw[ef,if_pos c,Ψ];rfl⟩,_,rfl⟩
  ·exact⟨⟨rfl,by rw[ef,if_neg c,ya]⟩,_,rfl⟩
 ·obtain⟨rfl,rfl⟩:=z;rw[ε,AV,←en];clear 1 p H6 g6 k6 hp;exact q p H6 ((((g1.trans g2).trans g3).trans g4).trans g6) k6
theorem aEa(F:Fun K "_law_due" "_law_due" lE f fd)(iq:Df K mg "_law_names_in" ly kg ["_law_line_here"])(tu:jJ k ly kg ["_law_line_here"] spNI):jJ (k+2) f fd ["_law_lines_here","_law_bad"] (spDu K):=by
 w_cond aJ;obtain⟨a,d,ls,rfl,ha,hb,hls,h100,q⟩:=h;refine⟨_,(jC (jY (i:=2) aJ.nd rfl (by walk_at"o") (kH jB)) (jC (xC zw rfl (oM rfl M.enumerate (jA (pv 0) jB)) (yU rfl (kC (jT (i:=3) aJ.nd rfl (yl rfl)) (kC (jT (i:=4) aJ.nd rfl (yl rfl)) qS))) (jC (kL (rJ (uO hr.units1 (pv 4) (pv 1))) (jD (jO (jP qN (cW hr.units1 (pv 1) (pv 4) (fun _ _=>rfl)) (kH (jA (pv 3) jB))))) jX) (jC (jY (i:=2) aJ.nd rfl (by walk_at"o") (jP qN (pv 2) (qT ["_law_name"] ["_law_known"] [2] rfl (vO (jN tu hr rfl iq.m iq.k iq.b .nil jS (jA (pv 4) jB))) rfl ⟨rfl,trivial⟩ ⟨⟨rfl,rfl,rfl,_,rfl⟩,trivial⟩ (fun _ _ _ _=>(jT (i:=0) (show yy (["_law_name","_law_known"]:List Str) from by ac_rfl) rfl (yl rfl))) (fun _ _ _ _=>(gV (jV (fM (K:=K) rfl) (pv 0) (pv 1) (by with_unfolding_all rfl)))) (fun _ _ _ _=>(pv 0))))) (jD (kL (PW.pt (sA (jV aQg (pv 3) jH (kB _)) (fW (jV fK (kA aHk rfl M.len yj (jA (vY (aIc rfl) rfl M.set (show AG "set" = some (.type "set") from by ac_rfl) (jA (pv 2) jB)) jB)) jH (kB _))))) (jD (jO (kH (jA jM (jA (pv 3) jB))))) jX))))) (jD (jO (kH jB))))),?_⟩;have hds:(ls.map Ln.tx).length=ls.length:=ε _;refine⟨dS,fun kl hkl=>?_⟩;clear 1 kl H1 g1 k1 hkl;refine⟨_,rfl,a,_,rfl,g1.seq ha,iB (xs:=(ls.map Ln.tx).map V.str) (fun i σ H'=>∃(ka:Addr) (kn:List Str) (o3 o4:Option V),σ = [some (.ref a),some (.ref d),some (.ref ka),o3,o4]/\jJ H H'/\SqL K H' ka (kn.map V.str)/\kn.length<=5*i/\dE (ls.drop i) kn i=dE ls [] 0) ⟨kl,[],_,_,rfl,g1,SqL.of k1,xy _,rfl⟩ (fun i σ H' _ z=>?_) (fun i x σ H' p2 hx z hp2=>?_) (fun σ H' z=>?_)⟩
 ·obtain⟨ka,kn,o3,o4,rfl,g,_⟩:=z;exact g.seq ha
 ·obtain⟨ka,kn,o3,o4,rfl,g,sk,hkn,hdue⟩:=z;obtain⟨y,hy,rfl⟩:=qM hx;rw[xw]at hy;cases hl:ls[i]? with
  |none=>rw[hl]at hy;cases hy
  |some l =>
  rw[hl]at hy;cases hy;have hi:i<ls.length:=(θ.mp hl).1;have hda:=aRv (kn:=kn) hl;clear 1 p2 H2 g2 k2 hp2;have gH2:=g.trans g2;obtain⟨gn,gs⟩:=(hb.same gH2).get l;refine⟨p2,_,rfl,SqT.of k2,rfl,_,_,rfl,_,_,rfl,rfl,?_⟩;cases hbo:xB l with
  |some o =>
   rw[hbo]at hda;obtain⟨av,pre,hget,spre,hpre,hov⟩:=gs o hbo;refine⟨_,rfl,_,rfl,d,_,rfl,hget,_,rfl,vL rfl ⟨_,rfl,_,rfl,d,.ref av,rfl,hget,_,rfl,iC,fun q1 hq1=>?_⟩⟩;clear 1 q1 H3 g3 k3 hq1;refine⟨av,q1,_,_,rfl,rfl,g3.seq spre,SqL.of k3,(by rw[ς];show pre.length+1<=_;omega),fun q2 hq2=>?_⟩;clear 1 q2 H4 g4 k4 hq2;refine q q2 H4 ((gH2.trans g3).trans g4) ?_;rw[←hdue,hda];exact(hov i) ▸ SqL.of k4
  |none =>
   rw[hbo]at hda;have hg:Gd l:=(hls l (xk hl)).resolve_right fun z=>by
    rcases eW z with rfl|rfl|rfl|rfl
    ·rw[bo0]at hbo;cases hbo
    ·rw[bo1]at hbo;cases hbo
    ·rw[bo2]at hbo;cases hbo
    ·rw[bo3]at hbo;cases hbo
   have hda2:dE (ls.drop i) kn i=if 60<=i\/12<(unq [] (knL l kn)).length then .much i else dE (ls.drop (i+1)) (knL l kn) (i+1):=hda
   have hfew:=aMz hg;refine⟨_,rfl,_,rfl,d,_,rfl,gn hbo,_,rfl,qA (by decide) ⟨_,rfl,_,rfl,l,rfl,hg,fun p8 H8 g8 k8=>⟨p8,rfl,⟨_,SqL.of k8⟩,xT (xs:=(nmL l).map V.str) (fun j ys H5=>H5=H8/\ys=(((nmL l).take j).filter fun x=>!decide (x∈kn)).map V.str) ⟨rfl,rfl⟩ (fun j ys H5 _ z=>⟨by rw[z.1];exact SqL.of k8,by rw[z.2,ε];exact yb (Bx ..) (CG ..)⟩) (by rw[ε,ς];omega) (fun j x ys H5 hx z=>?_) (fun ys H5 z p hp=>?_)⟩⟩⟩
   ·obtain⟨rfl,rfl⟩:=z;obtain⟨y,hy,rfl⟩:=qM hx;have ef:=eY (f:=fun x=>!decide (x∈kn)) hy;refine⟨_,rfl,_,rfl,ka,_,rfl,.inl ((g2.trans g8).seq sk),rfl,kZ _,_,rfl,?_⟩;rw[if_pos rfl,qB];refine qP (fun c=>?_) (fun c=>?_)
    ·exact⟨_,rfl,⟨rfl,by rw[ef,if_pos c,Ψ];rfl⟩,_,rfl⟩
    ·exact⟨⟨rfl,by rw[ef,if_neg c,ya]⟩,_,rfl⟩
   ·obtain⟨rfl,rfl⟩:=z;rw[ε,AV];clear 1 p H6 g6 k6 hp;have hfl:((nmL l).filter fun x=>!decide (x∈kn)).length<=5:=yb (Bx ..) hfew;refine⟨ka,p,_,_,rfl,rfl,((g2.trans g8).trans g6).seq sk,SqL.of k6,(by rw[ε,ε,ς];omega),fun p7 hp7=>?_⟩;rw[←Ψ];clear 1 p7 H7 g7 k7 hp7;have k7':H7 p7=some (.lst ((knL l kn).map V.str)):=k7;have gH7:jJ H H7:=((gH2.trans g8).trans g6).trans g7;have hkl:(knL l kn).length<=5*(i+1):=by unfold knL;rw[η];omega
    obtain⟨v1,v2,v3⟩:=sD (ys:=[]) (xs:=knL l kn) Ct;rw[List.nil_append]at v1 v2;refine⟨_,rfl,_,_,rfl,rfl,_,rfl,qP (fun c=>aIh ?_) (fun c=>⟨_,rfl,p7,_,unq [] (knL l kn),rfl,SqL.of k7',v1,(fun x=>(v2 x).trans ⟨fun z=>z.resolve_left (fun z=>by cases z),.inr⟩),(by omega),fun ps hps=>?_⟩)⟩
    ·have c' : 60<=i:=by have:=of_decide_eq_true c;omega
     rw[if_pos (.inl c')]at hda2;refine⟨_,rfl,vK,fun q2 hq2=>?_⟩;clear 1 q2 H9 g9 k9 hq2;refine q q2 H9 (gH7.trans g9) ?_;rw[←hdue,hda2];exact SqL.of k9
    ·clear 1 ps H9 g9 k9 hps;have gH9:=gH7.trans g9;refine⟨ps,_,rfl,k9,(by omega),_,_,rfl,rfl,_,rfl,qP (fun c2=>?_) (fun c2=>?_)⟩
     ·have c' : 12<(unq [] (knL l kn)).length:=by have:=of_decide_eq_true c2;exact Int.ofNat_lt.mp this
      rw[if_pos (.inr c')]at hda2;refine⟨_,rfl,vK,fun q2 hq2=>?_⟩;clear 1 q2 H10 g10 k10 hq2;refine q q2 H10 (gH9.trans g10) ?_;rw[←hdue,hda2];exact SqL.of k10
     ·have c1':¬ 60<=i:=fun z=>c (decide_eq_true (by omega));have c2':¬ 12<(unq [] (knL l kn)).length:=fun z=>c2 (decide_eq_true (Int.ofNat_lt.mpr z));rw[if_neg (fun z=>z.elim c1' c2')]at hda2;exact⟨p7,knL l kn,_,_,rfl,gH9,SqL.of (g9 _ _ k7'),hkl,hda2.symm.trans hdue⟩
 ·obtain⟨ka,kn,o3,o4,rfl,g,sk,hkn,hdue⟩:=z;rw[ε,hds,DP]at hdue;refine⟨dS,fun p hp=>?_⟩;clear 1 p H2 g2 k2 hp;refine q p H2 (g.trans g2) ?_;rw[←hdue];exact SqL.of k2
theorem aAt(F:Fun K "_law_read" "_law_read" gN f fd)(ir:Df K mg "read_program" md kh ["shapes","text"])(tw:jK P w K mg base (CXE P w) k md kh ["shapes","text"] (spRP (jK 0) Vf aa ak ac K))(XN:XN3 cRE aa ac ak):jJ (k+2) f fd ["_law_shapes","_law_lines_here"] (aQl (jK 0) Vf K):=by
 w_cond bG;obtain⟨ra,a,z,ls,rfl,hro,ha,hls,hne,h100,q⟩:=h;refine⟨_,(jC (aPl rfl rfl (fun _ _ _=>(jD (qO (aLn tw hr rfl ir.m ir.k ir.b .nil passT (jA (pv 0) (jA (aJz (K:=K) rfl Aj PySem.F.slot_str_join PySem.F.type_str_join (aIo (K:=K) rfl) jM (jA (pv 1) jB)) jB)))))) (aAb (i:=2) rfl am.m am.x bG.nd rfl rfl (fun _=>(jD (jO (kH (jA jM (jA (iV (K:=K) rfl (pv 2) rfl) jB)))))) (aAb (i:=2) rfl ap.m ap.x bG.nd rfl rfl (fun _=>(jD (jO (kH (jA jM (jA (iV (K:=K) rfl (pv 2) rfl) (jA (iV (K:=K) rfl (pv 2) rfl) jB))))))) (aAb (i:=2) rfl bi.m bi.x bG.nd rfl rfl (fun _=>(jD (jO (kH (jA jM (jA (iV (K:=K) rfl (pv 2) rfl) jB)))))) aSr)))) (jD (jO (kH jB)))),?_⟩;have hsum:((ls.map Ln.tx).map (·.length)).sum<=ls.length*800:=by
  rw[Au];exact uW fun l hl=>(aFg ((hls l hl).elim (fun h=>h.a) (fun h=>h.1))).2.1
 have fin:∀{xs:List V}{G:Hp},fR (xY shS (.nest 0) ls [] [] 0)=xs->jJ H G->∀p,G p=none->Q (.ref p) (upd G p (.lst xs)):=fun {xs G} e g p hp=>by
  generalize e2:upd G p _=G2;obtain⟨g2,k2⟩:=kQ e2 hp;exact q p G2 (g.trans g2) (e ▸ SqL.of k2)
 refine⟨fun σ=>σ = [some (.ref ra),some (.ref a),none],fun v _ H'=>∃e,v=.ref e/\jJ H H'/\((∃i:Nat,xY shS (.nest 0) ls [] [] 0=.prog i/\NLx aa H' e (.int (i:Nat)))\/(∃(i:Nat) (p:Str),xY shS (.nest 0) ls [] [] 0=.path i p/\XAt ac H' e [("line",.int (i:Nat)),("path",.str p)])\/(∃i:Nat,xY shS (.nest 0) ls [] [] 0=.much i/\NLx ak H' e (.int (i:Nat)))),?_,fun σ' e H' hS hW=>?_⟩
 ·refine⟨_,rfl,rfl,_,rfl,_,a,ls.map Ln.tx,rfl,rfl,ha,(by rw[ε];show _+ls.length*1<=_;omega),rfl,ra,z,[],shS,ls,rfl,hro,aDt.good,aEe aDt.nm,hls,hne,h100,fun ho p H1 g1=>⟨dS,fin (by rw[show xY shS (.nest 0) ls [] [] 0=.ok from ho];rfl) g1⟩,fun i ho e H1 g1 he hx=>⟨e,rfl,g1,.inl ⟨i,ho,hx⟩⟩,fun i p ho e H1 g1 he hx=>⟨e,rfl,g1,.inr (.inl ⟨i,p,ho,hx⟩)⟩,fun i ho e H1 g1 he hx=>⟨e,rfl,g1,.inr (.inr ⟨i,ho,hx⟩)⟩⟩
 ·subst hS;obtain⟨e2,ee,g,hc⟩:=hW;cases ee;rcases hc with⟨i,ho,dx',hE,hX⟩|⟨i,p,ho,dx',hE,hX⟩|⟨i,ho,dx',hE,hX⟩
  ·exact⟨aa,some dx',_,hE,am.x,.inl ⟨(by simp),_,rfl,e,aa,cRE,bc,dx',_,_,rfl,.inl hE,hX,am.c,am.n _ (by simp),rfl,vK,fin (by rw[ho];rfl) g⟩⟩
  ·exact⟨ac,some dx',_,hE,ap.x,.inr ⟨XN.wn,ac,some dx',_,hE,ap.x,.inl ⟨(by simp),_,rfl,e,ac,cRE,be,dx',_,_,rfl,.inl hE,hX,ap.c,ap.n _ (by simp),rfl,_,rfl,e,ac,cRE,be,dx',_,_,rfl,.inl hE,hX,ap.c,ap.n _ (by simp),rfl,lU,fin (by rw[ho];rfl) g⟩⟩⟩
  ·exact⟨ak,some dx',_,hE,bi.x,.inr ⟨XN.mn,ak,some dx',_,hE,bi.x,.inr ⟨XN.mw,ak,some dx',_,hE,bi.x,.inl ⟨(by simp),_,rfl,e,ak,cRE,cw,dx',_,_,rfl,.inl hE,hX,bi.c,bi.n _ (by simp),rfl,vK,fin (by rw[ho];rfl) g⟩⟩⟩⟩
theorem aCy(F:Fun K "_law_line" "_law_line" fN f fd)(af:Df K mg "_law_take" cg bu ["_law_box_here","_law_many"])(bq:jJ k cg bu ["_law_box_here","_law_many"] oX):jJ (k+2) f fd ["_law_box_here","_law_names","_law_many"] (spLn K):=by
 w_cond xW;obtain⟨p,na,rfl,h3,hna,q⟩:=h;refine⟨_,(PSx.h (qL (vV (eN (qT ["_law_k"] ["_law_names","_law_box_here","_law_many"] [1,0,2] rfl (cB rfl M.range (jA jH jB)) rfl ⟨rfl,⟨rfl,⟨rfl,trivial⟩⟩⟩ ⟨⟨rfl,rfl,rfl,_,rfl⟩,⟨⟨rfl,rfl,rfl,_,rfl⟩,⟨⟨rfl,rfl,rfl,_,rfl⟩,trivial⟩⟩⟩ (fun _ _ _ _=>(jT (i:=0) (show yy (["_law_k","_law_names","_law_box_here","_law_many"]:List Str) from by ac_rfl) rfl (yl rfl))) (fun _ _ _ _=>qX) (fun _ _ _ _=>(kO (rK K rfl) (pv 1) (jN bq hr rfl af.m af.k af.b .nil jS (jA (pv 2) (jA (pv 3) jB))) (fun _ _=>rfl)))) (aSg rfl (kC (jT (i:=3) xW.nd rfl (yl rfl)) (kC (jT (i:=4) xW.nd rfl (yl rfl)) (kC (jT (i:=5) xW.nd rfl (yl rfl)) qS)))))) (qL (aBc (i:=6) xW.nd rfl rfl (aGj (xZ (yN (jP jQ (jP jQ (pv 3) jM) (pv 4))) (xZ (yN (jP jQ jM (pv 3))) (xZ (yN (jP jQ jM (pv 3))) (xZ (yN (jP jQ (jP jQ (jP jQ jM (pv 3)) jM) (pv 4))) (xZ (yN (jP jQ (jP jQ (jP jQ (jP jQ (pv 3) jM) (pv 4)) jM) (pv 5))) aFr cJ) cJ) cJ) cJ) cJ))) (qL (vV (jY (i:=6) xW.nd rfl (by walk_at"o") (jP qN (pv 6) (kH (jA (jP jQ (jP jQ (jP jQ (jP jQ (jP jQ jM (pv 3)) jM) (pv 4)) jM) (pv 5)) (jA (jP jQ (jP jQ (jP jQ (jP jQ (pv 3) jM) (pv 4)) jM) (pv 5)) (jA (jP jQ (pv 3) jM) (jA (jP jQ (pv 3) jM) jB)))))))) (oH (hG (yN (kO jZ (pv 6) (jN bq hr rfl af.m af.k af.b .nil jS (jA (pv 0) (jA jH jB))) (fun _ _=>rfl))))))))),?_⟩;have npn:na≠p:=fun z=>by
  obtain⟨x,y,w',e⟩:=h3;rw[←z,hna]at e;cases e
 refine⟨3,rfl,by decide,by decide,fV (n:=3) (fun j ys H'=>Drawn p H H'/\∃ws:List Str,ys=ws.map V.str/\ws.length=j/\∀w∈ws,w∈nms) ⟨Drawn.refl h3,[],rfl,rfl,fun w h=>by cases h⟩ (fun j ys H' _ z=>?_) (by decide) (fun j ys H' hj z=>?_) (fun ys H' z l hl=>?_)⟩
 ·obtain⟨_,ws,rfl,hl,_⟩:=z;rw[ε];omega
 ·obtain⟨d,ws,rfl,hl,hw⟩:=z;refine⟨_,rfl,_,rfl,_,rfl,p,11,rfl,by decide,by decide,d.1,fun v H2 hv d2=>?_⟩;obtain⟨n,hn,hat⟩:=aJn (v:=v) (by omega);exact⟨na,_,_,_,rfl,rfl,SqL.of (d2.2 _ _ npn (d.2 _ _ npn hna)),zY (by rw[xw,hat];rfl),⟨d.trans d2,ws++[n],by rw[Ψ];rfl,by rw[η,hl];rfl,fun w h=>by
   rcases xu.mp h with h|h
   ·exact hw w h
   ·rw[ω.mp h];exact hn⟩,_,rfl⟩
 obtain⟨d,ws,rfl,hwl,hw⟩:=z
 match ws,hwl with
 |[a,b,c],_ =>
 clear 1 l H1 g1 k1 hl;have ha:=hw a (by simp);have hb:=hw b (by simp);have hc:=hw c (by simp);have la:=aEk ha;have lb:=aEk hb;have lc:=aEk hc;have c0:(δ " = ").length=3:=rfl;have c1:(δ "out ").length=4:=rfl;have c2:(δ "take ").length=5:=rfl;have c3:(δ "copy ").length=5:=rfl;have c4:(δ " ").length=1:=rfl;have c5:(δ " = look ").length=8:=rfl;have c6:(δ " x.").length=3:=rfl;have c7:(δ "store ").length=6:=rfl;have c8:(δ " + ").length=3:=rfl;have c9:(δ " = put").length=6:=rfl;have c10:(δ " = many").length=7:=rfl;have c11:(δ " * ").length=3:=rfl;refine⟨l,_,rfl,SqL.of k1,rfl,_,_,rfl,_,_,rfl,_,_,rfl,rfl,?_⟩;refine⟨_,rfl,_,_,rfl,rfl,(by simp only[len_app,ς];omega),_,rfl,_,_,rfl,rfl,(by simp only[len_app,ς];omega),_,rfl,_,_,rfl,rfl,(by simp only[len_app,ς];omega),_,rfl,_,_,rfl,rfl,(by simp only[len_app,ς];omega),_,rfl,_,_,rfl,rfl,(by simp only[len_app,ς];omega),_,_,rfl,rfl,(by simp only[len_app,ς];omega),_,rfl,_,_,rfl,rfl,(by simp only[len_app,ς];omega),_,rfl,_,_,rfl,rfl,(by simp only[len_app,ς];omega),_,rfl,_,_,rfl,rfl,(by simp only[len_app,ς];omega),_,_,rfl,rfl,(by simp only[len_app,ς];omega),_,rfl,_,_,rfl,rfl,(by simp only[len_app,ς];omega),aGy,fun o1 ho1=>?_⟩;clear 1 o1 H2 g2 k2 ho1;refine⟨_,rfl,_,rfl,_,_,rfl,rfl,(by simp only[len_app,ς];omega),_,_,rfl,rfl,(by simp only[len_app,ς];omega),_,rfl,_,_,rfl,rfl,(by simp only[len_app,ς];omega),_,_,rfl,rfl,(by simp only[len_app,ς];omega),_,rfl,_,_,rfl,rfl,(by simp only[len_app,ς];omega),_,rfl,_,_,rfl,rfl,(by simp only[len_app,ς];omega),_,rfl,_,_,rfl,rfl,(by simp only[len_app,ς];omega),_,_,rfl,rfl,(by simp only[len_app,ς];omega),_,rfl,_,_,rfl,rfl,(by simp only[len_app,ς];omega),_,rfl,_,_,rfl,rfl,(by simp only[len_app,ς];omega),_,rfl,_,_,rfl,rfl,(by simp only[len_app,ς];omega),aMj,fun o2 ho2=>?_⟩;clear 1 o2 H3 g3 k3 ho2;refine⟨o1,o2,_,_,rfl,rfl,SqL.of (g3 _ _ k2),SqL.of k3,(by show 5+4<=Δ;decide),fun o3 ho3=>?_⟩;clear 1 o3 H4 g4 k4 ho3;have d4:Drawn p H H4:=d.keep (((g1.trans g2).trans g3).trans g4);have n3p:o3≠p:=fun z=>by
  obtain⟨x,y,w',e⟩:=(d.keep ((g1.trans g2).trans g3)).1;rw[←z,ho3]at e;cases e
 refine⟨_,rfl,_,rfl,p,9,rfl,by decide,by decide,d4.1,fun v H5 hv d5=>?_⟩;obtain⟨ln,hg,hfl,hat⟩:=aSd ha hb hc v (by omega);exact⟨o3,_,_,_,rfl,rfl,SqL.of (d5.2 _ _ n3p k4),zY (by
  have:=congrArg (Option.map V.str) hat;rw[←xw]at this;exact this),q ln H5 hg hfl (d4.trans d5)⟩
theorem wE(F:Fun K "_law_first" "_law_first" dW f fd)(af:Df K mg "_law_take" cg bu ["_law_box_here","_law_many"])(bq:jJ k cg bu ["_law_box_here","_law_many"] oX):jJ (k+2) f fd ["_law_box_here","_law_name","_law_old"] spFs:=by
 w_cond cY;obtain⟨p,n,o,rfl,hn,ho,h3,q⟩:=h;refine⟨_,(PSx.h (qL (aBc (i:=3) cY.nd rfl rfl (aGj (xZ (yN (jP jQ (jP jQ (pv 1) jM) (pv 2))) (xZ (yN (jP jQ jM (pv 1))) (xZ (yN (jP jQ (jP jQ (jP jQ jM (pv 2)) jM) (pv 1))) (xZ (yN (jP jQ (jP jQ (jP jQ (jP jQ (pv 2) jM) (pv 2)) jM) (pv 1))) aFr cJ) cJ) cJ) cJ))) (qL (vV (jY (i:=3) cY.nd rfl (by walk_at"o") (jP qN (pv 3) (kH (jA (jP jQ (jP jQ (jP jQ (jP jQ (jP jQ jM (pv 2)) jM) (pv 1)) jM) (pv 2)) (jA (jP jQ (jP jQ (jP jQ (jP jQ (pv 2) jM) (pv 2)) jM) (pv 1)) jB)))))) (oH (hG (yN (kO jZ (pv 3) (jN bq hr rfl af.m af.k af.b .nil jS (jA (pv 0) (jA jH jB))) (fun _ _=>rfl)))))))),?_⟩;have la:=aEk hn;have lb:=aEk ho;have c0:(δ " = ").length=3:=rfl;have c1:(δ "out ").length=4:=rfl;have c2:(δ "take ").length=5:=rfl;have c3:(δ "copy ").length=5:=rfl;have c4:(δ " ").length=1:=rfl;have c5:(δ " = look ").length=8:=rfl;have c6:(δ " x.").length=3:=rfl;have c7:(δ "store ").length=6:=rfl;have c8:(δ " + ").length=3:=rfl;have c9:(δ " = put").length=6:=rfl;have c10:(δ " = many").length=7:=rfl;have c11:(δ " * ").length=3:=rfl;refine⟨_,rfl,_,_,rfl,rfl,(by simp only[len_app,ς];omega),_,rfl,_,_,rfl,rfl,(by simp only[len_app,ς];omega),_,rfl,_,_,rfl,rfl,(by simp only[len_app,ς];omega),_,rfl,_,_,rfl,rfl,(by simp only[len_app,ς];omega),_,_,rfl,rfl,(by simp only[len_app,ς];omega),_,rfl,_,_,rfl,rfl,(by simp only[len_app,ς];omega),_,rfl,_,_,rfl,rfl,(by simp only[len_app,ς];omega),_,rfl,_,_,rfl,rfl,(by simp only[len_app,ς];omega),_,_,rfl,rfl,(by simp only[len_app,ς];omega),_,rfl,_,_,rfl,rfl,(by simp only[len_app,ς];omega),aMj,fun o1 ho1=>?_⟩;clear 1 o1 H2 g2 k2 ho1;refine⟨_,rfl,_,rfl,_,_,rfl,rfl,(by simp only[len_app,ς];omega),_,_,rfl,rfl,(by simp only[len_app,ς];omega),_,rfl,_,_,rfl,rfl,(by simp only[len_app,ς];omega),_,_,rfl,rfl,(by simp only[len_app,ς];omega),_,rfl,_,_,rfl,rfl,(by simp only[len_app,ς];omega),_,rfl,_,_,rfl,rfl,(by simp only[len_app,ς];omega),_,rfl,_,_,rfl,rfl,(by simp only[len_app,ς];omega),_,_,rfl,rfl,(by simp only[len_app,ς];omega),_,rfl,_,_,rfl,rfl,(by simp only[len_app,ς];omega),vK,fun o2 ho2=>?_⟩;clear 1 o2 H3 g3 k3 ho2;refine⟨o1,o2,_,_,rfl,rfl,SqL.of (g3 _ _ k2),SqL.of k3,(by show 4+2<=Δ;decide),fun o3 ho3=>?_⟩;clear 1 o3 H4 g4 k4 ho3;have d3:Drawn p H H3:=(Drawn.refl h3).keep (g2.trans g3);have d4:Drawn p H H4:=d3.keep g4;have n3p:o3≠p:=fun z=>by
  obtain⟨x,y,w',e⟩:=d3.1;rw[←z,ho3]at e;cases e
 refine⟨_,rfl,_,rfl,p,6,rfl,by decide,by decide,d4.1,fun v H5 hv d5=>?_⟩;obtain⟨ln,hg,hfl,hat⟩:=aRw hn ho v (by omega);exact⟨o3,_,_,_,rfl,rfl,SqL.of (d5.2 _ _ n3p k4),zY (by
  have:=congrArg (Option.map V.str) hat;rw[←xw]at this;exact this),q ln H5 hg hfl (d4.trans d5)⟩
theorem wM(F:Fun K "_law_lines" "_law_lines" dN f fd)(br:Df K mg "_law_cell" ig gr ["_law_script","_law_k"])(ii:jJ k ig gr ["_law_script","_law_k"] (spLc K))(ce:Df K mg "_law_box" iz ij ["_law_cell_here"])(ja:jJ k iz ij ["_law_cell_here"] aLo)(af:Df K mg "_law_take" cg bu ["_law_box_here","_law_many"])(bq:jJ k cg bu ["_law_box_here","_law_many"] oX)(mq:Df K mg "_law_line" sm qr ["_law_box_here","_law_names","_law_many"])(vw:jJ k sm qr ["_law_box_here","_law_names","_law_many"] (spLn K))(km:Df K mg "_law_first" qt pw ["_law_box_here","_law_name","_law_old"])(vf:jJ k qt pw ["_law_box_here","_law_name","_law_old"] spFs):jJ (k+2) f fd ["_law_script","_law_names","_law_many"] (spLs K):=by
 w_cond kW;obtain⟨a,na,ns,m,rfl,hS,hna,hm,q⟩:=h;refine⟨_,(jC (jY (i:=3) kW.nd rfl (by walk_at"o") (jN ja hr rfl ce.m ce.k ce.b .nil jS (jA (jN ii hr rfl br.m br.k br.b .nil jS (jA (pv 0) (jA jH jB))) jB))) (jC (aAg (i:=4) ["_law_k"] ["_law_names"] [1] kW.nd rfl rfl rfl (cB rfl M.range (jA jH jB)) rfl ⟨rfl,trivial⟩ ⟨⟨rfl,rfl,rfl,_,rfl⟩,trivial⟩ (fun _ _ _ _=>(jT (i:=0) (show yy (["_law_k","_law_names"]:List Str) from by ac_rfl) rfl (yl rfl))) (fun _ _ _ _=>qX) (fun _ _ _ _=>(jP jQ (jP jQ (kO (rK K rfl) (pv 1) (pv 0) (fun _ _=>rfl)) jM) (kO (rK K rfl) (pv 1) (jP qI (pv 0) jH) (fun _ _=>rfl))))) (jC (xC zw rfl (cB rfl M.range (jA (jP qI jH (jN bq hr rfl af.m af.k af.b .nil jS (jA (pv 3) (jA jH jB)))) jB)) (jT (i:=5) kW.nd rfl (yl rfl)) (jD (qO (zV zb zy Aa xS (pv 4) (jA (jN vw hr rfl mq.m mq.k mq.b .nil jS (jA (jN ja hr rfl ce.m ce.k ce.b .nil jS (jA (jP qI (jN ii hr rfl br.m br.k br.b .nil jS (jA (pv 0) (jA (jP qI jH (jP eK (pv 5) jH)) jB))) (jP oG (pv 5) jH)) jB)) (jA (pv 1) (jA jH jB)))) jB))))) (jC (xC zw rfl (cB rfl M.range (jA (jP gJ (pv 2) jH) jB)) (jT (i:=5) kW.nd rfl (yl rfl)) (jC (jY (i:=6) kW.nd rfl (by walk_at"o") (jP qI jH (jN bq hr rfl af.m af.k af.b .nil jS (jA (pv 3) (jA (jP gJ (kA kE rfl M.len yj (jA (pv 4) jB)) jH) jB))))) (jD (jY (i:=4) kW.nd rfl (by walk_at"o") (jP qN (jP qN (kS qF (pv 4) qJ (qC (pv 6))) (kH (jA (jN vf hr rfl km.m km.k km.b .nil jS (jA (pv 3) (jA (kO jZ (pv 1) (jP qI jH (pv 5)) (fun _ _=>rfl)) (jA (kO jZ (pv 1) (pv 5) (fun _ _=>rfl)) jB)))) jB))) (kS qF (pv 4) (qC (pv 6)) qJ)))))) (jC (jY (i:=6) kW.nd rfl (by walk_at"o") (kA (aHo rfl) rfl M.min boot_min (jA (jP gJ (kA kE rfl M.len yj (jA (pv 4) jB)) jH) (jA (jP qI jH (jN bq hr rfl af.m af.k af.b .nil jS (jA (pv 3) (jA jH jB)))) jB)))) (jC (jY (i:=7) kW.nd rfl (by walk_at"o") (jP qI (jP qI (pv 6) jH) (jN bq hr rfl af.m af.k af.b .nil jS (jA (pv 3) (jA jH jB))))) (jC (jY (i:=8) kW.nd rfl (by walk_at"o") (jN bq hr rfl af.m af.k af.b .nil jS (jA (pv 3) (jA jH jB)))) (jC (jY (i:=9) kW.nd rfl (by walk_at"o") (kO jZ (kH (jA jM (jA jM (jA jM jB)))) (pv 8) (fun _ _=>rfl))) (jC (jY (i:=10) kW.nd rfl (by walk_at"o") (kS qF (pv 4) (qC (pv 6)) (qC (pv 7)))) (jC (kL (jV qZ (pv 8) jH (kB _)) (jD (qO (zV zb zy Aa xS (pv 10) (jA jM jB)))) jX) (jC (jY (i:=11) kW.nd rfl (by walk_at"o") (kS qF (pv 4) (qC (pv 7)) qJ)) (jD (jO (jP qN (jP qN (jP qN (jP qN (jP qN (kS qF (pv 4) qJ (qC (pv 6))) (kH (jA (pv 9) jB))) (pv 10)) (kS qF (pv 11) qJ (qC jH))) (kH (jA jM jB))) (kS qF (pv 11) (qC jH) qJ))))))))))))))),?_⟩;refine⟨_,rfl,a,ns,0,rfl,hS,by decide,by decide,fun v H1 g1=>⟨v,rfl,fun p H2 hp d2=>?_⟩⟩;have g2:jJ H H2:=g1.trans (aM d2 hp);have hp0:H p=none:=g1.free hp;have c0:(δ " = ").length=3:=rfl;refine⟨10,rfl,by decide,by decide,fV (n:=10) (fun j ys H'=>H'=H2/\ys=tV ((zt j).map fk)) ⟨rfl,rfl⟩ (fun j ys H' _ z=>by rw[z.2,vE,ε,List.length_range];exact μ _) (by decide) (fun j ys H' hj z=>?_) (fun ys H' z l hl=>?_)⟩
 ·obtain⟨rfl,rfl⟩:=z;obtain⟨m1,e1⟩:=oO (k:=j) (by omega);obtain⟨m2,e2⟩:=oO (k:=j+1) (by omega);have l1:=aEk m1;have l2:=aEk m2;refine⟨_,rfl,_,rfl,na,_,_,_,rfl,rfl,SqL.of (g2 _ _ hna),(by rw[show(0:Int)+(j:Nat)=((j:Nat):Int) by omega];exact e1),_,_,rfl,rfl,(by simp only[len_app,ς];omega),_,rfl,_,rfl,_,_,rfl,rfl,na,_,_,_,rfl,rfl,SqL.of (g2 _ _ hna),(by rw[show(0:Int)+(j:Nat)+1=((j+1:Nat):Int) by omega];exact e2),_,_,rfl,rfl,(by simp only[len_app,ς];omega),⟨rfl,?_⟩,_,rfl⟩;rw[BV,Ψ,←zL,fk_tx];rfl
 obtain⟨rfl,rfl⟩:=z;rw[show(zt 10).map fk=wX from rfl];clear 1 l H3 g3 k3 hl;have npl:p≠l:=fun z=>by
  obtain⟨x,y,w',e⟩:=d2.1;rw[z,hl]at e;cases e
 have hl0:H l=none:=g2.free hl;have st3:St3 H3 p:=by obtain⟨x,y,w',e⟩:=d2.1;exact⟨x,y,w',g3 _ _ e⟩
 refine⟨_,rfl,p,6,rfl,by decide,by decide,st3,fun v4 H4 hv4 d4=>⟨_,_,rfl,rfl,_,rfl,by omega,by omega,?_⟩⟩;have gl4:H4 l=some (.lst (tV wX)):=d4.2 _ _ (Ag npl) k3;have g4:jJ H H4:=fun b o e=>d4.2 b o (jI e hp0) (g3 _ _ (g2 _ _ e));rw[show(47:Int)+((v4:Nat):Int)=((47+v4:Nat):Int) by omega];refine tI (n:=47+v4) (fun j σ H'=>∃(B:List Ln) (o5:Option V),σ = [some (.ref a),some (.ref na),some (.int (11+(m:Nat))),some (.ref p),some (.ref l),o5,none,none,none,none,none,none]/\jJ H H'/\St3 H' p/\H' l=some (.lst (tV B))/\RwO B/\B.length=10+j) ⟨wX,_,rfl,g4,d4.1,gl4,aKy,rfl⟩ (fun j σ H' hj z=>?_) (fun σ H' z=>?_)
 ·obtain⟨B,o5,rfl,g,st,kl,hB,hlen⟩:=z;have hmod:=Int.emod_nonneg ((0:Int)+(j:Nat)) (show(20:Int)≠0 by decide);have hmod2:=Int.emod_lt_of_pos ((0:Int)+(j:Nat)) (show(0:Int)<20 by decide);refine⟨_,rfl,.inl ⟨rfl,_,SqL.of kl⟩,_,rfl,_,rfl,_,_,rfl,rfl,(by show(0:Int)<20;decide),_,_,rfl,rfl,a,ns,_,rfl,g.seq hS,(by omega),(by omega),fun v5 H5 g5=>⟨_,rfl,_,_,rfl,rfl,⟨by show(0:Int)<20;decide,by omega⟩,_,_,rfl,rfl,_,rfl,fun p' H6 hp' d6=>⟨_,rfl,p',na,rfl,d6.1,?_,fun ln H7 hg hfl d7=>?_⟩⟩⟩
  ·exact aM d6 hp' _ _ (g5 _ _ (g _ _ hna))
  have g6:=g5.trans (aM d6 hp');have k6:=g6 _ _ kl;have nlp':l≠p':=fun z=>by rw[←z,g5 _ _ kl]at hp';cases hp'
  have npp':p≠p':=fun z=>by
   obtain⟨x,y,w',e⟩:=st;rw[←z,g5 _ _ e]at hp';cases hp'
  have k7:=d7.2 _ _ nlp' k6;have g7:jJ H H7:=fun b o e=>d7.2 b o (fun z=>by rw[←z,g5 _ _ (g _ _ e)]at hp';cases hp') (g6 _ _ (g _ _ e));refine⟨l,_,_,rfl,rfl,k7,(by rw[vE];exact zx (show B.length<=100 by omega) (by decide)),?_⟩;generalize e8:upd H7 l _=H8;obtain⟨g8,k8⟩:=aC e8;refine⟨B++[ln],_,rfl,fun b o e=>g8 _ _ (jI e hl0) (g7 _ _ e),?_,?_,hB.snoc ⟨hg,hfl⟩,by rw[η,hlen];rfl⟩
  ·obtain⟨x,y,w',e⟩:=st;exact⟨x,y,w',g8 _ _ npl (d7.2 _ _ npp' (g6 _ _ e))⟩
  ·rw[←zL];exact k8
 obtain⟨B,o5,rfl,g,st,kl,hB,hlen⟩:=z;refine⟨_,rfl,_,_,rfl,rfl,_,rfl,by omega,by omega,?_⟩;rw[show(11:Int)+((m:Nat):Int)-11=((m:Nat):Int) by omega];refine tI (n:=m) (fun j σ H'=>∃(l:Addr) (B:List Ln) (o5 o6:Option V),σ = [some (.ref a),some (.ref na),some (.int (11+(m:Nat))),some (.ref p),some (.ref l),o5,o6,none,none,none,none,none]/\jJ H H'/\St3 H' p/\l≠p/\H' l=some (.lst (tV B))/\RwO B/\B.length=57+v4+j) ⟨l,B,_,_,rfl,g,st,Ag npl,kl,hB,by omega⟩ (fun j σ H' hj z=>?_) (fun σ H' z=>?_)
 ·obtain⟨l,B,o5,o6,rfl,g,st,nlp,kl,hB,hlen⟩:=z;refine⟨_,rfl,_,rfl,l,_,rfl,.inl (SqL.of kl),_,_,rfl,rfl,p,_,rfl,(by rw[vE];omega),(by rw[vE];omega),st,fun v5 H5 hv5 d5=>⟨_,_,rfl,rfl,?_⟩⟩;rw[vE]at hv5;have g5:jJ H H5:=fun b o e=>d5.2 b o (jI e hp0) (g _ _ e);have k5:=d5.2 _ _ nlp kl
  (try dsimp only)
  rw[show(10:Int)+((v5:Nat):Int)=((10+v5:Nat):Int) by omega];refine⟨_,rfl,_,rfl,_,rfl,l,_,rfl,SqL.of k5,fun q1 hq1=>?_⟩;rw[aHd,eZ];clear 1 q1 H6 g6 k6 hq1;obtain⟨m1,a1⟩:=oO (k:=11+j) (by omega);obtain⟨m2,a2⟩:=oO (k:=j) (by omega);have st6:St3 H6 p:=by obtain⟨x,y,w',e⟩:=d5.1;exact⟨x,y,w',g6 _ _ e⟩
  have hna6:=g6 _ _ (g5 _ _ hna);refine⟨_,rfl,_,rfl,_,rfl,_,_,rfl,rfl,na,_,_,_,rfl,rfl,SqL.of hna6,(by rw[show(11:Int)+((0:Int)+(j:Nat))=((11+j:Nat):Int) by omega];exact a1),_,rfl,_,rfl,na,_,_,_,rfl,rfl,SqL.of hna6,(by rw[show(0:Int)+(j:Nat)=((j:Nat):Int) by omega];exact a2),p,_,_,rfl,m1,m2,st6,fun ln H7 hg hfl d7=>⟨iC,fun q2 hq2=>?_⟩⟩;generalize e8:upd H7 q2 _=H8;obtain⟨g8,k8⟩:=kQ e8 hq2;have n1p:q1≠p:=fun z=>by
   obtain⟨x,y,w',e⟩:=d5.1;rw[←z,hq1]at e;cases e
  have k68:=g8 _ _ (d7.2 _ _ n1p k6);refine⟨q1,q2,_,_,rfl,rfl,SqL.of k68,SqL.of k8,(by rw[vE,wy,ς];show _+1<=_;omega),fun q3 hq3=>?_⟩;rw[aDn,zL];clear 1 q3 H9 g9 k9 hq3;have k59:H9 l=some (.lst (tV B)):=g9 _ _ (g8 _ _ (d7.2 _ _ nlp (g6 _ _ k5)));refine⟨_,rfl,_,rfl,_,rfl,l,_,rfl,SqL.of k59,fun q4 hq4=>?_⟩;rw[aHy,iD];clear 1 q4 H10 g10 k10 hq4;refine⟨q3,q4,_,_,rfl,rfl,SqL.of (g10 _ _ k9),SqL.of k10,(by rw[vE,vE,η,wy,yo,ς];show _+1+_<=_;omega),fun q5 hq5=>?_⟩;rw[zL];clear 1 q5 H11 g11 k11 hq5;have g711:=((g8.trans g9).trans g10).trans g11;have st7:=d7.1;refine⟨q5,_,_,_,rfl,fun b o e=>g711 _ _ (d7.2 b o (jI e hp0) (g6 _ _ (g5 _ _ e))),?_,?_,k11,hB.ins ⟨hg,hfl⟩ (by omega),by rw[η,η,wy,yo];show _+1+_=_;omega⟩
  ·obtain⟨x,y,w',e⟩:=st7;exact⟨x,y,w',g711 _ _ e⟩
  ·exact fun z=>by
    obtain⟨x,y,w',e⟩:=st7;rw[←z,(g8.trans g9).trans g10 |>.free hq5]at e;cases e
 obtain⟨l,B,o5,o6,rfl,g,st,nlp,kl,hB,hlen⟩:=z;refine⟨_,rfl,l,_,rfl,.inl (SqL.of kl),_,_,rfl,rfl,_,rfl,p,8,rfl,by decide,by decide,st,fun v5 H5 hv5 d5=>⟨_,_,rfl,rfl,_,_,rfl,?_⟩⟩;have g5:jJ H H5:=fun b o e=>d5.2 b o (jI e hp0) (g _ _ e);have k5:=d5.2 _ _ nlp kl;obtain⟨n,en,hn10,hnB⟩ : ∃n:Nat,(if (54:Int)+((v5:Nat):Int)<(((tV B).length:Nat):Int)-3 then (54:Int)+((v5:Nat):Int) else (((tV B).length:Nat):Int)-3)=((n:Nat):Int)/\10<=n/\n<=B.length:=by
  rw[vE]
  split
  ·exact⟨54+v5,by omega,by omega,by omega⟩
  ·exact⟨B.length-3,by omega,by omega,by omega⟩
 rw[en];refine⟨_,rfl,_,_,rfl,rfl,_,rfl,p,6,rfl,by decide,by decide,d5.1,fun v6 H6 hv6 d6=>⟨_,_,rfl,rfl,?_⟩⟩;have g6:jJ H H6:=fun b o e=>d6.2 b o (jI e hp0) (g5 _ _ e);have k6:=d6.2 _ _ nlp k5
 (try dsimp only)
 rw[show((n:Nat):Int)+1+((v6:Nat):Int)=((n+1+v6:Nat):Int) by omega];refine⟨_,rfl,p,3,rfl,by decide,by decide,d6.1,fun v7 H7 hv7 d7=>?_⟩;have g7:jJ H H7:=fun b o e=>d7.2 b o (jI e hp0) (g6 _ _ e);have k7:=d7.2 _ _ nlp k6;refine⟨lU,fun hl' hhl=>?_⟩;generalize e8:upd H7 hl' _=H8;obtain⟨g8,k8⟩:=kQ e8 hhl;obtain⟨hd,eh,hdc⟩ : ∃hd:Ln,atI [V.str (δ "if bb"),.str (δ "each bb"),.str (δ "span bb bb bb")] ((v7:Nat):Int)=some (.str hd.tx)/\((v7=0/\hd=lqI "bb")\/(v7≠0/\(hd=lqE "bb" ∨ hd=lqS "bb" "bb" "bb"))):=by
  have h3:v7<3:=by omega
  match v7,h3 with
  |0,_=>exact⟨lqI "bb",congrArg (fun s=>some (V.str s)) (show δ "if bb" = (lqI "bb").tx by ac_rfl),.inl ⟨rfl,rfl⟩⟩
  |1,_=>exact⟨lqE "bb",congrArg (fun s=>some (V.str s)) (show δ "each bb" = (lqE "bb").tx by ac_rfl),.inr ⟨by decide,.inl rfl⟩⟩
  |2,_=>exact⟨lqS "bb" "bb" "bb",congrArg (fun s=>some (V.str s)) (show δ "span bb bb bb" = (lqS "bb" "bb" "bb").tx by ac_rfl),.inr ⟨by decide,.inr rfl⟩⟩
 refine⟨_,rfl,hl',_,_,_,rfl,rfl,SqL.of k8,eh,?_⟩;have k78:=g8 _ _ k7;refine⟨_,rfl,_,rfl,_,rfl,_,rfl,_,rfl,l,_,rfl,SqL.of k78,fun il hil=>?_⟩;rw[cutM _ _ _ (by omega),eZ,iD];clear 1 il H9 g9 k9 hil;have g09:jJ H H9:=(g7.trans g8).trans g9;have k79:=g9 _ _ k78;have nil_:l≠il:=fun z=>by rw[←z,k78]at hil;cases hil
 dsimp only[cZ];refine aBm (fun σ' H'=>∃I:List Ln,σ'=[some (.ref a),some (.ref na),some (.int (11+(m:Nat))),some (.ref p),some (.ref l),o5,some (.int ((n:Nat):Int)),some (.int ((n+1+v6:Nat):Int)),some (.int ((v7:Nat):Int)),some (.str hd.tx),some (.ref il),none]/\jJ H H'/\H' l=some (.lst (tV B))/\H' il=some (.lst (tV I))/\((hd=lqI "bb"/\I=(B.take (n+1+v6)).drop n++[lqL])\/((hd=lqE "bb" ∨ hd=lqS "bb" "bb" "bb")/\I=(B.take (n+1+v6)).drop n))) (fun σ' H' z=>?_) (fun nx hnx=>?_)
 case refine_2 =>
  refine⟨_,rfl,rfl,_,rfl,qP (fun c=>?_) (fun c=>?_)⟩
  ·have c':v7=0:=by have:=V.int.inj (of_decide_eq_true c);omega
   have hh:=hdc.resolve_right fun z=>z.1 c';refine⟨_,rfl,.inl ⟨rfl,_,SqL.of k9⟩,il,_,_,rfl,rfl,k9,(by rw[vE,yo,wy];exact zx (show _<=200 by omega) (by decide)),?_⟩;clear 0 il H10 g10 k10;exact hnx _ _ ⟨_,rfl,fun b o e=>g10 _ _ (fun z=>by rw[z,(g7.trans g8).free hil]at e;cases e) (g09 _ _ e),g10 _ _ nil_ k79,(by rw[←zL];exact k10),.inl ⟨hh.2,rfl⟩⟩
  ·have c':v7≠0:=fun z=>c (decide_eq_true (by rw[z];rfl));have hh:=hdc.resolve_left fun z=>c' z.1;exact hnx _ _ ⟨_,rfl,g09,k79,k9,.inr ⟨hh.2,rfl⟩⟩
 obtain⟨I,rfl,gI,kI,kil,hI⟩:=z;have lI:I.length<=80:=by
  rcases hI with⟨_,rfl⟩|⟨_,rfl⟩
  ·rw[η,yo,wy];show _+1<=_;omega
  ·rw[yo,wy];omega
 refine⟨_,rfl,_,rfl,_,rfl,l,_,rfl,SqL.of kI,fun la hla=>?_⟩;rw[aHy,iD];clear 1 la H10 g10 k10 hla;refine⟨_,rfl,_,rfl,_,rfl,l,_,rfl,SqL.of (g10 _ _ kI),fun q1 hq1=>?_⟩;rw[aHd,eZ];clear 1 q1 H11 g11 k11 hq1;refine⟨_,rfl,iC,fun q2 hq2=>?_⟩;clear 1 q2 H12 g12 k12 hq2;refine⟨q1,q2,_,_,rfl,rfl,SqL.of (g12 _ _ k11),SqL.of k12,(by rw[vE,wy,ς];show _+1<=_;omega),fun q3 hq3=>?_⟩;rw[aDn,zL];clear 1 q3 H13 g13 k13 hq3;have g1013:=(g11.trans g12).trans g13;refine⟨_,rfl,q3,il,_,_,rfl,rfl,SqL.of k13,SqL.of ((g10.trans g1013) _ _ kil),(by rw[vE,vE,η,wy,ς];show _+1+_<=_;omega),fun q4 hq4=>?_⟩;rw[zL];clear 1 q4 H14 g14 k14 hq4;refine⟨_,rfl,_,rfl,la,_,rfl,SqL.of ((g1013.trans g14) _ _ k10),fun q5 hq5=>?_⟩;rw[show zF (tV (B.drop (n+1+v6))) none (some 1)=(tV (B.drop (n+1+v6))).take 1 from aHd _ 1,eZ];clear 1 q5 H15 g15 k15 hq5;refine⟨q4,q5,_,_,rfl,rfl,SqL.of (g15 _ _ k14),SqL.of k15,(by simp only[vE,η,wy,yo,Ξ,Bm,ς];omega),fun q6 hq6=>?_⟩;rw[zL];clear 1 q6 H16 g16 k16 hq6;refine⟨iC,fun q7 hq7=>?_⟩;clear 1 q7 H17 g17 k17 hq7;have etz : [V.str (δ "end")]=tV [lqZ]:=rfl;rw[etz]at k17;refine⟨q6,q7,_,_,rfl,rfl,SqL.of (g17 _ _ k16),SqL.of k17,(by simp only[vE,η,wy,yo,Ξ,Bm,ς];omega),fun q8 hq8=>?_⟩;rw[zL];clear 1 q8 H18 g18 k18 hq8;have g1418:=((g15.trans g16).trans g17).trans g18;refine⟨_,rfl,_,rfl,la,_,rfl,SqL.of (((g1013.trans g14).trans g1418) _ _ k10),fun q9 hq9=>?_⟩;rw[show zF (tV (B.drop (n+1+v6))) (some 1) none=(tV (B.drop (n+1+v6))).drop 1 from aHy _ 1,iD];clear 1 q9 H19 g19 k19 hq9;refine⟨q8,q9,_,_,rfl,rfl,SqL.of (g19 _ _ k18),SqL.of k19,(by simp only[vE,η,wy,yo,Ξ,Bm,ς];omega),fun q10 hq10=>?_⟩;rw[zL];clear 1 q10 H20 g20 k20 hq10;exact q q10 _ H20 (((((gI.trans g10).trans g1013).trans g14).trans g1418).trans (g19.trans g20)) (aPa hB hn10 (by omega) (by omega) hI) k20
theorem aRa{k r:Nat}(hR : 12<=r/\8*r<=200)(F:Fun K "law" "law" aMl f fd){og:Addr}{mf:yn}(jd:Df K mg "read_shapes" og mf ["text"])(uo:jJ k og mf ["text"] (spRd (jK 0) Vf K r)){iz:Addr}{ij:yn}(ce:Df K mg "_law_box" iz ij ["_law_cell_here"])(ja:jJ k iz ij ["_law_cell_here"] aLo){ig:Addr}{gr:yn}(br:Df K mg "_law_cell" ig gr ["_law_script","_law_k"])(ii:jJ k ig gr ["_law_script","_law_k"] (spLc K)){cg:Addr}{bu:yn}(af:Df K mg "_law_take" cg bu ["_law_box_here","_law_many"])(bq:jJ k cg bu ["_law_box_here","_law_many"] oX){qu:Addr}{px:yn}(kq:Df K mg "_law_lines" qu px ["_law_script","_law_names","_law_many"])(vg:jJ k qu px ["_law_script","_law_names","_law_many"] (spLs K)){sq:Addr}{qv:yn}(dm:Df K mg "_law_read" sq qv ["_law_shapes","_law_lines_here"])(mr:jJ k sq qv ["_law_shapes","_law_lines_here"] (aQl (jK 0) Vf K)){uf:Addr}{sr:yn}(fh:Df K mg "_law_due" uf sr ["_law_lines_here","_law_bad"])(pz:jJ k uf sr ["_law_lines_here","_law_bad"] (spDu K)):jJ (k+2) f fd ["_law_script"] (aGb K):=by
 w_cond zS;obtain⟨a,ns,rfl,hS,hlen,q⟩:=h;refine⟨_,(PSx.h (qL (vV (jY (i:=1) zS.nd rfl (by walk_at"o") (jN uo hr rfl jd.m jd.k jd.b .nil jS (jA jM jB)))) (qL (vV (jY (i:=2) zS.nd rfl (by walk_at"o") jM)) (qL (vV (aAg (i:=3) ["_law_sign"] [] [] zS.nd rfl rfl rfl (aMd (pv 2)) rfl trivial trivial (fun _ _ _ _=>(jT (i:=0) (show yy (["_law_sign"]:List Str) from by ac_rfl) rfl (yl rfl))) (fun _ _ _ _=>qX) (fun _ _ _ _=>(jP jQ (pv 0) (pv 0))))) (qL (vV (jY (i:=4) zS.nd rfl (by walk_at"o") (jN ja hr rfl ce.m ce.k ce.b .nil jS (jA (jN ii hr rfl br.m br.k br.b .nil jS (jA (pv 0) (jA jH jB))) jB)))) (qL (vV (jY (i:=5) zS.nd rfl (by walk_at"o") (jN vg hr rfl kq.m kq.k kq.b .nil jS (jA (pv 0) (jA (pv 3) (jA (jP qI jH (jN bq hr rfl af.m af.k af.b .nil jS (jA (pv 4) (jA jH jB)))) jB)))))) (qL (vV (jY (i:=6) zS.nd rfl (by walk_at"o") (aFk (iY jM (kH (jA jM (jA jM jB))) (iY jM (kH (jA jM jB)) aFx)) rfl rfl (fun z=>nomatch z) (by decide)))) (qL (vV (qO (zV PySem.F.plainAttrs_dict PySem.F.slot_dict_update PySem.F.type_dict_update aHc (pv 6) (jA (aFk (iY jM (kH (jA jM (jA jM jB))) (iY jM (kH (jA jM jB)) aFx)) rfl rfl (fun z=>nomatch z) (by decide)) jB)))) (qL (aOe (jV (aMb hr.units) (jN mr hr rfl dm.m dm.k dm.b .nil jS (jA (pv 1) (jA (pv 5) jB))) (jN pz hr rfl fh.m fh.k fh.b .nil jS (jA (pv 5) (jA (pv 6) jB))) (kB _)) (oH (hG (yN aGc))) jX) (qL (vV (jY (i:=4) zS.nd rfl (by walk_at"o") (jN ja hr rfl ce.m ce.k ce.b .nil jS (jA (jN ii hr rfl br.m br.k br.b .nil jS (jA (pv 0) (jA jH jB))) jB)))) (qL (vV (jY (i:=7) zS.nd rfl (by walk_at"o") (jN pz hr rfl fh.m fh.k fh.b .nil jS (jA (pv 5) (jA (pv 6) jB))))) (qL (vV (xC zw rfl (aGe (pv 6)) (jT (i:=8) zS.nd rfl (yl rfl)) (jD (xC zw rfl (vO (kH (jA (jN bq hr rfl af.m af.k af.b .nil jS (jA (pv 4) (jA (jP qI (kA kE rfl M.len yj (jA (pv 5) jB)) jH) jB))) (jA (kO jZ (jP qN (pv 7) (kH (jA jH jB))) (cI yR jH) (fun _ _=>rfl)) (jA (kO jZ (jP qN (pv 7) (kH (jA jH jB))) (cI yR jH) (fun _ _=>rfl)) jB))))) (jT (i:=9) zS.nd rfl (yl rfl)) (jC (jY (i:=10) zS.nd rfl (by walk_at"o") (jP qN (jP qN (kS qF (pv 5) qJ (qC (pv 9))) (kH (jA (pv 8) jB))) (kS qF (pv 5) (qC (pv 9)) qJ))) (jD (kL (jV (aMb hr.units) (jN mr hr rfl dm.m dm.k dm.b .nil jS (jA (pv 1) (jA (pv 10) jB))) (jN pz hr rfl fh.m fh.k fh.b .nil jS (jA (pv 10) (jA (pv 6) jB))) (kB _)) (jD (jO aGc)) jX))))))) (oH (hG (yN (qY (aBv hr.units) (jN mr hr rfl dm.m dm.k dm.b .nil jS (jA (pv 1) (jA (kS qF (pv 5) qJ (qC jH)) jB))) (kH jB) (kB _))))))))))))))))),?_⟩;refine⟨shS,aTd,aDt,(by unfold shS;simp),hR.1,hR.2,fun ra dx t sa H1 g1 kr kt sw=>?_⟩;obtain⟨z,rfl⟩ : ∃z,sa=[z]:=by
  have h1:sa.length=1:=sw.1
  match sa,h1 with
  |[z],_=>exact⟨z,rfl⟩
 have hro:RO (jK 0) Vf K H1 ra ([]++[z]) shS:=⟨dx,t,kr,kt,sw⟩;refine⟨_,rfl,aGz,rfl,aCe (fun i ys H'=>H'=H1/\ys=(nms.take i).map V.str) ⟨rfl,rfl⟩ (fun i ys H' _ z=>by rw[z.2,ε,wy];omega) (by decide) (fun i c ys H' hc z=>?_) (fun ys H' z na hna=>?_)⟩
 ·obtain⟨rfl,rfl⟩:=z;refine⟨_,rfl,_,rfl,_,_,rfl,rfl,(by show 1+1<=Δ;decide),⟨rfl,?_⟩,_,rfl⟩;rw[zk,aRz hc,Ψ];rfl
 obtain⟨rfl,rfl⟩:=z;rw[show nms.take aGz.length=nms from rfl];clear 1 na H2 g2 k2 hna;refine⟨_,rfl,a,ns,1,rfl,(g1.trans g2).seq hS,by decide,by decide,fun v3 H3 g3=>⟨v3,rfl,fun p H4 hp d4=>?_⟩⟩;have g4:jJ H2 H4:=g3.trans (aM d4 hp);have hp2:H2 p=none:=g3.free hp;refine⟨_,rfl,_,rfl,_,rfl,p,3,rfl,by decide,by decide,d4.1,fun v5 H5 hv5 d5=>⟨_,_,rfl,rfl,?_⟩⟩;have g5:jJ H2 H5:=fun b o e=>d5.2 b o (jI e hp2) (g4 _ _ e);refine⟨a,na,ns,v5,rfl,((g1.trans g2).trans g5).seq hS,g5 _ _ k2,(by omega),fun l P H6 g6 hP kP=>?_⟩;have kP':H6 l=some (.lst (tV P)):=kP;have g06:jJ H' H6:=(g2.trans g5).trans g6;have hPn:=hP.n;obtain⟨p1,p2,p3⟩:=pr_ok hP;have hdue:xY shS (.nest 0) P [] [] 0=dE P [] 0:=aAh p3 hP.s Ct fun x=>Iff.rfl;intro d hd;refine⟨vK,fun a0 ha0=>⟨iC,fun a1 ha1=>?_⟩⟩;generalize f1:upd H6 d _=F1 at ha0 ha1 ⊢;obtain⟨gf1,kd1⟩:=kQ f1 hd;generalize f2:upd F1 a0 _=F2 at ha1 ⊢;obtain⟨gf2,ka0⟩:=kQ f2 ha0;clear 1 a1 F3 gf3 ka1 ha1;refine⟨gf3 _ _ (gf2 _ _ kd1),[(.inr (δ "bb = look bb x"),.ref a0),(.inr (δ "out"),.ref a1)],rfl,(by show 2<=15;decide),?_⟩;rw[aLy (by rw[←xP.1,←xP.2.1];exact fun z=>bZ.1 (AN z).symm)];clear 0 d F4 gf4 kd4;have nd0:a0≠d:=fun z=>by rw[z,kd1]at ha0;cases ha0
 have nd1:a1≠d:=fun z=>by rw[z,gf2 _ _ kd1]at ha1;cases ha1
 have ka0':=gf4 _ _ nd0 (gf3 _ _ ka0);have ka1':=gf4 _ _ nd1 ka1;have g46:jJ H6 F4:=fun b o e=>gf4 _ _ (jI e hd) (gf3 _ _ (gf2 _ _ (gf1 _ _ e)));refine⟨_,rfl,.inr (.inr (.inl ⟨rfl,.inl ⟨_,kd4⟩⟩)),fun d2 hd2=>⟨vK,fun a2 ha2=>⟨iC,fun a3 ha3=>?_⟩⟩⟩;generalize f5:upd F4 d2 _=F5 at ha2 ha3 ⊢;obtain⟨gf5,kd5⟩:=kQ f5 hd2;generalize f6:upd F5 a2 _=F6 at ha3 ⊢;obtain⟨gf6,ka2⟩:=kQ f6 ha2;clear 1 a3 F7 gf7 ka3 ha3;refine⟨gf7 _ _ (gf6 _ _ kd5),[(.inr (δ "store bb y.y rr"),.ref a2),(.inr (δ "rr = "),.ref a3)],rfl,(by show 2<=15;decide),?_⟩;rw[aLy (by rw[←xP.2.2.1,←xP.2.2.2];exact fun z=>bZ.2.2.2.2.2 (AN z).symm)];clear 0 d2 F8 gf8 kd8;have n2:d≠d2:=fun z=>by rw[←z,kd4]at hd2;cases hd2
 have m2:a2≠d2:=fun z=>by rw[z,kd5]at ha2;cases ha2
 have m3:a3≠d2:=fun z=>by rw[z,gf6 _ _ kd5]at ha3;cases ha3
 have g48:jJ F4 F8:=fun b o e=>gf8 _ _ (jI e hd2) (gf7 _ _ (gf6 _ _ (gf5 _ _ e)));refine⟨d,d2,_,_,rfl,rfl,n2,g48 _ _ kd4,kd8,(by show 2+2<=Δ;decide),?_⟩;rw[aRq (by rw[←xP.1,←xP.2.1,←xP.2.2.1];exact⟨fun z=>bZ.2.1 (AN z).symm,fun z=>bZ.2.2.1 (AN z).symm⟩) (by rw[←xP.1,←xP.2.1,←xP.2.2.1,←xP.2.2.2];exact⟨fun z=>bZ.2.2.2.1 (AN z).symm,fun z=>bZ.2.2.2.2.1 (AN z).symm,fun z=>bZ.2.2.2.2.2 (AN z).symm⟩)];clear 0 d F9 gf9 kd9;have kdB:F9 d=some (.dK (bdK a0 a1 a2 a3)):=by rw[kd9,←xP.1,←xP.2.1,←xP.2.2.1,←xP.2.2.2];rfl
 have m4:a2≠d:=fun z=>by rw[z,gf5 _ _ kd4]at ha2;cases ha2
 have m5:a3≠d:=fun z=>by rw[z,gf6 _ _ (gf5 _ _ kd4)]at ha3;cases ha3
 have g69:jJ H6 F9:=fun b o e=>gf9 _ _ (jI e hd) (g48 _ _ (g46 _ _ e));have kA0:=gf9 _ _ nd0 (g48 _ _ ka0');have kA1:=gf9 _ _ nd1 (g48 _ _ ka1');have kA2:=gf9 _ _ m4 (gf8 _ _ m2 (gf7 _ _ ka2));have kA3:=gf9 _ _ m5 (gf8 _ _ m3 ka3);have hB9:aDa K F9 d:=⟨a0,a1,a2,a3,.inl kdB,SqL.of kA0,SqL.of kA1,SqL.of kA2,SqL.of kA3⟩;have kl9:=g69 _ _ kP';have hro9:=iE hro (g06.trans g69);refine⟨_,rfl,_,rfl,ra,l,z,P,rfl,hro9,SqL.of kl9,p1,p2,(by omega),fun r1 G1 h1 s1=>⟨_,rfl,_,rfl,l,d,P,rfl,SqL.of (h1 _ _ kl9),hB9.same h1,p3,(by omega),fun r2 G2 h2 s2=>?_⟩⟩;rw[hdue]at s1;refine⟨r1,r2,_,_,rfl,rfl,h2.seq s1,s2,rfl,aMa _,_,rfl,qA (by decide) ?_⟩;have h92:=h1.trans h2;refine⟨_,rfl,a,ns,2,rfl,(((g1.trans g06).trans g69).trans h92).seq hS,by decide,by decide,fun v7 G3 h3=>⟨v7,rfl,fun pb G4 hpb d4'=>?_⟩⟩;have h34:=h3.trans (aM d4' hpb);have h94:jJ F9 G4:=h92.trans h34;refine⟨_,rfl,_,rfl,l,d,P,rfl,SqL.of (h94 _ _ kl9),hB9.same h94,p3,(by omega),fun pm G5 h5 s5=>?_⟩;have h95:=h94.trans h5;have st5:St3 G5 pb:=by obtain⟨x,y,w',e⟩:=d4'.1;exact⟨x,y,w',h5 _ _ e⟩
 refine⟨_,rfl,d,_,rfl,h95 _ _ kdB,fun o=>?_⟩;clear 0 d G6 h6 kd6;have nbd:pb≠d:=fun z=>by rw[z,(h92.trans h3) _ _ kdB]at hpb;cases hpb
 have st6:St3 G6 pb:=by obtain⟨x,y,w',e⟩:=st5;exact⟨x,y,w',h6 _ _ nbd e⟩
 have hld:l≠d:=fun z=>by rw[z,hd]at kP;cases kP
 have h66:jJ H6 G6:=fun b o' e=>h6 _ _ (jI e hd) (h95 _ _ (g69 _ _ e));have kl6:=h66 _ _ kP';have hro6:=iE hro (g06.trans h66);have npl:l≠pb:=fun z=>by rw[←z,(h92.trans h3) _ _ kl9]at hpb;cases hpb
 have hm6:SqL K G6 pm (fR (dE P [] 0)):=aPi (h95 _ _ kdB) h6 s5;have hpb9:F9 pb=none:=(h92.trans h3).free hpb;have hpb6:H6 pb=none:=g69.free hpb9;have hBG:∀{G:Hp},Drawn pb G6 G->aDa K G d:=fun {G} dr=>⟨a0,a1,a2,a3,.inr ⟨o,dr.2 _ _ (Ag nbd) kd6⟩,SqL.of (dr.2 _ _ (jI kA0 hpb9) (h6 _ _ nd0 (h95 _ _ kA0))),SqL.of (dr.2 _ _ (jI kA1 hpb9) (h6 _ _ nd1 (h95 _ _ kA1))),SqL.of (dr.2 _ _ (jI kA2 hpb9) (h6 _ _ m4 (h95 _ _ kA2))),SqL.of (dr.2 _ _ (jI kA3 hpb9) (h6 _ _ m5 (h95 _ _ kA3)))⟩;have hSG:∀{G:Hp},Drawn pb G6 G->jJ H6 G:=fun {G} dr b o' e=>dr.2 b o' (jI e hpb6) (h66 _ _ e);refine aJs (kvs:=bdK a0 a1 a2 a3) (fun i σ G=>∃(o8 o9 o10:Option V),σ = [some (.ref a),some (.ref ra),some (.str aGz),some (.ref na),some (.ref pb),some (.ref l),some (.ref d),some (.ref pm),o8,o9,o10]/\Drawn pb G6 G) ⟨_,_,_,rfl,Drawn.refl st6⟩ (fun i σ G _ z=>?_) (fun i kv σ G hkv z=>?_) (fun σ G z=>?_)
 ·obtain⟨o8,o9,o10,rfl,dr⟩:=z;exact dr.2 _ _ (Ag nbd) kd6
 ·obtain⟨o8,o9,o10,rfl,dr⟩:=z;obtain⟨b,hb,ekv⟩:=bk_at hkv;rw[ekv];have kl:=hSG dr _ _ kP';refine⟨_,rfl,_,rfl,l,_,rfl,.inl (SqL.of kl),_,_,rfl,rfl,pb,_,rfl,(by rw[vE];omega),(by rw[vE];omega),dr.1,fun v G7 hv d7=>?_⟩;have dr7:=dr.trans d7;have few:=aOy (dE P [] 0);refine⟨_,rfl,iC,fun q1 hq1=>?_⟩;clear 1 q1 W1 u1 x1 hq1;have sm7:=aNz st6 dr7 hm6;refine⟨pm,q1,_,_,rfl,rfl,u1.seq sm7,SqL.of x1,(by rw[ς];show _+1<=_;omega),fun q2 hq2=>?_⟩;clear 1 q2 W2 u2 x2 hq2;refine⟨_,rfl,q2,_,_,_,rfl,rfl,SqL.of x2,aBd _ _,?_⟩;refine⟨_,rfl,iC,fun q3 hq3=>?_⟩;clear 1 q3 W3 u3 x3 hq3;refine⟨pm,q3,_,_,rfl,rfl,((u1.trans u2).trans u3).seq sm7,SqL.of x3,(by rw[ς];show _+1<=_;omega),fun q4 hq4=>?_⟩;clear 1 q4 W4 u4 x4 hq4;refine⟨_,rfl,q4,_,_,_,rfl,rfl,SqL.of x4,aBd _ _,?_⟩;refine⟨lU,fun L hL=>?_⟩;clear 1 L W5 u5 x5 hL;have u75:jJ G7 W5:=(((u1.trans u2).trans u3).trans u4).trans u5;have dr5:Drawn pb G6 W5:=dr7.keep u75;refine⟨L,rfl,⟨_,SqL.of x5⟩,eH (xs:=[V.int ((v:Nat):Int),.int 59,.int 60]) (fun j σ G=>∃(o9 o10:Option V),σ = [some (.ref a),some (.ref ra),some (.str aGz),some (.ref na),some (.ref pb),some (.ref l),some (.ref d),some (.ref pm),some (.str b.tx),o9,o10]/\Drawn pb G6 G/\jJ W5 G) ⟨_,_,rfl,dr5,jJ.refl _⟩ (fun j σ G _ z=>?_) (fun j x σ G hx z=>?_) (fun σ G z=>?_)⟩
  ·obtain⟨o9,o10,rfl,_,sw5⟩:=z;exact SqL.of (sw5 _ _ x5)
  ·obtain⟨o9,o10,rfl,drG,sw5⟩:=z;obtain⟨n,rfl⟩ : ∃n:Nat,x=.int ((n:Nat):Int):=by
    match j,hx with
    |0,hx=>cases hx;exact⟨v,rfl⟩
    |1,hx=>cases hx;exact⟨59,rfl⟩
    |2,hx=>cases hx;exact⟨60,rfl⟩
    |j+3,hx=>simp at hx
   obtain⟨i1,i2,i3,i4,i5⟩:=aSk hP hb n;have hdue2:xY shS (.nest 0) (P.take n++[b]++P.drop n) [] [] 0=dE (P.take n++[b]++P.drop n) [] 0:=aAh i1 i5 Ct fun x=>Iff.rfl;have klG:=hSG drG _ _ kP';refine⟨_,rfl,_,rfl,_,rfl,l,_,rfl,SqL.of klG,fun q5 hq5=>?_⟩;rw[aHd,eZ];clear 1 q5 Y1 c1 z1 hq5;refine⟨_,rfl,iC,fun q6 hq6=>?_⟩;clear 1 q6 Y2 c2 z2 hq6;refine⟨q5,q6,_,_,rfl,rfl,SqL.of (c2 _ _ z1),SqL.of z2,(by rw[vE,wy,ς];show _+1<=_;omega),fun q7 hq7=>?_⟩;rw[aDn,zL];clear 1 q7 Y3 c3 z3 hq7;refine⟨_,rfl,_,rfl,_,rfl,l,_,rfl,SqL.of (((c1.trans c2).trans c3) _ _ klG),fun q8 hq8=>?_⟩;rw[aHy,iD];clear 1 q8 Y4 c4 z4 hq8;refine⟨q7,q8,_,_,rfl,rfl,SqL.of (c4 _ _ z3),SqL.of z4,(by simp only[vE,η,wy,yo,Ξ,Bm,ς];omega),fun q9 hq9=>?_⟩;rw[zL];clear 1 q9 Y5 c5 z5 hq9;have c15:jJ G Y5:=(((c1.trans c2).trans c3).trans c4).trans c5;have drY:=drG.keep c15;refine⟨_,rfl,_,rfl,ra,q9,z,P.take n++[b]++P.drop n,rfl,iE hro (g06.trans (hSG drY)),SqL.of z5,i2,i3,i4,fun r1 Z1 h1' s1'=>⟨_,rfl,_,rfl,q9,d,P.take n++[b]++P.drop n,rfl,SqL.of (h1' _ _ z5),(hBG drY).same h1',i1,i4,fun r2 Z2 h2' s2'=>?_⟩⟩;rw[hdue2]at s1';exact⟨r1,r2,_,_,rfl,rfl,h2'.seq s1',s2',rfl,aMa _,_,rfl,qA (by decide) ⟨_,_,rfl,drY.keep (h1'.trans h2'),(sw5.trans c15).trans (h1'.trans h2')⟩⟩
  ·obtain⟨o9,o10,rfl,drG,_⟩:=z;exact⟨_,_,_,rfl,drG⟩
 ·obtain⟨o8,o9,o10,rfl,dr⟩:=z;have klG:=hSG dr _ _ kP';refine⟨_,rfl,_,rfl,_,rfl,l,_,rfl,SqL.of klG,fun q5 hq5=>?_⟩;rw[show zF (tV P) none (some 10)=(tV P).take 10 from aHd _ 10,eZ,hP.t];clear 1 q5 Y1 c1 z1 hq5;refine⟨ra,q5,z,wX,rfl,iE hro ((g06.trans (hSG dr)).trans c1),SqL.of z1,fun l' hl'=>.inl (aKy.g l' hl').1.f,(fun z=>by cases z),(by show 10<=100;decide),fun r1 Z1 h1' s1'=>⟨dS,fun e he=>?_⟩⟩;rw[aSo]at s1';clear 1 e Z2 c2 z2 he;exact⟨r1,e,_,rfl,rfl,c2.seq s1',SqL.of z2,q _⟩
end
end K32
namespace K32
open PySem L2 PyProof.Rows
set_option hygiene false in
local macro_rules | `(tactic| walk_at"b1") => `(tactic| exact fun _ _ _ _ _ _ us hl => by obtain ⟨a0, rfl⟩ := ls1 hl;rfl)
set_option hygiene false in
local macro_rules | `(tactic| walk_at"b2") => `(tactic| exact fun _ _ _ _ _ _ us hl => by obtain ⟨a0, a1, rfl⟩ := ls2 hl;rfl)
set_option hygiene false in
local macro_rules | `(tactic| walk_at"b3") => `(tactic| exact fun _ _ _ _ _ _ us hl => by obtain ⟨a0, a1, a2, rfl⟩ := ls3 hl;rfl)
set_option hygiene false in
local macro_rules | `(tactic| walk_at"b4") => `(tactic| exact fun _ _ _ _ _ _ us hl => by obtain ⟨a0, a1, a2, a3, rfl⟩ := ls4 hl;rfl)
set_option hygiene false in
local macro_rules | `(tactic| walk_at"b5") => `(tactic| exact fun _ _ _ _ _ _ us hl => by obtain ⟨a0, a1, a2, a3, a4, rfl⟩ := ls5 hl;rfl)
set_option hygiene false in
local macro_rules | `(tactic| walk_at"b7") => `(tactic| exact fun _ _ _ _ _ _ us hl => by obtain ⟨a0, a1, a2, a3, a4, a5, a6, rfl⟩ := ls7 hl;rfl)
theorem ls1{us:List Value}(h:us.length=1):∃a0,us=[a0]:=by
 cases us with
 |nil=>cases h
 |cons a0 us =>
  cases us with
  |nil=>exact⟨a0,rfl⟩
  |cons _ us=>simp only[Ξ]at h;omega
theorem ls2{us:List Value}(h:us.length=2):∃a0 a1,us=[a0,a1]:=by
 cases us with
 |nil=>cases h
 |cons a0 us =>
  cases us with
  |nil=>cases h
  |cons a1 us =>
   cases us with
   |nil=>exact⟨a0,a1,rfl⟩
   |cons _ us=>simp only[Ξ]at h;omega
theorem ls3{us:List Value}(h:us.length=3):∃a0 a1 a2,us=[a0,a1,a2]:=by
 cases us with
 |nil=>cases h
 |cons a0 us =>
  cases us with
  |nil=>cases h
  |cons a1 us =>
   cases us with
   |nil=>cases h
   |cons a2 us =>
    cases us with
    |nil=>exact⟨a0,a1,a2,rfl⟩
    |cons _ us=>simp only[Ξ]at h;omega
theorem ls4{us:List Value}(h:us.length=4):∃a0 a1 a2 a3,us=[a0,a1,a2,a3]:=by
 cases us with
 |nil=>cases h
 |cons a0 us =>
  cases us with
  |nil=>cases h
  |cons a1 us =>
   cases us with
   |nil=>cases h
   |cons a2 us =>
    cases us with
    |nil=>cases h
    |cons a3 us =>
     cases us with
     |nil=>exact⟨a0,a1,a2,a3,rfl⟩
     |cons _ us=>simp only[Ξ]at h;omega
theorem ls5{us:List Value}(h:us.length=5):∃a0 a1 a2 a3 a4,us=[a0,a1,a2,a3,a4]:=by
 cases us with
 |nil=>cases h
 |cons a0 us =>
  cases us with
  |nil=>cases h
  |cons a1 us =>
   cases us with
   |nil=>cases h
   |cons a2 us =>
    cases us with
    |nil=>cases h
    |cons a3 us =>
     cases us with
     |nil=>cases h
     |cons a4 us =>
      cases us with
      |nil=>exact⟨a0,a1,a2,a3,a4,rfl⟩
      |cons _ us=>simp only[Ξ]at h;omega
theorem ls7{us:List Value}(h:us.length=7):∃a0 a1 a2 a3 a4 a5 a6,us=[a0,a1,a2,a3,a4,a5,a6]:=by
 cases us with
 |nil=>cases h
 |cons a0 us =>
  cases us with
  |nil=>cases h
  |cons a1 us =>
   cases us with
   |nil=>cases h
   |cons a2 us =>
    cases us with
    |nil=>cases h
    |cons a3 us =>
     cases us with
     |nil=>cases h
     |cons a4 us =>
      cases us with
      |nil=>cases h
      |cons a5 us =>
       cases us with
       |nil=>cases h
       |cons a6 us =>
        cases us with
        |nil=>exact⟨a0,a1,a2,a3,a4,a5,a6,rfl⟩
        |cons _ us=>simp only[Ξ]at h;omega
theorem mO{K:Ω}{k:Nat}(h:jK P w K mg base CX j f fd ps sp)(hk:j<=k:=by decide):jK P w K mg base CX k f fd ps sp:=jK.mono h hk
structure FG (K:Ω) (n:Str) (s:Stmt) (f:Addr):Prop where
 a:AX K ww n=some (some (.ref f))
 l:∃fd,Fun K n n s f fd
structure FM (K:Ω) (C:Addr) (n q:Str) (s:Stmt) (f:Addr):Prop where
 a:zj K (.ref C) n=some (some (.ref f))
 i:isFn K (.ref f)=true
 l:∃fd,Fun K n q s f fd
structure CK (K:Ω) (n:Str) (C:Addr) (as:List Str):Prop where
 g:AX K ww n=some (some (.ref C))
 c:Cls K C
 m:PySem.W.makesIn K C=true
 k:keepIn K (.ref C)=true
 n:∀a∈as,aN K C a
section
variable {K:Ω}{h:yp}{mg:Str->Option Value}{n q:Str}{s:Stmt}{f C:Addr}{as:List Str}
theorem FG.o(X:K.In h)(G:h.Ns ww mg)(A:FG K n s f)(ps:List Str)(b:∀(kV doc pm:Value) (an:Option Addr) (cdv ct:Value) (us:List Value),us.length=ps.length->bindArgs (fnOf n n (cS s) (vW s) (jG s) .none kV doc pm an cdv ct) ⟨us,[]⟩=pure (ps.zip us)):∃fd,Fun K n n s f fd/\Df K mg n f fd ps:=A.l.elim fun fd F=>⟨fd,F,BB X G A.a,F.kp,F.binds b⟩
theorem FM.o(A:FM K C n q s f)(ps:List Str)(b:∀(kV doc pm:Value) (an:Option Addr) (cdv ct:Value) (us:List Value),us.length=ps.length->bindArgs (fnOf n q (cS s) (vW s) (jG s) .none kV doc pm an cdv ct) ⟨us,[]⟩=pure (ps.zip us)):∃fd,Fun K n q s f fd/\DfM K C n f fd ps:=A.l.elim fun fd F=>⟨fd,F,⟨A.a,A.i,F.kp⟩,F.binds b⟩
theorem FM.j(A:FM K C n q s f)(ps:List Str)(b:∀(kV doc pm:Value) (an:Option Addr) (cdv ct:Value) (us:List Value),us.length=ps.length->bindArgs (fnOf n q (cS s) (vW s) (jG s) .none kV doc pm an cdv ct) ⟨us,[]⟩=pure (ps.zip us)):∃fd,Fun K n q s f fd/\DfI K fd ps:=A.l.elim fun fd F=>⟨fd,F,⟨F.binds b⟩⟩
theorem CK.o(X:K.In h)(G:h.Ns ww mg)(A:CK K n C as)(I:FM K C "__init__" q s f):rV K mg n C f as:=⟨BB X G A.g,A.c,⟨A.m,I.a,I.i,A.k⟩,A.n⟩
theorem na0:∀a∈([]:List Str),aN K C a:=fun _ h=>nomatch h
theorem na1(h:zj K (.ref C) n=some none)(r:∀a∈as,aN K C a):∀a∈n::as,aN K C a:=fun a m=>(χ.mp m).elim (fun e=>e▸h) (r a)
end
theorem all_mk{l:PySem.W.OpenLaw}{K:Ω}{mg:Str->Option Value}(X:K.In h)(G:h.Ns ww mg)(hfa:mg "law" = some (.ref fa)){odt:Option Addr}{slt:Array (Option Value)}{oz1:Option Addr}{sl_1:Array (Option Value)}{y2_0 y2_1 y2_2 y2_3 y2_4:Tok}{oz2:Option Addr}{sl_2:Array (Option Value)}{oz3:Option Addr}{sl_3:Array (Option Value)}{oz4:Option Addr}{sl_4:Array (Option Value)}{oz5:Option Addr}{sl_5:Array (Option Value)}{y6_1:Tok}{oz6:Option Addr}{sl_6:Array (Option Value)}{oz7:Option Addr}{sl_7:Array (Option Value)}{y8_1:Tok}{oz8:Option Addr}{sl_8:Array (Option Value)}{oz9:Option Addr}{sl_9:Array (Option Value)}{y10_1:Tok}{oz10:Option Addr}{sl_10:Array (Option Value)}{oz11:Option Addr}{sl_11:Array (Option Value)}{y12_1:Tok}{oz12:Option Addr}{sl_12:Array (Option Value)}{oz13:Option Addr}{sl_13:Array (Option Value)}{oz14:Option Addr}{sl_14:Array (Option Value)}{oz15:Option Addr}{sl_15:Array (Option Value)}{y16_1:Tok}{oz16:Option Addr}{sl_16:Array (Option Value)}{oz17:Option Addr}{sl_17:Array (Option Value)}{oz18:Option Addr}{sl_18:Array (Option Value)}{oz19:Option Addr}{sl_19:Array (Option Value)}{oz20:Option Addr}{sl_20:Array (Option Value)}{oz21:Option Addr}{sl_21:Array (Option Value)}{y22_1:Tok}{oz22:Option Addr}{sl_22:Array (Option Value)}{oz23:Option Addr}{sl_23:Array (Option Value)}{oz24:Option Addr}{sl_24:Array (Option Value)}{oz25:Option Addr}{sl_25:Array (Option Value)}{y26_1:Tok}{oz26:Option Addr}{sl_26:Array (Option Value)}{oz27:Option Addr}{sl_27:Array (Option Value)}{oz28:Option Addr}{sl_28:Array (Option Value)}{oz29:Option Addr}{sl_29:Array (Option Value)}{oz30:Option Addr}{sl_30:Array (Option Value)}{oz31:Option Addr}{sl_31:Array (Option Value)}{oz32:Option Addr}{sl_32:Array (Option Value)}{oz33:Option Addr}{sl_33:Array (Option Value)}{oz34:Option Addr}{sl_34:Array (Option Value)}{oz35:Option Addr}{sl_35:Array (Option Value)}{oz36:Option Addr}{sl_36:Array (Option Value)}{oz37:Option Addr}{sl_37:Array (Option Value)}{oz38:Option Addr}{sl_38:Array (Option Value)}
 (cNum:CK K "Num" Va ["width"])
 (cNested:CK K "Nested" Vb ["shape"])
 (cMany:CK K "Many" Vc ["count","kind"])
 (cPick:CK K "Pick" Vd ["shapes"])
 (cShape:CK K "Shape" Ve ["name","fields"])
 (cShapes:CK K "Shapes" Vf ["shapes"])
 (cRow:CK K "Row" ah ["line","deed","goal","reads","steps","number"])
 (cLoop:CK K "Loop" ar ["line","last","deed","goal","reads","rows"])
 (cChoice:CK K "Choice" ai ["line","last","middle","reads","rows","others"])
 (cProgram:CK K "Program" ci ["shapes","rows","named","written"])
  (g_RoomError:AX K ww "RoomError" = some (some (.ref cRE)))
  (g_NoProgram:AX K ww "NoProgram" = some (some (.ref aa)))
  (g_TooMuch:AX K ww "TooMuch" = some (some (.ref ak)))
  (g_WrongPath:AX K ww "WrongPath" = some (some (.ref ac)))
 (a0:FM K cRE "__init__" "RoomError.__init__" yV f0)
 (a1:FM K ak "__init__" "TooMuch.__init__" aT f1)
 (a2:FM K aa "__init__" "NoProgram.__init__" yS f2)
 (a3:FM K ac "__init__" "WrongPath.__init__" yM f3)
 (a4:FG K "is_name" lO f4)
 (a5:FG K "is_text_of" cO f5)
 (a6:FG K "number_in" dH f6)
 (a7:FG K "bound_of" gO f7)
 (a8:FG K "joined" rX f8)
 (a9:FM K Vb "step_of" "Kind.step_of" aV f9)
 (a10:FM K Vb "units_at" "Kind.units_at" zT f10)
 (a11:FM K Va "__init__" "Num.__init__" gQ f11)
 (a12:FM K Va "word" "Num.word" gL f12)
 (a13:FM K Va "size" "Num.size" gK f13)
 (a14:FM K Va "depth" "Num.depth" dX f14)
 (a15:FM K Va "led" "Num.led" mC f15)
 (a16:FM K Va "units_at" "Num.units_at" aG f16)
 (a17:FM K Vb "__init__" "Nested.__init__" bM f17)
 (a18:FM K Vb "word" "Nested.word" bY f18)
 (a19:FM K Vb "size" "Nested.size" bH f19)
 (a20:FM K Vb "depth" "Nested.depth" bC f20)
 (a21:FM K Vb "parted" "Nested.parted" zJ f21)
 (a22:FM K Vb "led" "Nested.led" cM f22)
 (a23:FM K Vc "__init__" "Many.__init__" eB f23)
 (a24:FM K Vc "word" "Many.word" dZ f24)
 (a25:FM K Vc "size" "Many.size" dG f25)
 (a26:FM K Vc "depth" "Many.depth" cV f26)
 (a27:FM K Vc "parted" "Many.parted" bX f27)
 (a28:FM K Vc "step_of" "Many.step_of" aK f28)
 (a29:FM K Vd "__init__" "Pick.__init__" eJ f29)
 (a30:FM K Vd "word" "Pick.word" eF f30)
 (a31:FM K Vd "size" "Pick.size" eM f31)
 (a32:FM K Vd "greatest" "Pick.greatest" zP f32)
 (a33:FM K Vd "depth" "Pick.depth" cR f33)
 (a34:FM K Vd "led" "Pick.led" fU f34)
 (a35:FM K Vd "units_at" "Pick.units_at" zG f35)
 (a36:FM K Ve "__init__" "Shape.__init__" cK f36)
 (a37:FM K Ve "size" "Shape.size" cU f37)
 (a38:FM K Ve "depth" "Shape.depth" bN f38)
 (a39:FM K Ve "units" "Shape.units" bU f39)
 (a40:FM K Vf "__init__" "Shapes.__init__" bV f40)
 (a41:FM K Vf "main" "Shapes.main" bS f41)
 (a42:FM K ah "__init__" "Row.__init__" fY f42)
 (a43:FM K ar "__init__" "Loop.__init__" eQ f43)
 (a44:FM K ai "__init__" "Choice.__init__" bJ f44)
 (a45:FM K ci "__init__" "Program.__init__" aQ f45)
 (a46:FG K "read_program" aU f46)
 (a47:FG K "lines_in" gP f47)
 (a48:FG K "form_of" lG f48)
 (a49:FG K "fits" aFc f49)
 (a50:FG K "need_standing" zK f50)
 (a51:FG K "begun_behind" aH f51)
 (a52:FG K "row_in" rE f52)
 (a53:FG K "steps_in" gR f53)
 (a54:FG K "step_in" lC f54)
 (a55:FG K "names_in" gB f55)
 (a56:FG K "unlike" pQ f56)
 (a57:FG K "rows_from" eE f57)
 (a58:FG K "line_behind" bI f58)
 (a59:FG K "whole_row" eG f59)
 (a60:FG K "read_shapes" bQ f60)
 (a61:FG K "is_shape_line" zN f61)
 (a62:FG K "is_field_line" zI f62)
 (a63:FG K "is_kind" lJ f63)
 (a64:FG K "is_single" dP f64)
 (a65:FG K "need_new_shape" yJ f65)
 (a66:FG K "need_field" cX f66)
 (a67:FG K "shapes_named" aZ f67)
 (a68:FG K "whole_shapes" aY f68)
 (a69:FG K "with_field" cL f69)
 (a70:FG K "kind_in" lD f70)
 (a71:FG K "is_too_much" bT f71)
 (a72:FG K "_law_cell" gT f72)
 (a73:FG K "_law_mixed" dJ f73)
 (a74:FG K "_law_box" mH f74)
 (a75:FG K "_law_take" fS f75)
 (a76:FG K "_law_line" fN f76)
 (a77:FG K "_law_first" dW f77)
 (a78:FG K "_law_names_in" vG f78)
 (a79:FG K "_law_due" lE f79)
 (a80:FG K "_law_read" gN f80)
 (a81:FG K "_law_lines" dN f81)
 (a82:FG K "law" aMl f82)
  (xo_RoomError:K.lookup cRE=some (hV xn0 xq0 cRE xN0 xb0 VB true xl0 xs0 xa0 xc0 xd0 x00 x10 x20 x30 x50))
  (xk_RoomError:keepIn K (.ref cRE)=true)
  (xr:PySem.W.readsIn K cRE (.type "type")=true)
  (xf:PySem.W.findCls K (.ref cRE) (.type "type") "__init__" = some (.val (.ref f0)))
  (xp:Ce K (.ref cRE) "__getattribute__" = some (some (.builtin "type.__getattribute__")))
  (xo_NoProgram:K.lookup aa=some (hV xn1 xq1 aa xN1 xb1 (.ref cRE::VB) true xl1 xs1 xa1 xc1 xd1 x01 x11 x21 x31 x51))
  (xk_NoProgram:keepIn K (.ref aa)=true)
  (xn_NoProgram:PySem.W.nsOkIn K xN1=true)
  (xi_NoProgram:AX K xN1 "__init__" = some (some (.ref f2)))
  (xs_NoProgram:zj K (.ref aa) "__setattr__" = some (some (.builtin "object.__setattr__")))
  (xg_NoProgram:zj K (.ref aa) "__getattribute__" = some (some (.builtin "BaseException.__getattribute__")))
  (xh_NoProgram:zj K (.ref aa) "__getattr__" = some none)
  (n_NoProgram_line:zj K (.ref aa) "line" = some none)
  (xo_TooMuch:K.lookup ak=some (hV xn2 xq2 ak xN2 xb2 (.ref cRE::VB) true xl2 xs2 xa2 xc2 xd2 x02 x12 x22 x32 x52))
  (xk_TooMuch:keepIn K (.ref ak)=true)
  (xn_TooMuch:PySem.W.nsOkIn K xN2=true)
  (xi_TooMuch:AX K xN2 "__init__" = some (some (.ref f1)))
  (xs_TooMuch:zj K (.ref ak) "__setattr__" = some (some (.builtin "object.__setattr__")))
  (xg_TooMuch:zj K (.ref ak) "__getattribute__" = some (some (.builtin "BaseException.__getattribute__")))
  (xh_TooMuch:zj K (.ref ak) "__getattr__" = some none)
  (n_TooMuch_line:zj K (.ref ak) "line" = some none)
  (xo_WrongPath:K.lookup ac=some (hV xn3 xq3 ac xN3 xb3 (.ref cRE::VB) true xl3 xs3 xa3 xc3 xd3 x03 x13 x23 x33 x53))
  (xk_WrongPath:keepIn K (.ref ac)=true)
  (xn_WrongPath:PySem.W.nsOkIn K xN3=true)
  (xi_WrongPath:AX K xN3 "__init__" = some (some (.ref f3)))
  (xs_WrongPath:zj K (.ref ac) "__setattr__" = some (some (.builtin "object.__setattr__")))
  (xg_WrongPath:zj K (.ref ac) "__getattribute__" = some (some (.builtin "BaseException.__getattribute__")))
  (xh_WrongPath:zj K (.ref ac) "__getattr__" = some none)
  (n_WrongPath_line:zj K (.ref ac) "line" = some none)
  (n_WrongPath_path:zj K (.ref ac) "path" = some none)
  (vi1:zj K (.type "type") "__getattribute__" = some (some (.builtin "type.__getattribute__")))
  (vi2:PySem.W.subIn K (.type "type") (.type "type")=some true)
  (vi3:PySem.W.findCls K (.type "ValueError") (.type "type") "__init__" = some (.val (.builtin "ValueError.__init__")))
  (z0:AX K ww "range" = some none)
  (z1:AX K ww "len" = some none)
  (z2:AX K ww "isinstance" = some none)
  (z3:AX K ww "int" = some none)
  (z4:AX K ww "bool" = some none)
  (z5:AX K ww "list" = some none)
  (z6:AX K ww "all" = some none)
  (z7:AX K ww "max" = some none)
  (z8:AX K ww "min" = some none)
  (z9:AX K ww "reversed" = some none)
  (z10:AX K ww "tuple" = some none)
  (z11:AX K ww "divmod" = some none)
  (z12:AX K ww "str" = some none)
  (z13:AX K ww "sum" = some none)
  (z14:AX K ww "zip" = some none)
  (z15:AX K ww "enumerate" = some none)
  (z16:AX K ww "dict" = some none)
  (z17:AX K ww "ValueError" = some none)
  (z18:AX K ww "repr" = some none)
  (z19:AX K ww "set" = some none)
  (v1:AX K ww "SMALL_LETTERS" = some (some (.str "abcdefghijklmnopqrstuvwxyz" t1)))(v2:AX K ww "FIGURES" = some (some (.str "0123456789" t2)))(v3:AX K ww "MOST_LETTERS" = some (some (.int 6 t3)))(v4:AX K ww "MOST_FIGURES" = some (some (.int 10 t4)))(v5:AX K ww "MOST_SHAPES" = some (some (.int 8 t5)))(v6:AX K ww "MOST_FIELDS" = some (some (.int 6 t6)))(v7:AX K ww "MOST_CELLS" = some (some (.int 64 t7)))(v8:AX K ww "MOST_UNITS" = some (some (.int 40 t8)))(v9:AX K ww "MOST_DEPTH" = some (some (.int 4 t9)))(v10:AX K ww "MOST_WIDTH" = some (some (.int 4 t10)))(v11:AX K ww "MOST_COUNT" = some (some (.int 6 t11)))(v12:AX K ww "LEAST_PICKED" = some (some (.int 2 t12)))(v13:AX K ww "MOST_PICKED" = some (some (.int 4 t13)))(v14:AX K ww "WORD_CELLS" = some (some (.int 4 t14)))(v15:AX K ww "MOST_LINES" = some (some (.int 60 t15)))(v16:AX K ww "MOST_NAMES" = some (some (.int 12 t16)))(v17:AX K ww "MOST_BEGUN" = some (some (.int 3 t17)))
  (w1:AX K ww "OWN_WORDS" = some (some (.ref ts)))(w2:K.lookup ts=some ⟨.type "tuple",odt,.seq #[.str "shape" u0,.str "num" u1,.str "row" u2,.str "pick" u3,.str "tag" u4,.str "room" u5,.str "things" u6,.str "part" u7,.str "tags" u8,.str "put" u9,.str "take" u10,.str "many" u11,.str "look" u12,.str "which" u13,.str "store" u14,.str "choose" u15,.str "copy" u16,.str "each" u17,.str "span" u18,.str "if" u19,.str "else" u20,.str "end" u21,.str "out" u22] nt,slt⟩)
  (xN1:AX K ww "NAMES" = some (some (.ref tNa)))(xN2:K.lookup tNa=some ⟨.type "tuple",oz1,.seq #[.str "A" y1_0,.str "B" y1_1,.str "C" y1_2,.str "I" y1_3,.str "J" y1_4] nn_1,sl_1⟩)
  (xS1:AX K ww "SIGNS" = some (some (.ref tSi)))(xS2:K.lookup tSi=some ⟨.type "tuple",oz2,.seq #[.str "+" y2_0,.str "-" y2_1,.str "*" y2_2,.str "<" y2_3,.str "=" y2_4,.str "&" y2_5] nn_2,sl_2⟩)
  (xB1:AX K ww "BEGINNINGS" = some (some (.ref tBe)))(xB2:K.lookup tBe=some ⟨.type "tuple",oz3,.seq #[.str "each" y3_0,.str "span" y3_1,.str "if" y3_2] nn_3,sl_3⟩)
  (xF1:AX K ww "FORMS" = some (some (.ref tFo)))(xF2:K.lookup tFo=some ⟨.type "tuple",oz4,.seq #[.ref fa0,.ref fa1,.ref fa2,.ref fa3,.ref fa4,.ref fa5,.ref fa6,.ref fa7,.ref fa8,.ref fa9,.ref fa10,.ref fa11,.ref fa12,.ref fa13,.ref fa14,.ref fa15,.ref fa16] nn_4,sl_4⟩)
  (ya0:K.lookup fa0=some ⟨.type "tuple",oz5,.seq #[.str "number" y5_0,.ref ga0] nn_5,sl_5⟩)(yb0:K.lookup ga0=some ⟨.type "tuple",oz6,.seq #[.str "A" y6_0,.str "=" y6_1,.str "NUMBER" y6_2] nn_6,sl_6⟩)
  (ya1:K.lookup fa1=some ⟨.type "tuple",oz7,.seq #[.str "name" y7_0,.ref ga1] nn_7,sl_7⟩)(yb1:K.lookup ga1=some ⟨.type "tuple",oz8,.seq #[.str "A" y8_0,.str "=" y8_1,.str "B" y8_2] nn_8,sl_8⟩)
  (ya2:K.lookup fa2=some ⟨.type "tuple",oz9,.seq #[.str "OP" y9_0,.ref ga2] nn_9,sl_9⟩)(yb2:K.lookup ga2=some ⟨.type "tuple",oz10,.seq #[.str "A" y10_0,.str "=" y10_1,.str "B" y10_2,.str "OP" y10_3,.str "C" y10_4] nn_10,sl_10⟩)
  (ya3:K.lookup fa3=some ⟨.type "tuple",oz11,.seq #[.str "look" y11_0,.ref ga3] nn_11,sl_11⟩)(yb3:K.lookup ga3=some ⟨.type "tuple",oz12,.seq #[.str "A" y12_0,.str "=" y12_1,.str "look" y12_2,.str "I" y12_3,.str "PATH" y12_4] nn_12,sl_12⟩)
  (ya4:K.lookup fa4=some ⟨.type "tuple",oz13,.seq #[.str "store" y13_0,.ref ga4] nn_13,sl_13⟩)(yb4:K.lookup ga4=some ⟨.type "tuple",oz14,.seq #[.str "store" y14_0,.str "I" y14_1,.str "PATH" y14_2,.str "B" y14_3] nn_14,sl_14⟩)
  (ya5:K.lookup fa5=some ⟨.type "tuple",oz15,.seq #[.str "which" y15_0,.ref ga5] nn_15,sl_15⟩)(yb5:K.lookup ga5=some ⟨.type "tuple",oz16,.seq #[.str "A" y16_0,.str "=" y16_1,.str "which" y16_2,.str "I" y16_3,.str "PATH" y16_4] nn_16,sl_16⟩)
  (ya6:K.lookup fa6=some ⟨.type "tuple",oz17,.seq #[.str "choose" y17_0,.ref ga6] nn_17,sl_17⟩)(yb6:K.lookup ga6=some ⟨.type "tuple",oz18,.seq #[.str "choose" y18_0,.str "I" y18_1,.str "PATH" y18_2,.str "B" y18_3] nn_18,sl_18⟩)
  (ya7:K.lookup fa7=some ⟨.type "tuple",oz19,.seq #[.str "copy" y19_0,.ref ga7] nn_19,sl_19⟩)(yb7:K.lookup ga7=some ⟨.type "tuple",oz20,.seq #[.str "copy" y20_0,.str "I" y20_1,.str "J" y20_2] nn_20,sl_20⟩)
  (ya8:K.lookup fa8=some ⟨.type "tuple",oz21,.seq #[.str "put" y21_0,.ref ga8] nn_21,sl_21⟩)(yb8:K.lookup ga8=some ⟨.type "tuple",oz22,.seq #[.str "A" y22_0,.str "=" y22_1,.str "put" y22_2] nn_22,sl_22⟩)
  (ya9:K.lookup fa9=some ⟨.type "tuple",oz23,.seq #[.str "take" y23_0,.ref ga9] nn_23,sl_23⟩)(yb9:K.lookup ga9=some ⟨.type "tuple",oz24,.seq #[.str "take" y24_0,.str "I" y24_1] nn_24,sl_24⟩)
  (ya10:K.lookup fa10=some ⟨.type "tuple",oz25,.seq #[.str "many" y25_0,.ref ga10] nn_25,sl_25⟩)(yb10:K.lookup ga10=some ⟨.type "tuple",oz26,.seq #[.str "A" y26_0,.str "=" y26_1,.str "many" y26_2] nn_26,sl_26⟩)
  (ya11:K.lookup fa11=some ⟨.type "tuple",oz27,.seq #[.str "out" y27_0,.ref ga11] nn_27,sl_27⟩)(yb11:K.lookup ga11=some ⟨.type "tuple",oz28,.seq #[.str "out" y28_0,.str "A" y28_1] nn_28,sl_28⟩)
  (ya12:K.lookup fa12=some ⟨.type "tuple",oz29,.seq #[.str "each" y29_0,.ref ga12] nn_29,sl_29⟩)(yb12:K.lookup ga12=some ⟨.type "tuple",oz30,.seq #[.str "each" y30_0,.str "I" y30_1] nn_30,sl_30⟩)
  (ya13:K.lookup fa13=some ⟨.type "tuple",oz31,.seq #[.str "span" y31_0,.ref ga13] nn_31,sl_31⟩)(yb13:K.lookup ga13=some ⟨.type "tuple",oz32,.seq #[.str "span" y32_0,.str "I" y32_1,.str "B" y32_2,.str "C" y32_3] nn_32,sl_32⟩)
  (ya14:K.lookup fa14=some ⟨.type "tuple",oz33,.seq #[.str "if" y33_0,.ref ga14] nn_33,sl_33⟩)(yb14:K.lookup ga14=some ⟨.type "tuple",oz34,.seq #[.str "if" y34_0,.str "A" y34_1] nn_34,sl_34⟩)
  (ya15:K.lookup fa15=some ⟨.type "tuple",oz35,.seq #[.str "else" y35_0,.ref ga15] nn_35,sl_35⟩)(yb15:K.lookup ga15=some ⟨.type "tuple",oz36,.seq #[.str "else" y36_0] nn_36,sl_36⟩)
  (ya16:K.lookup fa16=some ⟨.type "tuple",oz37,.seq #[.str "end" y37_0,.ref ga16] nn_37,sl_37⟩)(yb16:K.lookup ga16=some ⟨.type "tuple",oz38,.seq #[.str "end" y38_0] nn_38,sl_38⟩)
  (w3:zj K (.ref Vc) "units_at" = some (some (.ref f10)))
  (w4:zj K (.ref Va) "step_of" = some (some (.ref f9)))(w5:zj K (.ref Vd) "step_of" = some (some (.ref f9)))
  (q1:Ce K (.builtin "object.__class__") "__get__" = some (some (.builtin "getset_descriptor.__get__")))(q2:PySem.W.takesIn K (.builtin "object.__class__")=some true)
  (qa0:zj K (.ref Va) "__class__" = some (some (.builtin "object.__class__")))(qb0:AF K Va (.type "object")=some true)
  (qa1:zj K (.ref Vb) "__class__" = some (some (.builtin "object.__class__")))(qb1:AF K Vb (.type "object")=some true)
  (qa2:zj K (.ref Vc) "__class__" = some (some (.builtin "object.__class__")))(qb2:AF K Vc (.type "object")=some true)
  (qa3:zj K (.ref Vd) "__class__" = some (some (.builtin "object.__class__")))(qb3:AF K Vd (.type "object")=some true)
  (qa4:zj K (.ref ah) "__class__" = some (some (.builtin "object.__class__")))(qb4:AF K ah (.type "object")=some true)
  (qa5:zj K (.ref ar) "__class__" = some (some (.builtin "object.__class__")))(qb5:AF K ar (.type "object")=some true)
  (qa6:zj K (.ref ai) "__class__" = some (some (.builtin "object.__class__")))(qb6:AF K ai (.type "object")=some true)
  (qc0:yi K (.ref Va) (.ref Vc)=some false)
  (qc1:yi K (.ref Vb) (.ref Vc)=some false)
  (qc2:yi K (.ref Vc) (.ref Vc)=some true)
  (qc3:yi K (.ref Vd) (.ref Vc)=some false)
  (qc4:yi K (.ref ah) (.ref ah)=some true)
  (qc5:yi K (.ref ar) (.ref ah)=some false)
  (qc6:yi K (.ref ai) (.ref ah)=some false)
  (qc7:yi K (.ref ar) (.ref ar)=some true)
  (qc8:yi K (.ref ai) (.ref ar)=some false)
  (qc9:yi K (.ref ai) (.ref ai)=some true)
  (xx0:(xg ac :: .ref cRE::VB).contains (.ref aa)=false)
  (xx1:(xg ak :: .ref cRE::VB).contains (.ref aa)=false)
  (xx2:(xg ak :: .ref cRE::VB).contains (.ref ac)=false):
  ∃fd:yn,(∀(s:ι) (v:Value),BindsTo s fd ⟨[v],[]⟩ [("_law_script",v)])/\∀base:yp,K.In base->base.Ns ww mg->jK l.prog w K mg base CX0 86 fa fd ["_law_script"] (aGb K):=by
 have e:=hfa.symm.trans (BB X G a82.a);cases e;obtain⟨d82,F82⟩:=a82.l;obtain⟨d0,F0,D0⟩:=a0.j ["self","words"] (by walk_at"b2");obtain⟨d1,F1,D1⟩:=a1.j ["self","line"] (by walk_at"b2");obtain⟨d2,F2,D2⟩:=a2.j ["self","line"] (by walk_at"b2");obtain⟨d3,F3,D3⟩:=a3.j ["self","line","path"] (by walk_at"b3");obtain⟨d4,F4,D4⟩:=a4.o X G ["thing"] (by walk_at"b1");obtain⟨d5,F5,D5⟩:=a5.o X G ["thing","signs","most"] (by walk_at"b3");obtain⟨d6,F6,D6⟩:=a6.o X G ["text","low","high"] (by walk_at"b3");obtain⟨d7,F7,D7⟩:=a7.o X G ["width"] (by walk_at"b1");obtain⟨d8,F8,D8⟩:=a8.o X G ["path","step"] (by walk_at"b2");obtain⟨d9,F9,D9⟩:=a9.o ["self","word"] (by walk_at"b2");obtain⟨d10,F10,D10⟩:=a10.o ["self","path"] (by walk_at"b2");obtain⟨d11,F11,D11⟩:=a11.j ["self","width"] (by walk_at"b2");obtain⟨d12,F12,D12⟩:=a12.o ["self"] (by walk_at"b1");obtain⟨d13,F13,D13⟩:=a13.o ["self"] (by walk_at"b1");obtain⟨d14,F14,D14⟩:=a14.o ["self"] (by walk_at"b1");obtain⟨d15,F15,D15⟩:=a15.o ["self","step"] (by walk_at"b2");obtain⟨d16,F16,D16⟩:=a16.o ["self","path"] (by walk_at"b2");obtain⟨d17,F17,D17⟩:=a17.j ["self","shape"] (by walk_at"b2");obtain⟨d18,F18,D18⟩:=a18.o ["self"] (by walk_at"b1");obtain⟨d19,F19,D19⟩:=a19.o ["self"] (by walk_at"b1");obtain⟨d20,F20,D20⟩:=a20.o ["self"] (by walk_at"b1");obtain⟨d21,F21,D21⟩:=a21.o ["self"] (by walk_at"b1");obtain⟨d22,F22,D22⟩:=a22.o ["self","step"] (by walk_at"b2");obtain⟨d23,F23,D23⟩:=a23.j ["self","count","kind"] (by walk_at"b3");obtain⟨d24,F24,D24⟩:=a24.o ["self"] (by walk_at"b1");obtain⟨d25,F25,D25⟩:=a25.o ["self"] (by walk_at"b1");obtain⟨d26,F26,D26⟩:=a26.o ["self"] (by walk_at"b1");obtain⟨d27,F27,D27⟩:=a27.o ["self"] (by walk_at"b1");obtain⟨d28,F28,D28⟩:=a28.o ["self","word"] (by walk_at"b2");obtain⟨d29,F29,D29⟩:=a29.j ["self","shapes"] (by walk_at"b2");obtain⟨d30,F30,D30⟩:=a30.o ["self"] (by walk_at"b1");obtain⟨d31,F31,D31⟩:=a31.o ["self"] (by walk_at"b1");obtain⟨d32,F32,D32⟩:=a32.o ["self"] (by walk_at"b1");obtain⟨d33,F33,D33⟩:=a33.o ["self"] (by walk_at"b1");obtain⟨d34,F34,D34⟩:=a34.o ["self","step"] (by walk_at"b2");obtain⟨d35,F35,D35⟩:=a35.o ["self","path"] (by walk_at"b2");obtain⟨d36,F36,D36⟩:=a36.j ["self","name","fields"] (by walk_at"b3");obtain⟨d37,F37,D37⟩:=a37.o ["self"] (by walk_at"b1");obtain⟨d38,F38,D38⟩:=a38.o ["self"] (by walk_at"b1");obtain⟨d39,F39,D39⟩:=a39.o ["self"] (by walk_at"b1");obtain⟨d40,F40,D40⟩:=a40.j ["self","shapes"] (by walk_at"b2");obtain⟨d41,F41,D41⟩:=a41.o ["self"] (by walk_at"b1");obtain⟨d42,F42,D42⟩:=a42.j ["self","line","deed","goal","reads","steps","number"] (by walk_at"b7");obtain⟨d43,F43,D43⟩:=a43.j ["self","line","last","deed","goal","reads","rows"] (by walk_at"b7");obtain⟨d44,F44,D44⟩:=a44.j ["self","line","last","middle","reads","rows","others"] (by walk_at"b7");obtain⟨d45,F45,D45⟩:=a45.j ["self","shapes","rows","named","written"] (by walk_at"b5");obtain⟨d46,F46,D46⟩:=a46.o X G ["shapes","text"] (by walk_at"b2");obtain⟨d47,F47,D47⟩:=a47.o X G ["text"] (by walk_at"b1");obtain⟨d48,F48,D48⟩:=a48.o X G ["line","words"] (by walk_at"b2");obtain⟨d49,F49,D49⟩:=a49.o X G ["part","word"] (by walk_at"b2");obtain⟨d50,F50,D50⟩:=a50.o X G ["begun","line","deed"] (by walk_at"b3");obtain⟨d51,F51,D51⟩:=a51.o X G ["begun","deed"] (by walk_at"b2");obtain⟨d52,F52,D52⟩:=a52.o X G ["shape","line","deed","filled"] (by walk_at"b4");obtain⟨d53,F53,D53⟩:=a53.o X G ["shape","line","deed","path"] (by walk_at"b4");obtain⟨d54,F54,D54⟩:=a54.o X G ["kind","word"] (by walk_at"b2");obtain⟨d55,F55,D55⟩:=a55.o X G ["form","words","steps"] (by walk_at"b3");obtain⟨d56,F56,D56⟩:=a56.o X G ["names","ahead"] (by walk_at"b2");obtain⟨d57,F57,D57⟩:=a57.o X G ["told","first"] (by walk_at"b2");obtain⟨d58,F58,D58⟩:=a58.o X G ["row"] (by walk_at"b1");obtain⟨d59,F59,D59⟩:=a59.o X G ["told","at"] (by walk_at"b2");obtain⟨d60,F60,D60⟩:=a60.o X G ["text"] (by walk_at"b1");obtain⟨d61,F61,D61⟩:=a61.o X G ["words"] (by walk_at"b1");obtain⟨d62,F62,D62⟩:=a62.o X G ["words"] (by walk_at"b1");obtain⟨d63,F63,D63⟩:=a63.o X G ["words"] (by walk_at"b1");obtain⟨d64,F64,D64⟩:=a64.o X G ["words"] (by walk_at"b1");obtain⟨d65,F65,D65⟩:=a65.o X G ["told","line","name"] (by walk_at"b3");obtain⟨d66,F66,D66⟩:=a66.o X G ["told","line","words"] (by walk_at"b3");obtain⟨d67,F67,D67⟩:=a67.o X G ["words"] (by walk_at"b1");obtain⟨d68,F68,D68⟩:=a68.o X G ["told"] (by walk_at"b1");obtain⟨d69,F69,D69⟩:=a69.o X G ["told","line","words"] (by walk_at"b3");obtain⟨d70,F70,D70⟩:=a70.o X G ["words","shapes"] (by walk_at"b2");obtain⟨d71,F71,D71⟩:=a71.o X G ["shape"] (by walk_at"b1");obtain⟨d72,F72,D72⟩:=a72.o X G ["_law_script","_law_k"] (by walk_at"b2");obtain⟨d73,F73,D73⟩:=a73.o X G ["_law_cell_here","_law_k"] (by walk_at"b2");obtain⟨d74,F74,D74⟩:=a74.o X G ["_law_cell_here"] (by walk_at"b1");obtain⟨d75,F75,D75⟩:=a75.o X G ["_law_box_here","_law_many"] (by walk_at"b2");obtain⟨d76,F76,D76⟩:=a76.o X G ["_law_box_here","_law_names","_law_many"] (by walk_at"b3");obtain⟨d77,F77,D77⟩:=a77.o X G ["_law_box_here","_law_name","_law_old"] (by walk_at"b3");obtain⟨d78,F78,D78⟩:=a78.o X G ["_law_line_here"] (by walk_at"b1");obtain⟨d79,F79,D79⟩:=a79.o X G ["_law_lines_here","_law_bad"] (by walk_at"b2");obtain⟨d80,F80,D80⟩:=a80.o X G ["_law_shapes","_law_lines_here"] (by walk_at"b2");obtain⟨d81,F81,D81⟩:=a81.o X G ["_law_script","_law_names","_law_many"] (by walk_at"b3");have Ua:=cNum.o X G a11;have Ub:=cNested.o X G a17;have Uc:=cMany.o X G a23;have Ud:=cPick.o X G a29;have Ue:=cShape.o X G a36;have Uf:=cShapes.o X G a40;have aj:=cRow.o X G a42;have bv:=cLoop.o X G a43;have aw:=cChoice.o X G a44;have bw:=cProgram.o X G a45;have tRE:TXB K mg cRE f0:=⟨BB X G g_RoomError,⟨xr,xf,xp,F0.kp⟩,⟨⟨_,_,_,_,_,_,_,_,_,_,_,_,_,_,_,_,xo_RoomError⟩,rfl⟩⟩;have VI:aLq K:=⟨vi1,vi2,vi3⟩;have am:TX K mg "NoProgram" aa cRE f2 ["line"]:=⟨BB X G g_NoProgram,⟨⟨_,_,_,_,_,_,_,_,_,_,_,_,_,_,xo_NoProgram,xn_NoProgram,xi_NoProgram⟩,a2.i,xk_NoProgram,xs_NoProgram,xg_NoProgram,xh_NoProgram⟩,⟨⟨_,_,_,_,_,_,_,_,_,_,_,_,_,_,_,_,xo_NoProgram⟩,rfl⟩,fun a ha=>by
   rw[ω.mp ha];exact n_NoProgram_line⟩
 have bi:TX K mg "TooMuch" ak cRE f1 ["line"]:=⟨BB X G g_TooMuch,⟨⟨_,_,_,_,_,_,_,_,_,_,_,_,_,_,xo_TooMuch,xn_TooMuch,xi_TooMuch⟩,a1.i,xk_TooMuch,xs_TooMuch,xg_TooMuch,xh_TooMuch⟩,⟨⟨_,_,_,_,_,_,_,_,_,_,_,_,_,_,_,_,xo_TooMuch⟩,rfl⟩,fun a ha=>by
   rw[ω.mp ha];exact n_TooMuch_line⟩
 have ap:TX K mg "WrongPath" ac cRE f3 ["line","path"]:=⟨BB X G g_WrongPath,⟨⟨_,_,_,_,_,_,_,_,_,_,_,_,_,_,xo_WrongPath,xn_WrongPath,xi_WrongPath⟩,a3.i,xk_WrongPath,xs_WrongPath,xg_WrongPath,xh_WrongPath⟩,⟨⟨_,_,_,_,_,_,_,_,_,_,_,_,_,_,_,_,xo_WrongPath⟩,rfl⟩,fun a ha=>by
   simp only[χ,xq,or_false]at ha;rcases ha with rfl|rfl
   ·exact n_WrongPath_line
   ·exact n_WrongPath_path⟩
 have M:Blt mg:=⟨Ae X G z0,Ae X G z1,Ae X G z2,Ae X G z3,Ae X G z4,Ae X G z5,Ae X G z6,Ae X G z7,Ae X G z8,Ae X G z9,Ae X G z10,Ae X G z11,Ae X G z12,Ae X G z13,Ae X G z14,Ae X G z15,Ae X G z16,Ae X G z17,Ae X G z18,Ae X G z19⟩;have C:Cst K mg t1 t2 t3 t4 t5 t6 t7 t8 t9 t10 t11 t12 t13 t14 t15 t16 t17 ts tNa tSi tBe tFo:=⟨BB X G v1,BB X G v2,BB X G v3,BB X G v4,BB X G v5,BB X G v6,BB X G v7,BB X G v8,BB X G v9,BB X G v10,BB X G v11,BB X G v12,BB X G v13,BB X G v14,BB X G v15,BB X G v16,BB X G v17,BB X G xN1,fun H=>.inr ⟨_,_,_,xN2,rfl,rfl,aGy,(by repeat first|exact .nil|refine .cons ⟨_,rfl⟩ ?_)⟩,BB X G xS1,fun H=>.inr ⟨_,_,_,xS2,rfl,rfl,(by show 6<=Δ;decide),(by repeat first|exact .nil|refine .cons ⟨_,rfl⟩ ?_)⟩,BB X G xB1,fun H=>.inr ⟨_,_,_,xB2,rfl,rfl,lU,(by repeat first|exact .nil|refine .cons ⟨_,rfl⟩ ?_)⟩,BB X G xF1,fun H=>⟨[fa0,fa1,fa2,fa3,fa4,fa5,fa6,fa7,fa8,fa9,fa10,fa11,fa12,fa13,fa14,fa15,fa16],.inr ⟨_,_,_,xF2,rfl,rfl,(by show 17<=Δ;decide),(.cons rfl (.cons rfl (.cons rfl (.cons rfl (.cons rfl (.cons rfl (.cons rfl (.cons rfl (.cons rfl (.cons rfl (.cons rfl (.cons rfl (.cons rfl (.cons rfl (.cons rfl (.cons rfl (.cons rfl .nil)))))))))))))))))⟩,(kR ⟨ga0,.inr ⟨_,_,_,ya0,rfl,rfl,vK,(.cons ⟨_,rfl⟩ (.cons rfl .nil))⟩,.inr ⟨_,_,_,yb0,rfl,rfl,lU,(by repeat first|exact .nil|refine .cons ⟨_,rfl⟩ ?_)⟩⟩ (kR ⟨ga1,.inr ⟨_,_,_,ya1,rfl,rfl,vK,(.cons ⟨_,rfl⟩ (.cons rfl .nil))⟩,.inr ⟨_,_,_,yb1,rfl,rfl,lU,(by repeat first|exact .nil|refine .cons ⟨_,rfl⟩ ?_)⟩⟩ (kR ⟨ga2,.inr ⟨_,_,_,ya2,rfl,rfl,vK,(.cons ⟨_,rfl⟩ (.cons rfl .nil))⟩,.inr ⟨_,_,_,yb2,rfl,rfl,aGy,(by repeat first|exact .nil|refine .cons ⟨_,rfl⟩ ?_)⟩⟩ (kR ⟨ga3,.inr ⟨_,_,_,ya3,rfl,rfl,vK,(.cons ⟨_,rfl⟩ (.cons rfl .nil))⟩,.inr ⟨_,_,_,yb3,rfl,rfl,aGy,(by repeat first|exact .nil|refine .cons ⟨_,rfl⟩ ?_)⟩⟩ (kR ⟨ga4,.inr ⟨_,_,_,ya4,rfl,rfl,vK,(.cons ⟨_,rfl⟩ (.cons rfl .nil))⟩,.inr ⟨_,_,_,yb4,rfl,rfl,aMj,(by repeat first|exact .nil|refine .cons ⟨_,rfl⟩ ?_)⟩⟩ (kR ⟨ga5,.inr ⟨_,_,_,ya5,rfl,rfl,vK,(.cons ⟨_,rfl⟩ (.cons rfl .nil))⟩,.inr ⟨_,_,_,yb5,rfl,rfl,aGy,(by repeat first|exact .nil|refine .cons ⟨_,rfl⟩ ?_)⟩⟩ (kR ⟨ga6,.inr ⟨_,_,_,ya6,rfl,rfl,vK,(.cons ⟨_,rfl⟩ (.cons rfl .nil))⟩,.inr ⟨_,_,_,yb6,rfl,rfl,aMj,(by repeat first|exact .nil|refine .cons ⟨_,rfl⟩ ?_)⟩⟩ (kR ⟨ga7,.inr ⟨_,_,_,ya7,rfl,rfl,vK,(.cons ⟨_,rfl⟩ (.cons rfl .nil))⟩,.inr ⟨_,_,_,yb7,rfl,rfl,lU,(by repeat first|exact .nil|refine .cons ⟨_,rfl⟩ ?_)⟩⟩ (kR ⟨ga8,.inr ⟨_,_,_,ya8,rfl,rfl,vK,(.cons ⟨_,rfl⟩ (.cons rfl .nil))⟩,.inr ⟨_,_,_,yb8,rfl,rfl,lU,(by repeat first|exact .nil|refine .cons ⟨_,rfl⟩ ?_)⟩⟩ (kR ⟨ga9,.inr ⟨_,_,_,ya9,rfl,rfl,vK,(.cons ⟨_,rfl⟩ (.cons rfl .nil))⟩,.inr ⟨_,_,_,yb9,rfl,rfl,vK,(.cons ⟨_,rfl⟩ (.cons ⟨_,rfl⟩ .nil))⟩⟩ (kR ⟨ga10,.inr ⟨_,_,_,ya10,rfl,rfl,vK,(.cons ⟨_,rfl⟩ (.cons rfl .nil))⟩,.inr ⟨_,_,_,yb10,rfl,rfl,lU,(by repeat first|exact .nil|refine .cons ⟨_,rfl⟩ ?_)⟩⟩ (kR ⟨ga11,.inr ⟨_,_,_,ya11,rfl,rfl,vK,(.cons ⟨_,rfl⟩ (.cons rfl .nil))⟩,.inr ⟨_,_,_,yb11,rfl,rfl,vK,(.cons ⟨_,rfl⟩ (.cons ⟨_,rfl⟩ .nil))⟩⟩ (kR ⟨ga12,.inr ⟨_,_,_,ya12,rfl,rfl,vK,(.cons ⟨_,rfl⟩ (.cons rfl .nil))⟩,.inr ⟨_,_,_,yb12,rfl,rfl,vK,(.cons ⟨_,rfl⟩ (.cons ⟨_,rfl⟩ .nil))⟩⟩ (kR ⟨ga13,.inr ⟨_,_,_,ya13,rfl,rfl,vK,(.cons ⟨_,rfl⟩ (.cons rfl .nil))⟩,.inr ⟨_,_,_,yb13,rfl,rfl,aMj,(by repeat first|exact .nil|refine .cons ⟨_,rfl⟩ ?_)⟩⟩ (kR ⟨ga14,.inr ⟨_,_,_,ya14,rfl,rfl,vK,(.cons ⟨_,rfl⟩ (.cons rfl .nil))⟩,.inr ⟨_,_,_,yb14,rfl,rfl,vK,(.cons ⟨_,rfl⟩ (.cons ⟨_,rfl⟩ .nil))⟩⟩ (kR ⟨ga15,.inr ⟨_,_,_,ya15,rfl,rfl,vK,(.cons ⟨_,rfl⟩ (.cons rfl .nil))⟩,.inr ⟨_,_,_,yb15,rfl,rfl,iC,(.cons ⟨_,rfl⟩ .nil)⟩⟩ (kR ⟨ga16,.inr ⟨_,_,_,ya16,rfl,rfl,vK,(.cons ⟨_,rfl⟩ (.cons rfl .nil))⟩,.inr ⟨_,_,_,yb16,rfl,rfl,iC,(.cons ⟨_,rfl⟩ .nil)⟩⟩ aHn)))))))))))))))))⟩,BB X G w1,fun H=>.inr ⟨_,_,_,w2,rfl,rfl,(by show 23<=Δ;decide),(by repeat first|exact .nil|refine .cons ⟨_,rfl⟩ ?_)⟩⟩;have KM:KdM K (Cl5.mk Va Vb Vc Vd Ve):=⟨⟨Ua.cl,qa0,q1,q2,qb0⟩,⟨Ub.cl,qa1,q1,q2,qb1⟩,⟨Uc.cl,qa2,q1,q2,qb2⟩,⟨Ud.cl,qa3,q1,q2,qb3⟩,qc0,qc1,qc2,qc3⟩;have KP:PrC K ah ar ai:=⟨⟨aj.cl,qa4,q1,q2,qb4⟩,⟨bv.cl,qa5,q1,q2,qb5⟩,⟨aw.cl,qa6,q1,q2,qb6⟩,qc4,qc5,qc6,qc7,qc8,qc9⟩;have XN:XN3 cRE aa ac ak:=⟨xx0,xx1,xx2⟩;have Z:=ZZ.mk M C Ua Ub Uc Ud Ue Uf aj bv aw bw tRE VI am bi ap;refine⟨d82,fun s v=>(F82.ex.elim fun _ ⟨_,_,_,_,_,_,_,_,e,_⟩=>e▸.of_eq rfl),fun base _ _=>?_⟩;have G5:=(sW l.prog w base (k:=0) Z F5 );have G4:=(aEp l.prog w base (k:=2) Z F4 D5 (mO G5));have G6:=(uX l.prog w base (k:=2) Z F6 D5 (mO G5));have G8:=(aHz l.prog w base (k:=0) Z F8 );have G74:=(aEw l.prog w base (k:=0) Z F74 );have G61:=(lN l.prog w base (k:=4) Z F61 D4 (mO G4));have G64:=(uZ l.prog w base (k:=4) Z F64 D6 (mO G6) D4 (mO G4));have G63:=(aDz l.prog w base (k:=6) Z F63 D6 (mO G6) D64 (mO G64) D4 (mO G4));have G62:=(lX l.prog w base (k:=8) Z F62 D4 (mO G4) D63 (mO G63));have G67:=(nV l.prog w base (k:=4) Z F67 D4 (mO G4));have G65:=(iG l.prog w base (k:=0) Z F65 );have G68:=(nI l.prog w base (k:=0) Z F68 );have G66:=(sR l.prog w base (k:=10) Z F66 D62 (mO G62) D67 (mO G67) D68 (mO G68));have G11:=(aBl l.prog w base (k:=0) Z F11 );have G17:=(rH l.prog w base (k:=0) Z F17 );have G23:=(uR l.prog w base (k:=0) Z F23 );have G29:=(wF l.prog w base (k:=0) Z F29 );have G40:=(rP l.prog w base (k:=0) Z F40 );have G36:=(sX l.prog w base (k:=0) Z F36 );have G0:=(iT l.prog w base (k:=0) Z F0 );have G2:=(iQ l.prog w base (k:=2) Z F2 D0 (mO G0));have G1:=(nE l.prog w base (k:=2) Z F1 D0 (mO G0));have G3:=(iL l.prog w base (k:=2) Z F3 D0 (mO G0));have G42:=(aCm l.prog w base (k:=0) Z F42 );have G43:=(uP l.prog w base (k:=0) Z F43 );have G44:=(pU l.prog w base (k:=0) Z F44 );have G45:=(nH l.prog w base (k:=0) Z F45 );have G41:=(pZ l.prog w base (k:=0) Z F41 );have G7:=(aCa l.prog w base (k:=0) Z F7 );have G49:=(aPg l.prog w base (k:=4) Z F49 D4 (mO G4) D6 (mO G6) D7 (mO G7));have G47:=(aBx l.prog w base (k:=0) Z F47 );have G48:=(aDf l.prog w base (k:=6) Z F48 D49 (mO G49) D2 (mO G2));have G50:=(lK l.prog w base (k:=4) Z F50 D2 (mO G2));have G51:=(mY l.prog w base (k:=0) Z F51 );have G55:=(aCk l.prog w base (k:=0) Z F55 );have G56:=(aHx l.prog w base (k:=0) Z F56 );have G58:=(rS l.prog w base (k:=0) Z F58 KP);have G72:=(aAn l.prog w base (k:=0) Z F72 );have G73:=(aAf l.prog w base (k:=0) Z F73 );have G75:=(aBg l.prog w base (k:=2) Z F75 D73 (mO G73));have G76:=(aCy l.prog w base (k:=4) Z F76 D75 (mO G75));have G77:=(wE l.prog w base (k:=4) Z F77 D75 (mO G75));have G78:=(nP l.prog w base (k:=0) Z F78 );have G79:=(aEa l.prog w base (k:=2) Z F79 D78 (mO G78));have G81:=(wM l.prog w base (k:=6) Z F81 D72 (mO G72) D74 (mO G74) D75 (mO G75) D76 (mO G76) D77 (mO G77));have t_size:∀r C sp,TV (Cl5.mk Va Vb Vc Vd Ve) K r vSz C sp->yK l.prog w K mg base CX0 (6*r+4) "size" C sp:=by
  intro r
  induction r with
  |zero =>
   rintro C' sp (⟨rfl,rfl⟩|⟨rfl,rfl⟩|⟨rfl,rfl⟩|⟨rfl,rfl⟩)
   ·exact⟨Ua.cl,_,_,_,D13.me,jK.mono (mJ l.prog w base (k:=0) (r:=0) Z F13 ) (by omega),D13.b⟩
   ·exact⟨Ub.cl,_,_,_,D19.me,noFn (noV nn1),D19.b⟩
   ·exact⟨Uc.cl,_,_,_,D25.me,noFn (noV nn2),D25.b⟩
   ·exact⟨Ud.cl,_,_,_,D31.me,noFn (noV nn3),D31.b⟩
  |succ r ih =>
   have gS:=(fL l.prog w base (k:=6*r+4) (r:=r) Z F37 ih);have gG:=(cE l.prog w base (k:=6*r+6) (r:=r) Z F32 D37 gS);rintro C' sp (⟨rfl,rfl⟩|⟨rfl,rfl⟩|⟨rfl,rfl⟩|⟨rfl,rfl⟩)
   ·exact⟨Ua.cl,_,_,_,D13.me,jK.mono (mJ l.prog w base (k:=0) (r:=r+1) Z F13 ) (by omega),D13.b⟩
   ·exact⟨Ub.cl,_,_,_,D19.me,jK.mono (pR l.prog w base (k:=6*r+6) (r:=r) Z F19 D37 gS) (by omega),D19.b⟩
   ·exact⟨Uc.cl,_,_,_,D25.me,jK.mono (uY l.prog w base (k:=6*r+4) (r:=r) Z F25 ih) (by omega),D25.b⟩
   ·exact⟨Ud.cl,_,_,_,D31.me,jK.mono (wP l.prog w base (k:=6*r+8) (r:=r) Z F31 D32 gG) (by omega),D31.b⟩
 have wg:=fun r=>(fL l.prog w base (k:=6*r+4) (r:=r) Z F37 (t_size r));have wu:=fun r=>(cE l.prog w base (k:=6*r+6) (r:=r) Z F32 D37 (wg r));have t_depth:∀r C sp,TV (Cl5.mk Va Vb Vc Vd Ve) K r vDp C sp->yK l.prog w K mg base CX0 (6*r+4) "depth" C sp:=by
  intro r
  induction r with
  |zero =>
   rintro C' sp (⟨rfl,rfl⟩|⟨rfl,rfl⟩|⟨rfl,rfl⟩|⟨rfl,rfl⟩)
   ·exact⟨Ua.cl,_,_,_,D14.me,jK.mono (gW l.prog w base (k:=0) (r:=0) Z F14 ) (by omega),D14.b⟩
   ·exact⟨Ub.cl,_,_,_,D20.me,noFn (noV nn1),D20.b⟩
   ·exact⟨Uc.cl,_,_,_,D26.me,noFn (noV nn2),D26.b⟩
   ·exact⟨Ud.cl,_,_,_,D33.me,noFn (noV nn3),D33.b⟩
  |succ r ih =>
   have gS:=(dY l.prog w base (k:=6*r+4) (r:=r) Z F38 ih);rintro C' sp (⟨rfl,rfl⟩|⟨rfl,rfl⟩|⟨rfl,rfl⟩|⟨rfl,rfl⟩)
   ·exact⟨Ua.cl,_,_,_,D14.me,jK.mono (gW l.prog w base (k:=0) (r:=r+1) Z F14 ) (by omega),D14.b⟩
   ·exact⟨Ub.cl,_,_,_,D20.me,jK.mono (nJ l.prog w base (k:=6*r+6) (r:=r) Z F20 D38 gS) (by omega),D20.b⟩
   ·exact⟨Uc.cl,_,_,_,D26.me,jK.mono (sL l.prog w base (k:=6*r+4) (r:=r) Z F26 ih) (by omega),D26.b⟩
   ·exact⟨Ud.cl,_,_,_,D33.me,jK.mono (sQ l.prog w base (k:=6*r+6) (r:=r) Z F33 D38 gS) (by omega),D33.b⟩
 have wo:=fun r=>(dY l.prog w base (k:=6*r+4) (r:=r) Z F38 (t_depth r));have t_parted:∀C sp,TPt (Cl5.mk Va Vb Vc Vd Ve) K C sp->yK l.prog w K mg base CX0 2 "parted" C sp:=by
  rintro C' sp (⟨rfl,rfl⟩|⟨rfl,rfl⟩)
  ·exact⟨Ub.cl,_,_,_,D21.me,(mE l.prog w base (k:=0) Z F21 ),D21.b⟩
  ·exact⟨Uc.cl,_,_,_,D27.me,(oY l.prog w base (k:=0) Z F27 ),D27.b⟩
 have DM:DfM K Vc "units_at" f10 d10 ["self","path"]:=⟨⟨w3,a10.i,F10.kp⟩,D10.b⟩;have t_units:∀r C sp,TU (Cl5.mk Va Vb Vc Vd Ve) K r C sp->yK l.prog w K mg base CX0 (6*r+4) "units_at" C sp:=by
  intro r
  induction r with
  |zero =>
   rintro C' sp (⟨rfl,rfl⟩|⟨rfl,rfl⟩|⟨rfl,rfl⟩|⟨rfl,rfl⟩)
   ·exact⟨Ua.cl,_,_,_,D16.me,jK.mono (dC l.prog w base (k:=0) (r:=0) Z F16 ) (by omega),D16.b⟩
   ·exact⟨Ub.cl,_,_,_,D10.me,noFn (noU nn1),D10.b⟩
   ·exact⟨Uc.cl,_,_,_,DM.me,noFn (noU nn2),DM.b⟩
   ·exact⟨Ud.cl,_,_,_,D35.me,noFn (noU nn3),D35.b⟩
  |succ r ih =>
   rintro C' sp (⟨rfl,rfl⟩|⟨rfl,rfl⟩|⟨rfl,rfl⟩|⟨rfl,rfl⟩)
   ·exact⟨Ua.cl,_,_,_,D16.me,jK.mono (dC l.prog w base (k:=0) (r:=r+1) Z F16 ) (by omega),D16.b⟩
   ·exact⟨Ub.cl,_,_,_,D10.me,jK.mono (cD l.prog w base (k:=6*r+4) (r:=r) Z ff1 F10 (fun C' sp h=>yK.mono (t_parted C' sp h) (by omega)) ih D8 (jK.mono G8 (by omega))) (by omega),D10.b⟩
   ·exact⟨Uc.cl,_,_,_,DM.me,jK.mono (cD l.prog w base (k:=6*r+4) (r:=r) Z ff2 F10 (fun C' sp h=>yK.mono (t_parted C' sp h) (by omega)) ih D8 (jK.mono G8 (by omega))) (by omega),DM.b⟩
   ·exact⟨Ud.cl,_,_,_,D35.me,jK.mono (mG l.prog w base (k:=6*r+8) (r:=r) Z F35 D8 (jK.mono G8 (by omega)) D32 (wu r)) (by omega),D35.b⟩
 have G37:=wg 12;have G38:=wo 12;have G39:=(sH l.prog w base (k:=76) (r:=12) Z F39 D17 (mO G17) (t_units 12));have G71:=(pS l.prog w base (k:=78) (r:=12) Z F71 D37 (mO G37) D39 (mO G39) D38 (mO G38));have r_kin:∀n,jK l.prog w K mg base CX0 (2*n+2) f70 d70 ["words","shapes"] (aFs (Cl5.mk Va Vb Vc Vd Ve) K n):=by
  intro n
  induction n with
  |zero=>exact noFn fun vs H Q E z=>by obtain⟨_,_,_,_,_,_,h,_⟩:=z;exact absurd h (BA _)
  |succ n ih=>exact jK.mono (aEz l.prog w base (k:=2*n+2) (r:=n) Z F70 D70 ih D11 (jK.mono G11 (by omega)) D17 (jK.mono G17 (by omega)) D23 (jK.mono G23 (by omega)) D29 (jK.mono G29 (by omega))) (by omega)
 have G70:=r_kin 2;have G69:=(sI l.prog w base (k:=80) (r:=12) Z F69 D70 (mO G70) D68 (mO G68) D36 (mO G36) D71 (mO G71));have G60:=(rQ l.prog w base (k:=82) (r:=12) Z F60 D61 (mO G61) D65 (mO G65) D36 (mO G36) D66 (mO G66) D69 (mO G69) D40 (mO G40));have t_word:∀C sp,T4 (Cl5.mk Va Vb Vc Vd Ve) (aEs (Cl5.mk Va Vb Vc Vd Ve) K) C sp->yK l.prog w K mg base CX0 2 "word" C sp:=by
  rintro C' sp (⟨rfl,rfl⟩|⟨rfl,rfl⟩|⟨rfl,rfl⟩|⟨rfl,rfl⟩)
  ·exact⟨Ua.cl,_,_,_,D12.me,(aAm l.prog w base (k:=0) (r:=0) Z F12 ),D12.b⟩
  ·exact⟨Ub.cl,_,_,_,D18.me,(pM l.prog w base (k:=0) (r:=0) Z F18 ),D18.b⟩
  ·exact⟨Uc.cl,_,_,_,D24.me,(uN l.prog w base (k:=0) (r:=0) Z F24 ),D24.b⟩
  ·exact⟨Ud.cl,_,_,_,D30.me,(wD l.prog w base (k:=0) (r:=0) Z F30 ),D30.b⟩
 have DSn:DfM K Va "step_of" f9 d9 ["self","word"]:=⟨⟨w4,a9.i,F9.kp⟩,D9.b⟩;have DSp:DfM K Vd "step_of" f9 d9 ["self","word"]:=⟨⟨w5,a9.i,F9.kp⟩,D9.b⟩;have t_st:∀C sp,T4 (Cl5.mk Va Vb Vc Vd Ve) (aJe (Cl5.mk Va Vb Vc Vd Ve) K) C sp->yK l.prog w K mg base CX0 6 "step_of" C sp:=by
  rintro C' sp (⟨rfl,rfl⟩|⟨rfl,rfl⟩|⟨rfl,rfl⟩|⟨rfl,rfl⟩)
  ·exact⟨Ua.cl,_,_,_,DSn.me,jK.mono (zE l.prog w base (k:=0) (r:=0) (FF:=Kd.isNum) Z (fun _ _ z=>nomatch z) F9 ) (by decide),DSn.b⟩
  ·exact⟨Ub.cl,_,_,_,D9.me,jK.mono (zE l.prog w base (k:=0) (r:=0) (FF:=Kd.isNest) Z (fun _ _ z=>nomatch z) F9 ) (by decide),D9.b⟩
  ·exact⟨Uc.cl,_,_,_,D28.me,(nN l.prog w base (k:=4) (r:=0) Z F28 D6 (mO G6)),D28.b⟩
  ·exact⟨Ud.cl,_,_,_,DSp.me,jK.mono (zE l.prog w base (k:=0) (r:=0) (FF:=Kd.isPick) Z (fun _ _ z=>nomatch z) F9 ) (by decide),DSp.b⟩
 have t_led:∀C sp,T3 (Cl5.mk Va Vb Vc Vd Ve) (tX (Cl5.mk Va Vb Vc Vd Ve) K) C sp->yK l.prog w K mg base CX0 4 "led" C sp:=by
  rintro C' sp (⟨rfl,rfl⟩|⟨rfl,rfl⟩|⟨rfl,rfl⟩)
  ·exact⟨Ua.cl,_,_,_,D15.me,(aEf l.prog w base (k:=2) (r:=0) Z F15 ),D15.b⟩
  ·exact⟨Ub.cl,_,_,_,D22.me,(sY l.prog w base (k:=2) (r:=0) Z F22 ),D22.b⟩
  ·exact⟨Ud.cl,_,_,_,D34.me,(aBf l.prog w base (k:=2) (r:=0) Z F34 D17 (mO G17)),D34.b⟩
 have G54:=(aDp l.prog w base (k:=6) Z F54 (fun C' sp h=>yK.mono (t_st C' sp h) (by decide)) D4 (mO G4));have G53:=(aBr l.prog w base (k:=8) Z F53 D17 (mO G17) D54 (mO G54) (fun C' sp h=>yK.mono (t_led C' sp h) (by decide)) KM (fun C' sp h=>yK.mono (t_word C' sp h) (by decide)) D3 (mO G3));have G52:=(aHq l.prog w base (k:=10) Z F52 D53 (mO G53) D42 (mO G42));have r_rf:∀n,jK l.prog w K mg base CX0 (4*n+4) f57 d57 ["told","first"] (spRF ah ar ai K n):=by
  intro n
  induction n with
  |zero=>exact noFn fun vs H Q E z=>by obtain⟨_,_,_,_,_,_,_,_,_,h,_⟩:=z;exact nomatch h
  |succ n ih=>exact jK.mono (wT l.prog w base (k:=4*n+6) (r:=n) Z F57 D59 (uV l.prog w base (k:=4*n+4) (r:=n) Z F59 D57 ih D43 (jK.mono G43 (by omega)) D44 (jK.mono G44 (by omega))) D58 (jK.mono G58 (by omega))) (by omega)
 have G57:=r_rf 4;have G46:=(nQ l.prog w base (k:=20) Z F46 D47 (mO G47) D48 (mO G48) D50 (mO G50) D41 (mO G41) D52 (mO G52) D55 (mO G55) D56 (mO G56) D51 (mO G51) D57 (mO G57) D45 (mO G45) D2 (mO G2) D1 (mO G1));have G80:=(aAt l.prog w base (k:=22) Z F80 D46 (mO G46) XN);have G82:=(aRa l.prog w base (k:=84) (r:=12) Z ⟨by decide,by decide⟩ F82 D60 (mO G60) D74 (mO G74) D72 (mO G72) D75 (mO G75) D81 (mO G81) D80 (mO G80) D79 (mO G79));exact G82
theorem walk{l:PySem.W.OpenLaw}{YP:Af->yp->Prop}{d:DefRec}{K:Params->Ω}(hn:l.most=some 63)(hdf:d.params.defaults=[])
  (hY:∀(w:Af) (h:yp),YP w h->(K w.params).In h)
  (F:∀(w:Af) (mg:Str->Option Value) (fa:Addr) (h:yp),(K w.params).In h->h.Ns ww mg->mg d.name=some (.ref fa) →
   ∃fd:yn,(∀(s:ι) (u:Value),BindsTo s fd ⟨[u],[]⟩ [("_law_script",u)])/\∀base:yp,(K w.params).In base->base.Ns ww mg->jK l.prog w (K w.params) mg base CX0 86 fa fd ["_law_script"] (aGb (K w.params))):
  PySem.W.WalkO q loose XP YP l.row.toRowW d [] (fun f vs=>PySem.call f vs) :=
 L2.aOj (n:=63) (k:=86) (x:="_law_script") (CX:=fun _=>CX0) (sp:=fun w=>aGb (K w.params)) hn (by decide) hdf ⟨rfl,by decide,by decide,rfl⟩ hY F (fun _ _ a ns hl _ hS=>⟨a,ns,rfl,hS,hl,fun _=>rfl⟩) fun _ _ _ _ _ z=>z
end K32
namespace PySem.W.Fast
def tw1880240014442481531:=0
def tw13756701438401893612:=0
def tw7293524069894934309:=0
def tw18417417216159590889:=0
def tw8152337814286587510:=0
def tw10331647013294698442:=0
def tw12524481262276334665:=0
def tw16935923914338772211:=0
def tw7353109948563354938:=0
def tw6172298847625178479:=0
def tw7847175804262742123:=0
def tw15286378799209032516:=0
def tw4319642811805347921:=0
def tw13819463829790702938:=0
def tw12616180963019716688:=0
def tw12853784551524867853:=0
def tw12424266930880879237:=0
def tw15015352956211889206:=0
def tw1982778154847394782:=0
def tw3358754640505708659:=0
def tw6975277332876766677:=0
def tw8658220446935735010:=0
def tw4753620010047338678:=0
def tw226365557856423304:=0
def tw948330258811884758:=0
def tw1518246909055574781:=0
def tw11606597308083208383:=0
def tw2818374925477879023:=0
def tw12277369207799526071:=0
def tw14960417374058536625:=0
def tw6208925654935169304:=0
def tw14650832596668338264:=0
def tw8325524518880762691:=0
def tw4261969915132731618:=0
def tw11716199129195826934:=0
def tw10551379855152029826:=0
def tw3901263537619575835:=0
def tw10900861242485229879:=0
def tw5101742786398857824:=0
def tw15931681975462412969:=0
def tw2339704500009508642:=0
def tw16572228121296498632:=0
def tw17490704102508071183:=0
def tw6270836198095224603:=0
def tw16315762178529497029:=0
def tw7455477296442657976:=0
def tw14776116092633402236:=0
def tw17839570366987473316:=0
def tw11273614808451738821:=0
def tw12086734126001259220:=0
def tw2252672842851324626:=0
def tw14587838844192801379:=0
def tw3548962357925603219:=0
def tw9093964953493191815:=0
def tw18381312859619089475:=0
def tw11586757702864533835:=0
def tw7443097661061335057:=0
def tw11578888939671439135:=0
def tw4744837034845807103:=0
def tw8426496732295984691:=0
def tw7852263249256263690:=0
def tw7782720213544299412:=0
def tw17934349344345972496:=0
def tw11131936192270114075:=0
def tw15657578898890200990:=0
def tw2073958012671714773:=0
def tw18010944955508213323:=0
def tw5269191571521141969:=0
def tw17768164644405942718:=0
def tw18151716912391994147:=0
def tw8162058607588668637:=0
def tw17887997763001856006:=0
def tw9687105740719174733:=0
def tw15696739034233101153:=0
def tw7549761043323438744:=0
def tw13426265441235691128:=0
def tw7320178171651688772:=0
def tw16059402598596799108:=0
def tw14105913171238789621:=0
def tw17553618484398907428:=0
def tw9930820377552675951:=0
def tw4170376145801061928:=0
def tw1779537311152979552:=0
def tw16556467281642252397:=0
def tw17186186748505086997:=0
def tw10963058863316533714:=0
def tw7326057486274542043:=0
def tw17801235741501322121:=0
def tw12142551785774105301:=0
def tw17147868072901082746:=0
def tw16258858954599669001:=0
def tw13917522620258142666:=0
def tw17680715132264718377:=0
def tw4093377094525510479:=0
def tw16279516657819645882:=0
def tw3300220583687668615:=0
def tw12594983582831809929:=0
def tw11715599835887887530:=0
def tw6086927476801662463:=0
def tw8503024437511081554:=0
def tw6899382877844132301:=0
def tw5809471388210086108:=0
def tw13421185282856845770:=0
def tw13211465223897159380:=0
def tw10515938418257462711:=0
def tw11672032793833829380:=0
def tw5553352640355966886:=0
def tw3463063334750123199:=0
def tw11343707987093416003:=0
def tw14687573101287292758:=0
def tw12595437950425077067:=0
def tw10976011052177864777:=0
def tw4086115773478763938:=0
def tw7861749702715156192:=0
def tw2269434584458361748:=0
def tw18278370537578421167:=0
def tw23993309085773500:=0
def tw62392390561933740:=0
def tw16322410926789413993:=0
def tw11334447706153226981:=0
def tw3090956654295947826:=0
def tw18278799927586639559:=0
def tw15722504044477093086:=0
def tw1449477786321595232:=0
def tw15329044253059580332:=0
def tw6390284310747724051:=0
def tw8040183724928606976:=0
def tw13630591639350631475:=0
def tw16912821368778851284:=0
def tw17812990548465913430:=0
def tw15340387823949869934:=0
def tw886888576347825822:=0
def tw14361956609829337705:=0
def tw4435000148860474255:=0
def tw13359618005603340709:=0
def tw4715764833766843265:=0
def tw6543135793123410765:=0
def tw4578887714465185054:=0
def tw2785591146937184983:=0
def tw10928148005881298772:=0
def tw12744731315335547708:=0
def tw13818591970606858341:=0
def tw13465483704302826024:=0
def tw18131764852542481372:=0
def tw1307816470766607011:=0
def tw6659001790982353906:=0
def tw13043273740702530895:=0
def tw12550931506103808514:=0
def tw16755943599180361453:=0
def tw8955075108803212335:=0
def tw9651790274067969256:=0
def tw665218883590051878:=0
def tw1516412773785805541:=0
def tw2471011112291640022:=0
def tw3159444553468183339:=0
def tw11525754152662225432:=0
def tw8527775886247104695:=0
def tw4906488328822884347:=0
def tw16841253352061439747:=0
def tw14447694366276875826:=0
def tw11344928451420571840:=0
def tw6413810841555932845:=0
def tw17484696120155291495:=0
def tw12519813170631338112:=0
def tw17446780256673088834:=0
def tw9230733114145021868:=0
def tw6025809699430349434:=0
def tw17752879995432153720:=0
def tw5311568443880173974:=0
def tw9079698362574241545:=0
def tw10244524902683329381:=0
def tw7472924403333486867:=0
def tw6704706334820192953:=0
def tw13189163878507404686:=0
def tw11950377912514734848:=0
def tw8595121390834628192:=0
def tw16208225546775877960:=0
def tw8954366025376072787:=0
def tw9799364371257665972:=0
def tw16439017094331502981:=0
def tw4996300254342692021:=0
def tw9082919346356722484:=0
def tw11321798247793488984:=0
def tw12129120787019210394:=0
def tw8450153151169400188:=0
def tw8362553902723421089:=0
def tw12994351015629945101:=0
def tw14990338628904553905:=0
def tw9167812219603399243:=0
def tw18166248215445716662:=0
def tw12616669609851514297:=0
def tw14895543011017877628:=0
def tw17527010202145487901:=0
def tw15114204220723611917:=0
def tw6780220189245227206:=0
def tw7292068122726752299:=0
def tw17730297371479141462:=0
def tw7658476119681113047:=0
def tw9708880266257940055:=0
def tw11004551614339190628:=0
def tw2330251939430984244:=0
def tw4138258464946046930:=0
def tw4875446839338468771:=0
def tw17466589443881621283:=0
def tw6028371002410674461:=0
def tw12963853824773435706:=0
def tw1887342887380562018:=0
def tw873484742968483293:=0
def tw5066803452728517824:=0
def tw1092302600665032286:=0
def tw13799981367130674418:=0
def tw517699489810998175:=0
def tw200246652533232101:=0
def tw2927604671897875615:=0
def tw10239579638402278799:=0
def tw11449187830258402368:=0
def tw8930696952861296491:=0
def tw2110614309201953823:=0
def tw14584879930316989247:=0
def tw2011063484869096836:=0
def tw3173619974028749140:=0
def tw1029029544683789591:=0
def tw868376188485844987:=0
def tw15535858931966925929:=0
def tw1027220249221440795:=0
def tw9483447484708692788:=0
def tw10643870898425424841:=0
def tw2395766854917818242:=0
def tw1777298916020878644:=0
def tw17838563020696462462:=0
def tw14703856257082993884:=0
def tw15961177041481045143:=0
def tw7534508632982255316:=0
def tw12810378975380418981:=0
def tw8321890515988341596:=0
def tw12740394988109621951:=0
def tw3629921985845690507:=0
def tw723073643462708197:=0
def tw2056804388801909607:=0
def tw17645123185725835961:=0
def tw16248044298029282277:=0
def tw14140046946365558814:=0
def tw5435605105158386992:=0
def tw17918403615181550442:=0
def tw14246348573263505402:=0
def tw7848445889492323323:=0
def tw9494537197089529781:=0
def tw9677221513744444772:=0
def tw4366759436717795602:=0
def tw3097487187550606140:=0
def tw13984607649275718145:=0
def tw4262814085907903402:=0
def tw16059150167469928267:=0
def tw6910176133682965871:=0
def tw393238245667347191:=0
def tw12057158221256217589:=0
def tw1871701739021140355:=0
def tw16483626844589330794:=0
def tw2332957885983966369:=0
def tw11787744672132456403:=0
def tw6621711154808342432:=0
def tw11323690470686755840:=0
def tw17323123610764850516:=0
def tw817337033352160217:=0
def tw14145971984765227101:=0
def tw15496580594759789934:=0
def tw13268932976026161203:=0
def tw12636007297841193720:=0
def tw4357673761688133907:=0
def tw5728718879894859968:=0
def tw15036026329033498180:=0
def tw10390449169347225456:=0
def tw15441892707608823465:=0
def tw8980424990350797308:=0
def tw14737329826405784365:=0
def tw3805645798126148902:=0
def tw8651893973492235119:=0
def tw516517547047055911:=0
def tw9578167272420101416:=0
def tw1711309940165543626:=0
def tw13720220374953717084:=0
def tw15178923694124388992:=0
def tw10393186213960046289:=0
def tw2012220071361612200:=0
def tw6006082523197742459:=0
def tw15292806456395462764:=0
def tw8496068933125158056:=0
def tw15103134055026824289:=0
def tw16965145358559418539:=0
def tw3692192102589246823:=0
def tw11141783021736962424:=0
def tw14013059133950441494:=0
def tw15452199423453289588:=0
def tw16297335532059164948:=0
def tw16160870191903438007:=0
def tw4926583061196500439:=0
def tw5441522967865711602:=0
def tw3854855832443024298:=0
def tw14430089902092352694:=0
def tw11219283068988843774:=0
def tw2763658254869414371:=0
def tw9664422418865312953:=0
def tw13476450829043807180:=0
def tw13361600357347087965:=0
def tw2253604110835178076:=0
def tw3937928233402201164:=0
def tw6455244035292416894:=0
def tw10488663523494744639:=0
def tw9251836152639358047:=0
def tw11419719392895217820:=0
def tw6978666349511461880:=0
def tw12296802149385427918:=0
def tw16666550911786026289:=0
def tw3615373808556878047:=0
def tw4925645762932945292:=0
def tw3909806629076417868:=0
def tw11664476934287538733:=0
def tw14679854756430914286:=0
def tw16161823357545811293:=0
def tw9163260280153486031:=0
def tw17470903024212912893:=0
def tw8506910172659178284:=0
def tw7058861078924757097:=0
def tw639403103085934617:=0
def tw14993107840108386749:=0
def tw12738150436426677297:=0
def tw18232094577881693623:=0
def tw7500404081237668338:=0
def tw12132126192796990927:=0
def tw7377264845416853998:=0
def tw3007021448837168690:=0
def tw7183922605648352939:=0
def tw7683749621257409480:=0
def tw414543489274304414:=0
def tw17119727399121481228:=0
def tw8836286337179583210:=0
def tw2562547158892098649:=0
def tw14292750574926584181:=0
def tw5963344507458975143:=0
def tw3884549675200790120:=0
def tw9356744153143555521:=0
def tw1129763771902176350:=0
def tw7740769412290799885:=0
def tw11764275745154566143:=0
def tw1631359142480583011:=0
def tw17325094708269804286:=0
def tw10622143855798429850:=0
def tw15650878399283782075:=0
def tw7190616718099268025:=0
def tw11212371101019888942:=0
def tw12633199810095814610:=0
def tw13152347322880722109:=0
def tw558616473976154682:=0
def tw18088633286674803116:=0
def tw6530349867905426522:=0
def tw924794410737462907:=0
def tw8471570368991889081:=0
def tw2989468697868951063:=0
def tw14293812789695736405:=0
def tw11458782507417127931:=0
def tw3435858123256851390:=0
def tw11727369575718989218:=0
def tw10776960346169046906:=0
def tw16976880751860747860:=0
def tw11180544585518369120:=0
def tw13726782751620247851:=0
def tw14117654462878107541:=0
def tw6887037188984822216:=0
def tw15166297487117473311:=0
def tw773858898147652315:=0
def tw6259938775107759196:=0
def tw6965667679257881033:=0
def tw1190707307527340236:=0
def tw4738508507637538827:=0
def tw2475278494468130274:=0
def tw9382285607953822315:=0
def tw5466642116924096951:=0
def tw11561275662705217354:=0
def tw14705795993523009706:=0
def tw6035099148172779574:=0
def tw13277561704125955391:=0
def tw3132113952607652304:=0
def tw9618674750770551907:=0
def tw9616006538425787181:=0
def tw6585191964814028624:=0
def tw16092457092108711582:=0
def tw8743611785108430125:=0
def tw1548194580741697819:=0
def tw1456111384328047557:=0
def tw11909100463916355902:=0
def tw10583610386379343040:=0
def tw15906924949185874704:=0
def tw9444311702132661193:=0
def tw11191994921917417636:=0
def tw14237511686055185695:=0
def tw16065622029363704143:=0
def tw7821886646549534543:=0
def tw5289810217869465346:=0
def tw17347234882015175925:=0
def tw12708422086561118108:=0
def tw8655180363661981553:=0
def tw5455834672857679956:=0
def tw15846799177687205030:=0
def tw12891807694581862694:=0
def tw7571732280264182912:=0
def tw17967673009065672013:=0
def tw12652344281494785912:=0
def tw5688680984410346316:=0
def tw17634013062381111403:=0
def tw15077106074819306026:=0
def tw11609293201021509918:=0
def tw11145451940700450187:=0
def tw5355247241653067773:=0
def tw18091374166413736367:=0
def tw11283460266880474661:=0
def tw7644361481168462875:=0
def tw1500333021917724894:=0
def tw11149124700094414547:=0
def tw7535943405898759498:=0
def tw1480487527602770589:=0
def tw11472916976821047981:=0
def tw171948878926874690:=0
def tw2863114625678261295:=0
def tw8908848890125696408:=0
def tw14240785754750691507:=0
def tw228507071988865806:=0
def tw8810432071756287878:=0
def tw16780227247566313558:=0
def tw12247464694417275454:=0
def tw14998318435465611039:=0
def tw12015341036483248585:=0
def tw1151928856267114758:=0
def tw4100856572890976371:=0
def tw8417141355197236526:=0
def tw12297927483609218644:=0
def tw9481845474784415843:=0
def tw14602315135647167993:=0
def tw3204914133723482293:=0
def tw10290496819783457381:=0
def tw7022262589891025511:=0
def tw1613928965847171992:=0
def tw4971066125123720961:=0
def tw12488800864196168791:=0
def tw6295232300979514704:=0
def tw7368732344637012787:=0
def tw7550783684058559348:=0
def tw18234546867313524458:=0
def tw17449219856090064879:=0
def tw13808556066961104389:=0
def tw5863151696354191127:=0
def tw17032385269901415777:=0
def tw6408259630517448365:=0
def tw1984654070260373940:=0
def tw8788634857259760927:=0
def tw13138447445105826747:=0
def tw1802729179926643954:=0
def tw15864828615942678211:=0
def tw12245971064890409697:=0
def tw18077938973812376010:=0
def tw7278104252034704303:=0
def tw1780772043617678998:=0
def tw16403959238056158054:=0
def tw9292044857267830452:=0
def tw4091653366676276565:=0
def tw5538655489077406927:=0
def tw13944591192130973070:=0
def tw9304071384061817494:=0
def tw9639942946487951395:=0
def tw2691129225224404641:=0
def tw16178977147266219508:=0
def tw8766473814625034537:=0
def tw6932691318393482872:=0
def tw14300405566856352767:=0
def tw15044905917083478282:=0
def tw6763617120493514577:=0
def tw17903805486825008835:=0
def tw2548480951659328247:=0
def tw17158548161071491668:=0
def tw3588203725862410683:=0
def tw7793787058036509462:=0
def tw7364928737997697366:=0
def tw5555467789444418467:=0
def tw5584272021347474509:=0
def tw161932790588239530:=0
def tw2400405810948265062:=0
def tw9873544497881646916:=0
def tw6766368912314587185:=0
def tw9588072568355134181:=0
def tw2925331907319875798:=0
def tw3625317783025105102:=0
def tw11674332421417444694:=0
def tw9082248698634242573:=0
def tw18019992162920349282:=0
def tw3163618129116806573:=0
def tw12286787731351317089:=0
def tw9783108099304679195:=0
def tw8095727390576428025:=0
def tw17779500601777537482:=0
def tw8802022261339328517:=0
def tw814739161626106645:=0
def tw10264315245339147446:=0
def tw12746190324500691153:=0
def tw13655862663232949659:=0
def tw8025810685011654234:=0
def tw14157163259570571616:=0
def tw17112279510606649907:=0
def tw15055255513456220386:=0
def tw13689530352228045849:=0
def tw8470895084623813778:=0
def tw14018196945967012988:=0
def tw8797954770316659256:=0
def tw17331418624074155809:=0
def tw12766375366709535652:=0
def tw16847069316896439748:=0
def tw14597442459505521369:=0
def tw6851328898036001758:=0
def tw5310787005043854393:=0
def tw13268487312195160876:=0
def tw7296146799438431583:=0
def tw8568902153179947459:=0
def tw15137734840836236789:=0
def tw12915748946662006746:=0
def tw671171465183944906:=0
def tw13419874217276212688:=0
def tw1881392673089070808:=0
def tw14507617124505044635:=0
def tw1530619866382546659:=0
def tw14638962022264288193:=0
def tw17756785173434102643:=0
def tw2777294174092311458:=0
def tw16073174088526642144:=0
def tw17163666555686778130:=0
def tw16646612995853989830:=0
def tw1819515839031126627:=0
def tw2717354527872257810:=0
def tw17668089545263019176:=0
def tw9707432754587189938:=0
def tw6187929095398970988:=0
def tw6249839300097303354:=0
def tw5060941291148902241:=0
def tw17329078413433510874:=0
def tw4501892521159809142:=0
def tw3548798006792690438:=0
def tw14120213643134112700:=0
def tw12274492537176062814:=0
def tw9856429628532509429:=0
def tw9592574533383594078:=0
def tw2242591489638227388:=0
def tw15509764630562379081:=0
def tw15862566510956920223:=0
def tw15905193839333232393:=0
def tw8231693087586172788:=0
def tw14066108485352610258:=0
def tw5305435549363493330:=0
def tw9901815902275205144:=0
def tw422517388654672912:=0
def tw10999483147242823854:=0
def tw16936801187045287248:=0
def tw843669779207354713:=0
def tw660461562169490761:=0
def tw12427071906075497261:=0
def tw12165348651191755586:=0
def tw1438904327456685694:=0
def tw6773715733336622266:=0
def tw602307856676555704:=0
def tw14829384631787000784:=0
def tw11811647458919550946:=0
def tw11632238946220393026:=0
def tw3111291093667129588:=0
def tw12498304069458821178:=0
def tw11887848342671106284:=0
def tw8395345450484160427:=0
def tw11852555946394854589:=0
def tw13749396890346881735:=0
def tw7957554484413456795:=0
def tw16890734579849898667:=0
def tw10174047230422322799:=0
def tw1889201586740415006:=0
def tw1787772118547341303:=0
def tw11874542018655409501:=0
def tw8978662507526630570:=0
def tw8955256344825224169:=0
def tw15157882444086838131:=0
def tw8072797676493317220:=0
end PySem.W.Fast
open PySem PySem.W PyProof.Rows
set_option maxRecDepth 100000 in
set_option maxHeartbeats 0 in
theorem PySem.Challenge.cw_roomslaid_k32_too_much_holds : PySem.Challenge.rw_roomslaid_k32_too_much.Holds := by
 w_on;o_law;k_head; (case hw=>w_witness2)
 k_fill
 refine K32.walk (l := PySem.Challenge.rw_roomslaid_k32_too_much) rfl rfl (fun w h Y => PySem.W.kIn_of Y) ?F
 case F =>
  intro w mg fa h KX G hmg
  refine' K32.all_mk KX G hmg ?_ ?_ ?_ ?_ ?_ ?_ ?_ ?_ ?_ ?_ ?_ ?_ ?_ ?_ ?_ ?_ ?_ ?_ ?_ ?_ ?_ ?_ ?_ ?_ ?_ ?_ ?_ ?_ ?_ ?_ ?_ ?_ ?_ ?_ ?_ ?_ ?_ ?_ ?_ ?_ ?_ ?_ ?_ ?_ ?_ ?_ ?_ ?_ ?_ ?_ ?_ ?_ ?_ ?_ ?_ ?_ ?_ ?_ ?_ ?_ ?_ ?_ ?_ ?_ ?_ ?_ ?_ ?_ ?_ ?_ ?_ ?_ ?_ ?_ ?_ ?_ ?_ ?_ ?_ ?_ ?_ ?_ ?_ ?_ ?_ ?_ ?_ ?_ ?_ ?_ ?_ ?_ ?_ ?_ ?_ ?_ ?_ ?_ ?_ ?_ ?_ ?_ ?_ ?_ ?_ ?_ ?_ ?_ ?_ ?_ ?_ ?_ ?_ ?_ ?_ ?_ ?_ ?_ ?_ ?_ ?_ ?_ ?_ ?_ ?_ ?_ ?_ ?_ ?_ ?_ ?_ ?_ ?_ ?_ ?_ ?_ ?_ ?_ ?_ ?_ ?_ ?_ ?_ ?_ ?_ ?_ ?_ ?_ ?_ ?_ ?_ ?_ ?_ ?_ ?_ ?_ ?_ ?_ ?_ ?_ ?_ ?_ ?_ ?_ ?_ ?_ ?_ ?_ ?_ ?_ ?_ ?_ ?_ ?_ ?_ ?_ ?_ ?_ ?_ ?_ ?_ ?_ ?_ ?_ ?_ ?_ ?_ ?_ ?_ ?_ ?_ ?_ ?_ ?_ ?_ ?_ ?_ ?_ ?_ ?_ ?_ ?_ ?_ ?_ ?_ ?_ ?_ ?_ ?_ ?_ ?_ ?_ ?_ ?_ ?_ ?_ ?_ ?_ ?_ ?_ ?_ ?_ ?_ ?_ ?_ ?_ ?_ ?_ ?_ ?_ ?_ ?_ ?_ ?_ ?_ ?_ ?_ ?_ ?_ ?_ ?_ ?_ ?_
  all_goals (first|refine' K32.FG.mk ?_ ⟨_,L2.aLj ?_ ?_ ?_⟩|refine' K32.FM.mk ?_ ?_ ⟨_,L2.aLj ?_ ?_ ?_⟩|refine' K32.CK.mk ?_ ⟨?_,?_,?_,?_⟩ ?_ ?_ ?_|skip)
  all_goals (repeat' (first|exact K32.na0|refine' K32.na1 ?_ ?_))
  all_goals (first|k_is|exact K32.na0|exact Eq.refl true|exact Eq.refl (some true)|exact Eq.refl (some false)|kernel_rfl|ac_rfl|skip)
