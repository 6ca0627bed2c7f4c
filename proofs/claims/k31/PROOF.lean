import PyProof.Rows.All
import Wide.All
import OpenK.AllK
import Wide.FinOn
import Lean
import PyProof.EqAt
import PyProof.EqKinds
import PyProof.TupleCall
import PyProof.LongRange
import PyProof.ListRange
import PyProof.RaisesMany
import PyProof.ExcBaseAll.ValueError
import PyProof.ExcArgs
import PyProof.InstStoreFacts
import PyProof.ExcAttrAll.ValueError
import PyProof.RulesAs
import PyProof.RulesDel
import PyProof.ReprRoads
import PyProof.CallFns
import PyProof.InstSpecial
import PyProof.Rows.RuleN_isinstance
import KE.KIsNot
import PyProof.ReprLen
import PyProof.EnumMake
import PyProof.EnumFor
import PyProof.EnumStmt
import PyProof.Rows.EnumRows
import PyProof.RulesDelMore
import PyProof.Rows.SetFrom
import PyProof.ZipIter
import PyProof.IsRules
import PyProof.Conv_int_bool
import PyProof.IsiTuple
import PyProof.NeKinds
import KE.KEqDict
import PyProof.Rows.FStr
import PyProof.Rows.StrNews
import PyProof.StrCalls2
import PyProof.StrLawsChain
import PyProof.StrLawsTight
import PyProof.StrOps2
import PyProof.WalkInts
import PyProof.DictCompW
import PyProof.DictWalks
import PyProof.Rows.DictUnroll
import PyProof.FactsAll.dict
import PyProof.AttrMissHeap
import PyProof.FactsAll.zip
import KE.KDictOf
import PySem.Challenge.RW_roomslaid_k31_loops_and_choices
set_option Elab.async false
set_option linter.all false
set_option maxRecDepth 100000
open PySem.W (Frag keepIn findIn codeIn nsIn fnOf mg_of isFn mg_none_of)
namespace L2
open PySem PySem.Spec PyProof.Rows
abbrev Key:=Sum Int Str
def mM:Key->Value->Bool
 | .inl k,v=>Value.isInt k v
 | .inr x,v=>Value.isStrOf x v
def keyH (w:World):Key->Int
 | .inl k=>hashInt k
 | .inr x=>hashStr w x
theorem qI:∀ {k:Key} {v:Value},mM k v=true->(∃ i t,k=Sum.inl i/\v=Value.int i t)\/(∃ x t,k=Sum.inr x/\v=Value.str x t)
 | .inl i,v,h=>by
  obtain⟨t,e⟩:=Value.isInt_shape (k:=i) (v:=v) h
  exact .inl ⟨i,t,rfl,e⟩
 | .inr x,v,h=>by
  obtain⟨t,e⟩:=Value.isStrOf_shape (x:=x) (v:=v) h
  exact .inr ⟨x,t,rfl,e⟩
theorem aBx (i:Int) (t:Tok):mM (.inl i) (.int i t)=true:=by simp [mM,Value.isInt]
theorem aBq (x:Str) (t:Tok):mM (.inr x) (.str x t)=true:=by simp [mM,Value.isStrOf]
theorem aLh (a b:Int):decide ((Sum.inl a:Key)=Sum.inl b)=(a == b):=by
 by_cases e:a=b
 ·subst e;simp
 ·have h:¬ (Sum.inl a:Key)=Sum.inl b:=fun q=>e (Sum.inl.inj q)
  rw [decide_eq_false h]
  exact (beq_eq_false_iff_ne.mpr e).symm
theorem aKf (a b:Str):decide ((Sum.inr a:Key)=Sum.inr b)=decide (a=b):=by
 by_cases e:a=b
 ·subst e;simp
 ·have h:¬ (Sum.inr a:Key)=Sum.inr b:=fun q=>e (Sum.inr.inj q)
  rw [decide_eq_false h,decide_eq_false e]
theorem aJt (a:Int) (b:Str):decide ((Sum.inl a:Key)=Sum.inr b)=false:=decide_eq_false (fun q=>nomatch q)
theorem aJp (a:Str) (b:Int):decide ((Sum.inr a:Key)=Sum.inl b)=false:=decide_eq_false (fun q=>nomatch q)
def kS (prog:Program) (w:World):PySem.KeyKind prog w Key where
 is:=mM
 hash:=keyH w
 inj:=fun v a b ha hb=>by
  rcases qI ha with⟨i,t,rfl,rfl⟩|⟨x,t,rfl,rfl⟩
  ·rcases qI hb with⟨j,u,rfl,e⟩|⟨y,u,rfl,e⟩
   ·injection e with e1 _;rw [e1]
   ·exact nomatch e
  ·rcases qI hb with⟨j,u,rfl,e⟩|⟨y,u,rfl,e⟩
   ·exact nomatch e
   ·injection e with e1 _;rw [e1]
 byValue:=fun k v h=>by
  rcases qI h with⟨i,t,rfl,rfl⟩|⟨x,t,rfl,rfl⟩ <;> rfl
 pyHash:=fun hv h=>by
  rcases qI hv with⟨i,t,rfl,rfl⟩|⟨x,t,rfl,rfl⟩
  ·exact wpAny_pyHash_int h
  ·exact wpAny_pyHash_str h
 eqBool:=fun hu hv h=>by
  rcases qI hu with⟨i,t,rfl,rfl⟩|⟨x,t,rfl,rfl⟩
  ·rcases qI hv with⟨j,u,rfl,rfl⟩|⟨y,u,rfl,rfl⟩
   ·rw [aLh] at h;exact wpAny_eqBool_int h
   ·rw [aJt] at h;exact SeqAt.EqAt.int_str i t y u _ _ _ _ h
  ·rcases qI hv with⟨j,u,rfl,rfl⟩|⟨y,u,rfl,rfl⟩
   ·rw [aJp] at h;exact SeqAt.EqAt.str_int x t j u _ _ _ _ h
   ·rw [aKf] at h;exact wpAny_eqBool_str h
 «strs»:=fun k x t v h=>by
  rcases qI h with⟨i,u,rfl,e⟩|⟨y,u,rfl,e⟩
  ·exact nomatch e
  ·injection e with e1 _
   subst e1
   cases v <;> rfl
theorem tE (prog:Program) (w:World) (i:Int) (t:Tok):(kS prog w).is (.inl i) (.int i t)=true:=aBx i t
theorem tT (prog:Program) (w:World) (x:Str) (t:Tok):(kS prog w).is (.inr x) (.str x t)=true:=aBq x t
inductive V where
 | non|bl (b:Bool)|int (i:Int)|str (x:Str)|byt (b:Array UInt8)|flt (b:UInt64)|ref (a:Addr)|ty (n:String)
 deriving DecidableEq
def RelV:V->Value->Prop
 | .non,u=>u=Value.none
 | .bl b,u=>u=Value.bool b
 | .int i,u=>∃ t,u=Value.int i t
 | .str x,u=>∃ t,u=Value.str x t
 | .byt b,u=>∃ t,u=Value.bytes b t
 | .flt b,u=>∃ t,u=Value.float b t
 | .ref a,u=>u=Value.ref a
 | .ty n,u=>u=Value.type n
abbrev kC:List V->List Value->Prop:=Paired RelV
theorem kC.length {xs:List V} {us:List Value} (r:kC xs us):xs.length=us.length:=Paired.length r
theorem kC.get:∀ {xs:List V} {us:List Value} {i:Nat} {x:V},kC xs us->xs[i]?=some x->∃ u,us[i]?=some u/\RelV x u
 | _,_,_,_,.nil,e=>by simp at e
 | _,_,0,_,.cons r _,e=>by simp at e;subst e;exact⟨_,rfl,r⟩
 | _,_,i + 1,x,.cons _ t,e=>by
  obtain⟨u,h1,h2⟩:=kC.get (i:=i) (x:=x) t (by simpa using e)
  exact⟨u,by simpa using h1,h2⟩
theorem kC.set {x:V} {u:Value} (r:RelV x u):∀ {xs:List V} {us:List Value} (i:Nat),kC xs us->kC (xs.set i x) (us.set i u)
 | _,_,_,.nil=>.nil
 | _,_,0,.cons _ t=>.cons r t
 | _,_,i + 1,.cons q t=>.cons q (kC.set r i t)
theorem kC.append:∀ {xs ys:List V} {us ws:List Value},kC xs us->kC ys ws->kC (xs++ys) (us++ws)
 | _,_,_,_,.nil,s=>s
 | _,_,_,_,.cons r t,s=>.cons r (kC.append t s)
theorem kC.take:∀ {xs:List V} {us:List Value} (n:Nat),kC xs us->kC (xs.take n) (us.take n)
 | _,_,0,_=>.nil
 | _,_,_ + 1,.nil=>.nil
 | _,_,n + 1,.cons r t=>.cons r (kC.take n t)
theorem kC.drop:∀ {xs:List V} {us:List Value} (n:Nat),kC xs us->kC (xs.drop n) (us.drop n)
 | _,_,0,r=>r
 | _,_,_ + 1,.nil=>.nil
 | _,_,n + 1,.cons _ t=>kC.drop n t
theorem kC.none_of:∀ {xs:List V} {us:List Value} {i:Nat},kC xs us->xs[i]?=none->us[i]?=none:=fun {xs us i} r e=>by
 have h1:=r.length
 have h2:xs.length<=i:=List.getElem?_eq_none_iff.mp e
 exact List.getElem?_eq_none_iff.mpr (by omega)
def yD:Option V->Option Value->Prop
 | some v,some u=>RelV v u
 | none,none=>True
 | _,_=>False
def KV {κ : Type} : List (κ × V)->List (κ × Value)->Prop:=Paired fun (p : κ × V) (q : κ × Value)=>p.1=q.1/\RelV p.2 q.2
def kV:Key->V
 | .inl i=>.int i
 | .inr x=>.str x
inductive HO where
 /-- a list -/
 | lst (xs:List V)
 /-- a tuple (never changes) -/
 | tup (xs:List V)
 /-- a dict whose keys are ints and texts; one whose keys are tuples of ints and texts (the empty one is both) -/
 | dK (kvs:List (Key × V))|dT (kvs:List (List Key × V))
 /-- a set of ints: its members,its size -/
 | set (S:Int->Bool) (n:Nat)
 /-- an instance of the class at C,its dict at dx,its attributes -/
 | ins (C dx:Addr) (fs:List (Str × V))
 /-- the dict of the instance at x -/
 | own (x:Addr)
 /-- the dict of an exception -/
 | xd (fs:List (Str × V))
 /-- a bound method,f of x -/
 | met (f x:Addr)
 /-- a range object lo,lo + 1,.. below hi -/
 | rng (lo hi:Int)
 /-- a thing that is known to the object (the script; a dict while a loop walks it): read,never written while it is so -/
 | frz (o:Obj) (u:HO)
 /-- a code object's table -/
 | tbl (ps:Array Value)
 /-- any other thing,by what is true of its one object (a def of one's own: SetO a S n := HO.ext fun h => ..) -/
 | ext (φ : Heap->Prop)
abbrev Hp:=Addr->Option HO
def upd (H:Hp) (a:Addr) (o:HO):Hp:=fun b=>if b=a then some o else H b
theorem jH {H:Hp} {a:Addr} {o:HO} : upd H a o a=some o:=by unfold upd;rw [if_pos rfl]
theorem jS {H:Hp} {a b:Addr} {o:HO} (h:b ≠ a):upd H a o b=H b:=by unfold upd;rw [if_neg h]
theorem gI {H:Hp} {a b:Addr} {o u:HO} (h:H a=some o) (h':H b=some u) (d:o ≠ u):a ≠ b:=by
 intro e;subst e;rw [h] at h';exact d (Option.some.inj h')
theorem jL {H:Hp} {a b:Addr} {o:HO} (h:H a=some o) (h':H b=none):a ≠ b:=by
 intro e;subst e;rw [h] at h';cases h'
section
variable (P:Program) (w:World)
def qC (H:Hp) (h:Heap) (a:Addr):HO->Prop
 | .lst xs=>xs.length<=sizeLine/\∃ (its:List Value) (n:Nat),kC xs its/\h.get? a=some { cls:=.type "list",data:=.seq its.toArray n }
 | .tup xs=>xs.length<=sizeLine/\∃ its:List Value,kC xs its/\IsTup h a its.toArray
 | .dK kvs=>kvs.length<=sizeLine/\(a == sysModules)=false/\∃ vs,KV kvs vs/\h.DictOf (kS P w) a vs
 | .dT kvs=>kvs.length<=sizeLine/\(a == sysModules)=false/\∃ xs:List (List Key × Addr × Value),
   Paired (fun (p:List Key × V) (q:List Key × Addr × Value)=>p.1=q.1/\H q.2.1=some (.tup (p.1.map kV))/\RelV p.2 q.2.2) kvs xs ∧
   ∃ o es ep,h.get? a=some o/\o.ExactDict/\o.data=.dict es ep/\es.toList=xs.map (entryOfKey (tupleKind (kS P w)))/\(xs.map (·.1)).Nodup
 | .set S n=>h.SetOf (intKind P w) a S n
 | .ins C dx fs=>H dx=some (.own a)/\fs.length<=1000/\dx ≠ a/\h.get? a=some (PySem.W.instObj C dx) ∧
   ∃ mA,h.Ns1 dx mA/\(∀ f,yD (fs.lookup f) (mA f))/\PySem.Within mA (fs.map (·.1))
 | .own _=>∃ o,h.get? a=some o
 | .xd fs=>∃ mA,h.Ns1 a mA/\∀ f,yD (fs.lookup f) (mA f)
 | .rng lo hi=>∃ t u v,h.get? a=some { cls:=.type "range",data:=.fields #[.int lo t,.int hi u,.int 1 v] }
 | .frz o u=>h.get? a=some o/\qC H h a u
 | .tbl ps=>h.get? a=some { cls:=.none,data:=.fields ps }
 | .met f x=>h.get? a=some (PySem.W.methodObj (.ref f) (.ref x))
 | .ext φ=>φ h/\(∃ o,h.get? a=some o)/\∀ h1 h2:Heap,φ h1->(∀ o,h1.get? a=some o->h2.get? a=some o)->φ h2
def HOk (H:Hp) (h:Heap):Prop:=∀ a o,H a=some o->qC P w H h a o
end
section
variable {P:Program} {w:World} {H H':Hp} {h h':Heap} {a:Addr} {o:HO}
theorem qC.lt (x:qC P w H h a o):a < h.objs.size:=by
 cases o with
 | lst xs=>obtain⟨_,_,_,_,e⟩:=x;exact Heap.lt_size e
 | tup xs=>obtain⟨_,_,_,p⟩:=x;exact p.lt
 | dK kvs=>obtain⟨_,_,_,_,o,_,_,e,_⟩:=x;exact Heap.lt_size e
 | dT kvs=>obtain⟨_,_,_,_,o,_,_,e,_⟩:=x;exact Heap.lt_size e
 | set S n=>obtain⟨o,_,_,_,e,_⟩:=x;exact Heap.lt_size e
 | ins C dx fs=>obtain⟨_,_,_,e,_⟩:=x;exact Heap.lt_size e
 | own y=>obtain⟨_,e⟩:=x;exact Heap.lt_size e
 | xd fs=>obtain⟨_,⟨_,_,_,e,_⟩,_⟩:=x;exact Heap.lt_size e
 | rng lo hi=>obtain⟨_,_,_,e⟩:=x;exact Heap.lt_size e
 | frz ob u=>obtain⟨e,_⟩:=x;exact Heap.lt_size e
 | tbl ps=>exact Heap.lt_size (show h.get? a=some _ from x)
 | met f y=>exact Heap.lt_size (show h.get? a=some _ from x)
 | ext φ=>obtain⟨_,⟨_,e⟩,_⟩:=x;exact Heap.lt_size e
theorem Paired.mapP {α β : Type} {F G : α->β->Prop} : ∀ {l₁ : List α} {l₂ : List β},Paired F l₁ l₂->(∀ a b,F a b->G a b)->Paired G l₁ l₂
 | _,_,.nil,_=>.nil
 | _,_,.cons r t,f=>.cons (f _ _ r) (Paired.mapP t f)
theorem qC.stay (x:qC P w H h a o) (k:∀ b u,(b=a\/H b=some (.own a))->h.get? b=some u->h'.get? b=some u)
  (ho:∀ b,H b=some (.own a)->H' b=some (.own a)) (ht:∀ b xs,H b=some (.tup xs)->H' b=some (.tup xs)):qC P w H' h' a o:=by
 induction o with
 | lst xs=>obtain⟨z,its,n,r,e⟩:=x;exact⟨z,its,n,r,k _ _ (.inl rfl) e⟩
 | tup xs=>obtain⟨z,its,r,ob,e,c⟩:=x;exact⟨z,its,r,ob,k _ _ (.inl rfl) e,c⟩
 | dK kvs=>obtain⟨z,y,vs,r,ob,es,ep,e,c⟩:=x;exact⟨z,y,vs,r,ob,es,ep,k _ _ (.inl rfl) e,c⟩
 | dT kvs =>
  obtain⟨z,y,xs,r,ob,es,ep,e,c⟩:=x
  exact⟨z,y,xs,Paired.mapP r fun p q z=>⟨z.1,ht _ _ z.2.1,z.2.2⟩,ob,es,ep,k _ _ (.inl rfl) e,c⟩
 | set S n=>obtain⟨ob,es,ep,t,e,c⟩:=x;exact⟨ob,es,ep,t,k _ _ (.inl rfl) e,c⟩
 | ins C dx fs =>
  obtain⟨d,z,ne,e,mA,⟨od,es,ep,e2,c⟩,r⟩:=x
  exact⟨ho _ d,z,ne,k _ _ (.inl rfl) e,mA,⟨od,es,ep,k _ _ (.inr d) e2,c⟩,r⟩
 | own y=>obtain⟨ob,e⟩:=x;exact⟨ob,k _ _ (.inl rfl) e⟩
 | xd fs=>obtain⟨mA,⟨od,es,ep,e,c⟩,r⟩:=x;exact⟨mA,⟨od,es,ep,k _ _ (.inl rfl) e,c⟩,r⟩
 | rng lo hi=>obtain⟨t,u,v,e⟩:=x;exact⟨t,u,v,k _ _ (.inl rfl) e⟩
 | frz ob u ih=>obtain⟨e,q⟩:=x;exact⟨k _ _ (.inl rfl) e,ih q⟩
 | tbl ps =>
  have e:h.get? a=some { cls:=.none,data:=.fields ps }:=x
  show h'.get? a=some { cls:=.none,data:=.fields ps }
  exact k a _ (.inl rfl) e
 | met f y =>
  have e:h.get? a=some (PySem.W.methodObj (.ref f) (.ref y)):=x
  show h'.get? a=some (PySem.W.methodObj (.ref f) (.ref y))
  exact k a _ (.inl rfl) e
 | ext φ=>obtain⟨p,⟨o,e⟩,st⟩:=x;exact⟨st _ _ p fun o q=>k _ _ (.inl rfl) q,⟨o,k _ _ (.inl rfl) e⟩,st⟩
theorem HOk.lt (x:HOk P w H h) (e:H a=some o):a < h.objs.size:=(x a o e).lt
theorem HOk.fresh (x:HOk P w H h) (e:h.objs.size<=a):H a=none:=by
 cases q:H a with
 | none=>rfl
 | some u=>exact absurd (Nat.lt_of_lt_of_le (x.lt q) e) (Nat.lt_irrefl _)
theorem HOk.kept (x:HOk P w H h) (k:∀ b u,h.get? b=some u->h'.get? b=some u):HOk P w H h':=fun a o e =>
 (x a o e).stay (fun b u _ q=>k b u q) (fun _ q=>q) fun _ _ q=>q
theorem HOk.laid (x:HOk P w H h) (k:∀ b u,h.get? b=some u->h'.get? b=some u) (hp:h.objs.size<=a) (new:qC P w (upd H a o) h' a o):HOk P w (upd H a o) h':=fun b u e=>by
 have hn:=x.fresh hp
 by_cases hb:b=a
 ·subst hb;rw [jH] at e;cases e;exact new
 ·rw [jS hb] at e
  exact (x b u e).stay (fun c v _ q=>k c v q) (fun c q=>by rw [jS (jL q hn)];exact q) fun c xs q=>by rw [jS (jL q hn)];exact q
end
def Rd (H:Hp) (a:Addr) (u:HO):Prop:=H a=some u\/∃ o,H a=some (.frz o u)
theorem Rd.of {H:Hp} {a:Addr} {u:HO} (h:H a=some u):Rd H a u:=.inl h
theorem Rd.ok {P:Program} {w:World} {H:Hp} {h:Heap} {a:Addr} {u:HO} (r:Rd H a u) (x:HOk P w H h):qC P w H h a u:=by
 rcases r with r|⟨o,r⟩
 ·exact x a u r
 ·obtain⟨_,q⟩:=x a _ r
  exact q
def Mut:Option HO->Prop
 | some (.lst _)=>True
 | some (.dK _)=>True
 | some (.dT _)=>True
 | some (.set _ _)=>True
 | some (.ins _ _ _)=>True
 | some (.ext _)=>True
 | _=>False
section
variable {P:Program} {w:World} {H:Hp} {h h':Heap} {x e:Addr} {o':HO}
theorem HOk.write (ok:HOk P w H h) (mu:Mut (H x)) (he:e=x\/H e=some (.own x)) (k:∀ b u,b ≠ e->h.get? b=some u->h'.get? b=some u) (heo:∃ u,h'.get? e=some u)
  (new:qC P w (upd H x o') h' x o'):HOk P w (upd H x o') h':=fun b u q=>by
 have nown:∀ c y,H c=some (.own y)->c ≠ x:=fun c y r z=>by subst z;rw [r] at mu;exact mu
 have ntup:∀ c xs,H c=some (.tup xs)->c ≠ x:=fun c xs r z=>by subst z;rw [r] at mu;exact mu
 by_cases hb:b=x
 ·subst hb;rw [jH] at q;cases q;exact new
 ·rw [jS hb] at q
  by_cases hbe:b=e
  ·have q':H b=some (.own x):=by
    rcases he with z|z
    ·exact absurd (hbe.trans z) hb
    ·rw [hbe];exact z
   rw [q] at q';cases q'
   obtain⟨v,hv⟩:=heo
   exact⟨v,by rw [hbe];exact hv⟩
  ·refine (ok b u q).stay (fun c v hc r=>k c v ?_ r) (fun c r=>by rw [jS (nown c b r)];exact r) fun c xs r=>by rw [jS (ntup c xs r)];exact r
   rcases hc with rfl|hc
   ·exact hbe
   ·rintro rfl
    rcases he with z|z
    ·exact nown c b hc z
    ·rw [hc] at z;cases z;exact hb rfl
end
structure Un (fs ex:List Addr) (H H':Hp) (h h':Heap):Prop where
 keep:∀ b o,h.get? b=some o->H b=none->b ∉ fs->b ∉ ex->h'.get? b=some o
 slot:∀ b o,h.get? b=some o->H b=none->b ∈ fs->b ∉ ex->∃ sl,h'.get? b=some { o with slots:=sl }
 free:∀ b o,h.get? b=some o->H b=none->b ∉ ex->H' b=none
 there:∀ b o,h.get? b=some o->b ∉ ex->∃ o',h'.get? b=some o'
 tups:∀ b xs,H b=some (.tup xs)->H' b=some (.tup xs)
 frzs:∀ b o u,H b=some (.frz o u)->H' b=some (.frz o u)
 tbls:∀ b ps,H b=some (.tbl ps)->∃ more,H' b=some (.tbl (ps++more))
section
variable {fs fs' ex ex':List Addr} {H H1 H2:Hp} {h h1 h2 h':Heap} {a x e:Addr} {o:HO}
theorem Un.any (u:Un fs ex H H1 h h1) {b:Addr} {ob:Obj} (q:h.get? b=some ob) (n:H b=none) (hx:b ∉ ex):∃ sl,h1.get? b=some { ob with slots:=sl }:=by
 by_cases hb:b ∈ fs
 ·exact u.slot b ob q n hb hx
 ·exact⟨ob.slots,u.keep b ob q n hb hx⟩
theorem Un.trans (a:Un fs ex H H1 h h1) (b:Un fs ex H1 H2 h1 h2):Un fs ex H H2 h h2 where
 keep:=fun c ob q n hc hx=>b.keep c ob (a.keep c ob q n hc hx) (a.free c ob q n hx) hc hx
 slot:=fun c ob q n hc hx=>by
  obtain⟨sl,e1⟩:=a.slot c ob q n hc hx
  obtain⟨sl',e2⟩:=b.slot c _ e1 (a.free c ob q n hx) hc hx
  exact⟨sl',e2⟩
 free:=fun c ob q n hx=>by
  obtain⟨o',e1⟩:=a.there c ob q hx
  exact b.free c o' e1 (a.free c ob q n hx) hx
 there:=fun c ob q hx=>by
  obtain⟨o',e1⟩:=a.there c ob q hx
  exact b.there c o' e1 hx
 tups:=fun c xs q=>b.tups c xs (a.tups c xs q)
 frzs:=fun c ob xs q=>b.frzs c ob xs (a.frzs c ob xs q)
 tbls:=fun c ps q=>by
  obtain⟨m1,e1⟩:=a.tbls c ps q
  obtain⟨m2,e2⟩:=b.tbls c _ e1
  exact⟨m1++m2,by rw [e2,Array.append_assoc]⟩
theorem Un.kept (k:∀ b u,h.get? b=some u->h'.get? b=some u):Un fs ex H H h h' :=
 ⟨fun b ob q _ _ _=>k b ob q,fun b ob q _ _ _=>⟨ob.slots,k b ob q⟩,fun _ _ _ n _=>n,fun b ob q _=>⟨ob,k b ob q⟩,fun _ _ q=>q,fun _ _ _ q=>q,fun _ ps q=>⟨#[],by rw [q];simp⟩⟩
theorem Un.refl:Un fs ex H H h h:=Un.kept fun _ _ q=>q
theorem Un.laid (k:∀ b u,h.get? b=some u->h'.get? b=some u) (hp:h.objs.size<=a) (hn:H a=none):Un fs ex H (upd H a o) h h' where
 keep:=fun b u q _ _ _=>k b u q
 slot:=fun b u q _ _ _=>⟨u.slots,k b u q⟩
 free:=fun b u q n _=>by rw [jS (Nat.ne_of_lt (Nat.lt_of_lt_of_le (Heap.lt_size q) hp))];exact n
 there:=fun b u q _=>⟨u,k b u q⟩
 tups:=fun b xs q=>by rw [jS (jL q hn)];exact q
 frzs:=fun b u xs q=>by rw [jS (jL q hn)];exact q
 tbls:=fun b ps q=>⟨#[],by rw [jS (jL q hn),q];simp⟩
theorem Un.write (mu:Mut (H x)) (he:e=x\/H e=some (.own x)) (k:∀ b u,b ≠ e->h.get? b=some u->h'.get? b=some u) (heo:∃ u,h'.get? e=some u):Un fs ex H (upd H x o) h h':=by
 have hx:∀ b,H b=none->b ≠ x:=fun b n z=>by subst z;rw [n] at mu;exact mu
 have hb:∀ b,H b=none->b ≠ e:=fun b n z=>by
  subst z
  rcases he with r|r
  ·exact hx b n r
  ·rw [n] at r;cases r
 have hm:∀ b u,H b=some u->¬ Mut (some u)->b ≠ x:=fun b u q nm z=>by subst z;rw [q] at mu;exact nm mu
 refine⟨fun b u q n _ _=>k b u (hb b n) q,fun b u q n _ _=>⟨u.slots,k b u (hb b n) q⟩,fun b u q n _=>by rw [jS (hx b n)];exact n,fun b u q _=>?_,
  fun b xs q=>by rw [jS (hm b _ q fun z=>z)];exact q,fun b u xs q=>by rw [jS (hm b _ q fun z=>z)];exact q,fun b ps q=>⟨#[],by rw [jS (hm b _ q fun z=>z),q];simp⟩⟩
 by_cases hbe:b=e
 ·subst hbe;exact heo
 ·exact⟨u,k b u hbe q⟩
theorem Un.mono (u:Un fs ex H H1 h h1) (hs:∀ b ∈ fs,b ∈ fs') (hx:∀ b ∈ ex,b ∈ ex'):Un fs' ex' H H1 h h1 :=
 ⟨fun b ob q n hb he=>u.keep b ob q n (fun z=>hb (hs b z)) fun z=>he (hx b z),fun _ _ q n _ he=>u.any q n fun z=>he (hx _ z),fun b ob q n he=>u.free b ob q n fun z=>he (hx b z),fun b ob q he=>u.there b ob q fun z=>he (hx b z),u.tups,u.frzs,u.tbls⟩
end
def trk (h:Heap) (H:Hp):List Addr:=(List.range h.objs.size).filter fun a=>(H a).isSome
def pW (h:Heap) (H:Hp):Heap:=PySem.W.hideAll h (trk h H)
theorem aCc (h:Heap) (H:Hp):(pW h H).objs.size=h.objs.size:=PySem.W.hideAll_size _ _
theorem aFg {h:Heap} {H:Hp} {b:Addr} {o:Obj} (e:h.get? b=some o) (n:H b=none):(pW h H).get? b=some o :=
 PySem.W.hideAll_get _ e fun hm=>by
  have q:(H b).isSome=true:=(List.mem_filter.mp hm).2
  rw [n] at q;simp at q
theorem aGu {h:Heap} {H:Hp} {b:Addr} {o:Obj} (e:(pW h H).get? b=some o):h.get? b=some o/\H b=none:=by
 have e':h.get? b=some o:=PySem.W.of_hideAll (trk h H) e
 refine⟨e',?_⟩
 cases q:H b with
 | none=>rfl
 | some x =>
  have hm:b ∈ trk h H:=List.mem_filter.mpr ⟨List.mem_range.mpr (Heap.lt_size e'),by simp [q]⟩
  have z:(pW h H).get? b=none:=PySem.W.hideAll_none (trk h H) hm
  rw [z] at e;cases e
def aIc (g h:Heap) (L:Addr):List (Addr × Obj):=(List.range h.objs.size).filterMap fun a=>if a=L\/(g.get? a).isSome=true then none else (h.get? a).map fun o=>(a,o)
def rest (g h:Heap) (L d:Addr):List (Addr × Obj):=(aIc g h L).filter fun p=>decide (p.1 ≠ d)
structure Mod (K:Frag) (mg:Str->Option Value) (base:Heap):Prop where
 kin:K.In base
 glob:base.Ns mainGlobals mg
 blt:∃ mb,base.Ns builtinsNs mb/\∀ x:Str,x ≠ "__name__"->mb x=bootBuiltins x
 nolimit:base.NoLimit
structure Cx where
 prog:Program
 w:World
 K:Frag
 mg:Str->Option Value
 base:Heap
 A:Around
 N:List Str
 s₀ : Shared
 H₀ : Hp
 env:Env
 outer:List Env
 stack:List Env
 ex:List Addr
 fn:Str->Bool
 calm:Bool
 pn:List (Addr × Obj)
 xe:Value->Shared->Prop
def frs (l:List Env):List Addr:=l.filterMap (·.frame)
abbrev Cx.fs (X:Cx):List Addr:=frs X.outer
def Vis (sc:Scope) (x:Str):Prop:=sc.names.lookup x=some .local\/sc.names.lookup x=some .cell\/sc.names.lookup x=some .free
def Loc (sc:Scope) (x:Str):Prop:=sc.names.lookup x=some .local\/sc.names.lookup x=some .cell
def Look (env:Env) (h:Heap) (m:Str->Option Value) (x:Str) (u:Value):Prop :=
 (env.kindOf x=some .local/\m x=some u)\/((env.kindOf x=some .cell\/env.kindOf x=some .free)/\∃ c,env.cells.lookup x=some c/\h.IsCell c (some u))
structure Cx.Ok (X:Cx):Prop where
 mod:Mod X.K X.mg X.base
 kind:X.env.scope.kind=.function
 glob:X.env.globals=mainGlobals
 blt:X.env.builtins=builtinsNs
 above:X.s₀.heap.objs.size<=X.env.locals
 inj:∀ x y c,X.env.cells.lookup x=some c->X.env.cells.lookup y=some c->x=y
 has:∀ x,(X.env.kindOf x=some .cell\/X.env.kindOf x=some .free)->∃ c,X.env.cells.lookup x=some c
 cab:∀ x c,X.fn x=true->X.env.cells.lookup x=some c->X.s₀.heap.objs.size<=c
 hd:X.calm=true->X.A.handled=none
 frames:X.A.frames=some X.stack
 stk:X.stack=X.outer\/(X.stack=X.env::X.outer/\X.env.frame=some X.env.locals)
 exf:∀ b ∈ X.ex,b ≠ X.env.locals/\∀ x c,X.env.cells.lookup x=some c->c ≠ b
 bs:∀ b o,X.base.get? b=some o->X.s₀.heap.get? b=some o/\X.H₀ b=none
 bsz:X.base.objs.size<=X.s₀.heap.objs.size
 noex:∀ b o,X.base.get? b=some o->b ∉ X.ex
 exfs:∀ b ∈ X.ex,b ∉ X.fs
 funs:X.s₀.heap.FunFrames X.base X.outer
 frf:∀ b ∈ X.fs,X.H₀ b=none
structure Inv (X:Cx) (pins:List (Addr × Obj)) (σ:List (Option V)) (H:Hp) (s:Shared):Prop where
 ok:X.Ok
 os:s.os=X.s₀.os
 bare:AllBare s.gens
 base:Un X.fs X.ex X.H₀ H X.s₀.heap s.heap
 loc:∃ m,s.heap.Ns X.env.locals m/\∀ (i:Nat) (x:Str) (v:V),X.N[i]?=some x->σ[i]?=some (some v)->Vis X.env.scope x->∃ u,RelV v u/\Look X.env s.heap m x u
 cell:∀ x c,X.env.cells.lookup x=some c->∃ v,s.heap.IsCell c v
 free:H X.env.locals=none
 freeC:∀ x c,X.env.cells.lookup x=some c->H c=none
 pin:∀ p ∈ X.pn++pins,s.heap.get? p.1=some p.2/\H p.1=none/\p.1 ≠ X.env.locals/\p.1 ∉ X.fs/\∀ v,p.2.data ≠ .cell v
 hok:HOk X.prog X.w H s.heap
 len : σ.length=X.N.length
section
variable {X:Cx} {pins:List (Addr × Obj)} {σ:List (Option V)} {H H':Hp} {s:Shared} {h':Heap}
theorem Cx.Ok.nofr (ok:X.Ok) {b:Addr} {o:Obj} (e:X.base.get? b=some o):b ∉ X.fs:=fun hb=>by
 have:=(ok.funs.mem hb).1
 rw [e] at this;cases this
theorem Inv.bs (I:Inv X pins σ H s):∀ b o,X.base.get? b=some o->s.heap.get? b=some o/\H b=none:=fun b o e =>
 ⟨I.base.keep b o (I.ok.bs b o e).1 (I.ok.bs b o e).2 (I.ok.nofr e) (I.ok.noex b o e),I.base.free b o (I.ok.bs b o e).1 (I.ok.bs b o e).2 (I.ok.noex b o e)⟩
theorem Inv.bk (I:Inv X pins σ H s):∀ b o,X.base.get? b=some o->s.heap.get? b=some o:=fun b o e=>(I.bs b o e).1
theorem Inv.mod (I:Inv X pins σ H s):Mod X.K X.mg X.base:=I.ok.mod
theorem Inv.kIn (I:Inv X pins σ H s):X.K.In s.heap:=I.ok.mod.kin.keeps I.bk
theorem Inv.nolimit (I:Inv X pins σ H s):s.heap.NoLimit:=I.ok.mod.nolimit.keeps I.bk
theorem Inv.fr (I:Inv X pins σ H s):∃ m,Fr X.base X.env.locals s.heap m :=
 let ⟨m,hn,_⟩:=I.loc
 ⟨m,hn,I.bk,Nat.le_trans I.ok.bsz I.ok.above⟩
theorem Inv.lt (I:Inv X pins σ H s):X.env.locals < s.heap.objs.size:=let ⟨_,hn,_⟩:=I.loc;hn.lt
theorem Inv.sz (I:Inv X pins σ H s):X.s₀.heap.objs.size<=s.heap.objs.size:=Nat.le_trans I.ok.above (Nat.le_of_lt I.lt)
theorem Inv.nofs (I:Inv X pins σ H s) {a:Addr} (h:s.heap.objs.size<=a):a ∉ X.fs:=fun hb=>by
 obtain⟨_,o,ho,_⟩:=I.ok.funs.mem hb
 exact absurd (Nat.lt_of_lt_of_le (Heap.lt_size ho) (Nat.le_trans I.sz h)) (Nat.lt_irrefl _)
theorem Inv.cne (I:Inv X pins σ H s):∀ x c,X.env.cells.lookup x=some c->c ≠ X.env.locals:=fun x c e z=>by
 obtain⟨v,o,ho,hd⟩:=I.cell x c e
 obtain⟨m,⟨o',es,ep,ho',hd',_⟩,_⟩:=I.loc
 rw [z,ho'] at ho;cases ho;rw [hd'] at hd;cases hd
theorem Inv.funs (I:Inv X pins σ H s):s.heap.FunFrames X.base X.outer:=by
 have all:∀ (l:List Env),(∀ b ∈ frs l,b ∈ X.fs)->X.s₀.heap.FunFrames X.base l->s.heap.FunFrames X.base l:=by
  intro l
  induction l with
  | nil=>intro _ _;trivial
  | cons env r ih =>
   intro hs hl
   obtain⟨hk,⟨L,o,hf,hn,ho,hd⟩,hr⟩:=hl
   have hL:L ∈ X.fs:=hs L (by unfold frs;rw [List.filterMap_cons,hf];exact List.mem_cons_self)
   obtain⟨sl,e⟩:=I.base.slot L o ho (I.ok.frf L hL) hL fun z=>I.ok.exfs L z hL
   exact⟨hk,⟨L,_,hf,hn,e,hd⟩,ih (fun b hb=>hs b (by unfold frs;rw [List.filterMap_cons,hf];exact List.mem_cons_of_mem _ hb)) hr⟩
 exact all X.outer (fun _ hb=>hb) I.ok.funs
theorem Inv.stack (I:Inv X pins σ H s):s.heap.FunFrames X.base X.stack:=by
 rcases I.ok.stk with e|⟨e,hf⟩
 ·rw [e];exact I.funs
 ·rw [e]
  obtain⟨m,hn,_⟩:=I.loc
  refine .cons (by rw [I.ok.kind];decide) hf hn ?_ I.funs
  exact Heap.get?_none_of_le (Nat.le_trans I.ok.bsz I.ok.above)
theorem Inv.stkSub (I:Inv X pins σ H s):∀ b ∈ frs X.stack,b ∈ X.env.locals::X.fs:=fun b hb=>by
 rcases I.ok.stk with e|⟨e,hf⟩
 ·rw [e] at hb;exact List.mem_cons_of_mem _ hb
 ·rw [e] at hb
  unfold frs at hb
  rw [List.filterMap_cons,hf] at hb
  exact hb
theorem Inv.stkFree (I:Inv X pins σ H s):∀ b ∈ frs X.stack,H b=none:=fun b hb=>by
 rcases List.mem_cons.mp (I.stkSub b hb) with e|hb
 ·rw [e];exact I.free
 ·obtain⟨_,o,ho,_⟩:=I.ok.funs.mem hb
  exact I.base.free b o ho (I.ok.frf b hb) fun z=>I.ok.exfs b z hb
theorem Inv.step {g':Array GenState} {t':Nat} {d':Drawn} {ch:List Addr} (I:Inv X pins σ H s)
  (hch:∀ b ∈ ch,(b ∈ X.ex\/X.s₀.heap.objs.size<=b)/\b ≠ X.env.locals/\(∀ x c,X.env.cells.lookup x=some c->c ≠ b)/\∀ p ∈ X.pn++pins,p.1 ≠ b)
  (keep:∀ b o,b ≠ X.env.locals->b ∉ X.fs->b ∉ ch->s.heap.get? b=some o->H b=none->h'.get? b=some o)
  (slot:∀ b o,b ≠ X.env.locals->b ∈ X.fs->b ∉ ch->s.heap.get? b=some o->H b=none->∃ sl,h'.get? b=some { o with slots:=sl }) (free:∀ b o,b ∉ ch->s.heap.get? b=some o->H b=none->H' b=none)
  (there:∀ b o,b ∉ ch->s.heap.get? b=some o->∃ o',h'.get? b=some o')
  (tups:∀ b xs,H b=some (.tup xs)->H' b=some (.tup xs)) (frzs:∀ b o u,H b=some (.frz o u)->H' b=some (.frz o u)) (tbls:∀ b ps,H b=some (.tbl ps)->∃ more,H' b=some (.tbl (ps++more)))
  (ns:∀ m,s.heap.Ns X.env.locals m->h'.Ns X.env.locals m) (hok:HOk X.prog X.w H' h') (hg:AllBare g') :
  Inv X pins σ H' { s with heap:=h',gens:=g',drawn:=d',toks:=t' }:=by
 have neL:∀ b o,X.s₀.heap.get? b=some o->b ≠ X.env.locals:=fun b o e=>Nat.ne_of_lt (Nat.lt_of_lt_of_le (Heap.lt_size e) I.ok.above)
 have neC:∀ b o,X.s₀.heap.get? b=some o->b ∉ X.ex->b ∉ ch:=fun b o e hx hb=>by
  rcases (hch b hb).1 with z|z
  ·exact hx z
  ·exact absurd (Nat.lt_of_lt_of_le (Heap.lt_size e) z) (Nat.lt_irrefl _)
 have cellK:∀ x c,X.env.cells.lookup x=some c->∀ v,s.heap.IsCell c v->h'.IsCell c v:=fun x c e v ⟨o,ho,hd⟩=>by
  have nch:c ∉ ch:=fun z=>(hch c z).2.2.1 x c e rfl
  by_cases hc:c ∈ X.fs
  ·obtain⟨sl,q⟩:=slot c o (I.cne x c e) hc nch ho (I.freeC x c e)
   exact⟨_,q,hd⟩
  ·exact⟨o,keep c o (I.cne x c e) hc nch ho (I.freeC x c e),hd⟩
 refine⟨I.ok,I.os,hg,⟨fun b o e n hb hx=>?_,fun b o e n hb hx=>?_,fun b o e n hx=>?_,fun b o e hx=>?_,fun b xs e=>tups b xs (I.base.tups b xs e),fun b o xs e=>frzs b o xs (I.base.frzs b o xs e),fun b ps e=>?_⟩,?_,fun x c e=>?_,?_,fun x c e=>?_,fun p hp=>?_,hok,I.len⟩
 ·exact keep b o (neL b o e) hb (neC b o e hx) (I.base.keep b o e n hb hx) (I.base.free b o e n hx)
 ·obtain⟨sl,e1⟩:=I.base.slot b o e n hb hx
  obtain⟨sl',e2⟩:=slot b _ (neL b o e) hb (neC b o e hx) e1 (I.base.free b o e n hx)
  exact⟨sl',e2⟩
 ·obtain⟨o',e1⟩:=I.base.there b o e hx
  exact free b o' (neC b o e hx) e1 (I.base.free b o e n hx)
 ·obtain⟨o',e1⟩:=I.base.there b o e hx
  exact there b o' (neC b o e hx) e1
 ·obtain⟨m1,e1⟩:=I.base.tbls b ps e
  obtain⟨m2,e2⟩:=tbls b _ e1
  exact⟨m1++m2,by rw [e2,Array.append_assoc]⟩
 ·obtain⟨m,hn,hl⟩:=I.loc
  refine⟨m,ns m hn,fun i x v e1 e2 e3=>?_⟩
  obtain⟨u,r,l⟩:=hl i x v e1 e2 e3
  refine⟨u,r,?_⟩
  rcases l with l|⟨k,c,e,z⟩
  ·exact .inl l
  ·exact .inr ⟨k,c,e,cellK x c e _ z⟩
 ·obtain⟨v,z⟩:=I.cell x c e
  exact⟨v,cellK x c e v z⟩
 ·obtain⟨m,⟨o,_,_,ho,_⟩,_⟩:=I.loc
  exact free _ o (fun z=>(hch _ z).2.1 rfl) ho I.free
 ·obtain⟨v,o,ho,hd⟩:=I.cell x c e
  exact free c o (fun z=>(hch c z).2.2.1 x c e rfl) ho (I.freeC x c e)
 ·obtain⟨e,n,ne,nf,d⟩:=I.pin p hp
  have nch:p.1 ∉ ch:=fun z=>(hch p.1 z).2.2.2 p hp rfl
  exact⟨keep p.1 p.2 ne nf nch e n,free p.1 p.2 nch e n,ne,nf,d⟩
theorem Inv.un {t':Nat} (I:Inv X pins σ H s) (u:Un X.fs [] H H' s.heap h') (hok:HOk X.prog X.w H' h'):Inv X pins σ H' { s with heap:=h',toks:=t' }:=by
 obtain⟨m,⟨o,es,ep,ho,r⟩,_⟩:=id I.loc
 obtain⟨sl,hL⟩:=u.any ho I.free (by simp)
 exact I.step (g':=s.gens) (d':=s.drawn) (ch:=[]) (fun _ z=>nomatch z) (fun b o _ hb _ e n=>u.keep b o e n hb (by simp)) (fun b o _ hb _ e n=>u.slot b o e n hb (by simp)) (fun b o _ e n=>u.free b o e n (by simp)) (fun b o _ e=>u.there b o e (by simp)) u.tups u.frzs u.tbls (fun m' hm=>by
  obtain⟨o',es',ep',ho',r'⟩:=hm
  rw [ho] at ho';cases ho'
  exact⟨_,es',ep',hL,r'⟩) hok I.bare
theorem Inv.call {g':Array GenState} {t':Nat} {d':Drawn} {ch:List Addr} (I:Inv X pins σ H s) (u:Un (frs X.stack) ch H H' s.heap h') (hok:HOk X.prog X.w H' h') (hg:AllBare g')
  (hch:∀ b ∈ ch,(b ∈ X.ex\/X.s₀.heap.objs.size<=b)/\b ≠ X.env.locals/\(∀ x c,X.env.cells.lookup x=some c->c ≠ b)/\∀ p ∈ X.pn++pins,p.1 ≠ b) :
  Inv X pins σ H' { s with heap:=h',gens:=g',drawn:=d',toks:=t' }:=by
 obtain⟨m,⟨o,es,ep,ho,r⟩,_⟩:=id I.loc
 obtain⟨sl,hL⟩:=u.any ho I.free fun z=>(hch _ z).2.1 rfl
 exact I.step (ch:=ch) hch (fun b o hL hb hc e n=>u.keep b o e n (fun z=>(List.mem_cons.mp (I.stkSub b z)).elim hL hb) hc) (fun b o _ _ hc e n=>u.any e n hc) (fun b o hc e n=>u.free b o e n hc) (fun b o hc e=>u.there b o e hc) u.tups u.frzs u.tbls (fun m' hm=>by
  obtain⟨o',es',ep',ho',r'⟩:=hm
  rw [ho] at ho';cases ho'
  exact⟨_,es',ep',hL,r'⟩) hok hg
theorem Inv.turned {t':Nat} {it:Addr} (I:Inv X pins σ H s) (k:∀ b o,b ≠ it->s.heap.get? b=some o->h'.get? b=some o) (hn:H it=none) (hL:it ≠ X.env.locals)
  (h1:it ∈ X.ex\/X.s₀.heap.objs.size<=it) (h2:∀ x c,X.env.cells.lookup x=some c->c ≠ it) (h3:∀ p ∈ X.pn++pins,p.1 ≠ it):Inv X pins σ H { s with heap:=h',toks:=t' }:=by
 have nit:∀ b u,H b=some u->b ≠ it:=fun b u e z=>by rw [z,hn] at e;cases e
 refine I.step (g':=s.gens) (d':=s.drawn) (ch:=[it]) (fun b hb=>?_) (fun b o _ _ hc e _=>k b o (fun z=>hc (by simp [z])) e) (fun b o _ _ hc e _=>⟨o.slots,k b o (fun z=>hc (by simp [z])) e⟩) (fun _ _ _ _ n=>n)
  (fun b o hc e=>⟨o,k b o (fun z=>hc (by simp [z])) e⟩) (fun _ _ e=>e) (fun _ _ _ e=>e) (fun b ps e=>⟨#[],by rw [e];simp⟩) (fun m hm=>?_) (fun b u e=>?_) I.bare
 ·have e:b=it:=by simpa using hb
  subst e
  exact⟨h1,hL,h2,h3⟩
 ·obtain⟨o,es,ep,ho,r⟩:=hm
  exact⟨o,es,ep,k _ o (Ne.symm hL) ho,r⟩
 ·refine (I.hok b u e).stay (fun c v hc q=>k c v ?_ q) (fun _ q=>q) fun _ _ q=>q
  rcases hc with z|z
  ·rw [z];exact nit b u e
  ·exact nit c _ z
theorem Inv.tok (I:Inv X pins σ H s) (t:Nat):Inv X pins σ H { s with toks:=t }:=I.un (h':=s.heap) (t':=t) Un.refl I.hok
theorem Inv.kept {t':Nat} (I:Inv X pins σ H s) (k:∀ b u,s.heap.get? b=some u->h'.get? b=some u):Inv X pins σ H { s with heap:=h',toks:=t' }:=I.un (Un.kept k) (I.hok.kept k)
theorem Inv.laid {a:Addr} {o:HO} {t':Nat} (I:Inv X pins σ H s) (k:∀ b u,s.heap.get? b=some u->h'.get? b=some u) (hp:s.heap.objs.size<=a) (new:qC X.prog X.w (upd H a o) h' a o) :
  Inv X pins σ (upd H a o) { s with heap:=h',toks:=t' }:=I.un (Un.laid k hp (I.hok.fresh hp)) (I.hok.laid k hp new)
theorem Inv.write {x e:Addr} {o:HO} {t':Nat} (I:Inv X pins σ H s) (mu:Mut (H x)) (he:e=x\/H e=some (.own x)) (k:∀ b u,b ≠ e->s.heap.get? b=some u->h'.get? b=some u) (heo:∃ u,h'.get? e=some u)
  (new:qC X.prog X.w (upd H x o) h' x o):Inv X pins σ (upd H x o) { s with heap:=h',toks:=t' }:=I.un (Un.write mu he k heo) (I.hok.write mu he k heo new)
theorem Inv.pins_of {pins':List (Addr × Obj)} (I:Inv X pins σ H s) (h:∀ p ∈ pins',s.heap.get? p.1=some p.2/\H p.1=none/\p.1 ≠ X.env.locals/\p.1 ∉ X.fs/\∀ v,p.2.data ≠ .cell v):Inv X pins' σ H s :=
 ⟨I.ok,I.os,I.bare,I.base,I.loc,I.cell,I.free,I.freeC,fun p hp=>(List.mem_append.mp hp).elim (fun z=>I.pin p (List.mem_append_left _ z)) (h p),I.hok,I.len⟩
theorem lC {N:List Str} (hN:N.Nodup) {i j:Nat} {x:Str} (a:N[i]?=some x) (b:N[j]?=some x):i=j:=by
 obtain⟨h1,e1⟩:=List.getElem?_eq_some_iff.mp a
 obtain⟨h2,e2⟩:=List.getElem?_eq_some_iff.mp b
 exact (List.getElem_inj hN).mp (e1.trans e2.symm)
theorem cO {M:Model} {A:Around} {E:Value->Shared->Prop} {i:Nat} {x:Str} {v:V} {u:Value} {Q:Unit->Shared->Prop} (I:Inv X pins σ H s) (hN:X.N.Nodup) (hi:X.N[i]?=some x) (hx:Loc X.env.scope x) (r:RelV v u)
  (h:∀ s',Inv X pins (σ.set i (some v)) H s'->(∃ a,Heap.SameBut a s.heap s'.heap/\(a=X.env.locals\/X.env.cells.lookup x=some a))->Q () s') (hf:X.fn x=true\/X.env.scope.names.lookup x=some .local:=by first|exact .inl rfl|exact .inr rfl|assumption):wpAny M A (storeName X.env x u) Q E s:=by
 obtain⟨m,hn,hl⟩:=id I.loc
 have hcls:(X.env.scope.kind == .class || (X.env.scope.kind == .module && X.env.locals != X.env.globals))=false:=by rw [I.ok.kind];rfl
 have hiσ:i < σ.length:=by rw [I.len];exact (List.getElem?_eq_some_iff.mp hi).1
 have cne:=I.cne
 have tracked:∀ {a:Addr} {h':Heap},(∃ o,s.heap.get? a=some o/\H a=none)->Heap.SameBut a s.heap h'->HOk X.prog X.w H h':=fun {a h'} ha hs b ob e=>by
  obtain⟨_,_,hfree⟩:=ha
  refine (I.hok b ob e).stay (fun c w' hc q=>(hs.2 c ?_).trans q) (fun _ q=>q) fun _ _ q=>q
  rintro rfl
  rcases hc with rfl|hc
  ·rw [hfree] at e;cases e
  ·rw [hfree] at hc;cases hc
 rcases hx with hk|hk
 ·refine wpAny_storeName_local hk hn (fun h' hn' hs=>?_) hcls
  obtain⟨oL,_,_,hoL,_⟩:=id hn
  refine h _ ⟨I.ok,I.os,I.bare,⟨fun b o e n hb hx=>?_,fun b o e n hb hx=>?_,I.base.free,fun b o e hx=>?_,I.base.tups,I.base.frzs,I.base.tbls⟩,⟨_,hn',fun j y v' e1 e2 e3=>?_⟩,fun y c e=>?_,I.free,I.freeC,fun p hp=>?_,tracked ⟨oL,hoL,I.free⟩ hs,by simpa using I.len⟩ ⟨_,hs,.inl rfl⟩
  ·exact (hs.2 b (Nat.ne_of_lt (Nat.lt_of_lt_of_le (Heap.lt_size e) I.ok.above))).trans (I.base.keep b o e n hb hx)
  ·obtain⟨sl,e1⟩:=I.base.slot b o e n hb hx
   exact⟨sl,(hs.2 b (Nat.ne_of_lt (Nat.lt_of_lt_of_le (Heap.lt_size e) I.ok.above))).trans e1⟩
  ·obtain⟨o',e1⟩:=I.base.there b o e hx
   exact⟨o',(hs.2 b (Nat.ne_of_lt (Nat.lt_of_lt_of_le (Heap.lt_size e) I.ok.above))).trans e1⟩
  ·by_cases hj:j=i
   ·subst hj
    rw [hi] at e1;cases e1
    rw [List.getElem?_set_self hiσ] at e2
    cases e2
    exact⟨u,r,.inl ⟨hk,by simp⟩⟩
   ·rw [List.getElem?_set_ne (Ne.symm hj)] at e2
    obtain⟨u',r',q⟩:=hl j y v' e1 e2 e3
    refine⟨u',r',?_⟩
    rcases q with⟨k,e⟩|⟨k,c,e,z⟩
    ·refine .inl ⟨k,?_⟩
     have:y ≠ x:=fun e=>hj (lC hN e1 (e ▸ hi))
     simp [this,e]
    ·exact .inr ⟨k,c,e,z.sameBut hs (cne y c e)⟩
  ·obtain⟨w',z⟩:=I.cell y c e
   exact⟨w',z.sameBut hs (cne y c e)⟩
  ·obtain⟨e,n,ne,nf,d⟩:=I.pin p hp
   exact⟨(hs.2 p.1 ne).trans e,n,ne,nf,d⟩
 ·have hfn:X.fn x=true:=by
   rcases hf with z|z
   ·exact z
   ·rw [z] at hk;cases hk
  obtain⟨c,hc⟩:=I.ok.has x (.inl hk)
  obtain⟨w',z⟩:=I.cell x c hc
  refine wpAny_storeName_cell I.ok.kind hk hc z (fun h' hc' hs=>?_)
  obtain⟨oc,hoc,hocd⟩:=id z
  refine h { s with heap:=h' } ⟨I.ok,I.os,I.bare,⟨fun b o e n hb hx=>?_,fun b o e n hb hx=>?_,I.base.free,fun b o e hx=>?_,I.base.tups,I.base.frzs,I.base.tbls⟩,⟨m,hn.sameBut hs (Ne.symm (cne x c hc)),fun j y v' e1 e2 e3=>?_⟩,fun y c' e=>?_,I.free,I.freeC,fun p hp=>?_,tracked ⟨oc,hoc,I.freeC x c hc⟩ hs,by simpa using I.len⟩ ⟨c,hs,.inr hc⟩
  ·exact (hs.2 b (Nat.ne_of_lt (Nat.lt_of_lt_of_le (Heap.lt_size e) (I.ok.cab x c hfn hc)))).trans (I.base.keep b o e n hb hx)
  ·obtain⟨sl,e1⟩:=I.base.slot b o e n hb hx
   exact⟨sl,(hs.2 b (Nat.ne_of_lt (Nat.lt_of_lt_of_le (Heap.lt_size e) (I.ok.cab x c hfn hc)))).trans e1⟩
  ·obtain⟨o',e1⟩:=I.base.there b o e hx
   exact⟨o',(hs.2 b (Nat.ne_of_lt (Nat.lt_of_lt_of_le (Heap.lt_size e) (I.ok.cab x c hfn hc)))).trans e1⟩
  ·by_cases hj:j=i
   ·subst hj
    rw [hi] at e1;cases e1
    rw [List.getElem?_set_self hiσ] at e2
    cases e2
    exact⟨u,r,.inr ⟨.inl hk,c,hc,hc'⟩⟩
   ·rw [List.getElem?_set_ne (Ne.symm hj)] at e2
    obtain⟨u',r',q⟩:=hl j y v' e1 e2 e3
    refine⟨u',r',?_⟩
    rcases q with q|⟨k,c',e,z'⟩
    ·exact .inl q
    ·refine .inr ⟨k,c',e,z'.sameBut hs ?_⟩
     rintro rfl
     exact hj (lC hN e1 (I.ok.inj _ _ _ e hc ▸ hi))
  ·by_cases hcc:c'=c
   ·subst hcc;exact⟨_,hc'⟩
   ·obtain⟨w2,z2⟩:=I.cell y c' e
    exact⟨w2,z2.sameBut hs hcc⟩
  ·obtain⟨e,n,ne,nf,d⟩:=I.pin p hp
   refine⟨(hs.2 p.1 ?_).trans e,n,ne,nf,d⟩
   intro q
   rw [q,hoc] at e
   have q':oc=p.2:=Option.some.inj e
   exact d w' (by rw [← q'];exact hocd)
theorem tJ {M:Model} {A:Around} {E:Value->Shared->Prop} {i:Nat} {x:Str} {v:V} {u:Value} {Q:Unit->Shared->Prop} (I:Inv X pins σ H s) (hN:X.N.Nodup) (hi:X.N[i]?=some x) (hx:Loc X.env.scope x) (r:RelV v u)
  (h:∀ s',Inv X pins (σ.set i (some v)) H s'->Q () s') (hf:X.fn x=true\/X.env.scope.names.lookup x=some .local:=by first|exact .inl rfl|exact .inr rfl|assumption):wpAny M A (storeName X.env x u) Q E s :=
 cO I hN hi hx r (fun s' I' _=>h s' I') hf
theorem Inv.call' {s':Shared} {ch:List Addr} (I:Inv X pins σ H s) (ho:s'.os=s.os) (u:Un (frs X.stack) ch H H' s.heap s'.heap) (hok:HOk X.prog X.w H' s'.heap) (hg:AllBare s'.gens)
  (hch:∀ b ∈ ch,(b ∈ X.ex\/X.s₀.heap.objs.size<=b)/\b ≠ X.env.locals/\(∀ x c,X.env.cells.lookup x=some c->c ≠ b)/\∀ p ∈ X.pn++pins,p.1 ≠ b):Inv X pins σ H' s':=by
 obtain⟨h',g',d',t',o'⟩:=s'
 have e:o'=s.os:=ho
 subst e
 exact I.call (g':=g') (t':=t') (d':=d') u hok hg hch
end
abbrev XK:=Value->Option Addr->Hp->Prop
abbrev St:=List (Option V)
abbrev VK:=V->Hp->Prop
abbrev TE:=St->Hp->VK->Prop
abbrev TT:=St->Hp->(Bool->Hp->Prop)->Prop
abbrev TA:=St->Hp->(List V->Hp->Prop)->Prop
structure Ends where
 nx:St->Hp->Prop
 rt:VK
 bk:St->Hp->Prop:=fun _ _=>False
 ct:St->Hp->Prop:=fun _ _=>False
abbrev TS:=Ends->St->Hp->Prop
def EP (X:Cx) (pins:List (Addr × Obj)) (σ:St) (Q:VK) (u:Value) (s':Shared):Prop:=∃ v H',Inv X pins σ H' s'/\RelV v u/\Q v H'
def TP (X:Cx) (pins:List (Addr × Obj)) (σ:St) (Q:Bool->Hp->Prop) (b:Bool) (s':Shared):Prop:=∃ H',Inv X pins σ H' s'/\Q b H'
def AP (X:Cx) (pins:List (Addr × Obj)) (σ:St) (Q:List V->Hp->Prop) (us:List Value) (s':Shared):Prop:=∃ vs H',Inv X pins σ H' s'/\kC vs us/\Q vs H'
def SP (X:Cx) (pins:List (Addr × Obj)) (D:Ends) (f:Flow) (s':Shared):Prop :=
 match f with
 | .next=>∃ σ' H',Inv X pins σ' H' s'/\D.nx σ' H'
 | .brk=>∃ σ' H',Inv X pins σ' H' s'/\D.bk σ' H'
 | .cont=>∃ σ' H',Inv X pins σ' H' s'/\D.ct σ' H'
 | .ret u=>∃ v σ' H',Inv X pins σ' H' s'/\RelV v u/\D.rt v H'
def PE (X:Cx) (e:Expr) (t:TE):Prop :=
 ∀ (pins:List (Addr × Obj)) (s:Shared) (σ:St) (H:Hp) (Q:VK),Inv X pins σ H s->t σ H Q->wpAny (model X.prog X.w) X.A (eval e X.env) (EP X pins σ Q) X.xe s
def PT (X:Cx) (e:Expr) (t:TT):Prop :=
 ∀ (pins:List (Addr × Obj)) (s:Shared) (σ:St) (H:Hp) (Q:Bool->Hp->Prop),Inv X pins σ H s->t σ H Q->wpAny (model X.prog X.w) X.A (isTrue e X.env (eval e X.env)) (TP X pins σ Q) X.xe s
def PW (X:Cx) (e:Expr) (t:TT):Prop :=
 ∀ (whole:Sem Value) (pins:List (Addr × Obj)) (s:Shared) (σ:St) (H:Hp) (Q:Bool->Hp->Prop),Inv X pins σ H s->t σ H Q->wpAny (model X.prog X.w) X.A (isTrue e X.env whole) (TP X pins σ Q) X.xe s
theorem PW.pt {X:Cx} {e:Expr} {t:TT} (h:PW X e t):PT X e t:=h _
def PA (X:Cx) (es:List Expr) (t:TA):Prop :=
 ∀ (pos:Pos) (pins:List (Addr × Obj)) (s:Shared) (σ:St) (H:Hp) (Q:List V->Hp->Prop),Inv X pins σ H s->t σ H Q->wpAny (model X.prog X.w) X.A (spliced (backTo pos (starEach es X.env))) (AP X pins σ Q) X.xe s
def PS (X:Cx) (st:Stmt) (t:TS):Prop :=
 ∀ (pins:List (Addr × Obj)) (s:Shared) (σ:St) (H:Hp) (D:Ends),Inv X pins σ H s->t D σ H->wpAny (model X.prog X.w) X.A (exec st X.env) (SP X pins D) X.xe s
def PSs (X:Cx) (st:List Stmt) (t:TS):Prop :=
 ∀ (pins:List (Addr × Obj)) (s:Shared) (σ:St) (H:Hp) (D:Ends),Inv X pins σ H s->t D σ H->wpAny (model X.prog X.w) X.A (execs st X.env) (SP X pins D) X.xe s
theorem thn {α : Type} {t:Sem α} {Q Q' : α->Shared->Prop} {M:Model} {A:Around} {E:Value->Shared->Prop} {s:Shared} (h:wpAny M A t Q E s) (hQ:∀ a s,Q a s->Q' a s):wpAny M A t Q' E s:=wpAny_mono h hQ fun _ _ x=>x
section
variable {X:Cx}
def tVar (i:Nat):TE:=fun σ H Q=>∃ v,σ[i]?=some (some v)/\Q v H
def tC (v:V):TE:=fun _ H Q=>Q v H
theorem aLg {i:Nat} {x:Str} {pos:Pos} (hN:X.N[i]?=some x) (hv:Vis X.env.scope x) (hd:(x == ("__debug__" : Str))=false:=by decide) (hcd:(x == ("__classdict__" : Str))=false:=by decide):PE X (.Name x pos) (tVar i):=by
 intro pins s σ H Q I h
 obtain⟨v,e,h⟩:=h
 obtain⟨m,hn,hl⟩:=I.loc
 obtain⟨u,r,l⟩:=hl i x v hN e hv
 have fin:EP X pins σ Q u s:=⟨v,H,I,r,h⟩
 rcases l with⟨hk,hm⟩|⟨hk,c,hc,hcell⟩
 ·exact wpAny_Name (wpAny_loadName_local I.ok.kind hk hn hm fin) hd
 ·rcases hk with hk|hk
  ·exact wpAny_Name (wpAny_loadName_cell I.ok.kind hk hc hcell fin) hd
  ·exact wpAny_Name (wpAny_loadName_free I.ok.kind hk hc hcell fin hcd) hd
theorem jF {i j pos} : PE X (.Constant (.int i) j pos) (tC (.int i)):=fun _ _ _ H _ I h=>wpAny_Constant_int ⟨.int i,H,I.tok _,⟨_,rfl⟩,h⟩
theorem aDz {b j pos} : PE X (.Constant (.bool b) j pos) (tC (.bl b)):=fun _ _ _ H _ I h=>Constant_bool ⟨.bl b,H,I,rfl,h⟩
theorem vT {j pos} : PE X (.Constant .none j pos) (tC .non):=fun _ _ _ H _ I h=>Constant_none ⟨.non,H,I,rfl,h⟩
theorem jO {x j pos} : PE X (.Constant (.str x) j pos) (tC (.str x)):=fun _ _ _ H _ I h=>Calls.Constant_str ⟨.str x,H,I.tok _,⟨_,rfl⟩,h⟩
def Gl (X:Cx) (x:Str):Prop:=X.env.kindOf x=some .globalImplicit
theorem cN {E:Value->Shared->Prop} {pins:List (Addr × Obj)} {s:Shared} {σ:St} {H:Hp} {x:Str} {u:Value} {pos:Pos} {Q:Value->Shared->Prop} (I:Inv X pins σ H s) (hg:Gl X x) (hm:X.mg x=some u) (h:Q u s)
  (hd:(x == ("__debug__" : Str))=false:=by decide):wpAny (model X.prog X.w) X.A (eval (.Name x pos) X.env) Q E s :=
 Calls.Name_function_global I.ok.kind hg (Calls.loadGlobal_global (by rw [I.ok.glob];exact I.mod.glob.keeps I.bk) hm h) hd
theorem bW {E:Value->Shared->Prop} {pins:List (Addr × Obj)} {s:Shared} {σ:St} {H:Hp} {x:Str} {u:Value} {pos:Pos} {Q:Value->Shared->Prop} (I:Inv X pins σ H s) (hg:Gl X x) (hm:X.mg x=none) (hv:bootBuiltins x=some u) (h:Q u s)
  (hn:x ≠ "__name__":=by decide) (hd:(x == ("__debug__" : Str))=false:=by decide):wpAny (model X.prog X.w) X.A (eval (.Name x pos) X.env) Q E s:=by
 obtain⟨mb,h1,h2⟩:=I.mod.blt
 exact Calls.Name_function_global I.ok.kind hg (Calls.loadGlobal_builtin (by rw [I.ok.glob];exact I.mod.glob.keeps I.bk) hm (by rw [I.ok.blt];exact h1.keeps I.bk) ((h2 x hn).trans hv) h) hd
theorem kJ {x:Str} {v:V} {u:Value} {pos:Pos} (hg:Gl X x) (hm:X.mg x=some u) (r:RelV v u) (hd:(x == ("__debug__" : Str))=false:=by decide):PE X (.Name x pos) (tC v) :=
 fun _ _ _ H _ I h=>cN I hg hm ⟨v,H,I,r,h⟩ hd
theorem dU {x:Str} {v:V} {u:Value} {pos:Pos} (hg:Gl X x) (hm:X.mg x=none) (hv:bootBuiltins x=some u) (r:RelV v u) (hn:x ≠ "__name__":=by decide) (hd:(x == ("__debug__" : Str))=false:=by decide):PE X (.Name x pos) (tC v) :=
 fun _ _ _ H _ I h=>bW I hg hm hv ⟨v,H,I,r,h⟩ hn hd
variable {a b:Expr} {ta tb:TE} {pos:Pos}
def PC (X:Cx) (op:CmpOp) (a b:Expr) (t:TE):Prop :=
 ∀ (pins:List (Addr × Obj)) (s:Shared) (σ:St) (H:Hp) (Q:VK),Inv X pins σ H s->t σ H Q →
  wpAny (model X.prog X.w) X.A (eval a X.env) (fun v s₁=>wpAny (model X.prog X.w) X.A (eval b X.env) (fun u s₂=>wpAny (model X.prog X.w) X.A (compareOp op v u) (EP X pins σ Q) X.xe s₂) X.xe s₁) X.xe s
theorem aFr (b:Expr) {op:CmpOp} (h:op ≠ .In) (h2:op ≠ .NotIn):behindInMarks op b=false:=by
 have e1:(op == CmpOp.In)=false:=by cases op <;> first|rfl|exact absurd rfl h
 have e2:(op == CmpOp.NotIn)=false:=by cases op <;> first|rfl|exact absurd rfl h2
 cases b <;> simp [behindInMarks,e1,e2]
def tB (t:TE):TT:=fun σ H Q=>t σ H fun x H1=>∃ c,x=.bl c/\Q c H1
theorem oX {op:CmpOp} {t:TE} (h:PC X op a b t) (h1:behindInMarks op b=false:=by first|exact aFr _ (by decide) (by decide)|rfl):PT X (.Compare a [op] [b] pos) (tB t):=by
 intro pins s σ H Q I hw
 refine wpAny_isTrue_Compare1 (thn (h pins s σ H _ I hw) fun v s1 h1=>thn h1 fun u s2 h2=>thn h2 fun c s3 zq=>?_) h1
 obtain⟨x,H1,I1,r1,q1⟩:=zq
 obtain⟨d,rfl,q⟩:=q1
 cases r1
 exact wpAny_truthy_bool ⟨H1,I1,q⟩
theorem vU {e:Expr} {t:TE} (h:PE X e t) (he:∀ whole,isTrue e X.env whole=(do let v ← whole;standAt e.pos;holding [v] (truthy v)):=by intro _;rfl):PT X e (tB t):=by
 intro pins s σ H Q I hw
 refine isTrue_plain (thn (h pins s σ H _ I hw) fun v s1 zq=>?_) (he _)
 obtain⟨x,H1,I1,r1,q1⟩:=zq
 obtain⟨d,rfl,q⟩:=q1
 cases r1
 exact wpAny_truthy_bool ⟨H1,I1,q⟩
variable {tA tB':TT} {rest:List Expr}
def tAnd (t u:TT):TT:=fun σ H Q=>t σ H fun c H1=>if c=true then u σ H1 Q else Q false H1
def tOr (t u:TT):TT:=fun σ H Q=>t σ H fun c H1=>if c=true then Q true H1 else u σ H1 Q
def tNot (t:TT):TT:=fun σ H Q=>t σ H fun c H1=>Q (!c) H1
theorem vK (ha:PT X a tA):PW X (.BoolOp .And [a] pos) tA:=by
 intro wh pins s σ H Q I h
 refine isTrue_and (thn (ha pins s σ H Q I h) fun c s1 e=>?_)
 cases c with
 | true=>exact isTrue_and_nil e
 | false=>exact e
theorem mL (ha:PT X a tA):PW X (.BoolOp .Or [a] pos) tA:=by
 intro wh pins s σ H Q I h
 refine isTrue_or (thn (ha pins s σ H Q I h) fun c s1 e=>?_)
 cases c with
 | false=>exact isTrue_or_nil e
 | true=>exact e
theorem xG (ha:PT X a tA) (hb:PW X (.BoolOp .And (b::rest) pos) tB'):PW X (.BoolOp .And (a::b::rest) pos) (tAnd tA tB'):=by
 intro wh pins s σ H Q I h
 refine isTrue_and (thn (ha pins s σ H _ I h) fun c s1 zq=>?_)
 obtain⟨H1,I1,q1⟩:=zq
 cases c with
 | true=>exact hb wh pins s1 σ H1 Q I1 q1
 | false=>exact⟨H1,I1,q1⟩
theorem sZ (ha:PT X a tA) (hb:PW X (.BoolOp .Or (b::rest) pos) tB'):PW X (.BoolOp .Or (a::b::rest) pos) (tOr tA tB'):=by
 intro wh pins s σ H Q I h
 refine isTrue_or (thn (ha pins s σ H _ I h) fun c s1 zq=>?_)
 obtain⟨H1,I1,q1⟩:=zq
 cases c with
 | true=>exact⟨H1,I1,q1⟩
 | false=>exact hb wh pins s1 σ H1 Q I1 q1
theorem yI (ha:PT X a tA):PT X (.UnaryOp .Not a pos) (tNot tA):=by
 intro pins s σ H Q I h
 exact isTrue_not (ha pins s σ H (fun c H1=>Q (!c) H1) I h)
def tAndV (ta tb:TE):TE:=fun σ H Q=>ta σ H fun x H1=>∃ c,x=.bl c/\if c=true then tb σ H1 Q else Q (.bl false) H1
def tOrV (ta tb:TE):TE:=fun σ H Q=>ta σ H fun x H1=>∃ c,x=.bl c/\if c=true then Q (.bl true) H1 else tb σ H1 Q
theorem aI {op} {t:TE} (h:PE X a t):PE X (.BoolOp op [a] pos) t:=fun pins s σ H Q I hw=>BoolOp_one (h pins s σ H Q I hw)
theorem yZ (ha:PE X a ta) (hb:PE X (.BoolOp .And (b::rest) pos) tb):PE X (.BoolOp .And (a::b::rest) pos) (tAndV ta tb):=by
 intro pins s σ H Q I h
 refine BoolOp_and (thn (ha pins s σ H _ I h) fun v s1 zq=>?_)
 obtain⟨x,H1,I1,r1,q1⟩:=zq
 obtain⟨c,rfl,q1⟩:=q1
 cases r1
 refine wpAny_truthy_bool ?_
 cases c with
 | true=>exact hb pins s1 σ H1 Q I1 q1
 | false=>exact⟨.bl false,H1,I1,rfl,q1⟩
theorem pe_or (ha:PE X a ta) (hb:PE X (.BoolOp .Or (b::rest) pos) tb):PE X (.BoolOp .Or (a::b::rest) pos) (tOrV ta tb):=by
 intro pins s σ H Q I h
 refine BoolOp_or (thn (ha pins s σ H _ I h) fun v s1 zq=>?_)
 obtain⟨x,H1,I1,r1,q1⟩:=zq
 obtain⟨c,rfl,q1⟩:=q1
 cases r1
 refine wpAny_truthy_bool ?_
 cases c with
 | false=>exact hb pins s1 σ H1 Q I1 q1
 | true=>exact⟨.bl true,H1,I1,rfl,q1⟩
def tIf (t:TT) (ta tb:TE):TE:=fun σ H Q=>t σ H fun c H1=>if c=true then ta σ H1 Q else tb σ H1 Q
theorem vF {c:Expr} (hc:PT X c tA) (ha:PE X a ta) (hb:PE X b tb):PE X (.IfExp c a b pos) (tIf tA ta tb):=by
 intro pins s σ H Q I h
 refine wpAny_IfExp (thn (hc pins s σ H _ I h) fun d s1 zq=>?_)
 obtain⟨H1,I1,q1⟩:=zq
 cases d with
 | true=>exact ha pins s1 σ H1 Q I1 q1
 | false=>exact hb pins s1 σ H1 Q I1 q1
end
def SqL (K:Frag) (H:Hp) (a:Addr) (xs:List V):Prop :=
 Rd H a (.lst xs) ∨
  ∃ (o:Obj) (its:Array Value) (n:Nat),K.lookup a=some o/\o.cls=.type "list"/\o.dict=none/\o.data=.seq its n/\its.size<=sizeLine/\kC xs its.toList
def SqT (K:Frag) (H:Hp) (a:Addr) (xs:List V):Prop :=
 Rd H a (.tup xs) ∨
  ∃ (o:Obj) (its:Array Value) (n:Nat),K.lookup a=some o/\o.cls=.type "tuple"/\o.data=.seq its n/\its.size<=sizeLine/\kC xs its.toList
def absV:Value->Option V
 | .none=>some .non
 | .bool b=>some (.bl b)
 | .int i _=>some (.int i)
 | .str x _=>some (.str x)
 | .bytes b _=>some (.byt b)
 | .float b _=>some (.flt b)
 | .ref a=>some (.ref a)
 | .type n=>some (.ty n)
 | _=>none
theorem RelV.abs {x:V} {u:Value} (r:RelV x u):absV u=some x:=by
 cases x with
 | non=>cases r;rfl
 | bl _=>cases r;rfl
 | int _=>obtain⟨t,rfl⟩:=r;rfl
 | str _=>obtain⟨t,rfl⟩:=r;rfl
 | byt _=>obtain⟨t,rfl⟩:=r;rfl
 | flt _=>obtain⟨t,rfl⟩:=r;rfl
 | ref _=>cases r;rfl
 | ty _=>cases r;rfl
theorem RelV.inj {x y:V} {u:Value} (r:RelV x u) (q:RelV y u):x=y:=Option.some.inj (r.abs.symm.trans q.abs)
theorem kC.inj:∀ {xs ys:List V} {us:List Value},kC xs us->kC ys us->xs=ys
 | _,_,_,.nil,.nil=>rfl
 | _,_,_,.cons r t,.cons r' t'=>by rw [r.inj r',kC.inj t t']
section
variable {X:Cx} {pins:List (Addr × Obj)} {σ:St} {H:Hp} {s:Shared} {a:Addr} {xs ys:List V}
theorem SqL.of {K:Frag} (h:H a=some (.lst xs)):SqL K H a xs:=.inl (.inl h)
theorem SqT.of {K:Frag} (h:H a=some (.tup xs)):SqT K H a xs:=.inl (.inl h)
theorem Inv.list (I:Inv X pins σ H s) (h:SqL X.K H a xs):∃ its:List Value,kC xs its/\PlainL s.heap a its.toArray/\xs.length<=sizeLine:=by
 rcases h with h|⟨o,its,n,hk,hc,hd,hs,hz,r⟩
 ·obtain⟨z,its,n,r,e⟩:=h.ok I.hok
  exact⟨its,r,⟨_,n,e,rfl,rfl,rfl⟩,z⟩
 ·refine⟨its.toList,r,⟨o,n,I.kIn a o hk,hc,hd,by simpa using hs⟩,?_⟩
  have e:=r.length
  simp only [Array.length_toList] at e
  omega
theorem Inv.tuple (I:Inv X pins σ H s) (h:SqT X.K H a xs):∃ its:List Value,kC xs its/\IsTup s.heap a its.toArray/\xs.length<=sizeLine:=by
 rcases h with h|⟨o,its,n,hk,hc,hs,hz,r⟩
 ·obtain⟨z,its,r,p⟩:=h.ok I.hok
  exact⟨its,r,p,z⟩
 ·refine⟨its.toList,r,⟨o,I.kIn a o hk,hc,n,by simpa using hs⟩,?_⟩
  have e:=r.length
  simp only [Array.length_toList] at e
  omega
theorem Inv.list_inj (I:Inv X pins σ H s) (h:SqL X.K H a xs) (h':SqL X.K H a ys):xs=ys:=by
 obtain⟨its,r,⟨o,n,e,_,_,d⟩,_⟩:=I.list h
 obtain⟨its',r',⟨o',n',e',_,_,d'⟩,_⟩:=I.list h'
 rw [e] at e';cases e'
 rw [d] at d'
 injection d' with d1 _
 have:its=its':=by simpa using congrArg Array.toList d1
 subst this
 exact r.inj r'
theorem Inv.tuple_inj (I:Inv X pins σ H s) (h:SqT X.K H a xs) (h':SqT X.K H a ys):xs=ys:=by
 obtain⟨its,r,⟨o,e,_,n,d⟩,_⟩:=I.tuple h
 obtain⟨its',r',⟨o',e',_,n',d'⟩,_⟩:=I.tuple h'
 rw [e] at e';cases e'
 rw [d] at d'
 injection d' with d1 _
 have:its=its':=by simpa using congrArg Array.toList d1
 subst this
 exact r.inj r'
end
abbrev Cx.wish (X:Cx) (E:Value->Shared->Prop):Cx:={ X with xe:=E }
abbrev Cx.nox (X:Cx):Cx:=X.wish fun _ _=>False
theorem Cx.Ok.wish {X:Cx} (ok:X.Ok) (E:Value->Shared->Prop):(X.wish E).Ok :=
 ⟨ok.mod,ok.kind,ok.glob,ok.blt,ok.above,ok.inj,ok.has,ok.cab,ok.hd,ok.frames,ok.stk,ok.exf,ok.bs,ok.bsz,ok.noex,ok.exfs,ok.funs,ok.frf⟩
theorem Cx.Ok.unwish {X:Cx} {E:Value->Shared->Prop} (ok:(X.wish E).Ok):X.Ok :=
 ⟨ok.mod,ok.kind,ok.glob,ok.blt,ok.above,ok.inj,ok.has,ok.cab,ok.hd,ok.frames,ok.stk,ok.exf,ok.bs,ok.bsz,ok.noex,ok.exfs,ok.funs,ok.frf⟩
section
variable {X:Cx} {pins:List (Addr × Obj)} {σ:St} {H:Hp} {s:Shared} {E:Value->Shared->Prop}
theorem Inv.wish (I:Inv X pins σ H s) (E:Value->Shared->Prop):Inv (X.wish E) pins σ H s:=⟨I.ok.wish E,I.os,I.bare,I.base,I.loc,I.cell,I.free,I.freeC,I.pin,I.hok,I.len⟩
theorem Inv.unwish (I:Inv (X.wish E) pins σ H s):Inv X pins σ H s:=⟨I.ok.unwish,I.os,I.bare,I.base,I.loc,I.cell,I.free,I.freeC,I.pin,I.hok,I.len⟩
theorem SP.unwish {D:Ends} {f:Flow} {s':Shared} (h:SP (X.wish E) pins D f s'):SP X pins D f s':=by
 cases f with
 | next=>obtain⟨σ',H',I,q⟩:=h;exact⟨σ',H',I.unwish,q⟩
 | brk=>obtain⟨σ',H',I,q⟩:=h;exact⟨σ',H',I.unwish,q⟩
 | cont=>obtain⟨σ',H',I,q⟩:=h;exact⟨σ',H',I.unwish,q⟩
 | ret u=>obtain⟨v,σ',H',I,r,q⟩:=h;exact⟨v,σ',H',I.unwish,r,q⟩
theorem PE.nox {e:Expr} {t:TE} (h:PE X.nox e t):PE X e t:=fun pins s σ H Q I hw =>
 wpAny_mono (h pins s σ H Q (I.wish _) hw) (fun _ _ ⟨v,H',I',r,q⟩=>⟨v,H',I'.unwish,r,q⟩) fun _ _ z=>False.elim z
theorem PT.nox {e:Expr} {t:TT} (h:PT X.nox e t):PT X e t:=fun pins s σ H Q I hw =>
 wpAny_mono (h pins s σ H Q (I.wish _) hw) (fun _ _ ⟨H',I',q⟩=>⟨H',I'.unwish,q⟩) fun _ _ z=>False.elim z
theorem PSs.nox {st:List Stmt} {t:TS} (h:PSs X.nox st t):PSs X st t:=fun pins s σ H D I hw =>
 wpAny_mono (h pins s σ H D (I.wish _) hw) (fun _ _ q=>q.unwish) fun _ _ z=>False.elim z
end
section
variable {X:Cx} {st:Stmt} {rest:List Stmt} {t u:TS} {e:Expr} {te:TE} {pos:Pos}
def aIn:TS:=fun D σ H=>D.nx σ H
def tSeq (t u:TS):TS:=fun D σ H=>t { D with nx:=u D } σ H
theorem jU:PSs X [] aIn:=fun _ _ σ H _ I h=>wpAny_execs_nil ⟨σ,H,I,h⟩
theorem jD (h1:PS X st t) (h2:PSs X rest u):PSs X (st::rest) (tSeq t u):=by
 intro pins s σ H D I h
 refine wpAny_execs_cons (thn (h1 pins s σ H { D with nx:=u D } I h) fun f s1 q=>?_)
 cases f with
 | next =>
  obtain⟨σ',H',I',q⟩:=q
  exact h2 pins s1 σ' H' D I' q
 | ret v=>exact q
 | brk=>exact q
 | cont=>exact q
theorem jE (h1:PS X st t):PSs X [st] t:=by
 intro pins s σ H D I h
 refine wpAny_execs_cons (thn (h1 pins s σ H D I h) fun f s1 q=>?_)
 cases f with
 | next=>exact wpAny_execs_nil q
 | ret v=>exact q
 | brk=>exact q
 | cont=>exact q
theorem Inv.quiet {pins:List (Addr × Obj)} {σ:St} {H:Hp} {s:Shared} (I:Inv X pins σ H s):interactive X.env=false:=by simp [interactive,I.ok.kind]
def tDrop (te:TE):TS:=fun D σ H=>te σ H fun _ H1=>D.nx σ H1
theorem qD (he:PE X e te) (hs:swapsWith e none pos.line X.env=pure false:=by rfl):PS X (.Expr e pos) (tDrop te):=by
 intro pins s σ H D I h
 exact wpAny_Expr_any (thn (he pins s σ H _ I h) fun v s1 ⟨x,H1,I1,r1,q1⟩=>⟨σ,H1,I1,q1⟩) I.quiet hs
def tRet (te:TE):TS:=fun D σ H=>te σ H D.rt
theorem jP (he:PE X e te):PS X (.Return (some e) pos) (tRet te):=by
 intro pins s σ H D I h
 exact wpAny_Return_some (thn (he pins s σ H _ I h) fun v s1 ⟨x,H1,I1,r1,q1⟩=>⟨x,σ,H1,I1,r1,q1⟩)
def tIfS (c:TT) (t u:TS):TS:=fun D σ H=>c σ H fun b H1=>if b=true then t D σ H1 else u D σ H1
theorem kI {c:Expr} {a b:List Stmt} {tc:TT} (hc:PT X c tc) (ha:PSs X a t) (hb:PSs X b u):PS X (.If c a b pos) (tIfS tc t u):=by
 intro pins s σ H D I h
 refine wpAny_If (thn (hc pins s σ H _ I h) fun d s1 zq=>?_)
 obtain⟨H1,I1,q1⟩:=zq
 cases d with
 | true=>exact ha pins s1 σ H1 D I1 q1
 | false=>exact hb pins s1 σ H1 D I1 q1
def aJj:TS:=fun _ _ _=>False
theorem vO:PS X st aJj:=fun _ _ _ _ _ _ h=>h.elim
end
abbrev TG:=V->St->Hp->(St->Hp->Prop)->Prop
abbrev TGs:=List V->St->Hp->(St->Hp->Prop)->Prop
def PG (X:Cx) (target:Expr) (t:TG):Prop :=
 ∀ (pins:List (Addr × Obj)) (s:Shared) (σ:St) (H:Hp) (v:V) (u:Value) (Q:St->Hp->Prop),Inv X pins σ H s->RelV v u->t v σ H Q →
  wpAny (model X.prog X.w) X.A (assign target X.env u) (fun _ s'=>∃ σ' H',Inv X pins σ' H' s'/\Q σ' H') X.xe s
def PGs (X:Cx) (ts:List Expr) (t:TGs):Prop :=
 ∀ (pins:List (Addr × Obj)) (s:Shared) (σ:St) (H:Hp) (vs:List V) (us:List Value) (Q:St->Hp->Prop),Inv X pins σ H s->kC vs us->t vs σ H Q →
  wpAny (model X.prog X.w) X.A (assignInOrder ((assignEach ts X.env).map (·.2)) us) (fun _ s'=>∃ σ' H',Inv X pins σ' H' s'/\Q σ' H') X.xe s
abbrev TSet:=V->V->V->Hp->(Hp->Prop)->Prop
def PSet (X:Cx) (t:TSet):Prop :=
 ∀ (pins:List (Addr × Obj)) (s:Shared) (σ:St) (H:Hp) (o i v:V) (ov iv u:Value) (Q:Hp->Prop),Inv X pins σ H s->RelV o ov->RelV i iv->RelV v u->t o i v H Q →
  wpAny (model X.prog X.w) X.A (setItem ov iv u) (fun _ s'=>∃ H',Inv X pins σ H' s'/\Q H') X.xe s
section
variable {X:Cx} {pos:Pos}
def cU (i:Nat):TG:=fun v σ H Q=>Q (σ.set i (some v)) H
theorem jV {i:Nat} {x:Str} (hN:X.N.Nodup) (hi:X.N[i]?=some x) (hx:Loc X.env.scope x) (hf:X.fn x=true\/X.env.scope.names.lookup x=some .local:=by first|exact .inl rfl|exact .inr rfl|assumption):PG X (.Name x pos) (cU i):=by
 intro pins s σ H v u Q I r h
 exact wpAny_assign_Name (tJ I hN hi hx r (fun s' I'=>⟨_,H,I',h⟩) hf)
def gNil:TGs:=fun vs σ H Q=>vs=[]/\Q σ H
def gCons (t:TG) (u:TGs):TGs:=fun vs σ H Q=>∃ v r,vs=v::r/\t v σ H fun σ' H'=>u r σ' H' Q
theorem qK:PGs X [] gNil:=by
 intro pins s σ H vs us Q I r h
 obtain⟨e,h⟩:=h
 subst e
 cases r
 exact assignInOrder_nil ⟨σ,H,I,h⟩
theorem jZ {e:Expr} {es:List Expr} {t:TG} {u:TGs} (h1:PG X e t) (h2:PGs X es u)
  (hs:(assignEach (e::es) X.env).map (·.2)=assign e X.env::(assignEach es X.env).map (·.2):=by rfl):PGs X (e::es) (gCons t u):=by
 intro pins s σ H vs us Q I r h
 obtain⟨v,vr,e1,h⟩:=h
 subst e1
 cases r with
 | cons r rr =>
  rw [hs]
  refine assignInOrder_cons (thn (h1 pins s σ H _ _ _ I r h) fun _ s1 zq=>?_)
  obtain⟨σ1,H1,I1,q1⟩:=zq
  exact h2 pins s1 σ1 H1 _ _ Q I1 rr q1
def gTup (K:Frag) (n:Nat) (t:TGs):TG:=fun v σ H Q=>∃ a xs,v=.ref a/\SqT K H a xs/\xs.length=n/\t xs σ H Q
theorem xC {es:List Expr} {k:Nat} {t:TGs} {n:Nat} (hc:X.calm=true) (h:PGs X es t)
  (hn:(assignEach es X.env).length=n:=by rfl) (hst:(assignEach es X.env).findIdx? (·.1)=none:=by rfl):PG X (.Tuple es k pos) (gTup X.K n t):=by
 intro pins s σ H v u Q I r hw
 obtain⟨a,xs,e1,hq,hl,hw⟩:=hw
 subst e1
 cases r
 obtain⟨its,rv,ht,hz⟩:=I.tuple hq
 refine assign_Tuple_tuple (I.ok.hd hc) ht (by simp [hn,← hl,rv.length]) hst fun h' hx=>?_
 have I1:Inv X pins σ H { s with heap:=h' }:=I.kept (t':=s.toks) fun b o e=>hx b o (Nat.ne_of_lt (Heap.lt_size e)) e
 exact h pins _ σ H xs _ Q I1 (by simpa using rv) hw
def gSub (to ti:TE) (t:TSet):TG:=fun v σ H Q=>to σ H fun o H1=>ti σ H1 fun i H2=>t o i v H2 fun H3=>Q σ H3
theorem uW {o i:Expr} {to ti:TE} {t:TSet} (ho:PE X o to) (hi:PE X i ti) (hs:PSet X t)
  (ha:∀ v,assign (.Subscript o i pos) X.env v=(do
   let ov ← holding [v] (eval o X.env)
   let iv ← holding [v,ov] (eval i X.env)
   standAt pos
   holding [v,ov,iv] (setItem ov iv v)
   release [v,ov,iv] []):=by intro _;rfl):PG X (.Subscript o i pos) (gSub to ti t):=by
 intro pins s σ H v u Q I r h
 rw [ha]
 refine wpAny_bind (wpAny_holding (thn (ho pins s σ H _ I h) fun ov s1 zq=>?_))
 obtain⟨x,H1,I1,r1,q1⟩:=zq
 refine wpAny_bind (wpAny_holding (thn (hi pins s1 σ H1 _ I1 q1) fun iv s2 zq=>?_))
 obtain⟨y,H2,I2,r2,q2⟩:=zq
 refine wpAny_bind (wpAny_standAt (wpAny_bind (wpAny_holding (thn (hs pins s2 σ H2 x y v ov iv u _ I2 r1 r2 r q2) fun _ s3 zq=>?_))))
 obtain⟨H3,I3,q3⟩:=zq
 exact wpAny_release ⟨σ,H3,I3,q3⟩
def tAsg (te:TE) (g:TG):TS:=fun D σ H=>te σ H fun x H1=>g x σ H1 D.nx
theorem aW {tg e:Expr} {te:TE} {g:TG} (he:PE X e te) (hg:PG X tg g) (hs:swapsWithSole [tg] e pos.line X.env=pure false:=by rfl) (hw:swappedStores [tg] e X.env=pure none:=by rfl)
  (h1:(assignEach [tg] X.env).map (·.2)=[assign tg X.env]:=by rfl):PS X (.Assign [tg] e pos) (tAsg te g):=by
 intro pins s σ H D I h
 refine wpAny_Assign_stores (thn (he pins s σ H _ I h) fun v s1 zq=>?_) hs hw
 obtain⟨x,H1,I1,r1,q1⟩:=zq
 rw [h1]
 exact thn (hg pins s1 σ H1 x v _ I1 r1 q1) fun _ s2 q=>q
theorem kB {i:Nat} {x:Str} {e:Expr} {te:TE} {pos':Pos} (hN:X.N.Nodup) (hi:X.N[i]?=some x) (hx:Loc X.env.scope x) (he:PE X e te) (hs:swapsWith e (some (.Name x pos')) pos.line X.env=pure false:=by rfl) (hf:X.fn x=true\/X.env.scope.names.lookup x=some .local:=by first|exact .inl rfl|exact .inr rfl|assumption) :
  PS X (.Assign [.Name x pos'] e pos) (tAsg te (cU i)):=by
 intro pins s σ H D I h
 refine wpAny_Assign_Name (thn (he pins s σ H _ I h) fun v s1 zq=>?_) hs
 obtain⟨y,H1,I1,r1,q1⟩:=zq
 exact tJ I1 hN hi hx r1 (fun s2 I2=>⟨_,H1,I2,q1⟩) hf
end
section
variable {X:Cx} {pos:Pos}
def aLd (c:TT) (tb:TS):TS:=fun D σ H=>∃ W:Nat->St->Hp->Prop,(∃ m,W m σ H)/\∀ m σ H,W m σ H →
 c σ H fun b H1=>if b=true then ∃ N:St->Hp->Prop,(∀ σ' H',N σ' H'->∃ m',m' < m/\W m' σ' H')/\tb { D with nx:=N,ct:=N,bk:=D.nx } σ H1 else D.nx σ H1
theorem sD {c:Expr} {body:List Stmt} {tc:TT} {tb:TS} (hp:PassesOwn (model X.prog X.w) X.A X.env X.xe) (hc:PT X c tc) (hb:PSs X body tb):PS X (.While c body [] pos) (aLd tc tb):=by
 intro pins s σ H D I h
 obtain⟨W,⟨m0,w0⟩,turn⟩:=h
 refine wpAny_While (codeAny_whileLoop (fun n s'=>∃ σ' H',Inv X pins σ' H' s'/\W n σ' H') ?_ m0 ⟨σ,H,I,w0⟩)
 rintro n s1 ⟨σ1,H1,I1,w1⟩
 refine wpAny_passesOwn hp (thn (hc pins s1 σ1 H1 _ I1 (turn n σ1 H1 w1)) fun b s2 zq=>?_)
 obtain⟨H2,I2,q2⟩:=zq
 cases b with
 | true =>
  obtain⟨N,hN,q2⟩:=q2
  rw [if_pos rfl]
  refine wpAny_passesOwn hp (thn (hb pins s2 σ1 H2 _ I2 q2) fun f s3 q3=>?_)
  cases f with
  | next =>
   obtain⟨σ3,H3,I3,n3⟩:=q3
   obtain⟨m',hm,w3⟩:=hN σ3 H3 n3
   exact⟨m',hm,σ3,H3,I3,w3⟩
  | cont =>
   obtain⟨σ3,H3,I3,n3⟩:=q3
   obtain⟨m',hm,w3⟩:=hN σ3 H3 n3
   exact⟨m',hm,σ3,H3,I3,w3⟩
  | brk=>exact q3
  | ret v=>exact q3
 | false =>
  rw [if_neg Bool.false_ne_true]
  exact wpAny_execs_nil ⟨σ1,H2,I2,q2⟩
end
structure It where
 go:Nat->Hp->Prop
 yld:Nat->Hp->V->Hp->Prop
 stop:Nat->Hp->Prop
def bD (X:Cx) (pins:List (Addr × Obj)) (H:Hp) (b:Addr):Prop :=
 H b=none/\b ≠ X.env.locals/\b ∉ X.fs/\(b ∈ X.ex\/X.s₀.heap.objs.size<=b)/\(∀ x c,X.env.cells.lookup x=some c->c ≠ b)/\∀ p ∈ X.pn++pins,p.1 ≠ b
theorem Inv.fpOk {X:Cx} {pins:List (Addr × Obj)} {σ:St} {H H':Hp} {s:Shared} {b:Addr} (I:Inv X pins σ H s) (hb:s.heap.objs.size<=b) (hn:H' b=none):bD X pins H' b:=by
 refine⟨hn,Nat.ne_of_gt (Nat.lt_of_lt_of_le I.lt hb),I.nofs hb,.inr (Nat.le_trans I.sz hb),fun x c e z=>?_,fun p hp z=>?_⟩
 ·obtain⟨v,q⟩:=I.cell x c e
  exact absurd (Nat.lt_of_lt_of_le q.lt (by rw [z];exact hb)) (Nat.lt_irrefl _)
 ·exact absurd (Nat.lt_of_lt_of_le (Heap.lt_size (I.pin p hp).1) (by rw [z];exact hb)) (Nat.lt_irrefl _)
structure Turn (P:Program) (w:World) (K:Frag) (tg:Expr) (J:It) (fp:List Addr) (it:Addr) (tn:Nat->Heap->Prop):Prop where
 mem:it ∈ fp
 obj:∀ i h,tn i h->∀ b ∈ fp,∃ o,h.get? b=some o/\∀ v,o.data ≠ .cell v
 keep:∀ i h h',tn i h->(∀ b ∈ fp,∀ o,h.get? b=some o->h'.get? b=some o)->tn i h'
 item:∀ (X:Cx),X.prog=P->X.w=w->X.K=K->X.calm=true->∀ (i:Nat) (pins:List (Addr × Obj)) (s:Shared) (σ:St) (H:Hp) (E:Value->Shared->Prop),Inv X pins σ H s->(∀ b ∈ fp,bD X pins H b)->tn i s.heap->J.go i H →
  wpAny (model P w) X.A (pyNext (.ref it)) (fun r s1=>∃ u,r=some u ∧
   wpAny (model P w) X.A (letOwnedTupleGo tg (.ref it) u) (fun _ s2=>∃ x H',Inv X pins σ H' s2/\RelV x u/\J.yld i H x H'/\tn (i + 1) s2.heap/\∀ b ∈ fp,H' b=none) E s1) E s
 done:∀ (X:Cx),X.prog=P->X.w=w->X.K=K->X.calm=true->∀ (i:Nat) (pins:List (Addr × Obj)) (s:Shared) (σ:St) (H:Hp) (E:Value->Shared->Prop),Inv X pins σ H s->(∀ b ∈ fp,bD X pins H b)->tn i s.heap->J.stop i H →
  wpAny (model P w) X.A (pyNext (.ref it)) (fun r s1=>r=none/\Inv X pins σ H s1) E s
 self:∀ (A:Around) (i:Nat) (s:Shared) (Q:Value->Shared->Prop) (E:Value->Shared->Prop),tn i s.heap->Q (.ref it) s->wpAny (model P w) A (pyIter (.ref it)) Q E s
abbrev TI:=St->Hp->(It->Hp->Prop)->Prop
def PIE (X:Cx) (pins:List (Addr × Obj)) (σ:St) (tg:Expr) (R:It->Hp->Prop) (itv:Value) (s2:Shared):Prop :=
 ∃ (it:Addr) (fp:List Addr) (tn:Nat->Heap->Prop) (J:It) (H':Hp),itv=.ref it/\Inv X pins σ H' s2/\Turn X.prog X.w X.K tg J fp it tn/\tn 0 s2.heap/\(∀ b ∈ fp,bD X pins H' b)/\R J H'
def PI (X:Cx) (tg iter:Expr) (wi:TI):Prop :=
 ∀ (pins:List (Addr × Obj)) (s:Shared) (σ:St) (H:Hp) (R:It->Hp->Prop),Inv X pins σ H s->wi σ H R →
  wpAny (model X.prog X.w) X.A (eval iter X.env) (fun v s1=>wpAny (model X.prog X.w) X.A (pyIter v) (PIE X pins σ tg R) X.xe s1) X.xe s
theorem wX {M:Model} {A:Around} {E:Value->Shared->Prop} {s:Shared} {tg:Expr} {it:Addr} {u:Value} {o:Obj} {n:String} {vs:Array Value} {Q:Unit->Shared->Prop} (ho:s.heap.get? it=some o) (hc:o.cls=.type n) (hd:o.data=.fields vs)
  (hn : ["enumerate","zip","dict_itemiterator","dict_reverseitemiterator","odict_iterator","itertools.zip_longest","itertools.pairwise"].contains n=false) (hQ:Q () s):wpAny M A (letOwnedTupleGo tg (.ref it) u) Q E s:=by
 unfold letOwnedTupleGo
 cases tg <;> first
  | exact wpAny_pure hQ
  | (cases u <;> first
      | exact wpAny_pure hQ
      | (refine wpAny_bind (wpAny_load ho ?_)
         rw [hc,hd]
         show wpAny M A (if (["enumerate","zip","dict_itemiterator","dict_reverseitemiterator","odict_iterator","itertools.zip_longest","itertools.pairwise"].contains n && vs[0]? == some (rawInt _))=true then _ else _) Q E s
         rw [if_neg (by intro h;rw [hn,Bool.false_and] at h;cases h)]
         exact wpAny_pure hQ))
def Itl (K:Frag) (a:Addr):It :=
 ⟨fun i H=>∃ xs x,SqL K H a xs/\xs[i]?=some x,fun i H x H'=>H'=H/\∀ xs,SqL K H a xs->xs[i]?=some x,fun i H=>∃ xs,SqL K H a xs/\xs.length<=i⟩
def Itt (K:Frag) (a:Addr):It :=
 ⟨fun i H=>∃ xs x,SqT K H a xs/\xs[i]?=some x,fun i H x H'=>H'=H/\∀ xs,SqT K H a xs->xs[i]?=some x,fun i H=>∃ xs,SqT K H a xs/\xs.length<=i⟩
def Itr (lo:Int) (n:Nat):It:=⟨fun i _=>i < n,fun i H x H'=>H'=H/\x=.int (lo + i),fun i _=>n<=i⟩
theorem nU {P:Program} {w:World} {K:Frag} {tg:Expr} (a it:Addr):Turn P w K tg (Itl K a) [it] it (fun i h=>h.IsListIter it a i) where
 mem:=by simp
 obj:=fun i h st b hb=>by
  have e:b=it:=by simpa using hb
  subst e
  obtain⟨o,e,c,d⟩:=st
  exact⟨o,e,fun v z=>by rw [d] at z;cases z⟩
 keep:=fun i h h' st k=>st.at fun o e=>k it (by simp) o e
 item:=by
  intro X hP hw hK hc i pins s σ H E I hf st hg
  subst hP hw hK
  obtain⟨xs,x,hq,hx⟩:=hg
  obtain⟨its,rv,p,hz⟩:=I.list hq
  obtain⟨u,hu,ru⟩:=rv.get hx
  obtain⟨f0,f1,f2,f3,f4,f5⟩:=hf it (by simp)
  refine wpAny_pyNext_list_item st p.isList (x:=u) (by simpa using hu) fun h' st' sb=>?_
  have I1:Inv X pins σ H { s with heap:=h' }:=I.turned (t':=s.toks) (fun b o hb e=>(sb.2 b hb).trans e) f0 f1 f3 f4 f5
  obtain⟨o,e,c,d⟩:=id st'
  exact⟨u,rfl,wX (s:={ s with heap:=h' }) e c d (by decide) ⟨x,H,I1,ru,⟨rfl,fun ys hy=>by rw [I.list_inj hy hq];exact hx⟩,st',fun b hb=>(hf b hb).1⟩⟩
 done:=by
  intro X hP hw hK hc i pins s σ H E I hf st hg
  subst hP hw hK
  obtain⟨xs,hq,hx⟩:=hg
  obtain⟨its,rv,p,hz⟩:=I.list hq
  obtain⟨f0,f1,f2,f3,f4,f5⟩:=hf it (by simp)
  have hl:=rv.length
  exact wpAny_pyNext_list_end (I.ok.hd hc) st p.isList (by simp;omega) fun h' eb=>⟨rfl,I.turned (t':=s.toks) (fun b o hb e=>eb b o hb e) f0 f1 f3 f4 f5⟩
 self:=fun _ _ _ _ _ st h=>wpAny_pyIter_listiter st h
theorem lD {P:Program} {w:World} {K:Frag} {tg:Expr} (a it:Addr):Turn P w K tg (Itt K a) [it] it (fun i h=>h.IsTupleIter it a i) where
 mem:=by simp
 obj:=fun i h st b hb=>by
  have e:b=it:=by simpa using hb
  subst e
  obtain⟨o,e,c,d⟩:=st
  exact⟨o,e,fun v z=>by rw [d] at z;cases z⟩
 keep:=fun i h h' st k=>st.at fun o e=>k it (by simp) o e
 item:=by
  intro X hP hw hK hc i pins s σ H E I hf st hg
  subst hP hw hK
  obtain⟨xs,x,hq,hx⟩:=hg
  obtain⟨its,rv,p,hz⟩:=I.tuple hq
  obtain⟨u,hu,ru⟩:=rv.get hx
  obtain⟨f0,f1,f2,f3,f4,f5⟩:=hf it (by simp)
  refine wpAny_pyNext_tuple_item st (show s.heap.IsTuple a its.toArray from p) (x:=u) (by simpa using hu) fun h' st' sb=>?_
  have I1:Inv X pins σ H { s with heap:=h' }:=I.turned (t':=s.toks) (fun b o hb e=>(sb.2 b hb).trans e) f0 f1 f3 f4 f5
  obtain⟨o,e,c,d⟩:=id st'
  exact⟨u,rfl,wX (s:={ s with heap:=h' }) e c d (by decide) ⟨x,H,I1,ru,⟨rfl,fun ys hy=>by rw [I.tuple_inj hy hq];exact hx⟩,st',fun b hb=>(hf b hb).1⟩⟩
 done:=by
  intro X hP hw hK hc i pins s σ H E I hf st hg
  subst hP hw hK
  obtain⟨xs,hq,hx⟩:=hg
  obtain⟨its,rv,p,hz⟩:=I.tuple hq
  obtain⟨f0,f1,f2,f3,f4,f5⟩:=hf it (by simp)
  have hl:=rv.length
  exact wpAny_pyNext_tuple_end (I.ok.hd hc) st (show s.heap.IsTuple a its.toArray from p) (by simp;omega) fun h' eb=>⟨rfl,I.turned (t':=s.toks) (fun b o hb e=>eb b o hb e) f0 f1 f3 f4 f5⟩
 self:=fun _ _ _ _ _ st h=>wpAny_pyIter_tupleiter st h
theorem wP {P:Program} {w:World} {K:Frag} {tg:Expr} (it:Addr) (lo:Int) (n:Nat):Turn P w K tg (Itr lo n) [it] it (fun i h=>IsRangeIter h it (lo + (i:Nat) * 1) ((n:Int) - (i:Nat)) 1) where
 mem:=by simp
 obj:=fun i h st b hb=>by
  have e:b=it:=by simpa using hb
  subst e
  exact⟨_,st,fun v z=>by
   have z':Data.fields _=Data.cell v:=z
   cases z'⟩
 keep:=fun i h h' st k=>k it (by simp) _ st
 item:=by
  intro X hP hw hK hc i pins s σ H E I hf st hg
  subst hP hw hK
  obtain⟨f0,f1,f2,f3,f4,f5⟩:=hf it (by simp)
  have W:=Walks.range (prog:=X.prog) (w:=X.w) (I.ok.hd hc) it lo 1 n
  refine W.item i s _ _ hg st fun v h' tk hv st' kk=>?_
  obtain⟨t,rfl⟩:=hv
  have I1:Inv X pins σ H { s with heap:=h',toks:=tk }:=I.turned (fun b o hb e=>kk b o (by simpa using hb) e) f0 f1 f3 f4 f5
  refine⟨_,rfl,wX (s:={ s with heap:=h',toks:=tk }) (n:="range_iterator") st' rfl rfl (by decide) ⟨.int (lo + i),H,I1,⟨t,?_⟩,⟨rfl,rfl⟩,st',fun b hb=>(hf b hb).1⟩⟩
  rw [Int.mul_one]
 done:=by
  intro X hP hw hK hc i pins s σ H E I hf st hg
  subst hP hw hK
  obtain⟨f0,f1,f2,f3,f4,f5⟩:=hf it (by simp)
  exact wpAny_pyNext_range_end (I.ok.hd hc) st (by have:n<=i:=hg;omega) fun h' eb=>⟨rfl,I.turned (t':=s.toks) (fun b o hb e=>eb b o hb e) f0 f1 f3 f4 f5⟩
 self:=fun _ _ _ _ _ st h=>wpAny_pyIter_rangeiter st h
section
variable {X:Cx} {tg:Expr}
def iList (K:Frag) (tl:TE):TI:=fun σ H R=>tl σ H fun x H1=>∃ a,x=.ref a/\(∃ xs,SqL K H1 a xs)/\R (Itl K a) H1
def iTup (K:Frag) (tl:TE):TI:=fun σ H R=>tl σ H fun x H1=>∃ a,x=.ref a/\(∃ xs,SqT K H1 a xs)/\R (Itt K a) H1
theorem vI {l:Expr} {tl:TE} (hl:PE X l tl):PI X tg l (iList X.K tl):=by
 intro pins s σ H R I h
 refine thn (hl pins s σ H _ I h) fun v s1 zq=>?_
 obtain⟨x,H1,I1,r1,q1⟩:=zq
 obtain⟨a,e,⟨xs,hq⟩,q⟩:=q1
 subst e
 cases r1
 obtain⟨its,rv,p,hz⟩:=I1.list hq
 refine wpAny_pyIter_list p.isList ?_
 refine⟨s1.heap.objs.size,[s1.heap.objs.size],_,_,H1,rfl,I1.kept (t':=s1.toks) fun b o e=>Heap.get?_push_of_some _ e,nU a _,⟨_,Heap.get?_push_size _ rfl,rfl,rfl⟩,fun b hb=>?_,q⟩
 have e:b=s1.heap.objs.size:=by simpa using hb
 subst e
 exact I1.fpOk (Nat.le_refl _) (I1.hok.fresh (Nat.le_refl _))
theorem fQ {l:Expr} {tl:TE} (hl:PE X l tl):PI X tg l (iTup X.K tl):=by
 intro pins s σ H R I h
 refine thn (hl pins s σ H _ I h) fun v s1 zq=>?_
 obtain⟨x,H1,I1,r1,q1⟩:=zq
 obtain⟨a,e,⟨xs,hq⟩,q⟩:=q1
 subst e
 cases r1
 obtain⟨its,rv,p,hz⟩:=I1.tuple hq
 refine wpAny_pyIter_tuple (show s1.heap.IsTuple a its.toArray from p) ?_
 refine⟨s1.heap.objs.size,[s1.heap.objs.size],_,_,H1,rfl,I1.kept (t':=s1.toks) fun b o e=>Heap.get?_push_of_some _ e,lD a _,⟨_,Heap.get?_push_size _ rfl,rfl,rfl⟩,fun b hb=>?_,q⟩
 have e:b=s1.heap.objs.size:=by simpa using hb
 subst e
 exact I1.fpOk (Nat.le_refl _) (I1.hok.fresh (Nat.le_refl _))
theorem aEr {pins:List (Addr × Obj)} {σ:St} {H:Hp} {s:Shared} {R:It->Hp->Prop} {E:Value->Shared->Prop} {lo hi:Int} {t u v:Tok} {tk:Nat} (I:Inv X pins σ H s) (h1 : -(2 ^ 62)<=lo) (h2:lo < 2 ^ 62) (h3 : -(2 ^ 62)<=hi) (h4:hi < 2 ^ 62)
  (q:R (Itr lo (hi - lo).toNat) H):wpAny (model X.prog X.w) X.A (pyIter (.ref s.heap.objs.size)) (PIE X pins σ tg R) E { s with heap:=s.heap.push { cls:=.type "range",data:=.fields #[.int lo t,.int hi u,.int 1 v] },toks:=tk }:=by
 refine wpAny_pyIter_range (IsRange.new ..) (small_one h1 h2 h3 h4) ?_
 have I1:Inv X pins σ H { s with heap:=s.heap.push { cls:=.type "range",data:=.fields #[.int lo t,.int hi u,.int 1 v] },toks:=tk }:=I.kept fun b o e=>Heap.get?_push_of_some _ e
 refine⟨(s.heap.push { cls:=.type "range",data:=.fields #[.int lo t,.int hi u,.int 1 v] }).objs.size,[(s.heap.push { cls:=.type "range",data:=.fields #[.int lo t,.int hi u,.int 1 v] }).objs.size],_,_,H,rfl,
  I1.kept (t':=tk) fun b o e=>Heap.get?_push_of_some _ e,wP _ lo (hi - lo).toNat,?_,fun b hb=>?_,q⟩
 ·have e1:lo + ((0:Nat):Int) * 1=lo:=by simp
  have e2:(((hi - lo).toNat:Nat):Int) - ((0:Nat):Int)=Builtin.Range.rangeSize lo hi 1:=by rw [rangeSize_one];split <;> omega
  show IsRangeIter _ _ (lo + ((0:Nat):Int) * 1) ((((hi - lo).toNat:Nat):Int) - ((0:Nat):Int)) 1
  rw [e1,e2]
  exact Heap.get?_push_size _ rfl
 ·have e:b=(s.heap.push { cls:=.type "range",data:=.fields #[.int lo t,.int hi u,.int 1 v] }).objs.size:=by simpa using hb
  subst e
  exact I1.fpOk (Nat.le_refl _) (I1.hok.fresh (Nat.le_refl _))
def iRng1 (ta:TA):TI:=fun σ H R=>ta σ H fun vs H1=>∃ j:Int,vs=[.int j]/\-(2 ^ 62)<=j/\j < 2 ^ 62/\R (Itr 0 j.toNat) H1
theorem aCo {a:Expr} {ta:TA} {p pos:Pos} (hg:Gl X "range") (hm:X.mg "range" = none) (ha:PA X [a] ta) (hs:starEach [a] X.env=[(false,eval a X.env)]:=by rfl):PI X tg (.Call (.Name "range" p) [a] [] pos) (iRng1 ta):=by
 intro pins s σ H R I h
 refine Call_ (bW I hg hm boot_range (PyProof.Rows.callWith_type1 (thn (ha pos pins s σ H _ I h) fun us s1 zq=>?_) hs rfl))
 obtain⟨vs,H1,I1,r1,q1⟩:=zq
 obtain⟨j,e,q1,q2,q⟩:=q1
 subst e
 cases r1 with
 | cons r rr =>
  cases rr
  obtain⟨t,rfl⟩:=r
  exact call_range_1 (aEr I1 (by omega) (by omega) q1 q2 (by simpa using q))
def tFor (wi:TI) (g:TG) (tb:TS):TS:=fun D σ H=>wi σ H fun J H1=>∃ W:Nat->Nat->St->Hp->Prop,(∃ m,W 0 m σ H1)/\∀ i m σ H,W i m σ H →
 (J.stop i H/\D.nx σ H)\/(J.go i H/\∃ N:St->Hp->Prop,(∀ σ' H',N σ' H'->∃ m',m' < m/\W (i + 1) m' σ' H')/\∀ x H',J.yld i H x H'->g x σ H' fun σ2 H2=>tb { D with nx:=N,ct:=N,bk:=D.nx } σ2 H2)
def cD (fp:List Addr) (h:Heap):List (Addr × Obj):=fp.filterMap fun b=>(h.get? b).map fun o=>(b,o)
theorem xF {fp:List Addr} {h:Heap} {b:Addr} {o:Obj} (hb:b ∈ fp) (e:h.get? b=some o):(b,o) ∈ cD fp h:=List.mem_filterMap.mpr ⟨b,hb,by rw [e];rfl⟩
theorem aCh {fp:List Addr} {h:Heap} {p:Addr × Obj} (hp:p ∈ cD fp h):p.1 ∈ fp/\h.get? p.1=some p.2:=by
 obtain⟨b,hb,e⟩:=List.mem_filterMap.mp hp
 cases q:h.get? b with
 | none=>rw [q] at e;cases e
 | some o =>
  rw [q] at e
  have e':(b,o)=p:=Option.some.inj e
  subst e'
  exact⟨hb,q⟩
theorem Inv.pinned {pins:List (Addr × Obj)} {σ:St} {H:Hp} {s:Shared} {fp:List Addr} (I:Inv X pins σ H s) (hf:∀ b ∈ fp,bD X pins H b) (ho:∀ b ∈ fp,∃ o,s.heap.get? b=some o/\∀ v,o.data ≠ .cell v):Inv X (pins++cD fp s.heap) σ H s :=
 I.pins_of fun p hp=>(List.mem_append.mp hp).elim (fun z=>I.pin p (List.mem_append_right _ z)) fun z=>by
  obtain⟨hb,e⟩:=aCh z
  obtain⟨f0,f1,f2,_⟩:=hf p.1 hb
  obtain⟨o,e',d⟩:=ho p.1 hb
  rw [e] at e';cases e'
  exact⟨e,f0,f1,f2,d⟩
theorem Inv.unpinned {pins pl:List (Addr × Obj)} {σ:St} {H:Hp} {s:Shared} (I:Inv X (pins++pl) σ H s):Inv X pins σ H s:=I.pins_of fun p hp=>I.pin p (List.mem_append_right _ (List.mem_append_left _ hp))
theorem xX {iter:Expr} {body:List Stmt} {wi:TI} {g:TG} {tb:TS} {pos:Pos} (hp:PassesOwn (model X.prog X.w) X.A X.env X.xe) (hc:X.calm=true) (hi:PI X tg iter wi) (hg:PG X tg g) (hb:PSs X body tb)
  (hs:∀ x,foldedSetIterable iter X.env x=pure x:=by intro _;rfl):PS X (.For tg iter body [] pos) (tFor wi g tb):=by
 intro pins s σ H D I h
 refine wpAny_For (thn (hi pins s σ H _ I h) fun v s1 h1=>thn h1 fun itv s2 h2=>?_) hs
 obtain⟨it,fp,tn,J,H2,e,I2,T,st2,f2,W,⟨m0,w0⟩,turn⟩:=h2
 subst e
 have stat:∀ {H':Hp},(∀ b ∈ fp,H' b=none)->∀ b ∈ fp,bD X pins H' b:=fun hn b hb=>⟨hn b hb,(f2 b hb).2⟩
 refine codeAny_forLoop_any (fun n s'=>∃ i σ' H',Inv X pins σ' H' s'/\tn i s'.heap/\(∀ b ∈ fp,H' b=none)/\W i n σ' H') ?_ m0 ⟨0,σ,H2,I2,st2,fun b hb=>(f2 b hb).1,w0⟩
 rintro n s3 ⟨i,σ3,H3,I3,st3,fr3,w3⟩
 rcases turn i n σ3 H3 w3 with⟨stop,qn⟩|⟨go,N,hN,step⟩
 ·refine wpAny_passesOwn hp (thn (T.done X rfl rfl rfl hc i pins s3 σ3 H3 X.xe I3 (stat fr3) st3 stop) fun r s4 zq=>?_)
  obtain⟨hr,I4⟩:=zq
  subst hr
  exact wpAny_execs_nil ⟨σ3,H3,I4,qn⟩
 ·refine wpAny_passesOwn hp (thn (T.item X rfl rfl rfl hc i pins s3 σ3 H3 X.xe I3 (stat fr3) st3 go) fun r s4 zq=>?_)
  obtain⟨u,hr,h4⟩:=zq
  subst hr
  refine wpAny_passesOwn hp (thn h4 fun _ s5 zq=>?_)
  obtain⟨x,H5,I5,r5,y5,st5,fr5⟩:=zq
  have I5':=I5.pinned (stat fr5) (T.obj _ _ st5)
  refine wpAny_passesOwn hp (thn (hg _ s5 σ3 H5 x u _ I5' r5 (step x H5 y5)) fun _ s6 zq=>?_)
  obtain⟨σ6,H6,I6,q6⟩:=zq
  refine wpAny_passesOwn hp (thn (hb _ s6 σ6 H6 _ I6 q6) fun f s7 q7=>?_)
  have again:∀ {σ7:St} {H7:Hp},Inv X (pins++cD fp s5.heap) σ7 H7 s7->N σ7 H7->∃ m,m < n/\∃ i σ' H',Inv X pins σ' H' s7/\tn i s7.heap/\(∀ b ∈ fp,H' b=none)/\W i m σ' H':=fun {σ7 H7} I7 n7=>by
   obtain⟨m',hm,w7⟩:=hN σ7 H7 n7
   refine⟨m',hm,i + 1,σ7,H7,I7.unpinned,T.keep _ _ _ st5 fun b hb o e=>(I7.pin (b,o) (List.mem_append_right _ (List.mem_append_right _ (xF hb e)))).1,fun b hb=>?_,w7⟩
   obtain⟨o,e,d⟩:=T.obj _ _ st5 b hb
   exact (I7.pin (b,o) (List.mem_append_right _ (List.mem_append_right _ (xF hb e)))).2.1
  cases f with
  | next=>obtain⟨σ7,H7,I7,n7⟩:=q7;exact again I7 n7
  | cont=>obtain⟨σ7,H7,I7,n7⟩:=q7;exact again I7 n7
  | brk=>obtain⟨σ7,H7,I7,q7⟩:=q7;exact⟨σ7,H7,I7.unpinned,q7⟩
  | ret v=>obtain⟨x7,σ7,H7,I7,r7,q7⟩:=q7;exact⟨x7,σ7,H7,I7.unpinned,r7,q7⟩
end
theorem aD {K:Frag} {a:Addr} {xs:List V} {g:TG} {tb:TS} {D:Ends} {σ:St} {H:Hp} (Pv:Nat->St->Hp->Prop) (h0:Pv 0 σ H) (hl:∀ i σ H,i<=xs.length->Pv i σ H->SqL K H a xs)
  (hs:∀ i x σ H,xs[i]?=some x->Pv i σ H->g x σ H fun σ2 H2=>tb { D with nx:=Pv (i + 1),ct:=Pv (i + 1),bk:=D.nx } σ2 H2) (hd:∀ σ H,Pv xs.length σ H->D.nx σ H) :
  ∃ W:Nat->Nat->St->Hp->Prop,(∃ m,W 0 m σ H)/\∀ i m σ H,W i m σ H →
   ((Itl K a).stop i H/\D.nx σ H)\/((Itl K a).go i H/\∃ N:St->Hp->Prop,(∀ σ' H',N σ' H'->∃ m',m' < m/\W (i + 1) m' σ' H')/\∀ x H',(Itl K a).yld i H x H'->g x σ H' fun σ2 H2=>tb { D with nx:=N,ct:=N,bk:=D.nx } σ2 H2):=by
 refine⟨fun i m σ H=>m=xs.length - i/\i<=xs.length/\Pv i σ H,⟨xs.length,by simp,Nat.zero_le _,h0⟩,?_⟩
 rintro i m σ H ⟨rfl,hi,p⟩
 have q:=hl i σ H hi p
 by_cases hlt:i < xs.length
 ·refine .inr ⟨⟨xs,xs[i],q,by simp [hlt]⟩,Pv (i + 1),fun σ' H' p'=>⟨xs.length - (i + 1),by omega,rfl,hlt,p'⟩,fun x H' y=>?_⟩
  obtain⟨e,y⟩:=y
  subst e
  exact hs i x σ _ (y xs q) p
 ·have e:i=xs.length:=by omega
  subst e
  exact .inl ⟨⟨xs,q,Nat.le_refl _⟩,hd σ H p⟩
theorem aHo {K:Frag} {a:Addr} {xs:List V} {g:TG} {tb:TS} {D:Ends} {σ:St} {H:Hp} (Pv:Nat->St->Hp->Prop) (h0:Pv 0 σ H) (hl:∀ i σ H,i<=xs.length->Pv i σ H->SqT K H a xs)
  (hs:∀ i x σ H,xs[i]?=some x->Pv i σ H->g x σ H fun σ2 H2=>tb { D with nx:=Pv (i + 1),ct:=Pv (i + 1),bk:=D.nx } σ2 H2) (hd:∀ σ H,Pv xs.length σ H->D.nx σ H) :
  ∃ W:Nat->Nat->St->Hp->Prop,(∃ m,W 0 m σ H)/\∀ i m σ H,W i m σ H →
   ((Itt K a).stop i H/\D.nx σ H)\/((Itt K a).go i H/\∃ N:St->Hp->Prop,(∀ σ' H',N σ' H'->∃ m',m' < m/\W (i + 1) m' σ' H')/\∀ x H',(Itt K a).yld i H x H'->g x σ H' fun σ2 H2=>tb { D with nx:=N,ct:=N,bk:=D.nx } σ2 H2):=by
 refine⟨fun i m σ H=>m=xs.length - i/\i<=xs.length/\Pv i σ H,⟨xs.length,by simp,Nat.zero_le _,h0⟩,?_⟩
 rintro i m σ H ⟨rfl,hi,p⟩
 have q:=hl i σ H hi p
 by_cases hlt:i < xs.length
 ·refine .inr ⟨⟨xs,xs[i],q,by simp [hlt]⟩,Pv (i + 1),fun σ' H' p'=>⟨xs.length - (i + 1),by omega,rfl,hlt,p'⟩,fun x H' y=>?_⟩
  obtain⟨e,y⟩:=y
  subst e
  exact hs i x σ _ (y xs q) p
 ·have e:i=xs.length:=by omega
  subst e
  exact .inl ⟨⟨xs,q,Nat.le_refl _⟩,hd σ H p⟩
abbrev R2:=V->V->Hp->VK->Prop
def OpR (X:Cx) (f:Value->Value->Sem Value) (r:R2):Prop :=
 ∀ (pins:List (Addr × Obj)) (s:Shared) (σ:St) (H:Hp) (x y:V) (v u:Value) (Q:VK),Inv X pins σ H s->RelV x v->RelV y u->r x y H Q →
  wpAny (model X.prog X.w) X.A (f v u) (EP X pins σ Q) X.xe s
def UnR (X:Cx) (f:Value->Sem Value) (r:V->Hp->VK->Prop):Prop :=
 ∀ (pins:List (Addr × Obj)) (s:Shared) (σ:St) (H:Hp) (x:V) (v:Value) (Q:VK),Inv X pins σ H s->RelV x v->r x H Q →
  wpAny (model X.prog X.w) X.A (f v) (EP X pins σ Q) X.xe s
def vP (X:Cx) (f:Value) (r:List V->Hp->VK->Prop):Prop :=
 ∀ (pins:List (Addr × Obj)) (s:Shared) (σ:St) (H:Hp) (xs:List V) (us:List Value) (Q:VK),Inv X pins σ H s->kC xs us->r xs H Q →
  wpAny (model X.prog X.w) X.A (call f us) (EP X pins σ Q) X.xe s
def TruR (X:Cx) (r:V->Hp->(Bool->Hp->Prop)->Prop):Prop :=
 ∀ (pins:List (Addr × Obj)) (s:Shared) (σ:St) (H:Hp) (x:V) (v:Value) (Q:Bool->Hp->Prop),Inv X pins σ H s->RelV x v->r x H Q →
  wpAny (model X.prog X.w) X.A (truthy v) (TP X pins σ Q) X.xe s
def tOp (r:R2) (ta tb:TE):TE:=fun σ H Q=>ta σ H fun x H1=>tb σ H1 fun y H2=>r x y H2 Q
def tUn (r:V->Hp->VK->Prop) (ta:TE):TE:=fun σ H Q=>ta σ H fun x H1=>r x H1 Q
def rI (C:Int->Int->Prop) (g:Int->Int->V):R2:=fun x y H Q=>∃ i j,x=.int i/\y=.int j/\C i j/\Q (g i j) H
def rI0 (g:Int->Int->V):R2:=fun x y H Q=>∃ i j,x=.int i/\y=.int j/\Q (g i j) H
def rU (g:Int->V):V->Hp->VK->Prop:=fun x H Q=>∃ i,x=.int i/\Q (g i) H
section
variable {X:Cx} {a b c:Expr} {ta tb tc:TE} {pos:Pos}
theorem binT (ha:PE X a ta) (hb:PE X b tb) {pins:List (Addr × Obj)} {s:Shared} {σ:St} {H:Hp} {R:V->V->Hp->Prop} (I:Inv X pins σ H s)
  (h:ta σ H fun x H1=>tb σ H1 fun y H2=>R x y H2) {Q:Value->Shared->Prop} {f:Value->Value->Sem Value}
  (hf:∀ v u s2 x y H2,Inv X pins σ H2 s2->RelV x v->RelV y u->R x y H2->wpAny (model X.prog X.w) X.A (f v u) Q X.xe s2) :
  wpAny (model X.prog X.w) X.A (eval a X.env) (fun v s₁=>wpAny (model X.prog X.w) X.A (eval b X.env) (fun u s₂=>wpAny (model X.prog X.w) X.A (f v u) Q X.xe s₂) X.xe s₁) X.xe s:=by
 refine thn (ha pins s σ H _ I h) fun v s1 zq=>?_
 obtain⟨x,H1,I1,r1,q1⟩:=zq
 refine thn (hb pins s1 σ H1 _ I1 q1) fun u s2 zq=>?_
 obtain⟨y,H2,I2,r2,q2⟩:=zq
 exact hf v u s2 x y H2 I2 r1 r2 q2
theorem kF {op:Operator} {r:R2} (ho:OpR X (binaryOp op) r) (ha:PE X a ta) (hb:PE X b tb):PE X (.BinOp a op b pos) (tOp r ta tb):=by
 intro pins s σ H Q I h
 exact wpAny_BinOp (binT ha hb I h fun v u s2 x y H2 I2 rx ry q=>ho pins s2 σ H2 x y v u Q I2 rx ry q)
theorem xN {op:UnaryOp} {r:V->Hp->VK->Prop} (ho:UnR X (unaryOp op) r) (ha:PE X a ta):PE X (.UnaryOp op a pos) (tUn r ta):=by
 intro pins s σ H Q I h
 exact UnaryOp_ (thn (ha pins s σ H _ I h) fun v s1 ⟨x,H1,I1,r1,q1⟩=>ho pins s1 σ H1 x v Q I1 r1 q1)
theorem opI {f:Value->Value->Sem Value} {C:Int->Int->Prop} {g:Int->Int->Int}
  (rule:∀ (i j:Int) (t u:Tok) (s:Shared) (Q:Value->Shared->Prop) (E:Value->Shared->Prop),C i j->Q (.int (g i j) s.toks) { s with toks:=s.toks + 1 }->wpAny (model X.prog X.w) X.A (f (.int i t) (.int j u)) Q E s) :
  OpR X f (rI C fun i j=>.int (g i j)):=by
 intro pins s σ H x y v u Q I rx ry h
 obtain⟨i,j,rfl,rfl,hc,q⟩:=h
 obtain⟨t,rfl⟩:=rx
 obtain⟨t',rfl⟩:=ry
 exact rule i j t t' s _ _ hc ⟨.int (g i j),H,I.tok _,⟨_,rfl⟩,q⟩
theorem opI0 {f:Value->Value->Sem Value} {g:Int->Int->Int}
  (rule:∀ (i j:Int) (t u:Tok) (s:Shared) (Q:Value->Shared->Prop) (E:Value->Shared->Prop),Q (.int (g i j) s.toks) { s with toks:=s.toks + 1 }->wpAny (model X.prog X.w) X.A (f (.int i t) (.int j u)) Q E s) :
  OpR X f (rI0 fun i j=>.int (g i j)):=by
 intro pins s σ H x y v u Q I rx ry h
 obtain⟨i,j,rfl,rfl,q⟩:=h
 obtain⟨t,rfl⟩:=rx
 obtain⟨t',rfl⟩:=ry
 exact rule i j t t' s _ _ ⟨.int (g i j),H,I.tok _,⟨_,rfl⟩,q⟩
theorem opB0 {f:Value->Value->Sem Value} {g:Int->Int->Bool}
  (rule:∀ (i j:Int) (t u:Tok) (s:Shared) (Q:Value->Shared->Prop) (E:Value->Shared->Prop),Q (.bool (g i j)) s->wpAny (model X.prog X.w) X.A (f (.int i t) (.int j u)) Q E s) :
  OpR X f (rI0 fun i j=>.bl (g i j)):=by
 intro pins s σ H x y v u Q I rx ry h
 obtain⟨i,j,rfl,rfl,q⟩:=h
 obtain⟨t,rfl⟩:=rx
 obtain⟨t',rfl⟩:=ry
 exact rule i j t t' s _ _ ⟨.bl (g i j),H,I,rfl,q⟩
def CDiv (i j:Int):Prop:=0 < j/\j < 1073741824
def CPow (i j:Int):Prop:=0<=j/\j<=1000000/\i.natAbs < 2 ^ 64
def CMul (i j:Int):Prop:=(-(2 ^ 64) < i/\i < 2 ^ 64)\/(-(2 ^ 64) < j/\j < 2 ^ 64)
theorem CMul.ok {i j:Int} (h:CMul i j):IntMulOk i j:=by
 rcases h with⟨h1,h2⟩|⟨h1,h2⟩
 ·exact .of_left (intBits_le_64 h1 h2)
 ·exact .of_right (intBits_le_64 h1 h2)
theorem qL:OpR X (binaryOp .Add) (rI0 fun i j=>.int (i + j)):=opI0 fun _ _ _ _ _ _ _ q=>add_int q
theorem uU:OpR X (binaryOp .Sub) (rI0 fun i j=>.int (i - j)):=opI0 fun _ _ _ _ _ _ _ q=>sub_int q
theorem xU:OpR X (binaryOp .Mult) (rI CMul fun i j=>.int (i * j)):=opI fun _ _ _ _ _ _ _ hc q=>mul_int q hc.ok
theorem rN:OpR X (binaryOp .FloorDiv) (rI CDiv fun i j=>.int (i / j)):=opI fun i j _ _ _ _ _ hc q=>by
 have h1:(0:Int) < j:=hc.1
 have h2:j < 1073741824:=hc.2
 exact floordiv_int (by omega) (by rw [Int.fdiv_eq_ediv_of_nonneg i (by omega)];exact q) (.inl (PyProof.noPylong_small (by omega)))
theorem bT:OpR X (binaryOp .Mod) (rI (fun _ j=>0 < j) fun i j=>.int (i % j)):=opI fun i j _ _ _ _ _ hc q=>by
 have h1:(0:Int) < j:=hc
 exact mod_int' (by omega) (by rw [Int.fmod_eq_emod_of_nonneg i (by omega)];exact q)
theorem aJq:OpR X (binaryOp .Pow) (rI CPow fun i j=>.int (i ^ j.toNat)):=opI fun _ _ _ _ _ _ _ hc q=>pow_int_small hc.1 hc.2.1 hc.2.2 q
theorem aJa:OpR X (binaryOp .LShift) (rI CPow fun i j=>.int (i * 2 ^ j.toNat)):=opI fun _ _ _ _ _ _ _ hc q=>lshift_int_small hc.1 hc.2.1 hc.2.2 q
theorem unI {f:Value->Sem Value} {g:Int->Int}
  (rule:∀ (i:Int) (t:Tok) (s:Shared) (Q:Value->Shared->Prop) (E:Value->Shared->Prop),Q (.int (g i) s.toks) { s with toks:=s.toks + 1 }->wpAny (model X.prog X.w) X.A (f (.int i t)) Q E s) :
  UnR X f (rU fun i=>.int (g i)):=by
 intro pins s σ H x v Q I rx h
 obtain⟨i,rfl,q⟩:=h
 obtain⟨t,rfl⟩:=rx
 exact rule i t s _ _ ⟨.int (g i),H,I.tok _,⟨_,rfl⟩,q⟩
theorem vE:UnR X (unaryOp .USub) (rU fun i=>.int (-i)):=unI fun _ _ _ _ _ q=>neg_int q
end
def scal:V->V->Bool
 | .non,.non=>true | .non,.int _=>true | .int _,.non=>true | .non,.bl _=>true | .bl _,.non=>true | .non,.str _=>true | .str _,.non=>true
 | .int _,.int _=>true | .bl _,.bl _=>true | .str _,.str _=>true | .byt _,.byt _=>true
 | .int _,.str _=>true | .str _,.int _=>true | .bl _,.str _=>true | .str _,.bl _=>true
 | _,_=>false
def rEq:R2:=fun x y H Q=>scal x y=true/\Q (.bl (decide (x=y))) H
def rNe:R2:=fun x y H Q=>scal x y=true/\Q (.bl (!decide (x=y))) H
theorem aBd {i j:Int} : decide (V.int i=V.int j)=(i == j):=by
 rw [Bool.eq_iff_iff]
 simp
theorem aEm {i j:Bool} : decide (V.bl i=V.bl j)=(i == j):=by
 rw [Bool.eq_iff_iff]
 simp
theorem wY {i j:Str} : decide (V.str i=V.str j)=(i == j):=by
 rw [Bool.eq_iff_iff]
 simp
theorem wZ {i j:Array UInt8} : decide (V.byt i=V.byt j)=(i.toList == j.toList):=by
 rw [Bool.eq_iff_iff]
 cases i
 cases j
 simp
section
variable {X:Cx} {a b c:Expr} {ta tb tc:TE} {pos:Pos}
theorem kP {pins:List (Addr × Obj)} {σ:St} {H:Hp} {s:Shared} {Q:VK} {k k':Bool} (I:Inv X pins σ H s) (q:Q (.bl k) H) (e:k=k'):EP X pins σ Q (.bool k') s:=by
 subst e
 exact⟨.bl k,H,I,rfl,q⟩
theorem qF:OpR X (compareOp .Eq) rEq:=by
 intro pins s σ H x y v u Q I rx ry h
 obtain⟨hs,q⟩:=h
 cases x with
 | non =>
  cases rx
  cases y with
  | non=>cases ry;exact PySem.EqNone.eq_none_none (kP I q (by simp))
  | bl j=>cases ry;exact PySem.EqNone.eq_none_bool (kP I q (by simp))
  | int j=>obtain⟨t',rfl⟩:=ry;exact PySem.EqNone.eq_none_int (kP I q (by simp))
  | str j=>obtain⟨t',rfl⟩:=ry;exact PySem.EqNone.eq_none_str (kP I q (by simp))
  | _=>exact absurd (show false=true from hs) Bool.false_ne_true
 | bl i =>
  cases rx
  cases y with
  | non=>cases ry;exact PySem.EqNone.eq_bool_none (kP I q (by simp))
  | bl j=>cases ry;exact eq_bool (kP I q aEm)
  | str j=>obtain⟨t',rfl⟩:=ry;exact PySem.EqMixed.eq_bool_str (kP I q (by simp))
  | _=>exact absurd (show false=true from hs) Bool.false_ne_true
 | int i =>
  obtain⟨t,rfl⟩:=rx
  cases y with
  | non=>cases ry;exact PySem.EqNone.eq_int_none (kP I q (by simp))
  | int j=>obtain⟨t',rfl⟩:=ry;exact eq_int (kP I q aBd)
  | str j=>obtain⟨t',rfl⟩:=ry;exact PySem.EqMixed.eq_int_str (kP I q (by simp))
  | _=>exact absurd (show false=true from hs) Bool.false_ne_true
 | str i =>
  obtain⟨t,rfl⟩:=rx
  cases y with
  | non=>cases ry;exact PySem.EqNone.eq_str_none (kP I q (by simp))
  | bl j=>cases ry;exact PySem.EqMixed.eq_str_bool (kP I q (by simp))
  | int j=>obtain⟨t',rfl⟩:=ry;exact PySem.EqMixed.eq_str_int (kP I q (by simp))
  | str j=>obtain⟨t',rfl⟩:=ry;exact eq_str (kP I q wY)
  | _=>exact absurd (show false=true from hs) Bool.false_ne_true
 | byt i =>
  obtain⟨t,rfl⟩:=rx
  cases y with
  | byt j=>obtain⟨t',rfl⟩:=ry;exact PySem.W.eq_bytes (kP I q wZ)
  | _=>exact absurd (show false=true from hs) Bool.false_ne_true
 | _=>cases y <;> exact absurd (show false=true from hs) Bool.false_ne_true
theorem aFx:OpR X (compareOp .NotEq) rNe:=by
 intro pins s σ H x y v u Q I rx ry h
 obtain⟨hs,q⟩:=h
 cases x with
 | non =>
  cases rx
  cases y with
  | non=>cases ry;exact PySem.EqNone.ne_none_none (kP I q (by simp))
  | bl j=>cases ry;exact PySem.EqNone.ne_none_bool (kP I q (by simp))
  | int j=>obtain⟨t',rfl⟩:=ry;exact PySem.EqNone.ne_none_int (kP I q (by simp))
  | str j=>obtain⟨t',rfl⟩:=ry;exact PySem.EqNone.ne_none_str (kP I q (by simp))
  | _=>exact absurd (show false=true from hs) Bool.false_ne_true
 | bl i =>
  cases rx
  cases y with
  | non=>cases ry;exact PySem.EqNone.ne_bool_none (kP I q (by simp))
  | bl j=>cases ry;exact ne_bool (kP I q (congrArg not aEm))
  | str j=>obtain⟨t',rfl⟩:=ry;exact PySem.EqMixed.ne_bool_str (kP I q (by simp))
  | _=>exact absurd (show false=true from hs) Bool.false_ne_true
 | int i =>
  obtain⟨t,rfl⟩:=rx
  cases y with
  | non=>cases ry;exact PySem.EqNone.ne_int_none (kP I q (by simp))
  | int j=>obtain⟨t',rfl⟩:=ry;exact ne_int (kP I q (congrArg not aBd))
  | str j=>obtain⟨t',rfl⟩:=ry;exact PySem.EqMixed.ne_int_str (kP I q (by simp))
  | _=>exact absurd (show false=true from hs) Bool.false_ne_true
 | str i =>
  obtain⟨t,rfl⟩:=rx
  cases y with
  | non=>cases ry;exact PySem.EqNone.ne_str_none (kP I q (by simp))
  | bl j=>cases ry;exact PySem.EqMixed.ne_str_bool (kP I q (by simp))
  | int j=>obtain⟨t',rfl⟩:=ry;exact PySem.EqMixed.ne_str_int (kP I q (by simp))
  | str j=>obtain⟨t',rfl⟩:=ry;exact ne_str (kP I q (congrArg not wY))
  | _=>exact absurd (show false=true from hs) Bool.false_ne_true
 | byt i =>
  obtain⟨t,rfl⟩:=rx
  cases y with
  | byt j=>obtain⟨t',rfl⟩:=ry;exact PySem.W.ne_bytes (kP I q (congrArg not wZ))
  | _=>exact absurd (show false=true from hs) Bool.false_ne_true
 | _=>cases y <;> exact absurd (show false=true from hs) Bool.false_ne_true
theorem aAl:OpR X (compareOp .Lt) (rI0 fun i j=>.bl (decide (i < j))):=opB0 fun _ _ _ _ _ _ _ q=>lt_int q
theorem oM:OpR X (compareOp .LtE) (rI0 fun i j=>.bl (decide (i<=j))):=opB0 fun _ _ _ _ _ _ _ q=>le_int q
theorem eI:OpR X (compareOp .Gt) (rI0 fun i j=>.bl (decide (j < i))):=opB0 fun _ _ _ _ _ _ _ q=>gt_int q
theorem op_ge:OpR X (compareOp .GtE) (rI0 fun i j=>.bl (decide (j<=i))):=opB0 fun _ _ _ _ _ _ _ q=>ge_int q
theorem aCd:OpR X (compareOp .In) (fun x y H Q=>∃ i j,x=.str i/\y=.str j/\Q (.bl (!(Builtin.Str.occurrences j i 0 j.length 1).isEmpty)) H):=by
 intro pins s σ H x y v u Q I rx ry h
 obtain⟨i,j,rfl,rfl,q⟩:=h
 obtain⟨t,rfl⟩:=rx
 obtain⟨t',rfl⟩:=ry
 exact in_str (kP I q rfl)
theorem aCy:OpR X (compareOp .Is) (fun x y H Q=>y=.non/\Q (.bl (decide (x=.non))) H):=by
 intro pins s σ H x y v u Q I rx ry h
 obtain⟨rfl,q⟩:=h
 cases ry
 refine is_none_gen (kP I q ?_)
 cases x <;> first
  | (cases rx;rfl)
  | (obtain⟨t,rfl⟩:=rx;rfl)
theorem iF:OpR X (compareOp .IsNot) (fun x y H Q=>y=.non/\Q (.bl (!decide (x=.non))) H):=by
 intro pins s σ H x y v u Q I rx ry h
 obtain⟨rfl,q⟩:=h
 cases ry
 refine isnot_none_gen (kP I q ?_)
 cases x <;> first
  | (cases rx;rfl)
  | (obtain⟨t,rfl⟩:=rx;rfl)
theorem OpR.or {f:Value->Value->Sem Value} {r r':R2} (h:OpR X f r) (h':OpR X f r'):OpR X f (fun x y H Q=>r x y H Q\/r' x y H Q):=by
 intro pins s σ H x y v u Q I rx ry q
 rcases q with q|q
 ·exact h pins s σ H x y v u Q I rx ry q
 ·exact h' pins s σ H x y v u Q I rx ry q
theorem jW (b:Expr) {op:CmpOp} (h:op ≠ .In:=by decide) (h2:op ≠ .NotIn:=by decide):behindInMarks op b=false:=by
 have e1:(op == CmpOp.In)=false:=by cases op <;> first|rfl|exact absurd rfl h
 have e2:(op == CmpOp.NotIn)=false:=by cases op <;> first|rfl|exact absurd rfl h2
 cases b <;> simp [behindInMarks,e1,e2]
theorem qE {op:CmpOp} {r:R2} (ho:OpR X (compareOp op) r) (ha:PE X a ta) (hb:PE X b tb) (hm:behindInMarks op b=false):PE X (.Compare a [op] [b] pos) (tOp r ta tb):=by
 intro pins s σ H Q I h
 exact wpAny_Compare1 (binT ha hb I h fun v u s2 x y H2 I2 rx ry q=>ho pins s2 σ H2 x y v u Q I2 rx ry q) hm
def aIg (t:TE):TT:=fun σ H Q=>t σ H fun x H'=>∃ k,x=.bl k/\Q k H'
theorem jR {op:CmpOp} {r:R2} (ho:OpR X (compareOp op) r) (ha:PE X a ta) (hb:PE X b tb) (hm:behindInMarks op b=false):PT X (.Compare a [op] [b] pos) (aIg (tOp r ta tb)):=by
 intro pins s σ H Q I h
 refine wpAny_isTrue_Compare1 (thn (ha pins s σ H _ I h) fun v s1 ⟨x,H1,I1,r1,q1⟩=>thn (hb pins s1 σ H1 _ I1 q1) fun u s2 ⟨y,H2,I2,r2,q2⟩ =>
  thn (ho pins s2 σ H2 x y v u _ I2 r1 r2 q2) fun c s3 ⟨z,H3,I3,r3,k,e,q3⟩=>?_) hm
 subst e
 cases r3
 exact wpAny_truthy_bool ⟨H3,I3,q3⟩
def aEq (r r':R2) (ta tb tc:TE):TE:=fun σ H Q=>ta σ H fun x H1=>tb σ H1 fun y H2=>r x y H2 fun z H3=>∃ k,z=.bl k ∧
 (if k=true then tc σ H3 fun w' H4=>r' y w' H4 Q else Q (.bl false) H3)
theorem aEi {op op':CmpOp} {r r':R2} (ho:OpR X (compareOp op) r) (ho':OpR X (compareOp op') r') (ha:PE X a ta) (hb:PE X b tb) (hc:PE X c tc)
  (hm:lastMarks [op,op'] [b,c]=false:=by with_unfolding_all rfl):PE X (.Compare a [op,op'] [b,c] pos) (aEq r r' ta tb tc):=by
 intro pins s σ H Q I h
 refine Compare_chain (thn (ha pins s σ H _ I h) fun v s1 ⟨x,H1,I1,r1,q1⟩=>chain_link (thn (hb pins s1 σ H1 _ I1 q1) fun u s2 ⟨y,H2,I2,r2,q2⟩ =>
  thn (ho pins s2 σ H2 x y v u _ I2 r1 r2 q2) fun d s3 ⟨z,H3,I3,r3,k,e,q3⟩=>?_)) hm
 subst e
 cases r3
 refine wpAny_truthy_bool ?_
 cases k with
 | false=>exact ite_ff ⟨.bl false,H3,I3,rfl,q3⟩
 | true=>exact ite_tt (chain_last (thn (hc pins s3 σ H3 _ I3 q3) fun w' s4 ⟨z',H4,I4,r4,q4⟩=>ho' pins s4 σ H4 y z' u w' Q I4 r2 r4 q4))
theorem sL {op op':CmpOp} {r r':R2} (ho:OpR X (compareOp op) r) (ho':OpR X (compareOp op') r') (ha:PE X a ta) (hb:PE X b tb) (hc:PE X c tc)
  (hm:lastMarks [op,op'] [b,c]=false:=by with_unfolding_all rfl):PT X (.Compare a [op,op'] [b,c] pos) (aIg (aEq r r' ta tb tc)):=by
 intro pins s σ H Q I h
 refine isTrue_chain (thn (ha pins s σ H _ I h) fun v s1 ⟨x,H1,I1,r1,q1⟩=>test_link (thn (hb pins s1 σ H1 _ I1 q1) fun u s2 ⟨y,H2,I2,r2,q2⟩ =>
  thn (ho pins s2 σ H2 x y v u _ I2 r1 r2 q2) fun d s3 ⟨z,H3,I3,r3,k,e,q3⟩=>?_)) hm
 subst e
 cases r3
 refine wpAny_truthy_bool ?_
 cases k with
 | false =>
  obtain⟨k',e',q'⟩:=q3
  cases e'
  exact ite_ff ⟨H3,I3,q'⟩
 | true =>
  refine ite_tt (test_last (thn (hc pins s3 σ H3 _ I3 q3) fun w' s4 ⟨z',H4,I4,r4,q4⟩=>thn (ho' pins s4 σ H4 y z' u w' _ I4 r2 r4 q4) fun d' s5 zq=>?_))
  obtain⟨z2,H5,I5,r5,k2,e2,q5⟩:=zq
  subst e2
  cases r5
  exact wpAny_truthy_bool ⟨H5,I5,q5⟩
def TruV (K:Frag) (x:V) (H:Hp) (k:Bool):Prop :=
 match x with
 | .non=>k=false
 | .bl b=>k=b
 | .int i=>k=(i != 0)
 | .str y=>y.length<=sizeLine/\k=((y.length:Int) != 0)
 | .byt y=>y.size<=sizeLine/\k=((y.size:Int) != 0)
 | .ref p=>(∃ xs,SqL K H p xs/\k = !xs.isEmpty)\/(∃ xs,SqT K H p xs/\k = !xs.isEmpty)\/∃ kvs,H p=some (.dK kvs)/\k = !kvs.isEmpty
 | _=>False
theorem uX {κ : Type} {kvs:List (κ × V)} {vs:List (κ × Value)} (r:KV kvs vs):(!vs.isEmpty) = !kvs.isEmpty:=by
 cases r <;> rfl
theorem iU {xs:List V} {its:List Value} (r:kC xs its):(!its.toArray.isEmpty) = !xs.isEmpty:=by
 cases r <;> simp
theorem dO:(sizeLine:Nat) < 2 ^ 63:=by rw [sizeLine_eq];decide
theorem aJg:TruR X (fun x H Q=>∃ k,TruV X.K x H k/\Q k H):=by
 intro pins s σ H x v Q I rx h
 obtain⟨k,e,q⟩:=h
 have hl:=dO
 have hs:sizeLine=16777216:=sizeLine_eq
 cases x with
 | non =>
  cases rx
  have e':k=false:=e
  subst e'
  exact truthy_none ⟨H,I,q⟩
 | bl b =>
  cases rx
  have e':k=b:=e
  subst e'
  exact wpAny_truthy_bool ⟨H,I,q⟩
 | int i =>
  obtain⟨t,rfl⟩:=rx
  have e':k=(i != 0):=e
  subst e'
  exact PySem.P.truthy_int ⟨H,I,q⟩
 | str y =>
  obtain⟨t,rfl⟩:=rx
  obtain⟨hy,e'⟩ : y.length<=sizeLine/\k=((y.length:Int) != 0):=e
  subst e'
  exact PySem.P.truthy_str (by omega) ⟨H,I.tok _,q⟩
 | byt y =>
  obtain⟨t,rfl⟩:=rx
  obtain⟨hy,e'⟩ : y.size<=sizeLine/\k=((y.size:Int) != 0):=e
  subst e'
  exact PySem.W.truthy_bytes (by omega) ⟨H,I.tok _,q⟩
 | ref p =>
  cases rx
  have e':(∃ xs,SqL X.K H p xs/\k = !xs.isEmpty)\/(∃ xs,SqT X.K H p xs/\k = !xs.isEmpty)\/∃ kvs,H p=some (.dK kvs)/\k = !kvs.isEmpty:=e
  rcases e' with⟨xs,hx,e'⟩|⟨xs,hx,e'⟩|⟨kvs,hx,e'⟩
  ·subst e'
   obtain⟨its,r,pl,hz⟩:=I.list hx
   have hlen:=r.length
   exact wpAny_truthy_list pl.isList (by simp only [List.size_toArray];omega) ⟨H,I.tok _,by rw [iU r];exact q⟩
  ·subst e'
   obtain⟨its,r,pl,hz⟩:=I.tuple hx
   have hlen:=r.length
   exact truthy_tuple pl (by simp only [List.size_toArray];omega) ⟨H,I.tok _,by rw [iU r];exact q⟩
  ·subst e'
   obtain⟨hz,hS,vs,r,m⟩ : kvs.length<=sizeLine/\(p == sysModules)=false/\∃ vs,KV kvs vs/\s.heap.DictOf (kS X.prog X.w) p vs:=I.hok p _ hx
   have hlen:kvs.length=vs.length:=Paired.length r
   exact wpAny_truthy_dict hS m (by omega) ⟨H,I.tok _,by rw [uX r];exact q⟩
 | _=>exact (show False from e).elim
theorem xM (ha:PE X a ta) (he:∀ whole,isTrue a X.env whole=(do let v ← whole;standAt a.pos;holding [v] (truthy v))) :
  PT X a (fun σ H Q=>ta σ H fun x H'=>∃ k,TruV X.K x H' k/\Q k H'):=by
 intro pins s σ H Q I h
 exact isTrue_plain (thn (ha pins s σ H _ I h) fun v s1 ⟨x,H1,I1,r1,q1⟩=>aJg pins s1 σ H1 x v Q I1 r1 q1) (he _)
theorem vals1 {x:V} {us:List Value} (r:kC [x] us):∃ u,us=[u]/\RelV x u:=by
 cases r with
 | cons r1 r2=>cases r2;exact⟨_,rfl,r1⟩
theorem vals2 {x y:V} {us:List Value} (r:kC [x,y] us):∃ u w',us=[u,w']/\RelV x u/\RelV y w':=by
 cases r with
 | cons r1 r2 =>
  cases r2 with
  | cons r3 r4=>cases r4;exact⟨_,_,rfl,r1,r3⟩
theorem nV (hc:X.calm=true):vP X (.builtin "max") (fun xs H Q=>∃ i j,xs=[.int i,.int j]/\Q (.int (if j > i then j else i)) H):=by
 intro pins s σ H xs us Q I r h
 obtain⟨i,j,rfl,q⟩:=h
 obtain⟨u,w',rfl,⟨t,rfl⟩,⟨t',rfl⟩⟩:=vals2 r
 refine max_two_ints (I.ok.hd hc) fun h' tk k=>⟨_,H,I.kept k,?_,q⟩
 by_cases hj:j > i
 ·rw [if_pos hj,if_pos hj];exact⟨_,rfl⟩
 ·rw [if_neg hj,if_neg hj];exact⟨_,rfl⟩
def LenV (K:Frag) (x:V) (H:Hp) (n:Nat):Prop :=
 match x with
 | .str y=>y.length<=sizeLine/\n=y.length
 | .byt y=>y.size<=sizeLine/\n=y.size
 | .ref p=>(∃ xs,SqL K H p xs/\n=xs.length)\/∃ xs,SqT K H p xs/\n=xs.length
 | _=>False
theorem sM:vP X (.builtin "len") (fun xs H Q=>∃ x n,xs=[x]/\LenV X.K x H n/\Q (.int n) H):=by
 intro pins s σ H xs us Q I r h
 obtain⟨x,n,rfl,e,q⟩:=h
 obtain⟨u,rfl,rx⟩:=vals1 r
 have hl:=dO
 have hs:sizeLine=16777216:=sizeLine_eq
 cases x with
 | str y =>
  obtain⟨t,rfl⟩:=rx
  obtain⟨hy,e'⟩ : y.length<=sizeLine/\n=y.length:=e
  subst e'
  exact len_str (by omega) ⟨.int _,H,I.tok _,⟨_,rfl⟩,q⟩
 | byt y =>
  obtain⟨t,rfl⟩:=rx
  obtain⟨hy,e'⟩ : y.size<=sizeLine/\n=y.size:=e
  subst e'
  exact PySem.W.len_bytes (by omega) ⟨.int _,H,I.tok _,⟨_,rfl⟩,q⟩
 | ref p =>
  cases rx
  have e':(∃ xs,SqL X.K H p xs/\n=xs.length)\/∃ xs,SqT X.K H p xs/\n=xs.length:=e
  rcases e' with⟨xs,hx,e'⟩|⟨xs,hx,e'⟩
  ·subst e'
   obtain⟨its,r',pl,hz⟩:=I.list hx
   have hlen:=r'.length
   exact Calls.call_len_list pl.isList (by simp only [List.size_toArray];omega) ⟨.int xs.length,H,I.tok _,⟨_,by simp only [List.size_toArray];rw [hlen]⟩,q⟩
  ·subst e'
   obtain⟨its,r',pl,hz⟩:=I.tuple hx
   have hlen:=r'.length
   exact len_tuple pl (by simp only [List.size_toArray];omega) ⟨.int xs.length,H,I.tok _,⟨_,by simp only [List.size_toArray];rw [hlen]⟩,q⟩
 | _=>exact (show False from e).elim
end
structure wA (h:Heap) (x dx C:Addr) (mA:Str->Option Value):Prop where
 obj:h.get? x=some (PySem.W.instObj C dx)
 ns:h.Ns1 dx mA
 ne:dx ≠ x
theorem oC {h:Heap} {dx:Addr} {mA:Str->Option Value} (n:h.Ns1 dx mA):∃ od,h.get? dx=some od/\∀ name,PySem.W.lookIn name od=some (mA name):=by
 obtain⟨o,es,ep,ho,hd,hk,_,hm⟩:=n
 refine⟨o,ho,fun name=>?_⟩
 have e:=hm name
 unfold nsFind findBy at e
 rw [← Array.find?_toList] at e
 unfold PySem.W.lookIn
 rw [hd]
 dsimp only
 split
 ·rename_i y q
  rw [q] at e
  exact congrArg some e
 ·rename_i q
  rw [q] at e
  have a:es.toList.any (·.refKey)=false:=by
   rw [List.any_eq_false]
   intro y hy
   obtain⟨z,t,hkey⟩:=hk y (Array.mem_toList_iff.mp hy)
   simp [DictEntry.refKey,hkey]
  have a':¬ es.toList.any (·.refKey)=true:=by rw [a];exact Bool.false_ne_true
  rw [if_neg a']
  exact congrArg some e
theorem wA.look {h:Heap} {x dx C:Addr} {mA:Str->Option Value} (I:wA h x dx C mA):∃ od,PySem.W.InstAt h x (PySem.W.instObj C dx) C (some od)/\∀ name,PySem.W.lookIn name od=some (mA name) :=
 let ⟨od,ho,hl⟩:=oC I.ns
 ⟨od,⟨I.obj,rfl,rfl,ho⟩,hl⟩
section
variable {prog:Program} {w:World} {A:Around} {E:Value->Shared->Prop} {s:Shared} {K:Frag} {x dx C f:Addr} {mA:Str->Option Value} {name:Str} {v:Value}
theorem aGe {expr:Bool} {Q:Value->Shared->Prop} (X:K.In s.heap) (I:wA s.heap x dx C mA) (hg:PySem.W.plainGet K C name=true) (hh:PySem.W.hasDictIn K C=true)
  (ha:findIn K (.ref C) name=some none) (hv:mA name=some v) (hv':PySem.W.handedIn v=true) (h:Q v { s with toks:=s.toks + 1 }) :
  wpAny (model prog w) A (getAttr (.ref x) name expr) Q E s:=by
 obtain⟨od,J,hl⟩:=I.look
 exact PySem.W.get_value X J (PySem.W.plainGet_of hg).1 (PySem.W.findObj_own hh ha rfl (by rw [hl,hv])) hv' h
theorem aFc {pl:Sem Bool} {Q:Value × List Value->Shared->Prop} (X:K.In s.heap) (I:wA s.heap x dx C mA) (hg:PySem.W.plainGet K C name=true)
  (hf:findIn K (.ref C) name=some (some (.ref f))) (ht:isFn K (.ref f)=true) (hv:mA name=none) (h:Q (.ref f,[.ref x]) s) :
  wpAny (model prog w) A (getMethod (.ref x) name pl) Q E s:=by
 obtain⟨od,J,hl⟩:=I.look
 exact PySem.W.method_fn X J (PySem.W.plainGet_of hg).1 (PySem.W.plainGet_of hg).2 hf (beq_iff_eq.mp ht) (by show (PySem.W.lookIn name od).map (·.isSome)=some false;rw [hl,hv];rfl) h
theorem aGr {ns:List Str} {Q:Unit->Shared->Prop} (X:K.In s.heap) (I:wA s.heap x dx C mA)
  (hs:findIn K (.ref C) "__setattr__" = some (some (.builtin "object.__setattr__"))) (hp:PySem.W.plainOver K C=true) (ht:PySem.W.takerIn K C name=some none) (hh:PySem.W.hasDictIn K C=true)
  (hw:PySem.Within mA ns) (hsz:ns.length<=sizeLine)
  (h:∀ h',wA h' x dx C (fun y=>if y=name then some v else mA y)->Heap.SameBut dx s.heap h'->Q () { s with heap:=h',toks:=s.toks + 2 }) :
  wpAny (model prog w) A (setAttr (.ref x) name v) Q E s:=by
 obtain⟨od,J,hl⟩:=I.look
 refine PySem.W.set_plain X J hs (PySem.W.osa_open (s:={ s with toks:=s.toks + 1 }) (r:=none) X J hp ht fun b=>?_)
 obtain⟨cd,hc,hd'⟩:=PySem.W.any_some hh
 have hx:s.heap.get? x=some ⟨.ref C,some dx,.plain,#[]⟩:=I.obj
 refine wpAny_bind (wpAny_pure (wpAny_bind (wpAny_bind (wpAny_loadPart hx (wpAny_bind (PySem.W.Looks.here (s:={ s with toks:=s.toks + 1 }) (PySem.W.looks_clsIn X hc) ?_))))))
 rw [hd']
 refine wpAny_pure (a:=some dx) (wpAny_bind (wpAny_pure (wpAny_bind ?_)))
 refine wpAny_nsSet1 (s:={ s with toks:=s.toks + 1 }) I.ns fun h' hn2 hs2=>?_
 obtain⟨oD,esD,epD,hoD,hdD,hcD⟩:=hn2.count (PySem.Within.cons name v hw)
 refine wpAny_bind (wpAny_lookBehind hoD (by rw [hdD];exact pastItsLine_dict (Nat.le_trans hcD (by rw [List.length_cons];omega))) ?_)
 exact wpAny_pure (h _ ⟨(hs2.2 _ (Ne.symm I.ne)).trans I.obj,hn2,I.ne⟩ hs2)
theorem aDu {R:Result->Shared->Prop} {vs:List Value} {kw:List (Str × Value)} (X:K.In s.heap) (hm:PySem.W.makesIn K C=true)
  (hi:findIn K (.ref C) "__init__" = some (some (.ref f))) (hf:PySem.W.typeIn K (.ref f)=some (.type "function"))
  (h:codeAny (model prog w) (A.under (.builtin "type.__call__" ⟨.ref C::vs,kw⟩)) (.call (.ref f) ⟨.ref (s.heap.objs.size + 1)::vs,kw⟩) (PySem.W.InitBack (s.heap.objs.size + 1) R)
   { s with heap:=(s.heap.push PySem.W.emptyDict).push (PySem.W.instObj C s.heap.objs.size) }) :
  codeAny (model prog w) A (.call (.ref C) ⟨vs,kw⟩) R s:=by
 obtain⟨hh,g,d,t,os⟩:=s
 exact PySem.W.make_core (PySem.W.makes_of X hm) (PySem.W.looks_findIn X hi) (fun self=>PySem.W.bind_fn X self hf) (.inl rfl) h
end
def yR (f:Str) (v:V):List (Str × V)->List (Str × V)
 | []=>[(f,v)]
 | (g,x)::r=>if g=f then (g,v)::r else (g,x)::yR f v r
theorem cI (f g:Str) (v:V):∀ fs:List (Str × V),(yR f v fs).lookup g=if g=f then some v else fs.lookup g
 | []=>by
  show List.lookup g [(f,v)]=_
  by_cases h:g=f
  ·have hb:(g == f)=true:=beq_iff_eq.mpr h
   simp only [List.lookup,hb,if_pos h]
  ·have hb:(g == f)=false:=beq_eq_false_iff_ne.mpr h
   simp only [List.lookup,hb,if_neg h]
 | (k,x)::r=>by
  have ih:=cI f g v r
  rw [show yR f v ((k,x)::r)=(if k=f then (k,v)::r else (k,x)::yR f v r) from rfl]
  by_cases hk:k=f
  ·rw [if_pos hk]
   by_cases h:g=k
   ·have hb:(g == k)=true:=beq_iff_eq.mpr h
    simp only [List.lookup,hb,if_pos (h.trans hk)]
   ·have hb:(g == k)=false:=beq_eq_false_iff_ne.mpr h
    simp only [List.lookup,hb,if_neg (fun e:g=f=>h (e.trans hk.symm))]
  ·rw [if_neg hk]
   by_cases h:g=k
   ·have hb:(g == k)=true:=beq_iff_eq.mpr h
    simp only [List.lookup,hb,if_neg (fun e:g=f=>hk (h.symm.trans e))]
   ·have hb:(g == k)=false:=beq_eq_false_iff_ne.mpr h
    simp only [List.lookup,hb]
    exact ih
theorem zX (f:Str) (v:V):∀ fs:List (Str × V),f ∈ (yR f v fs).map (·.1)/\∀ g,g ∈ fs.map (·.1)->g ∈ (yR f v fs).map (·.1)
 | []=>⟨by simp [yR],fun g h=>by simp at h⟩
 | (k,x)::r=>by
  obtain⟨i1,i2⟩:=zX f v r
  rw [show yR f v ((k,x)::r)=(if k=f then (k,v)::r else (k,x)::yR f v r) from rfl]
  by_cases hk:k=f
  ·rw [if_pos hk]
   subst hk
   exact⟨by simp,fun g h=>by simpa using h⟩
  ·rw [if_neg hk]
   refine⟨?_,fun g h=>?_⟩
   ·rw [List.map_cons]
    exact List.mem_cons_of_mem _ i1
   ·rw [List.map_cons] at h ⊢
    rcases List.mem_cons.mp h with e|e
    ·exact List.mem_cons.mpr (.inl e)
    ·exact List.mem_cons_of_mem _ (i2 g e)
theorem gM (f:Str) (v:V):∀ fs:List (Str × V),(yR f v fs).length<=fs.length + 1
 | []=>by simp [yR]
 | (k,x)::r=>by
  have ih:=gM f v r
  rw [show yR f v ((k,x)::r)=(if k=f then (k,v)::r else (k,x)::yR f v r) from rfl]
  by_cases hk:k=f
  ·rw [if_pos hk,List.length_cons,List.length_cons];omega
  ·rw [if_neg hk,List.length_cons,List.length_cons];omega
theorem yD.some_of {v:V} {o:Option Value} (r:yD (some v) o):∃ u,o=some u/\RelV v u:=by
 cases o with
 | none=>exact (show False from r).elim
 | some u=>exact⟨u,rfl,r⟩
theorem yD.none_of {o:Option Value} (r:yD none o):o=none:=by
 cases o with
 | none=>rfl
 | some u=>exact (show False from r).elim
theorem nQ {v:V} {u:Value} (r:RelV v u):PySem.W.handedIn u=true:=by
 cases v with
 | non=>cases (show u=Value.none from r);rfl
 | bl b=>cases (show u=Value.bool b from r);rfl
 | int i=>obtain⟨t,e⟩:=(show ∃ t,u=Value.int i t from r);cases e;rfl
 | str x=>obtain⟨t,e⟩:=(show ∃ t,u=Value.str x t from r);cases e;rfl
 | byt b=>obtain⟨t,e⟩:=(show ∃ t,u=Value.bytes b t from r);cases e;rfl
 | flt b=>obtain⟨t,e⟩:=(show ∃ t,u=Value.float b t from r);cases e;rfl
 | ref a=>cases (show u=Value.ref a from r);rfl
 | ty n=>cases (show u=Value.type n from r);rfl
section
variable {P:Program} {w:World} {H H':Hp} {h h':Heap} {a C dx:Addr} {fs fs':List (Str × V)}
theorem iO (hok:HOk P w H h) (e:H a=some (.ins C dx fs)):∃ mA,wA h a dx C mA/\(∀ f,yD (fs.lookup f) (mA f))/\PySem.Within mA (fs.map (·.1))/\fs.length<=1000/\H dx=some (.own a):=by
 obtain⟨d,z,ne,ob,mA,n,r,q⟩:=(show qC P w H h a (.ins C dx fs) from hok a _ e)
 exact⟨mA,⟨ob,n,ne⟩,r,q,z,d⟩
end
structure Cls (K:Frag) (C:Addr):Prop where
 pg:PySem.W.plainGet K C Str.empty=true
 hd:PySem.W.hasDictIn K C=true
 po:PySem.W.plainOver K C=true
 sa:findIn K (.ref C) "__setattr__" = some (some (.builtin "object.__setattr__"))
theorem Cls.get {K:Frag} {C:Addr} (c:Cls K C) (f:Str):PySem.W.plainGet K C f=true:=c.pg
def yV (K:Frag) (C:Addr) (f:Str):Prop:=findIn K (.ref C) f=some none
theorem yV.taker {K:Frag} {C:Addr} {f:Str} (n:yV K C f):PySem.W.takerIn K C f=some none:=by
 unfold PySem.W.takerIn
 rw [show findIn K (.ref C) f=some none from n]
 rfl
structure Meth (K:Frag) (C:Addr) (m:Str) (f:Addr):Prop where
 at_:findIn K (.ref C) m=some (some (.ref f))
 fn:isFn K (.ref f)=true
 kp:keepIn K (.ref f)=true
section
variable {X:Cx} {pins:List (Addr × Obj)} {σ:St} {H:Hp} {s:Shared} {a C dx:Addr} {fs:List (Str × V)} {f:Str} {v:V} {A:Around} {E:Value->Shared->Prop}
theorem uZ {b:Bool} {Q:Value->Shared->Prop} (I:Inv X pins σ H s) (e:H a=some (.ins C dx fs)) (c:Cls X.K C) (n:yV X.K C f) (l:fs.lookup f=some v)
  (h:∀ u s',Inv X pins σ H s'->RelV v u->Q u s'):wpAny (model X.prog X.w) A (getAttr (.ref a) f b) Q E s:=by
 obtain⟨mA,O,r,_,_,_⟩:=iO I.hok e
 obtain⟨u,hu,ru⟩:=yD.some_of (v:=v) (o:=mA f) (by rw [← l];exact r f)
 exact aGe I.kIn O (c.get f) c.hd n hu (nQ ru) (h u _ (I.tok _) ru)
theorem dJ {m:Str} {g:Addr} {pl:Sem Bool} {Q:Value × List Value->Shared->Prop} (I:Inv X pins σ H s) (e:H a=some (.ins C dx fs)) (c:Cls X.K C) (k:Meth X.K C m g) (l:fs.lookup m=none)
  (h:Q (.ref g,[.ref a]) s):wpAny (model X.prog X.w) A (getMethod (.ref a) m pl) Q E s:=by
 obtain⟨mA,O,r,_,_,_⟩:=iO I.hok e
 have hn:mA m=none:=yD.none_of (by rw [← l];exact r m)
 exact aFc I.kIn O (c.get m) k.at_ k.fn hn h
theorem uR {y:V} {u:Value} {Q:Unit->Shared->Prop} (I:Inv X pins σ H s) (e:H a=some (.ins C dx fs)) (c:Cls X.K C) (n:yV X.K C f) (hl:fs.length < 1000) (ry:RelV y u)
  (h:∀ s',Inv X pins σ (upd H a (.ins C dx (yR f y fs))) s'->Q () s'):wpAny (model X.prog X.w) A (setAttr (.ref a) f u) Q E s:=by
 obtain⟨mA,O,r,wi,_,ho⟩:=iO I.hok e
 have hz:(fs.map (·.1)).length<=sizeLine:=by rw [List.length_map,sizeLine_eq];omega
 refine aGr I.kIn O c.sa c.po n.taker c.hd wi hz fun h' O' sb=>h _ ?_
 have hd:∃ o,h'.get? dx=some o:=let ⟨o,_,_,e',_⟩:=O'.ns; ⟨o,e'⟩
 refine I.write (x:=a) (e:=dx) (by rw [e];exact True.intro) (.inr ho) (fun b q hb z=>(sb.2 b hb).trans z) hd ?_
 refine⟨by rw [jS O.ne];exact ho,?_,O.ne,O'.obj,_,O'.ns,fun g=>?_,fun g hg=>?_⟩
 ·have:=gM f y fs;omega
 ·show yD ((yR f y fs).lookup g) (if g=f then some u else mA g)
  rw [cI]
  by_cases q:g=f
  ·rw [if_pos q,if_pos q];exact ry
  ·rw [if_neg q,if_neg q];exact r g
 ·by_cases q:g=f
  ·rw [q];exact (zX f y fs).1
  ·refine (zX f y fs).2 g (wi g fun z=>hg ?_)
   show (if g=f then some u else mA g)=none
   rw [if_neg q];exact z
theorem Inv.made (I:Inv X pins σ H s):Inv X pins σ (upd (upd H s.heap.objs.size (.own (s.heap.objs.size + 1))) (s.heap.objs.size + 1) (.ins C s.heap.objs.size []))
  { s with heap:=(s.heap.push PySem.W.emptyDict).push (PySem.W.instObj C s.heap.objs.size) }:=by
 have e1:(s.heap.push PySem.W.emptyDict).get? s.heap.objs.size=some PySem.W.emptyDict:=Heap.get?_push_size s.heap rfl
 have e2:((s.heap.push PySem.W.emptyDict).push (PySem.W.instObj C s.heap.objs.size)).get? (s.heap.objs.size + 1)=some (PySem.W.instObj C s.heap.objs.size):=by
  have:=Heap.get?_push_size (s.heap.push PySem.W.emptyDict) (o:=PySem.W.instObj C s.heap.objs.size) rfl
  rwa [Heap.size_push] at this
 have e3:(s.heap.push PySem.W.emptyDict).Ns s.heap.objs.size (fun _=>none):=⟨PySem.W.emptyDict,#[],_,e1,rfl,(fun e he=>absurd he (by simp)),fun _=>rfl⟩
 have I1:=I.laid (a:=s.heap.objs.size) (o:=.own (s.heap.objs.size + 1)) (h':=s.heap.push PySem.W.emptyDict) (t':=s.toks) (fun b u q=>Heap.get?_push_of_some _ q) (Nat.le_refl _) ⟨_,e1⟩
 refine I1.laid (a:=s.heap.objs.size + 1) (o:=.ins C s.heap.objs.size []) (t':=s.toks) (fun b u q=>Heap.get?_push_of_some _ q) (Nat.le_of_eq (Heap.size_push _ _)) ?_
 have ne:s.heap.objs.size ≠ s.heap.objs.size + 1:=Nat.ne_of_lt (Nat.lt_succ_self _)
 refine⟨by rw [jS ne,jH],Nat.zero_le _,ne,e2,fun _=>none,(Heap.Ns1.of_empty e3).at fun o q=>Heap.get?_push_of_some _ q,fun _=>True.intro,fun y hy=>absurd rfl hy⟩
theorem aAy {prog:Program} {w:World} {env:Env} {e:Expr} {f:Str} {pos:Pos} {s:Shared} {Q:Value->Shared->Prop} (hb:attributeBase e f env (eval e env)=eval e env)
  (h:wpAny (model prog w) A (eval e env) (fun o s₁=>wpAny (model prog w) A (getAttr o f true) Q E s₁) E s):wpAny (model prog w) A (eval (.Attribute e f pos) env) Q E s :=
 Attribute_any_ h (by rw [arm_eval_Attribute,hb])
end
def tFld (K:Frag) (ta:TE) (f:Str):TE:=fun σ H Q=>ta σ H fun x H1=>∃ a C dx fs v,x=.ref a/\H1 a=some (.ins C dx fs)/\Cls K C/\yV K C f/\fs.lookup f=some v/\Q v H1
def sFld (K:Frag) (ta tv:TE) (f:Str):TS:=fun D σ H=>tv σ H fun y H1=>ta σ H1 fun x H2=>∃ a C dx fs,x=.ref a/\H2 a=some (.ins C dx fs)/\Cls K C/\yV K C f/\fs.length < 1000 ∧
 D.nx σ (upd H2 a (.ins C dx (yR f y fs)))
section
variable {X:Cx} {o e value:Expr} {f:Str} {pos pos' tpos:Pos} {ta tv:TE}
theorem kH (he:PE X e ta) (hb:attributeBase e f X.env (eval e X.env)=eval e X.env):PE X (.Attribute e f pos) (tFld X.K ta f):=by
 intro pins s σ H Q I h
 refine aAy hb (thn (he pins s σ H _ I h) fun u s1 zq=>?_)
 obtain⟨x,H1,I1,rx,a,C,dx,fs,v,ex,ea,c,n,l,q⟩:=zq
 subst ex
 obtain rfl:u=Value.ref a:=rx
 exact uZ I1 ea c n l fun u' s2 I2 ru=>⟨v,H1,I2,ru,q⟩
theorem kT (ha:PE X o ta) (hv:PE X value tv) (hs:swapsWith value (some (.Attribute o f pos')) pos.line X.env=pure false):PS X (.Assign [.Attribute o f pos'] value pos) (sFld X.K ta tv f):=by
 intro pins s σ H D I h
 refine plainObj_wpAny_Assign_Attribute (thn (hv pins s σ H _ I h) fun u s1 ⟨y,H1,I1,ry,q⟩=>thn (ha pins s1 σ H1 _ I1 q) fun ov s2 zq=>?_) hs
 obtain⟨x,H2,I2,rx,a,C,dx,fs,ex,ea,c,n,l,q2⟩:=zq
 subst ex
 obtain rfl:ov=Value.ref a:=rx
 exact uR I2 ea c n l ry fun s3 I3=>⟨σ,_,I3,q2⟩
end
section
variable {X:Cx} {pins:List (Addr × Obj)} {σ:St} {H:Hp} {s:Shared} {A:Around} {E:Value->Shared->Prop} {Q:Value->Shared->Prop} {c:Value} {b:Bool}
inductive eK (K:Frag) (H:Hp):V->Value->Prop where
 | non:eK K H .non (.type "NoneType")
 | bl (x:Bool):eK K H (.bl x) (.type "bool")
 | int (i:Int):eK K H (.int i) (.type "int")
 | str (x:Str):eK K H (.str x) (.type "str")
 | flt (x:UInt64):eK K H (.flt x) (.type "float")
 | lst {a:Addr} {xs:List V} (e:H a=some (.lst xs)):eK K H (.ref a) (.type "list")
 | frz {a:Addr} {o:Obj} {xs:List V} (e:H a=some (.frz o (.lst xs))):eK K H (.ref a) (.type "list")
 | tup {a:Addr} {xs:List V} (e:H a=some (.tup xs)):eK K H (.ref a) (.type "tuple")
 | dK {a:Addr} {kvs:List (Key × V)} (e:H a=some (.dK kvs)):eK K H (.ref a) (.type "dict")
 | dT {a:Addr} {kvs:List (List Key × V)} (e:H a=some (.dT kvs)):eK K H (.ref a) (.type "dict")
 | ins {a C dx:Addr} {fs:List (Str × V)} (e:H a=some (.ins C dx fs)) (cl:Cls K C) (ha:findIn K (.ref C) "__class__" = some (some (.builtin "object.__class__")))
   (hn:PySem.W.specialIn K (.builtin "object.__class__") "__get__" = some (some (.builtin "getset_descriptor.__get__"))) (htk:PySem.W.takesIn K (.builtin "object.__class__")=some true)
   (hm:PySem.W.mroIn K C (.type "object")=some true):eK K H (.ref a) (.ref C)
theorem aBh {x:V} {u t:Value} (I:Inv X pins σ H s) (rx:RelV x u) (ty:eK X.K H x t) (e:PySem.W.kitOne X.K t c=some b) (h:∀ tk,Q (.bool b) { s with toks:=tk }) :
  wpAny (model X.prog X.w) A (call (.builtin "isinstance") [u,c]) Q E s:=by
 cases ty with
 | non=>cases (show u=Value.none from rx);exact PySem.W.kia_one PySem.W.kitx_none I.kIn True.intro e (fun z=>nomatch z) h
 | bl y=>cases (show u=Value.bool y from rx);exact PySem.W.kia_one PySem.W.kitx_bool I.kIn True.intro e (fun z=>nomatch z) h
 | int i=>obtain⟨t,q⟩:=(show ∃ t,u=Value.int i t from rx);cases q;exact PySem.W.kia_one PySem.W.kitx_int I.kIn True.intro e (fun z=>nomatch z) h
 | str y=>obtain⟨t,q⟩:=(show ∃ t,u=Value.str y t from rx);cases q;exact PySem.W.kia_one PySem.W.kitx_str I.kIn True.intro e (fun z=>nomatch z) h
 | flt y=>obtain⟨t,q⟩:=(show ∃ t,u=Value.float y t from rx);cases q;exact PySem.W.kia_one PySem.W.kitx_float I.kIn True.intro e (fun z=>nomatch z) h
 | @lst a xs ea =>
  cases (show u=Value.ref a from rx)
  obtain⟨_,_,n,_,h1⟩:=(show qC X.prog X.w H s.heap a (.lst xs) from I.hok a _ ea)
  exact PySem.W.kia_one PySem.W.kitx_list I.kIn ⟨_,h1,rfl⟩ e (fun z=>nomatch z) h
 | @frz a ob xs ea =>
  cases (show u=Value.ref a from rx)
  obtain⟨_,_,_,n,_,h1⟩:=(show qC X.prog X.w H s.heap a (.frz ob (.lst xs)) from I.hok a _ ea)
  exact PySem.W.kia_one PySem.W.kitx_list I.kIn ⟨_,h1,rfl⟩ e (fun z=>nomatch z) h
 | @tup a xs ea =>
  cases (show u=Value.ref a from rx)
  obtain⟨_,_,_,p⟩:=(show qC X.prog X.w H s.heap a (.tup xs) from I.hok a _ ea)
  obtain⟨o,h1,h2,_⟩:=p
  exact PySem.W.kia_one PySem.W.kitx_tuple I.kIn ⟨o,h1,h2⟩ e (fun z=>nomatch z) h
 | @dK a kvs ea =>
  cases (show u=Value.ref a from rx)
  obtain⟨_,_,vs,_,p⟩:=(show qC X.prog X.w H s.heap a (.dK kvs) from I.hok a _ ea)
  obtain⟨o,es,ep,h1,h2,_⟩:=p
  exact PySem.W.kia_one PySem.W.kitx_dict I.kIn ⟨o,h1,h2.1⟩ e (fun z=>nomatch z) h
 | @dT a kvs ea =>
  cases (show u=Value.ref a from rx)
  obtain⟨_,_,xs,_,o,es,ep,h1,h2,_⟩:=(show qC X.prog X.w H s.heap a (.dT kvs) from I.hok a _ ea)
  exact PySem.W.kia_one PySem.W.kitx_dict I.kIn ⟨o,h1,h2.1⟩ e (fun z=>nomatch z) h
 | @ins a C dx fs ea cl ha hn htk hm =>
  cases (show u=Value.ref a from rx)
  obtain⟨mA,O,_⟩:=iO I.hok ea
  obtain⟨od,J,_⟩:=O.look
  exact PySem.W.kia_one (PySem.W.kitx_own (cl.get _) cl.hd ha hn htk hm) I.kIn J e (fun z=>nomatch z) h
end
structure qX (k:Nat) (A:Around):Prop where
 hd:A.handled=none
 dp:A.depth + 3 * k + 5 < recursionLimit
 un:A.units + 16 * k + 200 < cLine
 gd:A.guards=some []
theorem qX.mono {j k:Nat} {A:Around} (r:qX k A) (h:j<=k):qX j A:=⟨r.hd,by have:=r.dp;omega,by have:=r.un;omega,r.gd⟩
theorem qX.deeper {k:Nat} {A:Around} (r:qX (k + 1) A) (env:Env):qX k (A.deeper env) :=
 ⟨r.hd,by have:=r.dp;show A.depth + 1 + 3 * k + 5 < _;omega,by have:=r.un;show A.units + 3 + 16 * k + 200 < _;omega,r.gd⟩
theorem qX.in1 {k:Nat} {A:Around} (r:qX (k + 1) A):qX k A.in1 :=
 ⟨r.hd,by have:=r.dp;show A.depth + 3 * k + 5 < _;omega,by have:=r.un;show A.units + 1 + 16 * k + 200 < _;omega,r.gd⟩
theorem uV {A:Around} {C:Addr} {us:List Value} {kw:List (Str × Value)} : (A.under (.builtin "type.__call__" ⟨.ref C::us,kw⟩)).depth=A.depth + 1:=by
 first|rfl|simp [Around.under,Code.weight,Code.isCreation,Code.isGuard,Code.isCaller,Code.frames,Code.isFrame,guardIds]
theorem uT {A:Around} {C:Addr} {us:List Value} {kw:List (Str × Value)} : (A.under (.builtin "type.__call__" ⟨.ref C::us,kw⟩)).units=A.units + 1:=by
 first|rfl|simp [Around.under,Code.cUnits,Code.frames,Code.isFrame]
theorem sE {A:Around} {C:Addr} {us:List Value} {kw:List (Str × Value)} : (A.under (.builtin "type.__call__" ⟨.ref C::us,kw⟩)).guards=A.guards:=by
 have hg:guardIds.contains "type.__call__" = false:=by decide +kernel
 have e:Code.guards (.builtin "type.__call__" ⟨.ref C::us,kw⟩)=[]:=by
  unfold Code.guards
  rw [if_neg (fun z=>by rw [show Code.isGuard (.builtin "type.__call__" ⟨.ref C::us,kw⟩)=guardIds.contains "type.__call__" from rfl,hg] at z;cases z)]
 unfold Around.under
 rw [e]
 rfl
theorem qX.make {k:Nat} {A:Around} (r:qX (k + 1) A) (C:Addr) (us:List Value) (kw:List (Str × Value)):qX k (A.under (.builtin "type.__call__" ⟨.ref C::us,kw⟩)) :=
 ⟨r.hd,by have:=r.dp;rw [uV];omega,by have:=r.un;rw [uT];omega,sE.trans r.gd⟩
theorem qX.depth {k:Nat} {A:Around} (r:qX k A):A.depth < recursionLimit:=by have:=r.dp;omega
theorem qX.units {k:Nat} {A:Around} (r:qX k A):A.units + 64 < cLine:=by have:=r.un;omega
def tNil:TA:=fun _ H Q=>Q [] H
def aIk (ta:TE) (tr:TA):TA:=fun σ H Q=>ta σ H fun x H1=>tr σ H1 fun xs H2=>Q (x::xs) H2
section
variable {X:Cx} {e:Expr} {es:List Expr} {te:TE} {t:TA} {pos:Pos}
theorem jB:PA X [] tNil:=fun _ _ _ _ H Q I h=>Calls.spliced_nil ⟨[],H,I,.nil,h⟩
theorem jA (ha:PE X e te) (hr:PA X es t) (hs:starEach (e::es) X.env=(false,eval e X.env)::starEach es X.env:=by rfl):PA X (e::es) (aIk te t):=by
 intro pos pins s σ H Q I h
 rw [hs]
 show wpAny _ _ (spliced ((false,eval e X.env)::backTo pos (starEach es X.env))) _ _ s
 refine Calls.spliced_cons (thn (ha pins s σ H _ I h) fun u s1 zq=>?_)
 obtain⟨x,H1,I1,r1,q1⟩:=zq
 exact thn (hr pos pins s1 σ H1 _ I1 q1) fun us s2 ⟨xs,H2,I2,r2,q2⟩=>⟨x::xs,H2,I2,.cons r1 r2,q2⟩
def tTup (t:TA):TE:=fun σ H Q=>t σ H fun xs H1=>xs.length<=sizeLine/\∀ p,H1 p=none->Q (.ref p) (upd H1 p (.tup xs))
def tLst (t:TA):TE:=fun σ H Q=>t σ H fun xs H1=>xs.length<=sizeLine/\∀ p,H1 p=none->Q (.ref p) (upd H1 p (.lst xs))
theorem qT {x1} (h:PA X es t):PE X (.Tuple es x1 pos) (tTup t):=by
 intro pins s σ H Q I hq
 refine wpAny_Tuple_spliced (thn (h pos pins s σ H _ I hq) fun us s1 ⟨xs,H1,I1,r,z,q⟩=>⟨by rw [← r.length];exact z,?_⟩)
 have hf:H1 s1.heap.objs.size=none:=I1.hok.fresh (Nat.le_refl _)
 refine⟨.ref s1.heap.objs.size,upd H1 s1.heap.objs.size (.tup xs),I1.laid (t':=s1.toks) (fun b u e=>Heap.get?_push_of_some _ e) (Nat.le_refl _) ?_,rfl,q _ hf⟩
 exact⟨z,us,r,⟨_,Heap.get?_push_size _ rfl,rfl,_,rfl⟩⟩
theorem kG (h:PA X es t):PE X (.List es pos) (tLst t):=by
 intro pins s σ H Q I hq
 refine wpAny_List_spliced (thn (h pos pins s σ H _ I hq) fun us s1 ⟨xs,H1,I1,r,z,q⟩=>⟨by rw [← r.length];exact z,?_⟩)
 have hf:H1 s1.heap.objs.size=none:=I1.hok.fresh (Nat.le_refl _)
 refine⟨.ref s1.heap.objs.size,upd H1 s1.heap.objs.size (.lst xs),I1.laid (t':=s1.toks) (fun b u e=>Heap.get?_push_of_some _ e) (Nat.le_refl _) ?_,rfl,q _ hf⟩
 exact⟨z,us,0,r,Heap.get?_push_size _ rfl⟩
end
abbrev Sp:=List V->Hp->VK->XK->Prop
abbrev CXT:=List Env->Hp->Shared->XK->Value->Shared->Prop
structure nC (P:Program) (w:World) (K:Frag) (mg:Str->Option Value) (base:Heap) (A:Around) (outer:List Env) (s:Shared) (H:Hp):Prop where
 frames:A.frames=some outer
 mod:Mod K mg base
 bs:∀ b o,base.get? b=some o->s.heap.get? b=some o/\H b=none
 bsz:base.objs.size<=s.heap.objs.size
 funs:s.heap.FunFrames base outer
 frf:∀ b ∈ frs outer,H b=none
 hok:HOk P w H s.heap
 bare:AllBare s.gens
def CE (outer:List Env) (P:Program) (w:World) (H:Hp) (s:Shared) (Q:VK) (u:Value) (s':Shared):Prop :=
 ∃ v H',s'.os=s.os/\AllBare s'.gens/\Un (frs outer) [] H H' s.heap s'.heap/\HOk P w H' s'.heap/\RelV v u/\Q v H'
def CR (CX:CXT) (outer:List Env) (P:Program) (w:World) (H:Hp) (s:Shared) (Q:VK) (E:XK) (r:Result) (s':Shared):Prop :=
 match r with
 | .ok (.ret u)=>CE outer P w H s Q u s'
 | .ok _=>False
 | .error e=>CX outer H s E e s'
structure jK (P:Program) (w:World) (K:Frag) (mg:Str->Option Value) (base:Heap) (CX:CXT) (k:Nat) (f:Addr) (fd:FuncData) (ps:List Str) (sp:Sp):Prop where
 len:∀ vs H Q E,sp vs H Q E->vs.length=ps.length
 run:∀ (A:Around) (outer:List Env) (s:Shared) (H:Hp) (args:Args) (us:List Value) (vs:List V) (Q:VK) (E:XK),qX k A->nC P w K mg base A outer s H->BindsTo s fd args (ps.zip us)->kC vs us->sp vs H Q E →
  codeAny (model P w) A (.call (.ref f) args) (CR CX outer P w H s Q E) s
theorem jK.mono {P:Program} {w:World} {K:Frag} {mg:Str->Option Value} {base:Heap} {CX:CXT} {j k:Nat} {f:Addr} {fd:FuncData} {ps:List Str} {sp:Sp} (F:jK P w K mg base CX j f fd ps sp) (h:j<=k) :
  jK P w K mg base CX k f fd ps sp:=⟨F.len,fun A outer s H args us vs Q E hr=>F.run A outer s H args us vs Q E (hr.mono h)⟩
theorem jK.imp {P:Program} {w:World} {K:Frag} {mg:Str->Option Value} {base:Heap} {CX:CXT} {k:Nat} {f:Addr} {fd:FuncData} {ps:List Str} {sp sp':Sp} (F:jK P w K mg base CX k f fd ps sp)
  (h:∀ vs H Q E,sp' vs H Q E->sp vs H Q E):jK P w K mg base CX k f fd ps sp' :=
 ⟨fun vs H Q E q=>F.len vs H Q E (h _ _ _ _ q),fun A outer s H args us vs Q E hr he hb hv hs=>F.run A outer s H args us vs Q E hr he hb hv (h _ _ _ _ hs)⟩
theorem nC.make {P:Program} {w:World} {K:Frag} {mg:Str->Option Value} {base:Heap} {A:Around} {outer:List Env} {s:Shared} {H:Hp} (e:nC P w K mg base A outer s H) (C:Addr) (us:List Value) (kw:List (Str × Value)) :
  nC P w K mg base (A.under (.builtin "type.__call__" ⟨.ref C::us,kw⟩)) outer s H:=⟨by first|exact e.frames|(simpa [Around.under,Code.envs,Code.isFrame,pushEnvs] using e.frames),e.mod,e.bs,e.bsz,e.funs,e.frf,e.hok,e.bare⟩
theorem nC.in1 {P:Program} {w:World} {K:Frag} {mg:Str->Option Value} {base:Heap} {A:Around} {outer:List Env} {s:Shared} {H:Hp} (e:nC P w K mg base A outer s H) :
  nC P w K mg base A.in1 outer s H:=⟨e.frames,e.mod,e.bs,e.bsz,e.funs,e.frf,e.hok,e.bare⟩
section
variable {X:Cx} {pins:List (Addr × Obj)} {σ:St} {H:Hp} {s s':Shared}
theorem Inv.env0 (I:Inv X pins σ H s):nC X.prog X.w X.K X.mg X.base X.A X.stack s H :=
 ⟨I.ok.frames,I.ok.mod,I.bs,Nat.le_trans I.ok.bsz I.sz,I.stack,I.stkFree,I.hok,I.bare⟩
theorem Inv.after {Q:VK} {u:Value} (I:Inv X pins σ H s) (h:CE X.stack X.prog X.w H s Q u s'):EP X pins σ Q u s':=by
 obtain⟨v,H',os,bare,un,hok,r,q⟩:=h
 obtain⟨hh,g,d,t,os'⟩:=s'
 obtain rfl:os'=s.os:=os
 exact⟨v,H',I.call (h':=hh) (g':=g) (d':=d) (t':=t) (ch:=[]) un hok bare (fun b z=>absurd z (by simp)),r,q⟩
end
def aDa (sp:Sp) (dvs:List V) (E:XK) (t:TA):TE:=fun σ H Q=>t σ H fun vs H1=>sp (vs++dvs) H1 Q E
def tMeth (C:Addr) (m:Str) (sp:Sp) (dvs:List V) (E:XK) (ta:TE) (t:TA):TE:=fun σ H Q=>ta σ H fun x H1=>∃ a dx fs,x=.ref a/\H1 a=some (.ins C dx fs)/\fs.lookup m=none ∧
 t σ H1 fun vs H2=>sp (x::(vs++dvs)) H2 Q E
def tMake (C:Addr) (sp:Sp) (dvs:List V) (E:XK) (t:TA):TE:=fun σ H Q=>t σ H fun vs H1=>∀ x dx,H1 x=none->H1 dx=none->dx ≠ x →
 sp (.ref x::(vs++dvs)) (upd (upd H1 dx (.own x)) x (.ins C dx [])) (fun v H2=>v=.non/\Q (.ref x) H2) E
def Binds (K:Frag) (fd:FuncData) (ps:List Str) (ds:List Value):Prop :=
 ∀ (s:Shared) (us:List Value),K.In s.heap->(us++ds).length=ps.length->BindsTo s fd ⟨us,[]⟩ (ps.zip (us++ds))
theorem Binds.all {K:Frag} {fd:FuncData} {ps:List Str} (h:∀ us:List Value,us.length=ps.length->bindArgs fd ⟨us,[]⟩=pure (ps.zip us)):Binds K fd ps []:=fun s us _ hl=>by
 rw [List.append_nil] at hl ⊢
 exact .of_eq (h us hl)
def xV (CX:CXT) (X:Cx) (E:XK):Prop:=∀ (pins:List (Addr × Obj)) (σ:St) (H:Hp) (s:Shared) (e:Value) (s':Shared),Inv X pins σ H s->CX X.stack H s E e s'->X.xe e s'
section
variable {X:Cx} {CX:CXT} {k:Nat} {f C:Addr} {fd:FuncData} {ps:List Str} {sp:Sp} {dvs:List V} {ds:List Value} {E:XK} {x m:Str} {p pos apos:Pos} {e o:Expr} {es:List Expr} {ta:TE} {t:TA}
theorem lQ {pins:List (Addr × Obj)} {σ:St} {H:Hp} {s:Shared} {Q:VK} {us:List Value} {vs:List V} (F:jK X.prog X.w X.K X.mg X.base CX k f fd ps sp) (hr:qX k X.A) (hb:Binds X.K fd ps ds) (hd:kC dvs ds) (hx:xV CX X E)
  (I:Inv X pins σ H s) (r:kC vs us) (h:sp (vs++dvs) H Q E):wpAny (model X.prog X.w) X.A (call (.ref f) us) (EP X pins σ Q) X.xe s:=by
 have r2:kC (vs++dvs) (us++ds):=r.append hd
 have hl:(us++ds).length=ps.length:=by rw [← r2.length];exact F.len _ _ _ _ h
 refine wpAny_call (codeAny_mono (F.run X.A X.stack s H ⟨us,[]⟩ (us++ds) (vs++dvs) Q E hr I.env0 (hb s us I.kIn hl) r2 h) fun r s' hq=>?_)
 cases r with
 | error e=>exact hx pins σ H s e s' I hq
 | ok fl =>
  cases fl with
  | ret u=>exact I.after hq
  | next=>exact False.elim hq
  | brk=>exact False.elim hq
  | cont=>exact False.elim hq
theorem jQ (F:jK X.prog X.w X.K X.mg X.base CX k f fd ps sp) (hr:qX k X.A) (hg:Gl X x) (hm:X.mg x=some (.ref f)) (hk:keepIn X.K (.ref f)=true) (hb:Binds X.K fd ps ds) (hd:kC dvs ds) (hx:xV CX X E)
  (ha:PA X (e::es) t) (hdb:(x == ("__debug__" : Str))=false:=by decide) (he:starEach (e::es) X.env=(false,eval e X.env)::starEach es X.env:=by rfl) (hpl:(backTo pos (starEach es X.env)).any (·.1)=false:=by rfl) :
  PE X (.Call (.Name x p) (e::es) [] pos) (aDa sp dvs E t):=by
 intro pins s σ H Q I h
 refine wpAny_Call_Name_kw (cN I hg hm ?_ hdb)
 refine PySem.W.callWith_K (h₀:=X.base) I.ok.mod.kin hk (thn (ha pos pins s σ H _ I h) fun us s1 ⟨vs,H1,I1,r,q⟩=>⟨I1.kIn,?_⟩) he hpl
 exact lQ F hr hb hd hx I1 r q
theorem vS {pl:Sem Bool} (he:PE X o ta) (c:Cls X.K C) (hm:Meth X.K C m f) (F:jK X.prog X.w X.K X.mg X.base CX k f fd ps sp) (hr:qX k X.A) (hb:Binds X.K fd ps ds) (hd:kC dvs ds) (hx:xV CX X E)
  (ht:eval (.Call (.Attribute o m apos) [] [] pos) X.env=(do
   let ov ← eval o X.env
   standAt apos.atName
   let (f,first) ← holding [ov] (getMethod ov m pl)
   callWith pos f first (backTo pos (starEach [] X.env)) (backToKw pos (keywordEach [] X.env))):=by rfl) :
  PE X (.Call (.Attribute o m apos) [] [] pos) (tMeth C m sp dvs E ta tNil):=by
 intro pins s σ H Q I h
 refine PySem.W.methodCall_KW (pl:=pl) (thn (he pins s σ H _ I h) fun u s1 zq=>?_) ht
 obtain⟨x,H1,I1,rx,a,dx,fs,ex,ea,l,q⟩:=zq
 subst ex
 obtain rfl:u=Value.ref a:=rx
 refine dJ I1 ea c hm l ?_
 exact PySem.W.callWith_K0 (first:=[.ref a]) I1.kIn hm.kp (lQ (us:=[.ref a]) (vs:=[.ref a]) F hr hb hd hx I1 (.cons rfl .nil) q)
structure Mk (K:Frag) (C f:Addr):Prop where
 makes:PySem.W.makesIn K C=true
 init:findIn K (.ref C) "__init__" = some (some (.ref f))
 fn:isFn K (.ref f)=true
 kp:keepIn K (.ref C)=true
theorem aFf {pins:List (Addr × Obj)} {σ:St} {H:Hp} {s:Shared} {Q:VK} {us:List Value} {vs:List V} (M:Mk X.K C f) (F:jK X.prog X.w X.K X.mg X.base CX k f fd ps sp) (hr:qX (k + 1) X.A) (hb:Binds X.K fd ps ds) (hd:kC dvs ds)
  (hx:xV CX X E) (I:Inv X pins σ H s) (r:kC vs us)
  (h:∀ x dx,H x=none->H dx=none->dx ≠ x->sp (.ref x::(vs++dvs)) (upd (upd H dx (.own x)) x (.ins C dx [])) (fun v H2=>v=.non/\Q (.ref x) H2) E) :
  wpAny (model X.prog X.w) X.A (call (.ref C) us) (EP X pins σ Q) X.xe s:=by
 have hq:=h (s.heap.objs.size + 1) s.heap.objs.size (I.hok.fresh (Nat.le_succ _)) (I.hok.fresh (Nat.le_refl _)) (Nat.ne_of_lt (Nat.lt_succ_self _))
 have I2:=Inv.made (C:=C) I
 have r2:kC (V.ref (s.heap.objs.size + 1)::(vs++dvs)) (Value.ref (s.heap.objs.size + 1)::(us++ds)):=.cons rfl (r.append hd)
 have hl:(Value.ref (s.heap.objs.size + 1)::us++ds).length=ps.length:=by
  have e:=r2.length
  rw [F.len _ _ _ _ hq] at e
  exact e.symm
 refine wpAny_call (aDu (f:=f) I.kIn M.makes M.init (beq_iff_eq.mp M.fn) (codeAny_mono (F.run _ X.stack _ _ ⟨Value.ref (s.heap.objs.size + 1)::us,[]⟩ (Value.ref (s.heap.objs.size + 1)::(us++ds)) _ _ E (hr.make C us [])
  (I2.env0.make C us []) (hb _ (Value.ref (s.heap.objs.size + 1)::us) I2.kIn hl) r2 hq) fun r s' hq'=>?_))
 cases r with
 | error e=>exact hx pins σ _ _ e s' I2 hq'
 | ok fl =>
  cases fl with
  | ret u =>
   obtain⟨v,H',I3,rv,ev,q3⟩:=I2.after hq'
   subst ev
   exact⟨rv,⟨V.ref (s.heap.objs.size + 1),H',I3,rfl,q3⟩⟩
  | next=>exact False.elim hq'
  | brk=>exact False.elim hq'
  | cont=>exact False.elim hq'
theorem vL (M:Mk X.K C f) (F:jK X.prog X.w X.K X.mg X.base CX k f fd ps sp) (hr:qX (k + 1) X.A) (hg:Gl X x) (hm:X.mg x=some (.ref C)) (hb:Binds X.K fd ps ds) (hd:kC dvs ds) (hx:xV CX X E)
  (ha:PA X (e::es) t) (hdb:(x == ("__debug__" : Str))=false:=by decide) (he:starEach (e::es) X.env=(false,eval e X.env)::starEach es X.env:=by rfl) (hpl:(backTo pos (starEach es X.env)).any (·.1)=false:=by rfl) :
  PE X (.Call (.Name x p) (e::es) [] pos) (tMake C sp dvs E t):=by
 intro pins s σ H Q I h
 refine wpAny_Call_Name_kw (cN I hg hm ?_ hdb)
 refine PySem.W.callWith_K (h₀:=X.base) I.ok.mod.kin M.kp (thn (ha pos pins s σ H _ I h) fun us s1 ⟨vs,H1,I1,r,q⟩=>⟨I1.kIn,?_⟩) he hpl
 exact aFf M F hr hb hd hx I1 r q
end
structure jM (N P:List Str) (sc:Scope):Prop where
 kind:sc.kind=.function
 co:sc.isCoroutine=false
 gen:sc.isGenerator=false
 nd:N.Nodup
 pre:N.take P.length=P
 par:∀ x ∈ P,sc.names.lookup x=some .local\/sc.names.lookup x=some .cell
 nofree:∀ y ∈ sc.names,y.2 ≠ .free
theorem oK {kindOf:Str->Option NameKind} {x:Str} : ∀ {binds:List (Str × Value)} {m:Str->Option Value},(∀ v,(x,v) ∉ binds)->bindL kindOf binds m x=m x
 | [],_,_=>rfl
 | (n,v)::r,m,h=>by
  unfold bindL
  rw [oK fun w hw=>h w (List.mem_cons_of_mem _ hw)]
  split
  ·have:x ≠ n:=by rintro rfl;exact h v List.mem_cons_self
   simp [this]
  ·rfl
theorem nW {kindOf:Str->Option NameKind} {x:Str} : ∀ {binds:List (Str × Value)} {m:Str->Option Value},(∀ v,(x,v) ∉ binds)->bindC kindOf binds m x=m x
 | [],_,_=>rfl
 | (n,v)::r,m,h=>by
  unfold bindC
  rw [nW fun w hw=>h w (List.mem_cons_of_mem _ hw)]
  split
  ·rfl
  ·have:x ≠ n:=by rintro rfl;exact h v List.mem_cons_self
   simp [this]
theorem nR {kindOf:Str->Option NameKind} {x:Str} {v:Value} : ∀ {P:List Str} {vs:List Value} {i:Nat} {m:Str->Option Value},P.Nodup->P[i]?=some x->vs[i]?=some v->kindOf x=some .local →
  bindL kindOf (P.zip vs) m x=some v
 | [],_,_,_,_,h,_,_=>by simp at h
 | _::_,[],_,_,_,_,h,_=>by simp at h
 | p::P,w::vs,0,m,nd,h1,h2,hk=>by
  simp at h1 h2;subst h1;subst h2
  show bindL kindOf ((p,w)::P.zip vs) m p=_
  unfold bindL
  rw [oK fun v hv=>(List.nodup_cons.mp nd).1 (List.of_mem_zip hv).1,if_pos hk]
  simp
 | p::P,w::vs,i + 1,m,nd,h1,h2,hk=>by
  show bindL kindOf ((p,w)::P.zip vs) m x=_
  unfold bindL
  exact nR (i:=i) (List.nodup_cons.mp nd).2 (by simpa using h1) (by simpa using h2) hk
theorem nZ {kindOf:Str->Option NameKind} {x:Str} {v:Value} : ∀ {P:List Str} {vs:List Value} {i:Nat} {m:Str->Option Value},P.Nodup->P[i]?=some x->vs[i]?=some v->kindOf x ≠ some .local →
  bindC kindOf (P.zip vs) m x=some v
 | [],_,_,_,_,h,_,_=>by simp at h
 | _::_,[],_,_,_,_,h,_=>by simp at h
 | p::P,w::vs,0,m,nd,h1,h2,hk=>by
  simp at h1 h2;subst h1;subst h2
  show bindC kindOf ((p,w)::P.zip vs) m p=_
  unfold bindC
  rw [nW fun v hv=>(List.nodup_cons.mp nd).1 (List.of_mem_zip hv).1,if_neg hk]
  simp
 | p::P,w::vs,i + 1,m,nd,h1,h2,hk=>by
  show bindC kindOf ((p,w)::P.zip vs) m x=_
  unfold bindC
  exact nZ (i:=i) (List.nodup_cons.mp nd).2 (by simpa using h1) (by simpa using h2) hk
def start (N:List Str) (vs:List V):St:=vs.map some++List.replicate (N.length - vs.length) none
def fY (CX:CXT) (P:Program) (w:World) (K:Frag) (mg:Str->Option Value) (base:Heap) (N:List Str) (qual:Str) (scope:Scope) (f:Addr) (cd:Value) (A:Around) (outer:List Env) (s:Shared) (H:Hp) (E:XK):Cx where
 prog:=P
 w:=w
 K:=K
 mg:=mg
 base:=base
 A:=A.deeper (envOfC qual scope s.heap.objs.size f cd)
 N:=N
 s₀:=s
 H₀:=H
 env:=envOfC qual scope s.heap.objs.size f cd
 outer:=outer
 stack:=envOfC qual scope s.heap.objs.size f cd::outer
 ex:=[]
 calm:=true
 fn:=fun _=>true
 pn:=[]
 xe:=fun e s'=>wpAny (model P w) (A.deeper (envOfC qual scope s.heap.objs.size f cd)) (leaving (envOfC qual scope s.heap.objs.size f cd) e) (fun _ s''=>CX outer H s E e s'') (fun e' s''=>CX outer H s E e' s'') s'
theorem sJ {sc:Scope} {n:Nat} {x:Str} (h:sc.names.lookup x=some .cell):∃ c,(cellsFrom n sc.names []).lookup x=some c:=by
 have q:=PySem.W.cellsFrom_some sc.names n [] (.inl h)
 exact Option.isSome_iff_exists.mp q
theorem aCe {CX:CXT} {P:Program} {w:World} {K:Frag} {mg:Str->Option Value} {base:Heap} {N ps:List Str} {qual:Str} {scope:Scope} {f:Addr} {cd:Value} {A:Around} {outer:List Env} {s s1:Shared} {H:Hp} {E:XK} {us:List Value} {vs:List V}
  (S:jM N ps scope) (hd:A.handled=none) (e0:nC P w K mg base A outer s H) (hl:vs.length=ps.length) (r:kC vs us)
  (x:InCallC s s.heap.objs.size (bindL (envOfC qual scope s.heap.objs.size f cd).kindOf (ps.zip us) fun _=>none) (cellsFrom (s.heap.objs.size + 1) scope.names []) (bindC (envOfC qual scope s.heap.objs.size f cd).kindOf (ps.zip us) fun _=>none) s1) :
  Inv (fY CX P w K mg base N qual scope f cd A outer s H E) [] (start N vs) H s1:=by
 have hpl:ps.length<=N.length:=by have:=congrArg List.length S.pre;rw [List.length_take] at this;omega
 obtain⟨h1,tk,rfl,hk⟩:=x.done
 have noA:∀ b:Addr,b ∉ (fY CX P w K mg base N qual scope f cd A outer s H E).ex:=fun b z=>absurd (show b ∈ ([]:List Addr) from z) (by simp)
 refine⟨⟨e0.mod,S.kind,rfl,rfl,Nat.le_refl _,fun y z c h1 h2=>?_,fun y hy=>?_,fun y c _ h=>?_,fun _=>hd,Around.frames_deeper e0.frames,.inr ⟨rfl,rfl⟩,fun b z=>absurd z (noA b),e0.bs,e0.bsz,fun b _ _=>noA b,fun b z=>absurd z (noA b),e0.funs,e0.frf⟩,
  rfl,e0.bare,Un.kept hk,⟨_,x.toInCall.ns,fun i y v h1 h2 h3=>?_⟩,fun y c h=>⟨_,x.cell y c h⟩,e0.hok.fresh (Nat.le_refl _),fun y c h=>?_,fun p hp=>absurd (show p ∈ ([]:List (Addr × Obj)) from hp) (by simp),e0.hok.kept hk,?_⟩
 ·exact name_of_addr x.apart (PySem.mem_of_lookup h1) (PySem.mem_of_lookup h2)
 ·have hy:scope.names.lookup y=some .cell\/scope.names.lookup y=some .free:=hy
  rcases hy with hy|hy
  ·exact sJ hy
  ·exact absurd rfl (S.nofree _ (PySem.mem_of_lookup hy))
 ·exact Nat.le_of_lt (x.above y c (PySem.mem_of_lookup h))
 ·have hi:i < vs.length:=by
   unfold start at h2
   by_cases hi:i < vs.length
   ·exact hi
   ·rw [List.getElem?_append_right (by simpa using hi)] at h2
    rw [List.getElem?_replicate] at h2
    split at h2 <;> cases h2
  have ha:vs[i]?=some v:=by
   unfold start at h2
   rw [List.getElem?_append_left (by simpa using hi),List.getElem?_map] at h2
   cases e:vs[i]? with
   | none=>rw [e] at h2;cases h2
   | some a=>rw [e] at h2;cases h2;rfl
  obtain⟨u,hu,rv⟩:=r.get ha
  have hp:ps[i]?=some y:=by
   rw [← S.pre,List.getElem?_take_of_lt (by omega)];exact h1
  have ndP:ps.Nodup:=by rw [← S.pre];exact S.nd.sublist (List.take_sublist _ _)
  refine⟨u,rv,?_⟩
  rcases S.par y (List.mem_of_getElem? hp) with k|k
  ·exact .inl ⟨k,nR ndP hp hu k⟩
  ·obtain⟨c,e⟩:=sJ (n:=s.heap.objs.size + 1) k
   refine .inr ⟨.inl k,c,e,?_⟩
   have q:=x.cell y c e
   rw [nZ ndP hp hu (by show scope.names.lookup y ≠ _;rw [k];decide)] at q
   exact q
 ·exact e0.hok.fresh (Nat.le_of_lt (x.above y c (PySem.mem_of_lookup h)))
 ·unfold start
  show _=N.length
  rw [List.length_append,List.length_map,List.length_replicate]
  omega
theorem aIs {CX:CXT} {P:Program} {w:World} {K:Frag} {mg:Str->Option Value} {base:Heap} {k:Nat} {f:Addr} {name qual:Str} {params:Arguments} {body:List Stmt} {scope:Scope} {dV kV doc pm cdv ct oc:Value} {an od:Option Addr}
  {osl:Array (Option Value)} {N ps:List Str} {sp:Sp} (lk:K.lookup f=some ⟨oc,od,.func (fnOf name qual params body scope dV kV doc pm an cdv ct),osl⟩) (hcd:codeIn K cdv qual=true) (S:jM N ps scope)
  (len:∀ vs H Q E,sp vs H Q E->vs.length=ps.length)
  (hbody:∀ (A:Around) (outer:List Env) (s:Shared) (H:Hp) (vs:List V) (Q:VK) (E:XK),qX k (A.deeper (envOfC qual scope s.heap.objs.size f cdv))->sp vs H Q E →
   ∃ t,PSs (fY CX P w K mg base N qual scope f cdv A outer s H E) body t/\t { nx:=fun _ H'=>Q .non H',rt:=Q } (start N vs) H) :
  jK P w K mg base CX (k + 1) f (fnOf name qual params body scope dV kV doc pm an cdv ct) ps sp:=by
 refine⟨len,fun A outer s H args us vs Q E hr e0 hb r hsp=>?_⟩
 have hl:=len _ _ _ _ hsp
 have KX:K.In s.heap:=e0.mod.kin.keeps fun b o e=>(e0.bs b o e).1
 have lim:s.heap.NoLimit:=e0.mod.nolimit.keeps fun b o e=>(e0.bs b o e).1
 have hkind:∀ y ∈ ps.zip us,scope.names.lookup y.1=some .local\/(scope.names.lookup y.1=some .cell/\((cellsFrom (s.heap.objs.size + 1) scope.names []).lookup y.1).isSome=true):=fun ⟨n,v⟩ hy=>by
  rcases S.par n (List.of_mem_zip hy).1 with q|q
  ·exact .inl q
  ·exact .inr ⟨q,PySem.W.cellsFrom_some _ _ _ (.inl q)⟩
 refine codeAny_call_function hr.depth (KX _ _ lk) rfl S.co S.gen rfl (PySem.W.codeRec_of KX hcd) (hb _ _ _ _ ?_)
 refine wpAny_newFunctionEnv_cells S.kind hkind fun env he s1 x=>?_
 subst he
 refine⟨lim.keeps x.toInCall.keep,codeAny_func ?_⟩
 obtain⟨t,ht,hq⟩:=hbody A outer s H vs Q E (hr.deeper _) hsp
 have I:Inv (fY CX P w K mg base N qual scope f cdv A outer s H E) [] (start N vs) H s1:=aCe S hr.hd e0 hl r x
 refine wpAny_mono (ht [] s1 (start N vs) H _ I hq) (fun fl s' hs=>?_) fun e s' hs=>hs
 have fin:∀ {σ':St} {H':Hp} {v:V} {u:Value},Inv (fY CX P w K mg base N qual scope f cdv A outer s H E) [] σ' H' s'->RelV v u->Q v H'->CE outer P w H s Q u s' :=
  fun {σ' H' v u} J rv q=>⟨v,H',J.os,J.bare,J.base,J.hok,rv,q⟩
 cases fl with
 | ret u =>
  obtain⟨v,σ',H',J,rv,q⟩:=hs
  exact fin J rv q
 | next =>
  obtain⟨σ',H',J,q⟩:=hs
  exact fin (v:=V.non) (u:=Value.none) J rfl q
 | brk =>
  obtain⟨_,_,_,q⟩:=hs
  exact False.elim q
 | cont =>
  obtain⟨_,_,_,q⟩:=hs
  exact False.elim q
section
variable {X:Cx} {x:Str} {p pos:Pos} {e:Expr} {es:List Expr} {t:TA} {id T:String} {r:List V->Hp->VK->Prop}
def tCB (r:List V->Hp->VK->Prop) (t:TA):TE:=fun σ H Q=>t σ H fun vs H1=>r vs H1 Q
theorem jY (hc:vP X (.builtin id) r) (hg:Gl X x) (hm:X.mg x=none) (hv:bootBuiltins x=some (.builtin id)) (ha:PA X (e::es) t) (hn:x ≠ "__name__":=by decide) (hdb:(x == ("__debug__" : Str))=false:=by decide)
  (he:starEach (e::es) X.env=(false,eval e X.env)::starEach es X.env:=by rfl) (hpl:(backTo pos (starEach es X.env)).any (·.1)=false:=by rfl):PE X (.Call (.Name x p) (e::es) [] pos) (tCB r t):=by
 intro pins s σ H Q I h
 refine wpAny_Call_Name_kw (bW I hg hm hv ?_ hn hdb)
 exact PyProof.Rows.callWith_builtin1 (thn (ha pos pins s σ H _ I h) fun us s1 ⟨vs,H1,I1,r1,q1⟩=>hc pins s1 σ H1 vs us Q I1 r1 q1) he hpl
theorem vH (hc:vP X (.type T) r) (hg:Gl X x) (hm:X.mg x=none) (hv:bootBuiltins x=some (.type T)) (ha:PA X (e::es) t) (hn:x ≠ "__name__":=by decide) (hdb:(x == ("__debug__" : Str))=false:=by decide)
  (he:starEach (e::es) X.env=(false,eval e X.env)::starEach es X.env:=by rfl) (hpl:(backTo pos (starEach es X.env)).any (·.1)=false:=by rfl):PE X (.Call (.Name x p) (e::es) [] pos) (tCB r t):=by
 intro pins s σ H Q I h
 refine wpAny_Call_Name_kw (bW I hg hm hv ?_ hn hdb)
 exact PyProof.Rows.callWith_type1 (thn (ha pos pins s σ H _ I h) fun us s1 ⟨vs,H1,I1,r1,q1⟩=>hc pins s1 σ H1 vs us Q I1 r1 q1) he hpl
end
end L2
namespace HT
open PySem PyProof.Rows
section
open PySem.SeqAt
open PySem.AutoSeq1 (wpAny_loadPart')
open PySem.MeetsSeq PySem.MeetsSeq2 PySem.MeetsSeq3
end
section
variable {prog:Program} {w:World} {A:Around} {E:Value->Shared->Prop} {s:Shared}
theorem cat_tup {t b:Addr} {vs ws:List Value} {Q:Value->Shared->Prop} (ht:IsTup s.heap t vs.toArray) (hb:IsTup s.heap b ws.toArray) (hv:vs ≠ [])
  (h1:ws=[]->Q (.ref t) s) (h2:ws ≠ []->Q (.ref s.heap.objs.size) { s with heap:=s.heap.push { cls:=.type "tuple",data:=.seq (vs++ws).toArray } })
  (hsz:vs.length + ws.length<=sizeLine):wpAny (model prog w) A (binaryOp .Add (.ref t) (.ref b)) Q E s:=by
 obtain⟨⟨cls,dd,data,sl⟩,ho,hc,n,hd⟩:=id ht
 obtain⟨⟨cls2,dd2,data2,sl2⟩,ho2,hc2,n2,hd2⟩:=id hb
 simp only at hc hd hc2 hd2
 subst hc hd hc2 hd2
 have e:vs.toArray++ws.toArray=(vs++ws).toArray:=by simp
 by_cases hw:ws=[]
 ·exact concat_meets ⟨_,ho,rfl⟩ ⟨_,ho2,rfl⟩ noFill_tuple_add seq_tuple_add PySem.F.slot_tuple_add PySem.F.entry_tuple_add (PySem.F.args_tuple_add_2 _ _)
   (tuple_addW1 t b vs.toArray ws.toArray n n2 dd dd2 sl sl2 (by simpa using hv) (by simp [hw])) ⟨ho,ho2,h1 hw⟩
 ·refine concat_meets ⟨_,ho,rfl⟩ ⟨_,ho2,rfl⟩ noFill_tuple_add seq_tuple_add PySem.F.slot_tuple_add PySem.F.entry_tuple_add (PySem.F.args_tuple_add_2 _ _)
   (tuple_addW2 t b vs.toArray ws.toArray n n2 dd dd2 sl sl2 (by simpa using hv) (by simpa using hw) (by rw [List.size_toArray,List.size_toArray];exact hsz)) ⟨ho,ho2,?_⟩
  rw [e]
  exact h2 hw
def sIx (n d:Nat):Option Int->Nat
 | none=>d
 | some v=>if v < 0 then (v + (n:Int)).toNat else min v.toNat n
theorem sIx_none (n d:Nat):sIx n d none=d:=rfl
theorem sIx_nat (n d k:Nat):sIx n d (some (k:Int))=min k n:=by
 show (if (k:Int) < 0 then ((k:Int) + (n:Int)).toNat else min (k:Int).toNat n)=min k n
 rw [if_neg (by omega),Int.toNat_natCast]
end
end HT
namespace L2
open PySem PySem.Spec PyProof.Rows
abbrev TO:=St->Hp->(Option Int->Hp->Prop)->Prop
def PO (X:Cx) (e:Option Expr) (t:TO):Prop :=
 ∀ (pins:List (Addr × Obj)) (s:Shared) (σ:St) (H:Hp) (Q:Option Int->Hp->Prop),Inv X pins σ H s->t σ H Q →
  wpAny (model X.prog X.w) X.A (evalPart e X.env) (fun u s'=>∃ o H',Inv X pins σ H' s'/\IsPart u o/\Q o H') X.xe s
def aGt:TO:=fun _ H Q=>Q none H
def tPart (t:TE):TO:=fun σ H Q=>t σ H fun x H1=>∃ i,x=.int i/\Q (some i) H1
theorem intsAre_of {ns:List Int} : ∀ {us:List Value},kC (ns.map V.int) us->IntsAre us ns:=by
 induction ns with
 | nil=>intro us r;rw [List.map_nil] at r;cases r;exact .nil
 | cons n ns ih =>
  intro us r
  rw [List.map_cons] at r
  cases r with
  | cons r1 r2 =>
   obtain⟨t,e⟩:=r1
   subst e
   exact .cons n t (ih r2)
section
variable {X:Cx} {e:Expr} {te:TE} {lo hi:Option Expr} {tl th:TO} {pos p2:Pos}
theorem qO:PO X none aGt:=by
 intro pins s σ H Q I h
 rw [evalPart_none]
 exact wpAny_pure ⟨none,H,I,.none,h⟩
theorem qH (h:PE X e te):PO X (some e) (tPart te):=by
 intro pins s σ H Q I hw
 rw [evalPart_some]
 refine thn (h pins s σ H _ I hw) fun u s1 zq=>?_
 obtain⟨x,H1,I1,r1,q1⟩:=zq
 obtain⟨i,rfl,q⟩:=q1
 obtain⟨t,rfl⟩:=r1
 exact⟨some i,H1,I1,.int i t,q⟩
def SlR (X:Cx) (r:V->Option Int->Option Int->Hp->VK->Prop):Prop :=
 ∀ (pins:List (Addr × Obj)) (s:Shared) (σ:St) (H:Hp) (x:V) (v vl vu:Value) (lo hi:Option Int) (sl:Addr) (Q:VK),Inv X pins σ H s->RelV x v->s.heap.IsSliceOf sl vl vu .none->IsPart vl lo->IsPart vu hi->r x lo hi H Q →
  ∃ T id,typeLookup (.type T) "__getitem__" = pure (some (.builtin id))/\s.TypeIs v T/\wpAny (model X.prog X.w) X.A (getItem v (.ref sl)) (EP X pins σ Q) X.xe s
theorem SlR.or {r r':V->Option Int->Option Int->Hp->VK->Prop} (h:SlR X r) (h':SlR X r'):SlR X (fun x lo hi H Q=>r x lo hi H Q\/r' x lo hi H Q):=by
 intro pins s σ H x v vl vu lo hi sl Q I rx hs pl pu q
 rcases q with q|q
 ·exact h pins s σ H x v vl vu lo hi sl Q I rx hs pl pu q
 ·exact h' pins s σ H x v vl vu lo hi sl Q I rx hs pl pu q
def tSl (r:V->Option Int->Option Int->Hp->VK->Prop) (te:TE) (tl th:TO):TE:=fun σ H Q=>te σ H fun x H1=>tl σ H1 fun l H2=>th σ H2 fun u H3=>r x l u H3 Q
theorem qA {r:V->Option Int->Option Int->Hp->VK->Prop} (hr:SlR X r) (he:PE X e te) (hl:PO X lo tl) (hu:PO X hi th):PE X (.Subscript e (.Slice lo hi none p2) pos) (tSl r te tl th):=by
 intro pins s σ H Q I h
 refine Subscript_ (thn (he pins s σ H _ I h) fun v s1 zq=>?_)
 obtain⟨x,H1,I1,r1,q1⟩:=zq
 refine wpAny_Slice (thn (hl pins s1 σ H1 _ I1 q1) fun vl s2 ⟨l,H2,I2,pl,q2⟩=>thn (hu pins s2 σ H2 _ I2 q2) fun vu s3 zq=>?_)
 obtain⟨u,H3,I3,pu,q3⟩:=zq
 rw [evalPart_none]
 refine wpAny_pure ?_
 have I4:Inv X pins σ H3 { s3 with heap:=s3.heap.push { cls:=.type "slice",data:=.fields #[vl,vu,.none] } }:=I3.kept (t':=s3.toks) fun b ob q=>Heap.get?_push_of_some _ q
 obtain⟨T,id,hT,ht,hg⟩:=hr pins { s3 with heap:=s3.heap.push { cls:=.type "slice",data:=.fields #[vl,vu,.none] } } σ H3 x v vl vu l u s3.heap.objs.size Q I4 r1 (Heap.IsSliceOf.new ..) pl pu q3
 show wpAny (model X.prog X.w) X.A (subscriptTail e (.Slice lo hi none p2) v (.ref s3.heap.objs.size)) (EP X pins σ Q) X.xe { s3 with heap:=s3.heap.push { cls:=.type "slice",data:=.fields #[vl,vu,.none] } }
 exact tail_any (ops:=[.ref s3.heap.objs.size,v]) ht hT hg (by with_unfolding_all rfl)
def xJ (xs:List V) (lo hi:Option Int):List V:=(xs.drop (HT.sIx xs.length 0 lo)).take (HT.sIx xs.length xs.length hi - HT.sIx xs.length 0 lo)
theorem sG (xs:List V) (lo hi:Option Int):(xJ xs lo hi).length<=xs.length:=by
 unfold xJ
 rw [List.length_take,List.length_drop]
 omega
def rCatT (K:Frag):R2:=fun x y H Q=>∃ a b xs ys,x=.ref a/\y=.ref b/\SqT K H a xs/\SqT K H b ys/\xs ≠ []/\xs.length + ys.length<=sizeLine ∧
 (ys=[]->Q (.ref a) H)/\(ys ≠ []->∀ p,H p=none->Q (.ref p) (upd H p (.tup (xs++ys))))
theorem kC.nil_iff {xs:List V} {us:List Value} (r:kC xs us):us=[] ↔ xs=[]:=by
 cases r with
 | nil=>simp
 | cons _ _=>simp
theorem aGi:OpR X (binaryOp .Add) (rCatT X.K):=by
 intro pins s σ H x y v u Q I rx ry h
 obtain⟨a,b,xs,ys,rfl,rfl,ha,hb,hx,hz,q1,q2⟩:=h
 cases rx
 cases ry
 obtain⟨its,r1,p1,_⟩:=I.tuple ha
 obtain⟨its2,r2,p2,_⟩:=I.tuple hb
 refine HT.cat_tup p1 p2 (fun z=>hx (r1.nil_iff.mp z)) (fun z=>⟨.ref a,H,I,rfl,q1 (r2.nil_iff.mp z)⟩) (fun z=>?_) (by rw [← r1.length,← r2.length];exact hz)
 refine⟨.ref s.heap.objs.size,_,I.laid (t':=s.toks) (o:=.tup (xs++ys)) (fun b ob q=>Heap.get?_push_of_some _ q) (Nat.le_refl _) ?_,rfl,q2 (fun w=>z (r2.nil_iff.mpr w)) _ (I.hok.fresh (Nat.le_refl _))⟩
 exact⟨by rw [List.length_append];exact hz,_,r1.append r2,IsTup.new _ _⟩
end
def ixN (n:Nat) (i:Int):Option Nat:=if 0<=i then (if i < n then some i.toNat else none) else if -(n:Int)<=i then some (i + n).toNat else none
def atI {α : Type} (xs:List α) (i:Int):Option α:=(ixN xs.length i).bind fun j=>xs[j]?
theorem aAh {n:Nat} {i:Int} {j:Nat} (h:ixN n i=some j):seqIndex? i n=some j/\j < n/\-(n:Int)<=i/\i < n:=by
 unfold ixN at h
 by_cases h0 : 0<=i
 ·rw [if_pos h0] at h
  by_cases h1:i < n
  ·rw [if_pos h1] at h
   have e:i.toNat=j:=Option.some.inj h
   exact⟨by rw [seqIndex_of h0 h1,e],by omega,by omega,h1⟩
  ·rw [if_neg h1] at h;cases h
 ·rw [if_neg h0] at h
  by_cases h1 : -(n:Int)<=i
  ·rw [if_pos h1] at h
   have e:(i + n).toNat=j:=Option.some.inj h
   exact⟨by rw [seqIndex_neg (by omega) h1,e],by omega,h1,by omega⟩
  ·rw [if_neg h1] at h;cases h
theorem pC {α : Type} {xs:List α} {i:Int} {v : α} (h:atI xs i=some v):∃ j,seqIndex? i xs.length=some j/\xs[j]?=some v/\j < xs.length/\-(xs.length:Int)<=i/\i < xs.length:=by
 unfold atI at h
 cases e:ixN xs.length i with
 | none=>rw [e] at h;cases h
 | some j =>
  rw [e] at h
  obtain⟨h1,h2,h3,h4⟩:=aAh e
  exact⟨j,h1,h,h2,h3,h4⟩
theorem bA {α : Type} {xs:List α} {j:Nat} {v : α} (h:xs[j]?=some v):atI xs (j:Int)=some v:=by
 have hj:j < xs.length:=(List.getElem?_eq_some_iff.mp h).1
 have e:ixN xs.length (j:Int)=some j:=by
  unfold ixN
  rw [if_pos (by omega),if_pos (by omega)];simp
 unfold atI;rw [e];exact h
def aAd (b:Expr):Prop:=∀ o i,subscripted b false o i=operate [o,i] (getItem o i)
def IxR (X:Cx) (r:R2):Prop :=
 ∀ (value slice:Expr) (pins:List (Addr × Obj)) (s:Shared) (σ:St) (H:Hp) (x y:V) (v u:Value) (Q:VK),Inv X pins σ H s->RelV x v->RelV y u->r x y H Q →
  subscripted slice false v u=operate [v,u] (getItem v u)->wpAny (model X.prog X.w) X.A (subscriptTail value slice v u) (EP X pins σ Q) X.xe s
def MtR (X:Cx) (id:String) (r:V->List V->Hp->VK->Prop):Prop :=
 ∀ (pins:List (Addr × Obj)) (s:Shared) (σ:St) (H:Hp) (x:V) (xs:List V) (v:Value) (us:List Value) (Q:VK),Inv X pins σ H s->RelV x v->kC xs us->r x xs H Q →
  wpAny (model X.prog X.w) X.A (call (.builtin id) (v::us)) (EP X pins σ Q) X.xe s
section
variable {X:Cx} {a b:Expr} {ta tb:TE} {pos:Pos}
theorem IxR.or {r r':R2} (h:IxR X r) (h':IxR X r'):IxR X (fun x y H Q=>r x y H Q\/r' x y H Q):=by
 intro value slice pins s σ H x y v u Q I rx ry q hs
 rcases q with q|q
 ·exact h value slice pins s σ H x y v u Q I rx ry q hs
 ·exact h' value slice pins s σ H x y v u Q I rx ry q hs
theorem MtR.or {id:String} {r r':V->List V->Hp->VK->Prop} (h:MtR X id r) (h':MtR X id r'):MtR X id (fun x xs H Q=>r x xs H Q\/r' x xs H Q):=by
 intro pins s σ H x xs v us Q I rx rs q
 rcases q with q|q
 ·exact h pins s σ H x xs v us Q I rx rs q
 ·exact h' pins s σ H x xs v us Q I rx rs q
theorem kK {r:R2} (hr:IxR X r) (ha:PE X a ta) (hb:PE X b tb) (hs:aAd b):PE X (.Subscript a b pos) (tOp r ta tb):=by
 intro pins s σ H Q I h
 exact Subscript_ (binT ha hb I h fun v u s2 x y H2 I2 rx ry q=>hr a b pins s2 σ H2 x y v u Q I2 rx ry q (hs _ _))
def rIxL (K:Frag):R2:=fun x y H Q=>∃ p xs i v,x=.ref p/\y=.int i/\SqL K H p xs/\atI xs i=some v/\Q v H
def rIxT (K:Frag):R2:=fun x y H Q=>∃ p xs i v,x=.ref p/\y=.int i/\SqT K H p xs/\atI xs i=some v/\Q v H
def rIxS:R2:=fun x y H Q=>∃ z i c,x=.str z/\y=.int i/\z.length<=sizeLine/\atI z.cps.toList i=some c/\Q (.str ⟨#[c]⟩) H
theorem jX:IxR X (rIxL X.K):=by
 intro value slice pins s σ H x y v u Q I rx ry h hs
 obtain⟨p,xs,i,z,rfl,rfl,hq,he,q⟩:=h
 cases rx
 obtain⟨t,rfl⟩:=ry
 obtain⟨its,r,pl,hz⟩:=I.list hq
 obtain⟨j,h1,h2,h3,h4,h5⟩:=pC he
 obtain⟨w,ew,rw'⟩:=r.get h2
 have hl:=r.length
 have hn:=dO
 have fin:EP X pins σ Q w s:=⟨z,H,I,rw',q⟩
 by_cases h0 : 0<=i
 ·have hj:i.toNat=j:=by
   rw [seqIndex_of h0 h5] at h1
   exact Option.some.inj h1
  exact item_listR pl.isList h0 (by omega) (by rw [hj];simpa using ew) fin hs
 ·have hj:(i + (its.toArray.size:Int)).toNat=j:=by
   rw [seqIndex_neg (by omega) h4] at h1
   rw [List.size_toArray,← hl]
   exact Option.some.inj h1
  exact subscriptTail_builtinR (x:=w) pl.isList.typeIs slot_list_getitem.lookup
   (wpAny_getItem_list_neg (Q:=fun r s'=>r=w/\EP X pins σ Q r s') pl.isList (by omega) (by rw [List.size_toArray] <;> omega) (by omega) (by rw [hj];simpa using ew) ⟨rfl,fin⟩) hs
theorem aDb:IxR X (rIxT X.K):=by
 intro value slice pins s σ H x y v u Q I rx ry h hs
 obtain⟨p,xs,i,z,rfl,rfl,hq,he,q⟩:=h
 cases rx
 obtain⟨t,rfl⟩:=ry
 obtain⟨its,r,pl,hz⟩:=I.tuple hq
 obtain⟨j,h1,h2,h3,h4,h5⟩:=pC he
 obtain⟨w,ew,rw'⟩:=r.get h2
 have hl:=r.length
 have hn:=dO
 have fin:EP X pins σ Q w s:=⟨z,H,I,rw',q⟩
 exact subscriptTail_builtinR (x:=w) pl.typeIs slot_tuple_getitem.lookup
  (getItem_tuple (j:=j) (Q:=fun r s'=>r=w/\EP X pins σ Q r s') pl (by omega) (by omega) (by rw [List.size_toArray,← hl];exact h1) (by simpa using ew) ⟨rfl,fin⟩) hs
theorem aKa:IxR X rIxS:=by
 intro value slice pins s σ H x y v u Q I rx ry h hs
 obtain⟨z,i,c,rfl,rfl,hz,he,q⟩:=h
 obtain⟨t,rfl⟩:=rx
 obtain⟨t',rfl⟩:=ry
 obtain⟨j,h1,h2,h3,h4,h5⟩:=pC he
 have hl:z.cps.toList.length=z.length:=by simp [Str.length]
 rw [hl] at h1 h4 h5
 have hn:=dO
 exact tail_any (typeIs_str s z t) slot_str_getitem.lookup (getItem_str (c:=c) (by
  have e1:decide (i < -(2 ^ 63:Int))=false:=decide_eq_false (by omega)
  have e2:decide (i ≥ 2 ^ 63)=false:=decide_eq_false (by omega)
  rw [e1,e2,Bool.or_false]) (by rw [h1];simpa using h2) ⟨.str ⟨#[c]⟩,H,I.tok _,⟨_,rfl⟩,q⟩) hs
theorem wC (its:List Value) (n j:Nat) (u:Value):Obj.mapSeq (·.setIfInBounds j u) { cls:=.type "list",data:=.seq its.toArray n }={ cls:=.type "list",data:=.seq (its.set j u).toArray n }:=by
 simp [Obj.mapSeq]
theorem Inv.lst {pins:List (Addr × Obj)} {σ:St} {H:Hp} {s:Shared} {p:Addr} {xs:List V} (I:Inv X pins σ H s) (h:H p=some (.lst xs)) :
  ∃ (its:List Value) (n:Nat),kC xs its/\s.heap.get? p=some { cls:=.type "list",data:=.seq its.toArray n }/\xs.length<=sizeLine:=by
 obtain⟨z,its,n,r,e⟩:=I.hok p _ h
 exact⟨its,n,r,e,z⟩
theorem Inv.lstUpd {pins:List (Addr × Obj)} {σ:St} {H:Hp} {s:Shared} {p:Addr} {xs ys:List V} {its its':List Value} {n n':Nat} {f:Obj->Obj} (I:Inv X pins σ H s) (h:H p=some (.lst xs))
  (ho:s.heap.get? p=some { cls:=.type "list",data:=.seq its.toArray n }) (hf:f { cls:=.type "list",data:=.seq its.toArray n }={ cls:=.type "list",data:=.seq its'.toArray n' }) (r:kC ys its') (hz:ys.length<=sizeLine) (t:Nat) :
  Inv X pins σ (upd H p (.lst ys)) { s with heap:=s.heap.update p f,toks:=t }:=by
 have e:(s.heap.update p f).get? p=some { cls:=.type "list",data:=.seq its'.toArray n' }:=by
  rw [Heap.get?_update_self f ho (by rw [hf] <;> rfl),hf]
 refine I.write (x:=p) (e:=p) (by rw [h];trivial) (.inl rfl) (fun b u hb q=>(Heap.get?_update_other _ _ (Ne.symm hb)).trans q) ⟨_,e⟩ ?_
 exact⟨hz,its',n',r,e⟩
def rSetL:V->V->V->Hp->(Hp->Prop)->Prop:=fun o i v H Q=>∃ p xs k j,o=.ref p/\i=.int k/\H p=some (.lst xs)/\ixN xs.length k=some j/\Q (upd H p (.lst (xs.set j v)))
theorem set_list:PSet X rSetL:=by
 intro pins s σ H o i v ov iv u Q I ro ri rv h
 obtain⟨p,xs,k,j,rfl,rfl,hp,hj,q⟩:=h
 cases ro
 obtain⟨t,rfl⟩:=ri
 obtain⟨its,n,r,ho,hz⟩:=I.lst hp
 obtain⟨h1,h2,h3,h4⟩:=aAh hj
 have hl:=r.length
 have hn:=dO
 have I':Inv X pins σ (upd H p (.lst (xs.set j v))) { s with heap:=s.heap.update p (Obj.mapSeq (·.setIfInBounds j u)) } :=
  I.lstUpd hp ho (wC its n j u) (r.set rv j) (by rw [List.length_set];exact hz) s.toks
 by_cases h0 : 0<=k
 ·have hk:k.toNat=j:=by
   rw [seqIndex_of h0 h4] at h1
   exact Option.some.inj h1
  exact PySem.W.ki_setAt ho h0 (by omega) (by rw [List.size_toArray,← hl];exact h4) (by rw [hk];exact⟨_,I',q⟩)
 ·have hk:(k + (its.toArray.size:Int)).toNat=j:=by
   rw [seqIndex_neg (by omega) h3] at h1
   rw [List.size_toArray,← hl]
   exact Option.some.inj h1
  exact PySem.W.ki_setBack ho (by omega) (by rw [List.size_toArray,← hl];exact h3) (by omega) (by rw [hk];exact⟨_,I',q⟩)
theorem pG (lo hi:Option Int) (n:Nat):(sliceBounds lo hi none n).1=((HT.sIx n 0 lo:Nat):Int)/\(sliceBounds lo hi none n).2.1=((HT.sIx n n hi:Nat):Int)/\(sliceBounds lo hi none n).2.2=1:=by
 refine⟨?_,?_,rfl⟩
 ·cases lo with
  | none=>simp [sliceBounds,HT.sIx]
  | some i =>
   simp only [sliceBounds,HT.sIx,Option.getD_none,show (1:Int) > 0 by decide,if_true]
   by_cases h:i < 0
   ·simp only [h,if_true] <;> omega
   ·simp only [h,if_false] <;> omega
 ·cases hi with
  | none=>simp [sliceBounds,HT.sIx]
  | some i =>
   simp only [sliceBounds,HT.sIx,Option.getD_none,show (1:Int) > 0 by decide,if_true]
   by_cases h:i < 0
   ·simp only [h,if_true] <;> omega
   ·simp only [h,if_false] <;> omega
theorem nL (its:List Value) (lo hi:Option Int):slicePick its.toArray lo hi none=((its.drop (HT.sIx its.length 0 lo)).take (HT.sIx its.length its.length hi - HT.sIx its.length 0 lo)).toArray:=by
 obtain⟨h1,h2,h3⟩:=pG lo hi its.toArray.size
 unfold slicePick
 rw [h1,h2,h3]
 simp only [sliceRange_one,pick_run,List.size_toArray] <;> rfl
def rSlL (K:Frag):V->Option Int->Option Int->Hp->VK->Prop:=fun x lo hi H Q=>∃ a xs,x=.ref a/\SqL K H a xs/\∀ p,H p=none->Q (.ref p) (upd H p (.lst (xJ xs lo hi)))
theorem qJ:SlR X (rSlL X.K):=by
 intro pins s σ H x v vl vu lo hi sl Q I rx hs pl pu h
 obtain⟨a,xs,rfl,hx,q⟩:=h
 cases rx
 obtain⟨its,r,ht,hz⟩:=I.list hx
 have hlen:=r.length
 refine⟨"list",_,slot_list_getitem.lookup,ht.isList.typeIs,?_⟩
 refine wpAny_getItem_list_slice ht.isList hs pl pu .none (by simp) ?_ (by rw [List.size_toArray] <;> omega)
 rw [nL,← hlen]
 refine⟨.ref s.heap.objs.size,_,I.laid (t':=s.toks) (o:=.lst (xJ xs lo hi)) (fun b ob q=>Heap.get?_push_of_some _ q) (Nat.le_refl _) ?_,rfl,q _ (I.hok.fresh (Nat.le_refl _))⟩
 exact⟨Nat.le_trans (sG xs lo hi) hz,_,0,(r.drop (HT.sIx xs.length 0 lo)).take (HT.sIx xs.length xs.length hi - HT.sIx xs.length 0 lo),Heap.get?_push_size _ rfl⟩
def cC:V->Bool
 | .non=>true
 | .bl _=>true
 | .int _=>true
 | .str _=>true
 | _=>false
def eqV:V->V->Bool
 | .non,.non=>true
 | .bl a,.bl b=>a == b
 | .bl a,.int b=>(if a then 1 else 0) == b
 | .int a,.bl b=>a == (if b then 1 else 0)
 | .int a,.int b=>a == b
 | .str a,.str b=>a == b
 | _,_=>false
theorem aFj {A:Around} {s:Shared} {y x:V} {u v:Value} (ry:RelV y u) (rx:RelV x v) (fy:cC y=true) (fx:cC x=true):SeqAt.EqAt A s u v (eqV y x):=by
 cases y with
 | non =>
  cases ry
  cases x with
  | non=>cases rx;exact SeqAt.EqAt.same _
  | bl b=>cases rx;exact SeqAt.EqAt.none_bool b
  | int b=>obtain⟨t,rfl⟩:=rx;exact SeqAt.EqAt.none_int b t
  | str b=>obtain⟨t,rfl⟩:=rx;exact SeqAt.EqAt.none_str b t
  | _=>exact absurd (show false=true from fx) Bool.false_ne_true
 | bl a =>
  cases ry
  cases x with
  | non=>cases rx;exact SeqAt.EqAt.bool_none a
  | bl b=>cases rx;exact SeqAt.EqAt.bool_bool a b
  | int b=>obtain⟨t,rfl⟩:=rx;exact SeqAt.EqAt.bool_int a b t
  | str b=>obtain⟨t,rfl⟩:=rx;exact SeqAt.EqAt.bool_str a b t
  | _=>exact absurd (show false=true from fx) Bool.false_ne_true
 | int a =>
  obtain⟨t',rfl⟩:=ry
  cases x with
  | non=>cases rx;exact SeqAt.EqAt.int_none a t'
  | bl b=>cases rx;exact SeqAt.EqAt.int_bool a t' b
  | int b=>obtain⟨t,rfl⟩:=rx;exact SeqAt.EqAt.int_int a t' b t
  | str b=>obtain⟨t,rfl⟩:=rx;exact SeqAt.EqAt.int_str a t' b t
  | _=>exact absurd (show false=true from fx) Bool.false_ne_true
 | str a =>
  obtain⟨t',rfl⟩:=ry
  cases x with
  | non=>cases rx;exact SeqAt.EqAt.str_none a t'
  | bl b=>cases rx;exact SeqAt.EqAt.str_bool a t' b
  | int b=>obtain⟨t,rfl⟩:=rx;exact SeqAt.EqAt.str_int a t' b t
  | str b=>obtain⟨t,rfl⟩:=rx;exact SeqAt.EqAt.str_str a t' b t
  | _=>exact absurd (show false=true from fx) Bool.false_ne_true
 | _=>exact absurd (show false=true from fy) Bool.false_ne_true
def eqU (x:V) (u:Value):Bool:=match u with
 | .none=>eqV .non x
 | .bool b=>eqV (.bl b) x
 | .int i _=>eqV (.int i) x
 | .str z _=>eqV (.str z) x
 | _=>false
theorem aCz {x y:V} {u:Value} (r:RelV y u) (f:cC y=true):eqU x u=eqV y x:=by
 cases y with
 | non=>cases r;rfl
 | bl b=>cases r;rfl
 | int i=>obtain⟨t,rfl⟩:=r;rfl
 | str z=>obtain⟨t,rfl⟩:=r;rfl
 | _=>exact absurd (show false=true from f) Bool.false_ne_true
theorem eJ {x:V} : ∀ {xs:List V} {us:List Value},kC xs us->xs.all cC=true->us.any (eqU x)=xs.any fun y=>eqV y x
 | _,_,.nil,_=>rfl
 | y::xs,u::us,.cons r t,f=>by
  rw [List.all_cons,Bool.and_eq_true] at f
  rw [List.any_cons,List.any_cons,aCz r f.1,eJ t f.2]
theorem cE {A:Around} {s:Shared} {x:V} {v:Value} (rx:RelV x v) (fx:cC x=true):∀ {xs:List V} {us:List Value},kC xs us->xs.all cC=true->∀ u ∈ us,SeqAt.EqAt A s u v (eqU x u)
 | _,_,.nil,_=>fun u hu=>by cases hu
 | y::xs,u::us,.cons r t,f=>fun u' hu=>by
  rw [List.all_cons,Bool.and_eq_true] at f
  rcases List.mem_cons.mp hu with rfl|hu
  ·rw [aCz r f.1];exact aFj r rx f.1 fx
  ·exact cE rx fx t f.2 u' hu
def inV (x:V) (xs:List V):Bool:=xs.any fun y=>eqV y x
def rIn (K:Frag) (neg:Bool):R2:=fun x y H Q=>∃ p xs,y=.ref p/\(SqL K H p xs\/SqT K H p xs)/\cC x=true/\xs.all cC=true/\Q (.bl (if neg then !inV x xs else inV x xs)) H
theorem vC:OpR X (compareOp .In) (rIn X.K false):=by
 intro pins s σ H x y v u Q I rx ry h
 obtain⟨p,xs,rfl,hq,fx,fs,q⟩:=h
 cases ry
 rcases hq with hq|hq
 ·obtain⟨its,r,pl,hz⟩:=I.list hq
  refine SeqAt.in_listAt (eqU x) pl.isList (fun w hw=>cE rx fx r fs w (by simpa using hw)) ⟨.bl _,H,I,rfl,?_⟩
  rw [show its.toArray.any (eqU x)=its.any (eqU x) by simp,eJ r fs]
  exact q
 ·obtain⟨its,r,pl,hz⟩:=I.tuple hq
  refine SeqAt.in_tupleAt (eqU x) pl (fun w hw=>cE rx fx r fs w (by simpa using hw)) ⟨.bl _,H,I,rfl,?_⟩
  rw [show its.toArray.any (eqU x)=its.any (eqU x) by simp,eJ r fs]
  exact q
theorem qZ:OpR X (compareOp .NotIn) (rIn X.K true):=by
 intro pins s σ H x y v u Q I rx ry h
 obtain⟨p,xs,rfl,hq,fx,fs,q⟩:=h
 cases ry
 rcases hq with hq|hq
 ·obtain⟨its,r,pl,hz⟩:=I.list hq
  refine SeqAt.notIn_listAt (eqU x) pl.isList (fun w hw=>cE rx fx r fs w (by simpa using hw)) ⟨.bl _,H,I,rfl,?_⟩
  rw [show its.toArray.any (eqU x)=its.any (eqU x) by simp,eJ r fs]
  exact q
 ·obtain⟨its,r,pl,hz⟩:=I.tuple hq
  refine SeqAt.notIn_tupleAt (eqU x) pl (fun w hw=>cE rx fx r fs w (by simpa using hw)) ⟨.bl _,H,I,rfl,?_⟩
  rw [show its.toArray.any (eqU x)=its.any (eqU x) by simp,eJ r fs]
  exact q
theorem kA:vP X (.builtin "len") (fun xs H Q=>∃ p ys,xs=[.ref p]/\(SqL X.K H p ys\/SqT X.K H p ys)/\Q (.int ys.length) H):=by
 intro pins s σ H xs us Q I r h
 obtain⟨p,ys,rfl,hq,q⟩:=h
 obtain⟨u,rfl,rx⟩:=vals1 r
 cases rx
 have hn:=dO
 rcases hq with hq|hq
 ·obtain⟨its,r',pl,hz⟩:=I.list hq
  have hlen:=r'.length
  exact Calls.call_len_list pl.isList (by simp only [List.size_toArray] <;> omega) ⟨.int ys.length,H,I.tok _,⟨s.toks + 1,by rw [List.size_toArray,hlen]⟩,q⟩
 ·obtain⟨its,r',pl,hz⟩:=I.tuple hq
  have hlen:=r'.length
  exact len_tuple pl (by simp only [List.size_toArray] <;> omega) ⟨.int ys.length,H,I.tok _,⟨s.toks + 1,by rw [List.size_toArray,hlen]⟩,q⟩
theorem vP.or {f:Value} {r r':List V->Hp->VK->Prop} (h:vP X f r) (h':vP X f r'):vP X f (fun xs H Q=>r xs H Q\/r' xs H Q):=by
 intro pins s σ H xs us Q I rs q
 rcases q with q|q
 ·exact h pins s σ H xs us Q I rs q
 ·exact h' pins s σ H xs us Q I rs q
theorem oY:vP X (.type "list") (fun xs H Q=>∃ p ys,xs=[.ref p]/\(SqL X.K H p ys\/SqT X.K H p ys)/\∀ l,H l=none->Q (.ref l) (upd H l (.lst ys))):=by
 intro pins s σ H xs us Q I r h
 obtain⟨p,ys,rfl,hq,q⟩:=h
 obtain⟨u,rfl,rx⟩:=vals1 r
 cases rx
 have fin:∀ (its:List Value),kC ys its->ys.length<=sizeLine->∀ (h':Heap) (c':Nat),(∀ b o',s.heap.get? b=some o'->h'.get? b=some o') →
   h'.get? s.heap.objs.size=some { cls:=.type "list",dict:=none,data:=.seq its.toArray c',slots:=#[] }->EP X pins σ Q (.ref s.heap.objs.size) { s with heap:=h' }:=fun its r' hz h' c' kp e =>
  ⟨.ref s.heap.objs.size,_,I.laid (t':=s.toks) kp (Nat.le_refl _) (show qC X.prog X.w _ h' _ (.lst ys) from⟨hz,its,c',r',e⟩),rfl,q _ (I.hok.fresh (Nat.le_refl _))⟩
 rcases hq with hq|hq
 ·obtain⟨its,r',pl,hz⟩:=I.list hq
  have hlen:=r'.length
  obtain⟨o,ho,hc,n,hd⟩:=pl.isList
  exact call_list_seq p (.inl rfl) ho hc hd (fun h' c' kp e=>fin its r' hz h' c' kp e) (by simp only [List.size_toArray] <;> omega)
 ·obtain⟨its,r',pl,hz⟩:=I.tuple hq
  have hlen:=r'.length
  obtain⟨o,ho,hc,n,hd⟩:=pl
  exact call_list_seq p (.inr rfl) ho hc hd (fun h' c' kp e=>fin its r' hz h' c' kp e) (by simp only [List.size_toArray] <;> omega)
theorem zN:vP X (.type "tuple") (fun xs H Q=>∃ p ys,xs=[.ref p]/\((SqL X.K H p ys/\∀ l,H l=none->Q (.ref l) (upd H l (.tup ys)))\/(SqT X.K H p ys/\Q (.ref p) H))):=by
 intro pins s σ H xs us Q I r h
 obtain⟨p,ys,rfl,h⟩:=h
 obtain⟨u,rfl,rx⟩:=vals1 r
 cases rx
 rcases h with⟨hq,q⟩|⟨hq,q⟩
 ·obtain⟨its,r',pl,hz⟩:=I.list hq
  have hlen:=r'.length
  refine call_tuple_list pl.isList (fun h' kp=>?_) (by simp only [List.size_toArray] <;> omega)
  have I1:Inv X pins σ H { s with heap:=h' }:=I.kept (t':=s.toks) kp
  have I2:Inv X pins σ (upd H h'.objs.size (.tup ys)) { s with heap:=h'.push { cls:=.type "tuple",data:=.seq its.toArray } } :=
   I1.laid (t':=s.toks) (fun b o e=>Heap.get?_push_of_some _ e) (Nat.le_refl _) (show qC X.prog X.w _ _ _ (.tup ys) from⟨hz,its,r',IsTup.new _ _⟩)
  exact⟨.ref h'.objs.size,_,I2,rfl,q _ (I1.hok.fresh (Nat.le_refl _))⟩
 ·obtain⟨its,r',pl,hz⟩:=I.tuple hq
  exact call_tuple_same pl ⟨.ref p,H,I,rfl,q⟩
def tyV (K:Frag) (T:String) (x:V) (H:Hp):Prop:=match x with
 | .str _=>T = "str"
 | .int _=>T = "int"
 | .ref p=>(T = "list"/\∃ xs,SqL K H p xs)\/(T = "tuple"/\∃ o,K.lookup p=some o/\o.cls=.type "tuple"/\o.dict=none) ∨
   (T = "dict"/\((∃ kvs,H p=some (.dK kvs))\/∃ kvs,H p=some (.dT kvs)))\/(T = "set"/\∃ S n,H p=some (.set S n))
 | _=>False
theorem aKg {pins:List (Addr × Obj)} {σ:St} {H:Hp} {s:Shared} {T:String} {x:V} {v:Value} (I:Inv X pins σ H s) (r:RelV x v) (ty:tyV X.K T x H) :
  s.TypeIs v T/\∀ a,v=.ref a->∃ ob,s.heap.get? a=some ob/\ob.dict=none:=by
 cases x with
 | str z =>
  obtain⟨t,rfl⟩:=r
  cases (show T = "str" from ty)
  exact⟨typeIs_str s z t,fun _ e=>nomatch e⟩
 | int i =>
  obtain⟨t,rfl⟩:=r
  cases (show T = "int" from ty)
  exact⟨typeIs_int s i t,fun _ e=>nomatch e⟩
 | ref p =>
  cases r
  rcases ty with⟨rfl,xs,hq⟩|⟨rfl,o,hk,hc,hd⟩|⟨rfl,hk⟩|⟨rfl,S,n,hk⟩
  ·obtain⟨its,_,pl,_⟩:=I.list hq
   refine⟨pl.isList.typeIs,fun a e=>?_⟩
   cases e
   obtain⟨o,n,e,c,hd,_⟩:=pl
   exact⟨o,e,hd⟩
  ·refine⟨⟨o,I.kIn p o hk,hc⟩,fun a e=>?_⟩
   cases e
   exact⟨o,I.kIn _ o hk,hd⟩
  ·have z:∃ o,s.heap.get? p=some o/\o.ExactDict:=by
    rcases hk with⟨kvs,hk⟩|⟨kvs,hk⟩
    ·obtain⟨_,_,_,_,o,_,_,e,ex,_⟩:=I.hok p _ hk
     exact⟨o,e,ex⟩
    ·obtain⟨_,_,_,_,o,_,_,e,ex,_⟩:=I.hok p _ hk
     exact⟨o,e,ex⟩
   obtain⟨o,e,ex⟩:=z
   refine⟨⟨o,e,ex.1⟩,fun a e2=>?_⟩
   cases e2
   exact⟨o,e,ex.2.1⟩
  ·obtain⟨o,_,_,_,e,ex,_⟩:=I.hok p _ hk
   refine⟨⟨o,e,ex.1⟩,fun a e2=>?_⟩
   cases e2
   exact⟨o,e,ex.2.1⟩
 | _=>exact False.elim ty
def tBM (K:Frag) (T:String) (r:V->List V->Hp->VK->Prop) (to:TE) (t:TA):TE:=fun σ H Q=>to σ H fun x H1=>tyV K T x H1/\t σ H1 fun xs H2=>r x xs H2 Q
variable {o e:Expr} {es:List Expr} {to:TE} {t:TA} {name:Str} {apos cpos:Pos} {T id:String} {r:V->List V->Hp->VK->Prop}
theorem vW (pa:PlainAttrs T) (slot:Slot T name id) (hty:typeOf (.builtin id)=pure (.type "method_descriptor")) (hm:MtR X id r) (ho:PE X o to) (ha:PA X (e::es) t)
  (hbase:attributeBase o name X.env (eval o X.env)=eval o X.env:=by rfl)
  (hfew:((backTo cpos (starEach (e::es) X.env)).all (fun x=>!x.1) && (backToKw cpos (keywordEach [] X.env)).all (fun x=>x.1.isSome)
   && decide ((e::es).length + ([]:List Keyword).length + (if ([]:List Keyword).isEmpty then 0 else 1) < 30))=true:=by rfl)
  (hline:(apos.endLine == cpos.line)=true:=by rfl) (hs:starEach (e::es) X.env=(false,eval e X.env)::starEach es X.env:=by rfl) (hplain:(backTo cpos (starEach es X.env)).any (·.1)=false:=by rfl) :
  PE X (.Call (.Attribute o name apos) (e::es) [] cpos) (tBM X.K T r to t):=by
 intro pins s σ H Q I h
 refine wpAny_Call_method_late hbase hfew hline rfl (thn (ho pins s σ H _ I h) fun v s1 zq=>?_)
 obtain⟨x,H1,I1,r1,ty,q1⟩:=zq
 obtain⟨h1,h2⟩:=aKg I1 r1 ty
 refine⟨T,id,pa,slot,hty,h1,h2,?_⟩
 have hA:=ha cpos pins s1 σ H1 _ I1 q1
 rw [hs] at hA ⊢
 refine Calls.callWith_builtin (by show (false || (backTo cpos (starEach es X.env)).any (·.1))=false;rw [hplain] <;> rfl) (Calls.evalArgs_plain ?_)
 exact thn hA fun us s2 ⟨vs,H2,I2,r2,q2⟩=>hm pins s2 σ H2 x vs v us Q I2 r1 r2 q2
end
def MtM (X:Cx) (id:String) (r:V->List V->Hp->VK->Prop):Prop :=
 ∀ (pins:List (Addr × Obj)) (s:Shared) (σ:St) (H:Hp) (x:V) (xs:List V) (v:Value) (us:List Value) (Q:VK),Inv X pins σ H s->RelV x v->kC xs us->r x xs H Q →
  wpAny (model X.prog X.w) X.A (call (.builtin id) (v::us)) (EP X pins σ Q) X.xe s
theorem kC.one:∀ {x:V} {us:List Value},kC [x] us->∃ u,us=[u]/\RelV x u
 | _,_,.cons r .nil=>⟨_,rfl,r⟩
theorem kC.two:∀ {x y:V} {us:List Value},kC [x,y] us->∃ u v,us=[u,v]/\RelV x u/\RelV y v
 | _,_,_,.cons r (.cons q .nil)=>⟨_,_,rfl,r,q⟩
theorem kC.zero:∀ {us:List Value},kC [] us->us=[]
 | _,.nil=>rfl
theorem kC.dropLast {xs:List V} {us:List Value} (h:kC xs us):kC xs.dropLast us.dropLast:=by
 induction h with
 | nil=>exact .nil
 | cons r t ih =>
  cases t with
  | nil=>exact .nil
  | cons q t'=>exact .cons r ih
theorem kC.rep {xs:List V} {us:List Value} (h:kC xs us):∀ k:Nat,kC (List.replicate k xs).flatten (List.replicate k us).flatten
 | 0=>.nil
 | k + 1=>by
  rw [List.replicate_succ,List.replicate_succ,List.flatten_cons,List.flatten_cons]
  exact kC.append h (kC.rep h k)
theorem foldl_rep (its:List Value):∀ (k:Nat) (acc:List Value),
  List.foldl (fun x1 x2=>x1++x2) acc.toArray (List.replicate k its.toArray)=(acc++(List.replicate k its).flatten).toArray
 | 0,acc=>by simp
 | k + 1,acc=>by
  have e:acc.toArray++its.toArray=(acc++its).toArray:=by simp
  have e2:(acc++its)++(List.replicate k its).flatten=acc++(List.replicate (k + 1) its).flatten:=by
   rw [List.replicate_succ,List.flatten_cons,List.append_assoc]
  rw [← e2,← foldl_rep its k (acc++its),← e,List.replicate_succ,List.foldl_cons]
section
variable {X:Cx} {pins:List (Addr × Obj)} {σ:St} {H:Hp} {s:Shared} {l b:Addr} {xs ys zs:List V}
theorem Inv.lset {its its':List Value} {n:Nat} {f:Array Value->Array Value} {t':Nat} (I:Inv X pins σ H s) (hH:H l=some (.lst xs))
  (e:s.heap.get? l=some { cls:=.type "list",data:=.seq its.toArray n }) (hf:f its.toArray=its'.toArray) (hv:kC ys its') (hz:ys.length<=sizeLine) :
  Inv X pins σ (upd H l (.lst ys)) { s with heap:=s.heap.update l (Obj.mapSeq f),toks:=t' }:=by
 have q:=PySem.IsL.update e f
 rw [hf] at q
 refine I.write (x:=l) (e:=l) (by rw [hH];exact trivial) (.inl rfl) (fun b' u hb hu=>(Heap.get?_update_other s.heap (Obj.mapSeq f) (Ne.symm hb)).trans hu) ⟨_,q⟩ ?_
 exact⟨hz,its',_,hv,q⟩
theorem Inv.lnew {its:List Value} {t':Nat} (I:Inv X pins σ H s) (hv:kC ys its) (hz:ys.length<=sizeLine) :
  Inv X pins σ (upd H s.heap.objs.size (.lst ys)) { s with heap:=s.heap.push { cls:=.type "list",data:=.seq its.toArray },toks:=t' } :=
 I.laid (fun _ _ q=>Heap.get?_push_of_some _ q) (Nat.le_refl _) ⟨hz,its,0,hv,Heap.get?_push_size _ rfl⟩
theorem Inv.fresh (I:Inv X pins σ H s):H s.heap.objs.size=none:=I.hok.fresh (Nat.le_refl _)
theorem Inv.lstM (I:Inv X pins σ H s) (hH:H l=some (.lst xs)):xs.length<=sizeLine/\∃ (its:List Value) (n:Nat),kC xs its/\xs.length=its.length/\s.heap.get? l=some { cls:=.type "list",data:=.seq its.toArray n }:=by
 obtain⟨z,its,n,r,e⟩:=I.hok l _ hH
 exact⟨z,its,n,r,r.length,e⟩
theorem tX {n:Nat} (h:n<=sizeLine):Builtin.List.listTooLong n=false:=by
 unfold Builtin.List.listTooLong
 exact decide_eq_false (by omega)
end
section
variable {X:Cx}
def aGy:V->List V->Hp->VK->Prop:=fun x vs H Q=>∃ l xs y,x=.ref l/\vs=[y]/\H l=some (.lst xs)/\xs.length < sizeLine/\Q .non (upd H l (.lst (xs++[y])))
theorem qM:MtM X "list.append" aGy:=by
 intro pins s σ H x vs v us Q I rx rv h
 obtain⟨l,xs,y,rfl,rfl,hH,hz,q⟩:=h
 cases rx
 obtain⟨u,rfl,ru⟩:=rv.one
 obtain⟨z,its,n,r,hl,e⟩:=I.lstM hH
 refine call_meets F.slot_list_append ⟨_,e,rfl⟩ F.entry_list_append (F.args_list_append_2 _ _) (PySem.list_append l its.toArray n u (by rw [List.size_toArray];omega)) ⟨e,?_⟩
 refine⟨.non,_,I.lset (its':=its++[u]) hH e (by simp) (r.append (.cons ru .nil)) ?_,rfl,q⟩
 rw [List.length_append,List.length_singleton]
 omega
def aGh:V->List V->Hp->VK->Prop:=fun x vs H Q=>∃ l b xs zs,x=.ref l/\vs=[.ref b]/\H l=some (.lst xs)/\H b=some (.lst zs)/\xs.length + zs.length<=sizeLine/\Q .non (upd H l (.lst (xs++zs)))
theorem oE:MtM X "list.extend" aGh:=by
 intro pins s σ H x vs v us Q I rx rv h
 obtain⟨l,b,xs,zs,rfl,rfl,hH,hB,hz,q⟩:=h
 cases rx
 obtain⟨u,rfl,ru⟩:=rv.one
 cases ru
 obtain⟨z,its,n,r,hl,e⟩:=I.lstM hH
 obtain⟨z2,its2,n2,r2,hl2,e2⟩:=I.lstM hB
 have hsz:its.toArray.size + its2.toArray.size<=sizeLine:=by rw [List.size_toArray,List.size_toArray];omega
 have hlong:¬ (!its.toArray.isEmpty && Builtin.List.listTooLong (its.toArray.size + its2.toArray.size))=true:=by
  rw [tX hsz,Bool.and_false]
  exact Bool.false_ne_true
 refine call_meets F.slot_list_extend ⟨_,e,rfl⟩ F.entry_list_extend (F.args_list_extend_2 _ _)
  (AutoSeq1.list_extend_list_list_0 l its.toArray n b its2.toArray n2 hlong (by rw [List.size_toArray];omega) (by omega)) ⟨e,e2,?_⟩
 refine⟨.non,_,I.lset (its':=its++its2) hH e (by simp) (r.append r2) ?_,rfl,q⟩
 rw [List.length_append]
 omega
def rRep:R2:=fun x y H Q=>∃ l k xs,x=.ref l/\y=.int k/\H l=some (.lst xs)/\-(2 ^ 63)<=k/\k < 2 ^ 63/\xs.length * k.toNat<=sizeLine ∧
 ∀ p,H p=none->Q (.ref p) (upd H p (.lst (List.replicate k.toNat xs).flatten))
theorem len_rep {α : Type} (xs:List α) (k:Nat):(List.replicate k xs).flatten.length=k * xs.length:=by
 induction k with
 | zero=>simp
 | succ k ih=>rw [List.replicate_succ,List.flatten_cons,List.length_append,ih,Nat.succ_mul,Nat.add_comm]
theorem aKn:OpR X (binaryOp .Mult) rRep:=by
 intro pins s σ H x y v u Q I rx ry h
 obtain⟨l,k,xs,rfl,rfl,hH,h1,h2,hz,q⟩:=h
 cases rx
 obtain⟨t,rfl⟩:=ry
 obtain⟨z,its,n,r,hl,e⟩:=I.lstM hH
 have hlen:its.toArray.size * k.toNat<=sizeLine:=by rw [List.size_toArray,← hl];exact hz
 have hcap:¬ its.toArray.size * k.toNat > (2 ^ 63 - 1) / 8:=by
  have:(sizeLine:Nat)<=(2 ^ 63 - 1) / 8:=by decide
  omega
 have hfit:¬ (!Builtin.List.listFitsIndex k)=true:=by
  rw [fitsIndex_both h1 h2]
  exact Bool.false_ne_true
 have hlong:¬ Builtin.List.listTooLong (its.toArray.size * k.toNat)=true:=by
  rw [tX hlen]
  exact Bool.false_ne_true
 have hnew:List.foldl (fun x1 x2=>x1++x2) #[] (List.replicate (if its.toArray.isEmpty=true then 0 else k.toNat) its.toArray)=(List.replicate k.toNat its).flatten.toArray:=by
  have f0:∀ m:Nat,List.foldl (fun x1 x2=>x1++x2) #[] (List.replicate m its.toArray)=(List.replicate m its).flatten.toArray:=fun m=>by
   have:=foldl_rep its m []
   rw [List.nil_append] at this
   exact this
  rw [f0]
  cases its with
  | nil=>simp
  | cons a r'=>rw [if_neg (by simp)]
 refine wpAny_binaryOp_repeat_ref (T:="list") (U:="int") (by decide) ⟨_,e,rfl⟩ (fun s'=>typeIs_int s' k t) noFill_list_mul F.fills_int_mul F.slot_int_rmul repeat_list F.slot_int_index.lookup
  (call_meets F.slot_int_rmul (typeIs_int s k t) F.entry_int_rmul (F.args_int_rmul_2 _ _) (int___rmul___int_list k t l its.toArray n)
   ⟨e,rfl,⟨_,e,rfl⟩,call_meets F.slot_list_mul ⟨_,e,rfl⟩ F.entry_list_mul (F.args_list_mul_2 _ _) (AutoListH.list___mul___list_int_3 l its.toArray n k t hfit hcap hlong) ⟨e,?_⟩⟩)
 rw [hnew]
 exact⟨.ref _,_,I.lnew (t':=s.toks) (r.rep k.toNat) (by rw [len_rep,Nat.mul_comm];exact hz),rfl,q _ I.fresh⟩
end
end L2
namespace Att
open PySem PySem.W PySem.Calls PyProof.Rows
theorem gR {P:Params} {h:Heap} : ∀ (ns:List Int) (vs:List Value),WellAll P h vs (ns.map WData.int)->IntsAre vs ns:=by
 intro ns
 induction ns with
 | nil =>
  intro vs w
  rw [List.map_nil] at w
  cases w
  exact .nil
 | cons n ns ih =>
  intro vs w
  rw [List.map_cons] at w
  cases w with
  | cons a b =>
   cases a
   exact .cons _ _ (ih _ b)
theorem aBp {l:OpenLaw} {n:Nat} (hn:l.most=some n) {P:Params} {h:Heap} {args:List WData} {vals:List Value}
  (hpre:l.row.toRowW.claim.pre args=true) (hwl:WellAll P h vals args) :
  ∃ a vs ns,vals=[Value.ref a]/\args=[WData.list (ns.map WData.int)]/\h.get? a=some { cls:=.type "list",data:=.seq vs.toArray }/\IntsAre vs ns/\ns.length<=n:=by
 have hsh:WShape.hasAll [] args [.list .int]=true:=(pre_splitW hpre).1
 have hc:l.pre.holds [] { args:=args }=true:=(pre_splitW hpre).2
 obtain⟨d,r,rfl,h1,h2⟩:=hasAllW_cons hsh
 obtain rfl:=hasAllW_nil h2
 obtain⟨xs,rfl,h3⟩:=hasW_list h1
 obtain⟨ns,rfl⟩:=items_int h3
 have hlen:ns.length<=n:=by
  unfold OpenLaw.pre at hc
  have h4:(WTm.not (.lt (.lit (.int (n:Int))) (.len (.arg 0)))).holds [] { args:=[.list (ns.map .int)] }=true:=by
   have h4:=(holds_andW hc).1
   rw [hn] at h4
   exact h4
  have h5:=condW_of h4 (w_not (w_lt w_lit (w_len_list (w_arg rfl))))
  rw [List.length_map] at h5
  refine Nat.le_of_not_lt fun q=>?_
  have q':(n:Int) < ((ns.length:Nat):Int):=by omega
  first
   | (rw [decide_eq_true q'] at h5;exact absurd h5 (by decide))
   | (simp at h5;omega)
 cases hwl with
 | cons w1 w2 =>
  cases w2
  cases w1 with
  | list ho hall=>exact⟨_,_,ns,rfl,rfl,ho,gR ns _ hall,hlen⟩
theorem aBn (l:OpenLaw) (args:List WData):l.row.toRowW.claim.post args (.bool true) args=true :=
 postW_of (r:=l.row.toRowW) (X:=(true == true))
  (show WShape.has [] (.bool true) .bool=true by first|rfl|decide|simp [WShape.has,WShape.arms,WShape.armsAll])
  (show (WTm.eq .res (.lit (.bool true))).value [] { args:=args,res:=some (.bool true),after:=args }=some (.bool (true == true)) from w_eq_bool (w_res rfl) w_lit) rfl
theorem attach_call {l:OpenLaw} {n:Nat} {q:Program} {loose:List Str} {XP:(Str->Option Value)->Heap->Prop} {YP:World->Heap->Prop} {d:DefRec}
  (hn:l.most=some n) (hdf:d.params.defaults=[])
  (call:∀ (w:World) (s₀ s₁ : Shared) (mg mb:Str->Option Value) (fa:Addr) (o:Obj) (pm cd doc:Value) (a:Addr) (vs:List Value) (ns:List Int),
   Ground q loose [] XP w s₀ mg mb s₁.heap->YP w s₁.heap →
   s₁.heap.get? fa=some o->o.data=.func (docDef d.name d.params d.body d.scope pm cd doc)->s₁.heap.CodeRec cd d.name->mg d.name=some (.ref fa) →
   s₁.heap.get? a=some { cls:=.type "list",data:=.seq vs.toArray }->IntsAre vs ns->ns.length<=n->s₁.gens = #[] →
   codeAny (model l.prog w) callerA (.call (.ref fa) ⟨[.ref a],[]⟩) (fun r s'=>r=.ok (.ret (.bool true))/\OldK s₁.heap s'.heap/\s'.os=s₁.os/\AllBare s'.gens) s₁) :
  WalkO q loose XP YP l.row.toRowW d [] (fun f vs=>PySem.call f vs):=by
 intro w s₀ s₁ mg mb G Y fa o pm cd doc dV kV ho hd hcd hD hmg hg args vals as hpre hlay hrd hwl hlo
 obtain rfl:dV=.none:=Dflts.none hD hdf
 obtain rfl:kV=.none:=Dflts.noKw hD
 obtain⟨a,vs,ns,rfl,rfl,hobj,hints,hlen⟩:=aBp hn hpre hwl
 refine enter_call (codeAny_mono (call w s₀ s₁ mg mb fa o pm cd doc a vs ns G Y ho (fd_plain hd) hcd hmg hobj hints hlen hg) fun r s' hq=>?_)
 obtain⟨rfl,h2,h3,h4⟩:=hq
 exact⟨.inl ⟨.bool true,.bool true,[],rfl,fun _=>rfl,.bool true,aBn l _,fun _=>⟨List.Pairwise.nil,fun _ hm=>(nomatch hm)⟩⟩,h2,h3,h4⟩
section
variable {prog:Program} {w:World} {A:Around} {E:Value->Shared->Prop} {s:Shared} {K:Frag}
end
end Att
namespace L2
open PySem PySem.Spec PyProof.Rows
theorem oA:∀ {vs:List Value} {ns:List Int},IntsAre vs ns->kC (ns.map V.int) vs
 | _,_,.nil=>.nil
 | _,_,.cons n t h=>.cons ⟨t,rfl⟩ (oA h)
def Only (H:Hp):Prop:=∀ b,H b=none\/∃ o xs,H b=some (.frz o (.lst xs))
theorem aDg {P:Program} {w:World} {K:Frag} {mg mb:Str->Option Value} {CX:CXT} {k:Nat} {fa a:Addr} {fd:FuncData} {x:Str} {sp:Sp} {s₁ : Shared} {vs:List Value} {ns:List Int}
  (KX:K.In s₁.heap) (hns:s₁.heap.Ns mainGlobals mg) (hb:s₁.heap.Ns builtinsNs mb) (hbb:∀ x:Str,x ≠ "__name__"->mb x=bootBuiltins x) (hlim:s₁.heap.NoLimit) (hg:s₁.gens = #[])
  (ha:s₁.heap.get? a=some { cls:=.type "list",data:=.seq vs.toArray }) (hi:IntsAre vs ns) (hl:ns.length<=sizeLine) (hr:qX k callerA)
  (F:∀ base:Heap,K.In base->base.Ns mainGlobals mg->jK P w K mg base CX k fa fd [x] sp) (hbind:∀ (s:Shared) (u:Value),BindsTo s fd ⟨[u],[]⟩ [(x,u)])
  (hsp:∀ H:Hp,Only H->SqL K H a (ns.map V.int)->sp [.ref a] H (fun v _=>v=.bl true) fun _ _ _=>False)
  (hCX:∀ H e s',CX [] H s₁ (fun _ _ _=>False) e s'->False) :
  codeAny (model P w) callerA (.call (.ref fa) ⟨[.ref a],[]⟩) (fun r s'=>r=.ok (.ret (.bool true))/\OldK s₁.heap s'.heap/\s'.os=s₁.os/\AllBare s'.gens) s₁:=by
 have rv:=oA hi
 have lenV:=hi.length
 have core:∀ H:Hp,Only H->SqL K H a (ns.map V.int)->HOk P w H s₁.heap->(∀ b,H b ≠ none->b=a)->(H a ≠ none->K.lookup a=none) →
   codeAny (model P w) callerA (.call (.ref fa) ⟨[.ref a],[]⟩) (fun r s'=>r=.ok (.ret (.bool true))/\OldK s₁.heap s'.heap/\s'.os=s₁.os/\AllBare s'.gens) s₁:=by
  intro H hO hS hok hA hK
  have base_of:∀ {b:Addr} {o:Obj},s₁.heap.get? b=some o->H b=none->(pW s₁.heap H).get? b=some o:=fun e n=>aFg e n
  have noA:∀ {b:Addr} {o:Obj} {es:Array DictEntry} {ep:Nat},s₁.heap.get? b=some o->o.data=.dict es ep->H b=none:=fun {b o es ep} e d=>by
   cases q:H b with
   | none=>rfl
   | some u =>
    have e':b=a:=hA b (by rw [q];simp)
    subst e'
    rw [ha] at e;cases e
    have d':Data.seq vs.toArray _=Data.dict es ep:=d
    cases d'
  have nsK:∀ {b:Addr} {m:Str->Option Value},s₁.heap.Ns b m->(pW s₁.heap H).Ns b m:=fun {b m} ⟨o,es,ep,e,d,r⟩=>⟨o,es,ep,base_of e (noA e d),d,r⟩
  have hKb:K.In (pW s₁.heap H):=fun b o e=>base_of (KX b o e) (by
   cases q:H b with
   | none=>rfl
   | some u =>
    have e':b=a:=hA b (by rw [q];simp)
    subst e'
    rw [hK (by rw [q];simp)] at e;cases e)
  have hM:Mod K mg (pW s₁.heap H):=⟨hKb,nsK hns,⟨mb,nsK hb,hbb⟩,let ⟨mc,h1,h2⟩:=hlim; ⟨mc,nsK h1,h2⟩⟩
  have e0:nC P w K mg (pW s₁.heap H) callerA [] s₁ H:=⟨rfl,hM,fun b o e=>aGu e,Nat.le_of_eq (aCc _ _),trivial,fun b hb=>absurd (show b ∈ ([]:List Addr) from hb) (by simp),hok,.of_eq hg⟩
  refine codeAny_mono ((F _ hKb (nsK hns)).run callerA [] s₁ H ⟨[.ref a],[]⟩ [.ref a] [.ref a] _ _ hr e0 (hbind s₁ (.ref a)) (.cons rfl .nil) (hsp H hO hS)) fun r s' h=>?_
  cases r with
  | error e=>exact (hCX H e s' h).elim
  | ok fl =>
   cases fl with
   | next=>exact False.elim h
   | brk=>exact False.elim h
   | cont=>exact False.elim h
   | ret u =>
    obtain⟨v,H',os,bare,un,hok',r',q⟩:=h
    have q':v=.bl true:=q
    subst q'
    obtain rfl:u=Value.bool true:=r'
    refine⟨rfl,OldK.of_keep fun b o e=>?_,os,bare⟩
    cases q:H b with
    | none=>exact un.keep b o e q (by intro z;exact absurd (show b ∈ ([]:List Addr) from z) (by simp)) (by simp)
    | some u =>
     rcases hO b with z|⟨ob,xs,z⟩
     ·rw [q] at z;cases z
     ·have z2:=un.frzs b ob _ z
      obtain⟨e1,_⟩:=hok b _ z
      obtain⟨e2,_⟩:=hok' b _ z2
      rw [e] at e1;cases e1
      exact e2
 cases hk:K.lookup a with
 | some o =>
  have e:=KX a o hk
  rw [ha] at e
  cases e
  refine core (fun _=>none) (fun _=>.inl rfl) (.inr ⟨_,vs.toArray,_,hk,rfl,rfl,rfl,by rw [List.size_toArray,lenV];exact hl,by simpa using rv⟩) (fun b u z=>by have z':(none:Option HO)=some u:=z;cases z') (fun b z=>absurd rfl z) fun z=>absurd rfl z
 | none =>
  refine core (fun b=>if b=a then some (.frz { cls:=.type "list",data:=.seq vs.toArray } (.lst (ns.map V.int))) else none) (fun b=>?_) (.inl (.inr ⟨{ cls:=.type "list",data:=.seq vs.toArray },if_pos rfl⟩)) (fun b u z=>?_) (fun b z=>?_) fun _=>hk
  ·by_cases hb:b=a
   ·exact .inr ⟨_,_,if_pos hb⟩
   ·exact .inl (if_neg hb)
  ·by_cases hb:b=a
   ·have z':=(if_pos hb).symm.trans z
    cases z'
    subst hb
    exact⟨ha,by rw [List.length_map];exact hl,vs,_,rv,ha⟩
   ·have z':=(if_neg hb).symm.trans z
    cases z'
  ·by_cases hb:b=a
   ·exact hb
   ·exact absurd (if_neg hb) z
theorem aHm {l:PySem.W.OpenLaw} {n k:Nat} {q:Program} {loose:List Str} {XP:(Str->Option Value)->Heap->Prop} {YP:World->Heap->Prop} {d:DefRec} {K:Params->Frag} {CX:World->CXT} {sp:World->Sp} {x:Str}
  (hn:l.most=some n) (hn2:n<=sizeLine) (hdf:d.params.defaults=[]) (hr:qX k callerA)
  (hY:∀ (w:World) (h:Heap),YP w h->(K w.params).In h)
  (F:∀ (w:World) (mg:Str->Option Value) (fa:Addr) (h:Heap),(K w.params).In h->h.Ns mainGlobals mg->mg d.name=some (.ref fa) →
   ∃ fd:FuncData,(∀ (s:Shared) (u:Value),BindsTo s fd ⟨[u],[]⟩ [(x,u)]) ∧
    ∀ base:Heap,(K w.params).In base->base.Ns mainGlobals mg->jK l.prog w (K w.params) mg base (CX w) k fa fd [x] (sp w))
  (hsp:∀ (w:World) (H:Hp) (a:Addr) (ns:List Int),ns.length<=n->Only H->SqL (K w.params) H a (ns.map V.int)->sp w [.ref a] H (fun v _=>v=.bl true) fun _ _ _=>False)
  (hCX:∀ (w:World) (H:Hp) (s:Shared) (e:Value) (s':Shared),CX w [] H s (fun _ _ _=>False) e s'->False) :
  PySem.W.WalkO q loose XP YP l.row.toRowW d [] (fun f vs=>PySem.call f vs):=by
 refine Att.attach_call hn hdf fun w s₀ s₁ mg mb fa o pm cd doc a vs ns G Y ho hd hcd hmg hobj hints hlen hg=>?_
 have KX:=hY w _ Y
 obtain⟨fd,hb,hF⟩:=F w mg fa _ KX G.T.g hmg
 exact aDg KX G.T.g G.T.b G.T.builtins G.T.nolimit hg hobj hints (Nat.le_trans hlen hn2) hr hF hb (fun H hO hS=>hsp w H a ns hlen hO hS) fun H e s'=>hCX w H s₁ e s'
def inClass (s:Stmt) (j:Nat):Stmt:=match s with
 | .ClassDef _ _ _ body _ _ _ _ _ _ _=>body.getD j (.Pass ⟨0,0,0,0⟩)
 | _=>.Pass ⟨0,0,0,0⟩
def aZ (s:Stmt):Arguments:=match s with
 | .FunctionDef _ a _ _ _ _ _ _ _ _=>a
 | _=>{ posonlyargs:=[],args:=[],vararg:=none,kwonlyargs:=[],kw_defaults:=[],kwarg:=none,defaults:=[] }
def yB (s:Stmt):List Stmt:=match s with
 | .FunctionDef _ _ b _ _ _ _ _ _ _=>b
 | _=>[]
def jG (s:Stmt):Scope:=match s with
 | .FunctionDef _ _ _ _ _ _ sc _ _ _=>sc
 | _=>{ kind:=.function,names:=[],isGenerator:=false,isCoroutine:=false }
abbrev CX0:CXT:=fun _ _ _ _ _ _=>False
abbrev E0:XK:=fun _ _ _=>False
theorem jT {X:Cx} : xV CX0 X E0:=fun _ _ _ _ _ _ _ h=>h.elim
structure Fun (K:Frag) (x qual:Str) (st:Stmt) (f:Addr) (fd:FuncData):Prop where
 ex:∃ (oc:Value) (od:Option Addr) (kV doc pm:Value) (an:Option Addr) (cdv ct:Value) (osl:Array (Option Value)),
  fd=fnOf x qual (aZ st) (yB st) (jG st) .none kV doc pm an cdv ct/\K.lookup f=some ⟨oc,od,.func fd,osl⟩/\codeIn K cdv qual=true
 kp:keepIn K (.ref f)=true
section
variable {P:Program} {w:World} {K:Frag} {mg:Str->Option Value} {base:Heap}
theorem Fun.ok {x qual:Str} {st:Stmt} {f:Addr} {fd:FuncData} {N ps:List Str} {k:Nat} {sp:Sp} (F:Fun K x qual st f fd) (S:jM N ps (jG st)) (len:∀ vs H Q E,sp vs H Q E->vs.length=ps.length)
  (hbody:∀ (cdv:Value) (A:Around) (outer:List Env) (s:Shared) (H:Hp) (vs:List V) (Q:VK) (E:XK),qX k (A.deeper (envOfC qual (jG st) s.heap.objs.size f cdv))->sp vs H Q E →
   ∃ t,PSs (fY CX0 P w K mg base N qual (jG st) f cdv A outer s H E).nox (yB st) t/\t { nx:=fun _ H'=>Q .non H',rt:=Q } (start N vs) H):jK P w K mg base CX0 (k + 1) f fd ps sp:=by
 obtain⟨oc,od,kV,doc,pm,an,cdv,ct,osl,rfl,lk,hcd⟩:=F.ex
 refine aIs lk hcd S len fun A outer s H vs Q E hr hsp=>?_
 obtain⟨t,h,q⟩:=hbody cdv A outer s H vs Q E hr hsp
 exact⟨t,h.nox,q⟩
theorem Fun.binds {x qual:Str} {st:Stmt} {f:Addr} {fd:FuncData} {ps:List Str} (F:Fun K x qual st f fd)
  (h:∀ (kV doc pm:Value) (an:Option Addr) (cdv ct:Value) (us:List Value),us.length=ps.length->bindArgs (fnOf x qual (aZ st) (yB st) (jG st) .none kV doc pm an cdv ct) ⟨us,[]⟩=pure (ps.zip us)):Binds K fd ps []:=by
 obtain⟨oc,od,kV,doc,pm,an,cdv,ct,osl,rfl,lk,hcd⟩:=F.ex
 exact .all (h kV doc pm an cdv ct)
theorem aDs {x qual:Str} {st:Stmt} {f:Addr} {oc:Value} {od an:Option Addr} {osl:Array (Option Value)} {kV doc pm cdv ct:Value} (l:K.lookup f=some ⟨oc,od,.func (fnOf x qual (aZ st) (yB st) (jG st) .none kV doc pm an cdv ct),osl⟩)
  (c:codeIn K cdv qual=true) (k:keepIn K (.ref f)=true):Fun K x qual st f (fnOf x qual (aZ st) (yB st) (jG st) .none kV doc pm an cdv ct):=⟨⟨oc,od,kV,doc,pm,an,cdv,ct,osl,rfl,l,c⟩,k⟩
end
theorem qB {n:Nat} (h:n<=1000):n < sizeLine:=Nat.lt_of_le_of_lt h (by decide)
section
variable {X:Cx}
theorem pv (i:Nat) {x:Str} {pos:Pos} (hN:X.N[i]?=some x:=by rfl) (hv:Vis X.env.scope x:=by first|exact Or.inl rfl|exact Or.inr (Or.inl rfl)|exact Or.inr (Or.inr rfl)) (hd:(x == ("__debug__" : Str))=false:=by decide)
  (hcd:(x == ("__classdict__" : Str))=false:=by decide):PE X (.Name x pos) (tVar i):=aLg hN hv hd hcd
end
theorem cX {A B:Prop} (h:B):if false=true then A else B:=by
 rw [if_neg Bool.false_ne_true]
 exact h
theorem iteT {A B:Prop} (h:A):if true=true then A else B:=by
 rw [if_pos rfl]
 exact h
theorem qG {c A B:Prop} [Decidable c] (h1:c->A) (h2:¬ c->B):if c then A else B:=by
 by_cases h:c
 ·rw [if_pos h]
  exact h1 h
 ·rw [if_neg h]
  exact h2 h
def jI (H H':Hp):Prop:=∀ b o,H b=some o->H' b=some o
theorem jI.refl (H:Hp):jI H H:=fun _ _ h=>h
theorem jI.trans {H H1 H2:Hp} (a:jI H H1) (b:jI H1 H2):jI H H2:=fun c o h=>b c o (a c o h)
theorem jI.free {H H':Hp} (e:jI H H') {l:Addr} (h:H' l=Option.none):H l=Option.none:=by
 cases q:H l with
 | none=>rfl
 | some o =>
  rw [e l o q] at h
  cases h
theorem jI.seq {K:Frag} {H H':Hp} {a:Addr} {xs:List V} (e:jI H H') (h:SqL K H a xs):SqL K H' a xs:=by
 rcases h with (h|⟨o,h⟩)|h
 ·exact .inl (.inl (e _ _ h))
 ·exact .inl (.inr ⟨o,e _ _ h⟩)
 ·exact .inr h
end L2
set_option maxHeartbeats 4000000
namespace L2
open PySem PySem.Spec PyProof.Rows
theorem kC.getR:∀ {xs:List V} {us:List Value} {i:Nat} {u:Value},kC xs us->us[i]?=some u->∃ x,xs[i]?=some x/\RelV x u
 | _,_,_,_,.nil,e=>by simp at e
 | _,_,0,_,.cons r _,e=>by simp at e;subst e;exact⟨_,rfl,r⟩
 | _,_,i + 1,u,.cons _ t,e=>by
  obtain⟨x,h1,h2⟩:=kC.getR (i:=i) (u:=u) t (by simpa using e)
  exact⟨x,by simpa using h1,h2⟩
def isa (t T:String):Bool:=t == T || (t == "bool" && T == "int")
def tyN (K:Frag) (x:V) (H:Hp) (t:String):Prop :=
 match x with
 | .non=>t = "NoneType"
 | .bl _=>t = "bool"
 | .int _=>t = "int"
 | .str _=>t = "str"
 | .ref p=>(t = "list"/\∃ xs,SqL K H p xs)\/(t = "tuple"/\∃ xs,SqT K H p xs)
 | _=>False
def uB:List String:=["int","bool","str","list","tuple","dict"]
section
variable {X:Cx}
theorem iY:vP X (.builtin "isinstance") (fun xs H Q=>∃ x T t,xs=[x,.ty T]/\T ∈ uB/\tyN X.K x H t/\Q (.bl (isa t T)) H):=by
 intro pins s σ H xs us Q I r h
 obtain⟨x,T,t,rfl,hT,ht,q⟩:=h
 obtain⟨u,w',rfl,rx,rT⟩:=vals2 r
 cases rT
 have hT':T = "int" ∨ T = "bool" ∨ T = "str" ∨ T = "list" ∨ T = "tuple" ∨ T = "dict":=by simpa [uB] using hT
 have fin:∀ {k:Bool} {s':Shared},isa t T=k->Inv X pins σ H s'->EP X pins σ Q (.bool k) s':=fun {k s'} e I'=>by subst e;exact⟨.bl _,H,I',rfl,q⟩
 cases x with
 | non =>
  cases rx
  have ht':t = "NoneType":=ht
  subst ht'
  rcases hT' with rfl|rfl|rfl|rfl|rfl|rfl
  ·exact IsiPair.NoneType_int (fin (by decide) (I.tok _))
  ·exact IsiPair.NoneType_bool (fin (by decide) (I.tok _))
  ·exact IsiPair.NoneType_str (fin (by decide) (I.tok _))
  ·exact IsiPair.NoneType_list (fin (by decide) (I.tok _))
  ·exact IsiPair.NoneType_tuple (fin (by decide) (I.tok _))
  ·exact IsiPair.NoneType_dict (fin (by decide) (I.tok _))
 | bl b =>
  cases rx
  have ht':t = "bool":=ht
  subst ht'
  rcases hT' with rfl|rfl|rfl|rfl|rfl|rfl
  ·exact IsiPair.bool_int (fin (by decide) I)
  ·exact IsiPair.bool_bool (fin (by decide) I)
  ·exact IsiPair.bool_str (fin (by decide) (I.tok _))
  ·exact IsiPair.bool_list (fin (by decide) (I.tok _))
  ·exact IsiPair.bool_tuple (fin (by decide) (I.tok _))
  ·exact IsiPair.bool_dict (fin (by decide) (I.tok _))
 | int i =>
  obtain⟨tk,rfl⟩:=rx
  have ht':t = "int":=ht
  subst ht'
  rcases hT' with rfl|rfl|rfl|rfl|rfl|rfl
  ·exact IsiPair.int_int (fin (by decide) I)
  ·exact IsiPair.int_bool (fin (by decide) (I.tok _))
  ·exact IsiPair.int_str (fin (by decide) (I.tok _))
  ·exact IsiPair.int_list (fin (by decide) (I.tok _))
  ·exact IsiPair.int_tuple (fin (by decide) (I.tok _))
  ·exact IsiPair.int_dict (fin (by decide) (I.tok _))
 | str y =>
  obtain⟨tk,rfl⟩:=rx
  have ht':t = "str":=ht
  subst ht'
  rcases hT' with rfl|rfl|rfl|rfl|rfl|rfl
  ·exact IsiPair.str_int (fin (by decide) (I.tok _))
  ·exact IsiPair.str_bool (fin (by decide) (I.tok _))
  ·exact IsiPair.str_str (fin (by decide) I)
  ·exact IsiPair.str_list (fin (by decide) (I.tok _))
  ·exact IsiPair.str_tuple (fin (by decide) (I.tok _))
  ·exact IsiPair.str_dict (fin (by decide) (I.tok _))
 | ref p =>
  cases rx
  have ht':(t = "list"/\∃ xs,SqL X.K H p xs)\/(t = "tuple"/\∃ xs,SqT X.K H p xs):=ht
  rcases ht' with⟨rfl,ys,hy⟩|⟨rfl,ys,hy⟩
  ·obtain⟨its,rv,⟨o,n,e,hc,_,_⟩,hz⟩:=I.list hy
   rcases hT' with rfl|rfl|rfl|rfl|rfl|rfl
   ·exact IsiPair.list_int e hc (fin (by decide) (I.tok _))
   ·exact IsiPair.list_bool e hc (fin (by decide) (I.tok _))
   ·exact IsiPair.list_str e hc (fin (by decide) (I.tok _))
   ·exact IsiPair.list_list e hc (fin (by decide) I)
   ·exact IsiPair.list_tuple e hc (fin (by decide) (I.tok _))
   ·exact IsiPair.list_dict e hc (fin (by decide) (I.tok _))
  ·obtain⟨its,rv,⟨o,e,hc,n,_⟩,hz⟩:=I.tuple hy
   rcases hT' with rfl|rfl|rfl|rfl|rfl|rfl
   ·exact IsiPair.tuple_int e hc (fin (by decide) (I.tok _))
   ·exact IsiPair.tuple_bool e hc (fin (by decide) (I.tok _))
   ·exact IsiPair.tuple_str e hc (fin (by decide) (I.tok _))
   ·exact IsiPair.tuple_list e hc (fin (by decide) (I.tok _))
   ·exact IsiPair.tuple_tuple e hc (fin (by decide) I)
   ·exact IsiPair.tuple_dict e hc (fin (by decide) (I.tok _))
 | _=>exact (show False from ht).elim
end
section
variable {X:Cx} {pos:Pos}
theorem iA (bs:List Bool):(List.range bs.length).all (fun i=>bs.getD i false)=bs.all id:=by
 rw [Bool.eq_iff_iff]
 simp only [List.all_eq_true,List.mem_range,id]
 constructor
 ·intro h x hx
  obtain⟨i,hi,rfl⟩:=List.mem_iff_getElem.mp hx
  have:=h i hi
  simpa [List.getD_eq_getElem?_getD,List.getElem?_eq_getElem hi] using this
 ·intro h i hi
  have:=h bs[i] (List.getElem_mem hi)
  simpa [List.getD_eq_getElem?_getD,List.getElem?_eq_getElem hi] using this
theorem lZ (hc:X.calm=true):vP X (.builtin "all") (fun xs H Q=>∃ (a:Addr) (bs:List Bool),xs=[.ref a]/\SqL X.K H a (bs.map V.bl)/\Q (.bl (bs.all id)) H):=by
 intro pins s σ H xs us Q I r h
 obtain⟨a,bs,rfl,ha,q⟩:=h
 obtain⟨u,rfl,rx⟩:=vals1 r
 cases rx
 obtain⟨its,rv,pl,hz⟩:=I.list ha
 have hlen:bs.length=its.length:=by have:=rv.length;simpa using this
 have hlt:a ≠ s.heap.objs.size:=by obtain⟨o,n,ho,_⟩:=pl;exact Nat.ne_of_lt (Heap.lt_size ho)
 refine call_all_walk (wpAny_pyIter_list pl.isList ?_)
 refine⟨s.heap.objs.size,_,_,_,_,_,fun i=>bs.getD i false,rfl,Walks.list (show X.A.in1.handled=none from I.ok.hd hc) _ a hlt its.toArray,⟨⟨_,Heap.get?_push_size _ rfl,rfl,rfl⟩,pl.isList.push _⟩,?_,fun h' tk hk=>?_⟩
 ·intro i v s' Q' E' hP hQ
  have hv:its[i]?=some v:=by simpa using hP
  obtain⟨x,hx,rxv⟩:=rv.getR hv
  rw [List.getElem?_map] at hx
  cases hb:bs[i]? with
  | none=>rw [hb] at hx;cases hx
  | some b =>
   rw [hb] at hx
   cases hx
   cases rxv
   have e:bs.getD i false=b:=by simp [List.getD_eq_getElem?_getD,hb]
   have hQ':Q' (bs.getD i false) s':=hQ
   rw [e] at hQ'
   exact wpAny_truthy_bool hQ'
 ·refine⟨.bl (bs.all id),H,I.kept fun b o e=>hk b o (by simp;exact Nat.ne_of_lt (Heap.lt_size e)) (Heap.get?_push_of_some _ e),?_,q⟩
  show Value.bool _=Value.bool _
  rw [← iA bs,hlen]
  simp
end
abbrev Cx.comp (X:Cx) (scope:Scope) (cl:List (Str × Addr)) (N:List Str) (s:Shared) (H:Hp) (fp:List Addr) (C:Addr):Cx where
 prog:=X.prog
 w:=X.w
 K:=X.K
 mg:=X.mg
 base:=X.base
 A:=X.A
 N:=N
 s₀:=s
 H₀:=H
 env:=compEnvC scope cl C X.env
 outer:=X.stack
 stack:=X.stack
 ex:=fp
 fn:=fun _=>false
 calm:=X.calm
 pn:=[]
 xe:=fun _ _=>False
def cG (env:Env):List (Str × Addr)->Prop
 | []=>True
 | p::r=>env.cells.lookup p.1=some p.2/\cG env r
theorem cG.all {env:Env} : ∀ {cl:List (Str × Addr)},cG env cl->∀ p ∈ cl,env.cells.lookup p.1=some p.2
 | [],_,p,hp=>by simp at hp
 | _::_,h,p,hp=>(List.mem_cons.mp hp).elim (fun e=>e ▸ h.1) (cG.all h.2 p)
theorem cG.at {env:Env} {cl:List (Str × Addr)} {x:Str} {c:Addr} (h:cG env cl) (e:cl.lookup x=some c):env.cells.lookup x=some c :=
 h.all (x,c) (PySem.mem_of_lookup e)
def gY (X:Cx) (scope:Scope) (cl:List (Str × Addr)):List Str->List Nat->Prop
 | [],[]=>True
 | y::ys,j::js=>(X.N[j]?=some y/\X.env.kindOf y=some .cell/\(relabel scope X.env).names.lookup y=some .cell/\∃ c,cl.lookup y=some c)/\gY X scope cl ys js
 | _,_=>False
theorem gY.get {X:Cx} {scope:Scope} {cl:List (Str × Addr)} : ∀ {ys:List Str} {js:List Nat} {k:Nat} {y:Str},gY X scope cl ys js->ys[k]?=some y →
  ∃ j,js[k]?=some j/\X.N[j]?=some y/\X.env.kindOf y=some .cell/\(relabel scope X.env).names.lookup y=some .cell/\∃ c,cl.lookup y=some c
 | [],[],k,y,_,e=>by simp at e
 | y'::ys,j::js,0,y,h,e=>by
  simp at e
  subst e
  exact⟨j,rfl,h.1⟩
 | y'::ys,j::js,k + 1,y,h,e=>by
  obtain⟨j',e1,r⟩:=gY.get (k:=k) h.2 (by simpa using e)
  exact⟨j',by simpa using e1,r⟩
 | [],_::_,_,_,h,_=>h.elim
 | _::_,[],_,_,h,_=>h.elim
theorem gY.len {X:Cx} {scope:Scope} {cl:List (Str × Addr)} : ∀ {ys:List Str} {js:List Nat},gY X scope cl ys js->ys.length=js.length
 | [],[],_=>rfl
 | _::_,_::_,h=>by rw [List.length_cons,List.length_cons,gY.len h.2]
 | [],_::_,h=>h.elim
 | _::_,[],h=>h.elim
def eY (k:Nat) (js:List Nat) (σ:St):St:=List.replicate k none++js.map fun j=>σ.getD j none
def PIf (X:Cx) (ifs:List Expr) (t:TT):Prop :=
 ∀ (pins:List (Addr × Obj)) (s:Shared) (σ:St) (H:Hp) (Q:Bool->Hp->Prop),Inv X pins σ H s->t σ H Q →
  wpAny (model X.prog X.w) X.A (forIn ifs true fun c r=>if r=true then do let ok ← isTrue c X.env (eval c X.env);pure (ForInStep.yield ok) else pure (ForInStep.yield r)) (TP X pins σ Q) X.xe s
def tYes:TT:=fun _ H Q=>Q true H
theorem vD {X:Cx} : PIf X [] tYes:=fun _ _ _ H _ I h=>wpAny_tests_nil ⟨H,I,h⟩
theorem rO {X:Cx} {c:Expr} {t:TT} (h:PT X c t):PIf X [c] t:=fun pins s σ H Q I hq=>wpAny_tests_one (h pins s σ H Q I hq)
def eF (J:It) (k:Nat) (js:List Nat) (g:TG) (tc:TT) (te:TE) (σ:St) (Q:VK) (H1:Hp):Prop :=
 ∃ W:Nat->Nat->St->List V->Hp->Prop,(∃ m,W 0 m (eY k js σ) [] H1)/\∀ i m σ' xs H',W i m σ' xs H' →
  (J.stop i H'/\∀ p,H' p=none->Q (.ref p) (upd H' p (.lst xs))) ∨
  (J.go i H'/\xs.length < sizeLine/\∃ N:St->List V->Hp->Prop,(∀ σ' ys H',N σ' ys H'->∃ m',m' < m/\W (i + 1) m' σ' ys H') ∧
   ∀ x H2,J.yld i H' x H2->g x σ' H2 fun σ3 H3=>tc σ3 H3 fun b H4=>if b=true then te σ3 H4 fun v H5=>N σ3 (xs++[v]) H5 else N σ3 xs H4)
def aDo (wi:TI) (k:Nat) (js:List Nat) (g:TG) (tc:TT) (te:TE):TE:=fun σ H Q=>wi σ H fun J H1=>eF J k js g tc te σ Q H1
section
variable {prog:Program} {w:World} {A:Around} {R:Result->Shared->Prop} {s:Shared}
theorem rJ {elt target iter:Expr} {ifs:List Expr} {scope:Scope} {pos:Pos} {it acc:Value} {env:Env} (I:Nat->Shared->Prop)
  (turn:∀ n s,I n s->wpAny (model prog w) A (pyNext it) (fun r s₁=>match r with
   | none=>R (.ok .next) s₁
   | some v=>wpAny (model prog w) A (letOwnedTupleGo target it v) (fun _ s₀=>wpAny (model prog w) A (assign target env v) (fun _ s₂ =>
     wpAny (model prog w) A (forIn ifs true fun c r=>if r=true then do let ok ← isTrue c env (eval c env);pure (ForInStep.yield ok) else pure (ForInStep.yield r)) (fun ok s₃ =>
      if ok=true then wpAny (model prog w) A (eval elt env) (fun x s₄ =>
       wpAny (model prog w) A (call (.builtin "list.append") [acc,x]) (fun _ s₅=>∃ m,m < n/\I m s₅) (fun _ _=>False) s₄) (fun _ _=>False) s₃
      else ∃ m,m < n/\I m s₃) (fun _ _=>False) s₂) (fun _ _=>False) s₀) (fun _ _=>False) s₁) (fun _ _=>False) s)
  (n:Nat) (h:I n s):codeAny (model prog w) A (.compLoop (.ListComp elt [⟨target,iter,ifs,0⟩] scope pos) 0 it acc env) R s:=by
 refine codeAny_loop rfl I (fun n s hI=>?_) n h
 show wpAny _ A ((compTurn (.ListComp elt [⟨target,iter,ifs,0⟩] scope pos) 0 it acc env).onRaise (fun x=>do noteFrame x env;theTreesLotGoes x)) _ _ s
 refine wpAny_noted ?_
 rw [compTurn_list]
 refine wpAny_bind (wpAny_standAt (wpAny_bind (wpAny_mono (turn n s hI) (fun r s₁ h₁=>?_) fun _ _ z=>False.elim z)))
 cases r with
 | none=>exact wpAny_pure h₁
 | some v =>
  refine wpAny_bind (wpAny_mono h₁ (fun _ s₀ h₀=>?_) fun _ _ z=>False.elim z)
  refine wpAny_bind (wpAny_mono h₀ (fun _ s₂ h₂=>wpAny_bind (wpAny_mono h₂ (fun ok s₃ h₃=>?_) fun _ _ z=>False.elim z)) fun _ _ z=>False.elim z)
  cases ok with
  | false=>exact wpAny_pure ⟨rfl,h₃⟩
  | true =>
   exact wpAny_bind (wpAny_bind (wpAny_mono h₃ (fun x s₄ h₄=>wpAny_bind (wpAny_mono h₄ (fun _ s₅ h₅=>wpAny_pure (wpAny_pure ⟨rfl,h₅⟩)) fun _ _ z=>False.elim z)) fun _ _ z=>False.elim z))
end
theorem HOk.but {P:Program} {w:World} {H:Hp} {h h':Heap} {C:Addr} (x:HOk P w H h) (hn:H C=none) (k:∀ b o,b ≠ C->h.get? b=some o->h'.get? b=some o):HOk P w H h':=fun b u e =>
 (x b u e).stay (fun c v hc q=>k c v (by
  rcases hc with z|z
  ·intro y;rw [← z,y,hn] at e;cases e
  ·intro y;rw [y,hn] at z;cases z) q) (fun _ q=>q) fun _ _ q=>q
theorem HOk.track {P:Program} {w:World} {H:Hp} {h:Heap} {a:Addr} {o:HO} (x:HOk P w H h) (hn:H a=none) (new:qC P w (upd H a o) h a o):HOk P w (upd H a o) h:=fun b u e=>by
 by_cases hb:b=a
 ·subst hb;rw [jH] at e;cases e;exact new
 ·rw [jS hb] at e
  exact (x b u e).stay (fun _ _ _ q=>q) (fun c q=>by rw [jS (jL q hn)];exact q) fun c xs q=>by rw [jS (jL q hn)];exact q
section
variable {X:Cx} {elt tg iter:Expr} {ifs:List Expr} {scope:Scope} {cl:List (Str × Addr)} {ts ys:List Str} {js:List Nat} {pos:Pos} {wi:TI} {g:TG} {tc:TT} {te:TE}
theorem aCp {k:Nat} {σ:St} {i:Nat} {v:V} (h:(eY k js σ)[i]?=some (some v)):∃ n j,i=k + n/\js[n]?=some j/\σ[j]?=some (some v):=by
 unfold eY at h
 by_cases hi:i < k
 ·rw [List.getElem?_append_left (by simpa using hi),List.getElem?_replicate] at h
  split at h <;> cases h
 ·rw [List.getElem?_append_right (by simpa using hi),List.getElem?_map,List.length_replicate] at h
  cases e:js[i - k]? with
  | none=>rw [e] at h;cases h
  | some j =>
   rw [e] at h
   have h' : σ.getD j none=some v:=Option.some.inj h
   refine⟨i - k,j,by omega,e,?_⟩
   rw [List.getD_eq_getElem?_getD] at h'
   cases q : σ[j]? with
   | none=>rw [q] at h';cases h'
   | some o=>rw [q] at h';exact congrArg some h'
theorem rY {pins:List (Addr × Obj)} {σ:St} {H:Hp} {s:Shared} {fp:List Addr} {C:Addr} {h1:Heap} {m:Str->Option Value} {t':Nat} (I:Inv X pins σ H s) (hsub:cG X.env cl) (hcap:gY X scope cl ys js)
  (hkind:scope.kind=.function) (hhas:∀ x,((relabel scope X.env).names.lookup x=some .cell\/(relabel scope X.env).names.lookup x=some .free)->∃ c,cl.lookup x=some c)
  (f2:∀ b ∈ fp,bD X pins H b) (fl:∀ b ∈ fp,b < s.heap.objs.size) (hC:s.heap.objs.size<=C) (hn:h1.Ns C m) (old:∀ b o,s.heap.get? b=some o->h1.get? b=some o) :
  Inv (X.comp scope cl (ts++ys) s H fp C) [] (eY ts.length js σ) H { s with heap:=h1,toks:=t' }:=by
 obtain⟨mo,hno,hlo⟩:=id I.loc
 refine⟨⟨I.ok.mod,hkind,I.ok.glob,I.ok.blt,hC,fun x y c e1 e2=>I.ok.inj x y c (hsub.at e1) (hsub.at e2),fun x hx=>hhas x hx,fun x c z _=>(by cases z),I.ok.hd,I.ok.frames,.inl rfl,
   fun b hb=>⟨Nat.ne_of_lt (Nat.lt_of_lt_of_le (fl b hb) hC),fun x c e=>(f2 b hb).2.2.2.2.1 x c (hsub.at e)⟩,I.bs,Nat.le_trans I.ok.bsz I.sz,fun b o e hb=>?_,fun b hb z=>?_,I.stack,I.stkFree⟩,
  rfl,I.bare,Un.kept old,⟨m,hn,fun i x v e1 e2 e3=>?_⟩,fun x c e=>?_,I.hok.fresh hC,fun x c e=>I.freeC x c (hsub.at e),fun p hp=>absurd (show p ∈ ([]:List (Addr × Obj)) from hp) (by simp),I.hok.kept old,?_⟩
 ·-- an object of the base is none of the iterator's
  obtain⟨_,_,_,h3,_⟩:=f2 b hb
  rcases h3 with z|z
  ·exact I.ok.noex b o e z
  ·exact absurd (Nat.lt_of_lt_of_le (Heap.lt_size e) (Nat.le_trans I.ok.bsz z)) (Nat.lt_irrefl _)
 ·obtain⟨_,h1',h2',_⟩:=f2 b hb
  rcases List.mem_cons.mp (I.stkSub b z) with e|e
  ·exact h1' e
  ·exact h2' e
 ·obtain⟨n,j,rfl,ej,es⟩:=aCp e2
  have ey:ys[n]?=some x:=by
   have e1':(ts++ys)[ts.length + n]?=some x:=e1
   rw [List.getElem?_append_right (by omega)] at e1'
   simpa using e1'
  obtain⟨j',ej',hN,hk,hr,c,hc⟩:=hcap.get ey
  rw [ej] at ej'
  cases ej'
  obtain⟨u,ru,l⟩:=hlo j x v hN es (.inr (.inl hk))
  refine⟨u,ru,.inr ⟨.inl hr,c,hc,?_⟩⟩
  rcases l with⟨k1,_⟩|⟨_,c',hc',⟨o,ho,hd⟩⟩
  ·rw [hk] at k1;cases k1
  ·have:=hsub.at hc
   rw [hc'] at this
   cases this
   exact⟨o,old _ o ho,hd⟩
 ·obtain⟨v,o,ho,hd⟩:=I.cell x c (hsub.at e)
  exact⟨v,o,old _ o ho,hd⟩
 ·show (eY ts.length js σ).length=(ts++ys).length
  unfold eY
  rw [List.length_append,List.length_append,List.length_replicate,List.length_map,hcap.len]
theorem sW {pins pins':List (Addr × Obj)} {σ σ':St} {H2 H3:Hp} {s2 s4:Shared} {fp:List Addr} {C D:Addr} {N:List Str} {h':Heap} {its:List Value} {xs:List V} {n:Nat} (I2:Inv X pins σ H2 s2) (f2:∀ b ∈ fp,bD X pins H2 b)
  (I4:Inv (X.comp scope cl N s2 H2 fp C) pins' σ' H3 s4) (hC:s2.heap.objs.size<=C) (hD:s2.heap.objs.size<=D) (hDC:D ≠ C) (hs':Heap.SameBut C s4.heap h') (rv:kC xs its) (hz:xs.length<=sizeLine) (e4:s4.heap.get? D=some { cls:=.type "list",data:=.seq its.toArray n }) (hn:H3 D=none) :
  Inv X pins σ (upd H3 D (.lst xs)) { s4 with heap:=h' }:=by
 have ext:=hs'.extBut
 have neC:∀ b o,s2.heap.get? b=some o->b ≠ C:=fun b o e=>Nat.ne_of_lt (Nat.lt_of_lt_of_le (Heap.lt_size e) hC)
 have neD:∀ b o,s2.heap.get? b=some o->b ≠ D:=fun b o e=>Nat.ne_of_lt (Nat.lt_of_lt_of_le (Heap.lt_size e) hD)
 have hok:HOk X.prog X.w (upd H3 D (.lst xs)) h':=by
  have h1:HOk X.prog X.w H3 h':=HOk.but (C:=C) I4.hok I4.free fun b o hb e=>ext b o hb e
  exact HOk.track h1 hn ⟨hz,its,n,rv,ext D _ hDC e4⟩
 have B:Un (frs X.stack) fp H2 H3 s2.heap s4.heap:=I4.base
 have u:Un (frs X.stack) fp H2 (upd H3 D (.lst xs)) s2.heap h':=by
  refine⟨fun b o e q hb hx=>ext b o (neC b o e) (B.keep b o e q hb hx),fun b o e q hb hx=>?_,fun b o e q hx=>?_,fun b o e hx=>?_,fun b ys q=>?_,fun b o ys q=>?_,fun b ps q=>?_⟩
  ·obtain⟨sl,e1⟩:=B.slot b o e q hb hx
   exact⟨sl,ext b _ (neC b o e) e1⟩
  ·rw [jS (neD b o e)];exact B.free b o e q hx
  ·obtain⟨o',e1⟩:=B.there b o e hx
   exact⟨o',ext b _ (neC b o e) e1⟩
  ·have:=B.tups b ys q
   rw [jS (jL this hn)];exact this
  ·have:=B.frzs b o ys q
   rw [jS (jL this hn)];exact this
  ·obtain⟨m1,e1⟩:=B.tbls b ps q
   exact⟨m1,by rw [jS (jL e1 hn)];exact e1⟩
 have os:s4.os=s2.os:=I4.os
 have gb:=I4.bare
 obtain⟨hh,gg,dd,tt,os'⟩:=s4
 obtain rfl:os'=s2.os:=os
 have fin:=I2.call (h':=h') (g':=gg) (d':=dd) (t':=tt) (ch:=fp) u hok gb fun b hb=>⟨(f2 b hb).2.2.2.1,(f2 b hb).2.1,(f2 b hb).2.2.2.2.1,(f2 b hb).2.2.2.2.2⟩
 exact fin
end
abbrev qW (js:List Nat) (σ:St):St:=js.map fun j=>σ.getD j none
def yO (P:Nat->List V->Hp->Prop) (i:Nat) (js:List Nat) (σ:St):St->List V->Hp->Prop:=fun σ' ys H=>P (i + 1) ys H/\∃ o,σ'=o::qW js σ
theorem aA {K:Frag} {a:Addr} {xs:List V} {k:Nat} {js:List Nat} {tc:TT} {te:TE} {σ:St} {Q:VK} {H1:Hp} (P:Nat->List V->Hp->Prop) (h0:P 0 [] H1) (hl:∀ i ys H,i<=xs.length->P i ys H->SqL K H a xs/\ys.length<=i) (hz:xs.length < sizeLine)
  (hs:∀ i x ys H,xs[i]?=some x->P i ys H->tc (some x::qW js σ) H fun b H2=>if b=true then te (some x::qW js σ) H2 fun v H3=>yO P i js σ (some x::qW js σ) (ys++[v]) H3 else yO P i js σ (some x::qW js σ) ys H2)
  (hd:∀ ys H,P xs.length ys H->∀ p,H p=none->Q (.ref p) (upd H p (.lst ys))) (hk:k=1:=by rfl) :
  eF (Itl K a) k js (cU 0) tc te σ Q H1:=by
 subst hk
 refine⟨fun i m σ' ys H=>m=xs.length - i/\i<=xs.length/\P i ys H/\∃ o,σ'=o::qW js σ,⟨xs.length,by simp,Nat.zero_le _,h0,none,rfl⟩,?_⟩
 rintro i m σ' ys H ⟨rfl,hi,p,o,rfl⟩
 obtain⟨q,hy⟩:=hl i ys H hi p
 by_cases hlt:i < xs.length
 ·refine .inr ⟨⟨xs,xs[i],q,by simp [hlt]⟩,by omega,yO P i js σ,fun σ3 zs H3 z=>⟨xs.length - (i + 1),by omega,rfl,hlt,z.1,z.2⟩,fun x H' y=>?_⟩
  obtain⟨e,y⟩:=y
  subst e
  exact hs i x ys _ (y xs q) p
 ·have e:i=xs.length:=by omega
  subst e
  exact .inl ⟨⟨xs,q,Nat.le_refl _⟩,hd ys H p⟩
theorem sO {K:Frag} {a:Addr} {xs:List V} {k:Nat} {js:List Nat} {tc:TT} {te:TE} {σ:St} {Q:VK} {H1:Hp} (P:Nat->List V->Hp->Prop) (h0:P 0 [] H1) (hl:∀ i ys H,i<=xs.length->P i ys H->SqT K H a xs/\ys.length<=i) (hz:xs.length < sizeLine)
  (hs:∀ i x ys H,xs[i]?=some x->P i ys H->tc (some x::qW js σ) H fun b H2=>if b=true then te (some x::qW js σ) H2 fun v H3=>yO P i js σ (some x::qW js σ) (ys++[v]) H3 else yO P i js σ (some x::qW js σ) ys H2)
  (hd:∀ ys H,P xs.length ys H->∀ p,H p=none->Q (.ref p) (upd H p (.lst ys))) (hk:k=1:=by rfl) :
  eF (Itt K a) k js (cU 0) tc te σ Q H1:=by
 subst hk
 refine⟨fun i m σ' ys H=>m=xs.length - i/\i<=xs.length/\P i ys H/\∃ o,σ'=o::qW js σ,⟨xs.length,by simp,Nat.zero_le _,h0,none,rfl⟩,?_⟩
 rintro i m σ' ys H ⟨rfl,hi,p,o,rfl⟩
 obtain⟨q,hy⟩:=hl i ys H hi p
 by_cases hlt:i < xs.length
 ·refine .inr ⟨⟨xs,xs[i],q,by simp [hlt]⟩,by omega,yO P i js σ,fun σ3 zs H3 z=>⟨xs.length - (i + 1),by omega,rfl,hlt,z.1,z.2⟩,fun x H' y=>?_⟩
  obtain⟨e,y⟩:=y
  subst e
  exact hs i x ys _ (y xs q) p
 ·have e:i=xs.length:=by omega
  subst e
  exact .inl ⟨⟨xs,q,Nat.le_refl _⟩,hd ys H p⟩
theorem wH {lo:Int} {n:Nat} {k:Nat} {js:List Nat} {tc:TT} {te:TE} {σ:St} {Q:VK} {H1:Hp} (P:Nat->List V->Hp->Prop) (h0:P 0 [] H1) (hl:∀ i ys H,i<=n->P i ys H->ys.length<=i) (hz:n < sizeLine)
  (hs:∀ i ys H,i < n->P i ys H->tc (some (.int (lo + i))::qW js σ) H fun b H2=>if b=true then te (some (.int (lo + i))::qW js σ) H2 fun v H3=>yO P i js σ (some (.int (lo + i))::qW js σ) (ys++[v]) H3 else yO P i js σ (some (.int (lo + i))::qW js σ) ys H2)
  (hd:∀ ys H,P n ys H->∀ p,H p=none->Q (.ref p) (upd H p (.lst ys))) (hk:k=1:=by rfl) :
  eF (Itr lo n) k js (cU 0) tc te σ Q H1:=by
 subst hk
 refine⟨fun i m σ' ys H=>m=n - i/\i<=n/\P i ys H/\∃ o,σ'=o::qW js σ,⟨n,by simp,Nat.zero_le _,h0,none,rfl⟩,?_⟩
 rintro i m σ' ys H ⟨rfl,hi,p,o,rfl⟩
 have hy:=hl i ys H hi p
 by_cases hlt:i < n
 ·refine .inr ⟨hlt,by omega,yO P i js σ,fun σ3 zs H3 z=>⟨n - (i + 1),by omega,rfl,hlt,z.1,z.2⟩,fun x H' y=>?_⟩
  obtain⟨e,y⟩:=y
  subst e
  subst y
  exact hs i ys _ hlt p
 ·have e:i=n:=by omega
  subst e
  exact .inl ⟨Nat.le_refl _,hd ys H p⟩
section
variable {X:Cx}
theorem aFu (K:Frag) (h:X.K=K):IxR X (rIxL K):=h ▸ jX
end
section
variable {κ : Type} [DecidableEq κ]
def yF (kvs:List (κ × V)) (k : κ):Option V:=(kvs.find? fun kv=>decide (kv.1=k)).map (·.2)
def putK (kvs:List (κ × V)) (k : κ) (v:V):List (κ × V) :=
 if (kvs.any fun kv=>decide (kv.1=k))=true then kvs.map (fun kv=>if kv.1=k then (kv.1,v) else kv) else kvs++[(k,v)]
def aIh (kvs:List (κ × V)) (k : κ):List (κ × V):=kvs.filter fun kv=>decide (kv.1 ≠ k)
theorem eB {p : κ × V} {r:List (κ × V)} {k : κ} (e:p.1=k):yF (p::r) k=some p.2:=by simp [yF,List.find?_cons,e]
theorem eW {p : κ × V} {r:List (κ × V)} {k : κ} (e:¬ p.1=k):yF (p::r) k=yF r k:=by simp [yF,List.find?_cons,e]
theorem sY (k : κ):∀ kvs:List (κ × V),(kvs.any fun kv=>decide (kv.1=k))=(yF kvs k).isSome
 | []=>rfl
 | p::r=>by
  rw [List.any_cons]
  by_cases e:p.1=k
  ·simp only [eB e,decide_eq_true e,Bool.true_or,Option.isSome_some]
  ·rw [eW e,decide_eq_false e,Bool.false_or];exact sY k r
theorem gK (kvs:List (κ × V)) (k : κ) (v:V):(putK kvs k v).length<=kvs.length + 1:=by
 unfold putK
 split
 ·rw [List.length_map];omega
 ·rw [List.length_append,List.length_cons,List.length_nil];omega
theorem yD.isSome_eq {o:Option V} {u:Option Value} (r:yD o u):o.isSome=u.isSome:=by
 cases o with
 | none=>cases u with
  | none=>rfl
  | some _=>exact (show False from r).elim
 | some _=>cases u with
  | none=>exact (show False from r).elim
  | some _=>rfl
theorem yD.getD {o:Option V} {u:Option Value} {d:V} {d':Value} (r:yD o u) (rd:RelV d d'):RelV (o.getD d) (u.getD d'):=by
 cases o with
 | none=>cases u with
  | none=>exact rd
  | some _=>exact (show False from r).elim
 | some _=>cases u with
  | none=>exact (show False from r).elim
  | some _=>exact r
theorem KV.val {kvs:List (κ × V)} {vs:List (κ × Value)} (r:KV kvs vs) (k : κ):yD (yF kvs k) (valueAt vs k):=by
 unfold KV at r
 induction r with
 | nil=>exact True.intro
 | @cons p q ps qs h t ih =>
  obtain⟨h1,h2⟩:=h
  by_cases e:p.1=k
  ·have e':q.1=k:=h1.symm.trans e
   have b:valueAt (q::qs) k=some q.2:=by simp [valueAt,List.find?_cons,e']
   rw [eB e,b];exact h2
  ·have e':¬ q.1=k:=fun z=>e (h1.trans z)
   have b:valueAt (q::qs) k=valueAt qs k:=by simp [valueAt,List.find?_cons,e']
   rw [eW e,b];exact ih
theorem KV.any {kvs:List (κ × V)} {vs:List (κ × Value)} (r:KV kvs vs) (k : κ):(kvs.any fun kv=>decide (kv.1=k))=vs.any fun kv=>decide (kv.1=k):=by
 unfold KV at r
 induction r with
 | nil=>rfl
 | cons h t ih=>rw [List.any_cons,List.any_cons,ih,h.1]
theorem KV.repl {kvs:List (κ × V)} {vs:List (κ × Value)} (r:KV kvs vs) (k : κ) {y:V} {u:Value} (ry:RelV y u) :
  KV (kvs.map fun kv=>if kv.1=k then (kv.1,y) else kv) (vs.map fun kv=>if kv.1=k then (kv.1,u) else kv):=by
 unfold KV at r ⊢
 induction r with
 | nil=>exact .nil
 | @cons p q ps qs h t ih =>
  rw [List.map_cons,List.map_cons]
  refine .cons ?_ ih
  obtain⟨h1,h2⟩:=h
  by_cases e:p.1=k
  ·rw [if_pos e,if_pos (h1.symm.trans e)];exact⟨h1,ry⟩
  ·rw [if_neg e,if_neg (fun z=>e (h1.trans z))];exact⟨h1,h2⟩
theorem KV.put {kvs:List (κ × V)} {vs:List (κ × Value)} (r:KV kvs vs) (k : κ) {y:V} {u:Value} (ry:RelV y u):KV (putK kvs k y) (stored vs k u):=by
 unfold putK stored
 rw [r.any k]
 by_cases e:(vs.any fun kv=>decide (kv.1=k))=true
 ·rw [if_pos e,if_pos e];exact r.repl k ry
 ·rw [if_neg e,if_neg e];exact Paired.snoc r ⟨rfl,ry⟩
theorem KV.drop {kvs:List (κ × V)} {vs:List (κ × Value)} (r:KV kvs vs) (k : κ):KV (aIh kvs k) (without vs k):=by
 unfold KV at r ⊢
 unfold aIh without
 induction r with
 | nil=>exact .nil
 | @cons p q ps qs h t ih =>
  obtain⟨h1,h2⟩:=h
  rw [List.filter_cons,List.filter_cons]
  by_cases e:p.1=k
  ·have a:¬ decide (p.1 ≠ k)=true:=by simp [e]
   have b:¬ decide (q.1 ≠ k)=true:=by simp [h1.symm.trans e]
   rw [if_neg a,if_neg b];exact ih
  ·have e':¬ q.1=k:=fun z=>e (h1.trans z)
   have a:decide (p.1 ≠ k)=true:=by simp [e]
   have b:decide (q.1 ≠ k)=true:=by simp [e']
   rw [if_pos a,if_pos b];exact .cons ⟨h1,h2⟩ ih
theorem KV.keys {kvs:List (κ × V)} {vs:List (κ × Value)} (r:KV kvs vs):kvs.map (·.1)=vs.map (·.1):=by
 unfold KV at r
 induction r with
 | nil=>rfl
 | cons h t ih=>rw [List.map_cons,List.map_cons,ih,h.1]
theorem KV.length {kvs:List (κ × V)} {vs:List (κ × Value)} (r:KV kvs vs):kvs.length=vs.length:=Paired.length r
end
theorem lK {P:Program} {w:World} {k:Key} {u:Value} (r:RelV (kV k) u):(kS P w).is k u=true:=by
 cases k with
 | inl i=>obtain⟨t,e⟩:=(show ∃ t,u=Value.int i t from r);subst e;exact tE P w i t
 | inr x=>obtain⟨t,e⟩:=(show ∃ t,u=Value.str x t from r);subst e;exact tT P w x t
theorem oJ {P:Program} {w:World} : ∀ {ks:List Key} {us:List Value},kC (ks.map kV) us->ItemsAre (kS P w) ks us
 | [],_,r=>by rw [List.map_nil] at r;cases r;exact .nil
 | k::ks,_,r=>by
  rw [List.map_cons] at r
  cases r with
  | cons h t=>exact .cons (lK h) (oJ t)
abbrev KT (H:Hp):List (List Key × V)->List (List Key × Addr × Value)->Prop:=Paired fun p q=>p.1=q.1/\H q.2.1=some (.tup (p.1.map kV))/\RelV p.2 q.2.2
theorem KT.val {H:Hp} {kvs:List (List Key × V)} {xs:List (List Key × Addr × Value)} (r:KT H kvs xs) (k:List Key):yD (yF kvs k) ((atKey xs k).map (·.2)):=by
 induction r with
 | nil=>exact True.intro
 | @cons p q ps qs h t ih =>
  obtain⟨h1,_,h2⟩:=h
  by_cases e:p.1=k
  ·have e':q.1=k:=h1.symm.trans e
   have b:atKey (q::qs) k=some q.2:=by simp [atKey,List.find?_cons,e']
   rw [eB e,b];exact h2
  ·have e':¬ q.1=k:=fun z=>e (h1.trans z)
   have b:atKey (q::qs) k=atKey qs k:=by simp [atKey,List.find?_cons,e']
   rw [eW e,b];exact ih
theorem KT.repl {H:Hp} {kvs:List (List Key × V)} {xs:List (List Key × Addr × Value)} (r:KT H kvs xs) (k:List Key) {y:V} {u:Value} (ry:RelV y u) :
  KT H (kvs.map fun kv=>if kv.1=k then (kv.1,y) else kv) (xs.map (putAt k u)):=by
 induction r with
 | nil=>exact .nil
 | @cons p q ps qs h t ih =>
  rw [List.map_cons,List.map_cons]
  refine .cons ?_ ih
  obtain⟨h1,h2,h3⟩:=h
  unfold putAt
  by_cases e:p.1=k
  ·rw [if_pos e,if_pos (h1.symm.trans e)];exact⟨h1,h2,ry⟩
  ·rw [if_neg e,if_neg (fun z=>e (h1.trans z))];exact⟨h1,h2,h3⟩
theorem KT.put {H:Hp} {kvs:List (List Key × V)} {xs:List (List Key × Addr × Value)} (r:KT H kvs xs) (k:List Key) {b:Addr} {y:V} {u:Value} (hb:H b=some (.tup (k.map kV))) (ry:RelV y u) :
  KT H (putK kvs k y) (storedH xs k b u):=by
 have e:(kvs.any fun kv=>decide (kv.1=k))=(atKey xs k).isSome:=by
  rw [sY,(r.val k).isSome_eq,Option.isSome_map]
 unfold putK storedH
 rw [e]
 by_cases q:(atKey xs k).isSome=true
 ·rw [if_pos q,if_pos q];exact r.repl k ry
 ·rw [if_neg q,if_neg q];exact Paired.snoc r ⟨rfl,hb,ry⟩
theorem KT.keeps {H H':Hp} {kvs:List (List Key × V)} {xs:List (List Key × Addr × Value)} (r:KT H kvs xs) (ht:∀ b ys,H b=some (.tup ys)->H' b=some (.tup ys)):KT H' kvs xs :=
 Paired.mapP r fun _ _ z=>⟨z.1,ht _ _ z.2.1,z.2.2⟩
section
variable {P:Program} {w:World} {H:Hp} {h:Heap} {a:Addr}
theorem aIf {u:HO} (ok:HOk P w H h) (e:Rd H a u):qC P w H h a u:=e.ok ok
theorem mH {kvs:List (Key × V)} (ok:HOk P w H h) (e:Rd H a (.dK kvs)):kvs.length<=sizeLine/\(a == sysModules)=false/\∃ vs,KV kvs vs/\h.DictOf (kS P w) a vs :=
 show qC P w H h a (.dK kvs) from aIf ok e
theorem aIq {kvs:List (Key × V)} (ok:HOk P w H h) (e:H a=some (.dK kvs)):kvs.length<=sizeLine/\(a == sysModules)=false/\∃ vs,KV kvs vs/\h.DictOf (kS P w) a vs:=mH ok (.inl e)
theorem lV {ks:List Key} (ok:HOk P w H h) (e:H a=some (.tup (ks.map kV))):(tupleKind (kS P w)).is h ks a:=by
 obtain⟨_,its,r,o,h1,h2,n,h3⟩:=(show qC P w H h a (.tup (ks.map kV)) from ok a _ e)
 exact⟨o,its.toArray,n,h1,h2,h3,by simpa using oJ r⟩
theorem nY {kvs:List (List Key × V)} (ok:HOk P w H h) (e:Rd H a (.dT kvs)):kvs.length<=sizeLine/\(a == sysModules)=false ∧
  ∃ xs,KT H kvs xs/\h.DictOfH (tupleKind (kS P w)) a xs:=by
 obtain⟨z,y,xs,r,o,es,ep,h1,h2,h3,h4,h5⟩:=(show qC P w H h a (.dT kvs) from aIf ok e)
 refine⟨z,y,xs,r,o,es,ep,h1,h2,h3,h4,fun x hx=>?_,h5⟩
 have all:∀ {l:List (List Key × V)} {m:List (List Key × Addr × Value)},KT H l m->∀ x ∈ m,(tupleKind (kS P w)).is h x.1 x.2.1:=by
  intro l m q
  induction q with
  | nil=>intro x hx;exact nomatch hx
  | @cons p q ps qs hq t ih =>
   intro x hx
   rcases List.mem_cons.mp hx with e|hx
   ·subst e
    exact lV ok (by rw [← hq.1];exact hq.2.1)
   ·exact ih x hx
 exact all r x hx
end
def zP (H:Hp) (a:Addr) (y:V) (r:Option V):Prop :=
 (∃ kvs k,Rd H a (.dK kvs)/\y=kV k/\r=yF kvs k)\/∃ kvs k b,Rd H a (.dT kvs)/\y=.ref b/\H b=some (.tup (k.map kV))/\r=yF kvs k
theorem zP.k {H:Hp} {a:Addr} {kvs:List (Key × V)} {k:Key} (e:H a=some (.dK kvs)):zP H a (kV k) (yF kvs k):=.inl ⟨kvs,k,.inl e,rfl,rfl⟩
theorem zP.t {H:Hp} {a b:Addr} {kvs:List (List Key × V)} {k:List Key} (e:H a=some (.dT kvs)) (eb:H b=some (.tup (k.map kV))):zP H a (.ref b) (yF kvs k):=.inr ⟨kvs,k,b,.inl e,rfl,eb,rfl⟩
section
variable {X:Cx} {pins:List (Addr × Obj)} {σ:St} {H:Hp} {s:Shared} {a:Addr} {y v:V} {u r:Value} {o:Option V} {A:Around} {E:Value->Shared->Prop}
theorem Inv.big (I:Inv X pins σ H s):sysModules < s.heap.objs.size:=by
 have h:mainGlobals < s.heap.objs.size:=(I.mod.glob.keeps I.bk).lt
 exact Nat.lt_trans (by decide) h
theorem aBw {Q:Value->Shared->Prop} (hu:A.units + 1 < cLine) (I:Inv X pins σ H s) (g:zP H a y (some v)) (ry:RelV y u) (h:∀ w' s',Inv X pins σ H s'->RelV v w'->Q w' s') :
  wpAny (model X.prog X.w) A (getItem (.ref a) u) Q E s:=by
 rcases g with⟨kvs,k,e,ey,l⟩|⟨kvs,k,b,e,ey,eb,l⟩
 ·subst ey
  obtain⟨z,hd,vs,rel,dd⟩:=mH I.hok e
  obtain⟨w',hw,rw'⟩:=yD.some_of (v:=v) (o:=valueAt vs k) (by rw [l];exact rel.val k)
  exact wpAny_getItem_of (lK ry) dd.mapOf hw (h w' _ (I.tok _) rw')
 ·subst ey
  cases (show u=Value.ref b from ry)
  obtain⟨z,hd,xs,rel,dd⟩:=nY I.hok e
  obtain⟨w',hw,rw'⟩:=yD.some_of (v:=v) (o:=(atKey xs k).map (·.2)) (by rw [l];exact rel.val k)
  obtain⟨p,hp,hp2⟩:=Option.map_eq_some_iff.mp hw
  refine wpAny_getItem_heap (tupleKind_room_in1 hu) (lV I.hok eb) dd hp ?_
  rw [hp2]
  exact h w' _ (I.tok _) rw'
theorem d_in {Q:Value->Shared->Prop} (hu:A.units + 1 < cLine) (I:Inv X pins σ H s) (g:zP H a y o) (ry:RelV y u) (h:∀ s',Inv X pins σ H s'->Q (.bool o.isSome) s') :
  wpAny (model X.prog X.w) A (compareOp .In u (.ref a)) Q E s:=by
 rcases g with⟨kvs,k,e,ey,l⟩|⟨kvs,k,b,e,ey,eb,l⟩
 ·subst ey
  obtain⟨z,hd,vs,rel,dd⟩:=mH I.hok e
  refine wpAny_in_of (lK ry) hd dd.mapOf ?_
  rw [← (rel.val k).isSome_eq,← l]
  exact h _ (I.tok _)
 ·subst ey
  cases (show u=Value.ref b from ry)
  obtain⟨z,hd,xs,rel,dd⟩:=nY I.hok e
  refine wpAny_in_heap (tupleKind_room_in1 hu) (lV I.hok eb) hd dd ?_
  have q:=(rel.val k).isSome_eq
  rw [Option.isSome_map] at q
  rw [← q,← l]
  exact h _ (I.tok _)
theorem aGs {Q:Value->Shared->Prop} (hu:A.units + 1 < cLine) (I:Inv X pins σ H s) (g:zP H a y o) (ry:RelV y u) (h:∀ s',Inv X pins σ H s'->Q (.bool (!o.isSome)) s') :
  wpAny (model X.prog X.w) A (compareOp .NotIn u (.ref a)) Q E s:=by
 rcases g with⟨kvs,k,e,ey,l⟩|⟨kvs,k,b,e,ey,eb,l⟩
 ·subst ey
  obtain⟨z,hd,vs,rel,dd⟩:=mH I.hok e
  refine wpAny_notIn_of (lK ry) hd dd.mapOf ?_
  rw [← (rel.val k).isSome_eq,← l]
  exact h _ (I.tok _)
 ·subst ey
  cases (show u=Value.ref b from ry)
  obtain⟨z,hd,xs,rel,dd⟩:=nY I.hok e
  refine wpAny_notIn_heap (tupleKind_room_in1 hu) (lV I.hok eb) hd dd ?_
  have q:=(rel.val k).isSome_eq
  rw [Option.isSome_map] at q
  rw [← q,← l]
  exact h _ (I.tok _)
theorem aIe {h':Heap} {t':Nat} {ob:HO} (I:Inv X pins σ H s) (mu:Mut (H a)) (hs:Heap.SameBut a s.heap h') (he:∃ q,h'.get? a=some q) (new:qC X.prog X.w (upd H a ob) h' a ob) :
  Inv X pins σ (upd H a ob) { s with heap:=h',toks:=t' } :=
 I.write (x:=a) (e:=a) mu (.inl rfl) (fun b q hb z=>(hs.2 b hb).trans z) he new
theorem uM {P:Program} {w:World} {H':Hp} {h':Heap} {kvs:List (Key × V)} {vs:List (Key × Value)} (z:kvs.length<=sizeLine) (hd:(a == sysModules)=false) (rel:KV kvs vs) (dd:h'.DictOf (kS P w) a vs) :
  qC P w H' h' a (.dK kvs):=⟨z,hd,vs,rel,dd⟩
end
def NoSl (i:Expr):Prop:=∀ ov iv,subscripted i false ov iv=operate [ov,iv] (getItem ov iv)
theorem aHs {prog:Program} {w:World} {A:Around} {E:Value->Shared->Prop} {s:Shared} {env:Env} {value slice:Expr} {pos:Pos} {T id:String} {Q:Value->Shared->Prop}
  (hl:typeLookup (.type T) "__getitem__" = pure (some (.builtin id))) (hs:NoSl slice)
  (h:wpAny (model prog w) A (eval value env) (fun o s₁=>wpAny (model prog w) A (eval slice env) (fun i s₂=>s₂.TypeIs o T/\wpAny (model prog w) A (getItem o i) Q E s₂) E s₁) E s) :
  wpAny (model prog w) A (eval (.Subscript value slice pos) env) Q E s:=by
 refine Subscript_ (wpAny_mono h (fun o s₁ h₁=>wpAny_mono h₁ (fun i s₂ h₂=>?_) fun _ _ x=>x) fun _ _ x=>x)
 obtain⟨hT,h₂⟩:=h₂
 unfold subscriptTail
 refine wpAny_bind ?_
 rw [getitemInPython_of_ne hT.not_modules]
 refine wpAny_bind (wpAny_specialOf hT hl ?_)
 have fin:wpAny (model prog w) A (subscripted slice false o i) (fun r s₃=>wpAny (model prog w) A (letTemporaryGo value o r >>= fun _=>pure r) Q E s₃) E s₂:=by
  rw [hs o i]
  exact wpAny_operating (wpAny_mono h₂ (fun r s₃ h₃=>wpAny_bind (wpAny_letTemporaryGo (wpAny_pure h₃))) fun _ _ x=>x)
 first
  | exact wpAny_pure (wpAny_bind fin)
  | exact wpAny_bind (wpAny_pure (wpAny_bind fin))
  | exact wpAny_bind fin
theorem sI {X:Cx} {pins:List (Addr × Obj)} {σ:St} {H:Hp} {s:Shared} {a:Addr} {y:V} {o:Option V} (I:Inv X pins σ H s) (g:zP H a y o):s.TypeIs (.ref a) "dict":=by
 rcases g with⟨kvs,k,e,_,_⟩|⟨kvs,k,b,e,_,_,_⟩
 ·obtain⟨_,_,vs,_,dd⟩:=mH I.hok e
  exact dd.typeIs
 ·obtain⟨_,_,xs,_,dd⟩:=nY I.hok e
  exact dd.typeIs
def tDGet (td ty:TE):TE:=fun σ H Q=>td σ H fun x H1=>ty σ H1 fun y H2=>∃ a v,x=.ref a/\zP H2 a y (some v)/\Q v H2
def tDIn (ty td:TE):TE:=fun σ H Q=>ty σ H fun y H1=>td σ H1 fun x H2=>∃ a o,x=.ref a/\zP H2 a y o/\Q (.bl o.isSome) H2
def aGw (ty td:TE):TE:=fun σ H Q=>ty σ H fun y H1=>td σ H1 fun x H2=>∃ a o,x=.ref a/\zP H2 a y o/\Q (.bl (!o.isSome)) H2
section
variable {X:Cx} {o i e value:Expr} {pos pos' tpos:Pos} {td ty tv:TE}
theorem cL (hu:X.A.units + 1 < cLine) (ho:PE X o td) (hi:PE X i ty) (hs:NoSl i):PE X (.Subscript o i pos) (tDGet td ty):=by
 intro pins s σ H Q I h
 refine aHs PySem.F.slot_dict_getitem.lookup hs (thn (ho pins s σ H _ I h) fun u s1 ⟨x,H1,I1,rx,q1⟩=>thn (hi pins s1 σ H1 _ I1 q1) fun iv s2 zq=>?_)
 obtain⟨y,H2,I2,ry,a,v,ex,g,q2⟩:=zq
 subst ex
 obtain rfl:u=Value.ref a:=rx
 exact⟨sI I2 g,aBw hu I2 g ry fun w' s3 I3 rw'=>⟨v,H2,I3,rw',q2⟩⟩
theorem uQ (hu:X.A.units + 1 < cLine) (hi:PE X i ty) (ho:PE X o td):PC X .In i o (tDIn ty td):=by
 intro pins s σ H Q I h
 refine thn (hi pins s σ H _ I h) fun iv s1 ⟨y,H1,I1,ry,q1⟩=>thn (ho pins s1 σ H1 _ I1 q1) fun u s2 zq=>?_
 obtain⟨x,H2,I2,rx,a,ov,ex,g,q2⟩:=zq
 subst ex
 obtain rfl:u=Value.ref a:=rx
 exact d_in hu I2 g ry fun s3 I3=>⟨.bl ov.isSome,H2,I3,rfl,q2⟩
theorem aCu (hu:X.A.units + 1 < cLine) (hi:PE X i ty) (ho:PE X o td):PC X .NotIn i o (aGw ty td):=by
 intro pins s σ H Q I h
 refine thn (hi pins s σ H _ I h) fun iv s1 ⟨y,H1,I1,ry,q1⟩=>thn (ho pins s1 σ H1 _ I1 q1) fun u s2 zq=>?_
 obtain⟨x,H2,I2,rx,a,ov,ex,g,q2⟩:=zq
 subst ex
 obtain rfl:u=Value.ref a:=rx
 exact aGs hu I2 g ry fun s3 I3=>⟨.bl (!ov.isSome),H2,I3,rfl,q2⟩
end
theorem aFh {P:Program} {w:World} {H:Hp} (h:Heap) (hb:sysModules < h.objs.size):qC P w H (h.push { cls:=.type "dict",data:=.dict #[] }) h.objs.size (.dK []) :=
 ⟨Nat.zero_le _,beq_eq_false_iff_ne.mpr (Ne.symm (Nat.ne_of_lt hb)),[],.nil,Heap.DictOf.new h⟩
def yY (kvs more:List (Key × V)):List (Key × V):=more.foldl (fun acc kv=>putK acc kv.1 kv.2) kvs
theorem cS:∀ (more kvs:List (Key × V)),(yY kvs more).length<=kvs.length + more.length
 | [],kvs=>by show kvs.length<=kvs.length + 0;omega
 | p::r,kvs=>by
  have h1:=cS r (putK kvs p.1 p.2)
  have h2:=gK kvs p.1 p.2
  show (yY (putK kvs p.1 p.2) r).length<=_
  rw [List.length_cons];omega
structure M2 (X:Cx) (o:Expr) (m:Str) (apos:Pos) (e f:Expr) (cpos:Pos):Prop where
 base:attributeBase o m X.env (eval o X.env)=eval o X.env
 few:((backTo cpos (starEach [e,f] X.env)).all (fun x=>!x.1) && (backToKw cpos (keywordEach [] X.env)).all (fun x=>x.1.isSome)
  && decide (([e,f]:List Expr).length + ([]:List Keyword).length + (if ([]:List Keyword).isEmpty then 0 else 1) < 30))=true
 line:(apos.endLine == cpos.line)=true
 trees:backTo cpos (starEach [e,f] X.env)=[(false,eval e X.env),(false,eval f X.env)]
def IsD (H:Hp) (a:Addr):Prop:=(∃ kvs,Rd H a (.dK kvs))\/∃ kvs,Rd H a (.dT kvs)
theorem aIx {X:Cx} {pins:List (Addr × Obj)} {σ:St} {H:Hp} {s:Shared} {a:Addr} (I:Inv X pins σ H s) (d:IsD H a) :
  s.TypeIs (.ref a) "dict"/\(∀ b,Value.ref a=.ref b->∃ ob,s.heap.get? b=some ob/\ob.dict=none)/\(a == sysModules)=false:=by
 rcases d with⟨kvs,e⟩|⟨kvs,e⟩
 ·obtain⟨_,hd,vs,_,dd⟩:=mH I.hok e
  refine⟨dd.typeIs,fun b q=>?_,hd⟩
  cases q
  obtain⟨ob,_,_,h1,h2,_⟩:=dd
  exact⟨ob,h1,h2.2.1⟩
 ·obtain⟨_,hd,xs,_,dd⟩:=nY I.hok e
  refine⟨dd.typeIs,fun b q=>?_,hd⟩
  cases q
  obtain⟨ob,_,_,h1,h2,_⟩:=dd
  exact⟨ob,h1,h2.2.1⟩
section
variable {X:Cx} {pins:List (Addr × Obj)} {σ:St} {H:Hp} {s:Shared} {a:Addr} {y d:V} {u r:Value} {o:Option V} {A:Around} {E:Value->Shared->Prop}
theorem aKp {Q:Value->Shared->Prop} (hu:A.units + 1 < cLine) (I:Inv X pins σ H s) (g:zP H a y o) (ry:RelV y u) (rd:RelV d r) (h:∀ w' s',Inv X pins σ H s'->RelV (o.getD d) w'->Q w' s') :
  wpAny (model X.prog X.w) A (call (.builtin "dict.get") [.ref a,u,r]) Q E s:=by
 rcases g with⟨kvs,k,e,ey,l⟩|⟨kvs,k,b,e,ey,eb,l⟩
 ·subst ey
  obtain⟨z,hd,vs,rel,dd⟩:=mH I.hok e
  refine call_meetsIn PySem.F.slot_dict_get dd.typeIs PySem.F.entry_dict_get (PySem.F.args_dict_get_3 _ _ _) (meets_dict_get_default (kS X.prog X.w) a (lK ry) hd r) ⟨_,dd.mapOf,h _ _ (I.tok _) ?_⟩
  rw [l]
  exact (rel.val k).getD rd
 ·subst ey
  cases (show u=Value.ref b from ry)
  obtain⟨z,hd,xs,rel,dd⟩:=nY I.hok e
  refine call_meetsIn PySem.F.slot_dict_get dd.typeIs PySem.F.entry_dict_get (PySem.F.args_dict_get_3 _ _ _) (meetsH_dict_get_default (tupleKind (kS X.prog X.w)) a b hd r) ⟨tupleKind_room_in1 hu,k,xs,lV I.hok eb,dd,h _ _ (I.tok _) ?_⟩
  rw [l]
  exact (rel.val k).getD rd
end
def aLe (td ty tx:TE):TE:=fun σ H Q=>td σ H fun x H1=>∃ a,x=.ref a/\IsD H1 a/\ty σ H1 fun y H2=>tx σ H2 fun z H3=>∃ o,zP H3 a y o/\Q (o.getD z) H3
section
variable {X:Cx} {o e f:Expr} {apos cpos:Pos} {td ty tx:TE}
theorem aGc (hu:X.A.units + 1 < cLine) (ho:PE X o td) (he:PE X e ty) (hf:PE X f tx) (m:M2 X o "get" apos e f cpos):PE X (.Call (.Attribute o "get" apos) [e,f] [] cpos) (aLe td ty tx):=by
 intro pins s σ H Q I h
 refine wpAny_Call_method m.base m.few m.line PySem.F.plainAttrs_dict PySem.F.slot_dict_get PySem.F.type_dict_get (thn (ho pins s σ H _ I h) fun u s1 zq=>?_)
 obtain⟨x,H1,I1,rx,a,ex,d,q1⟩:=zq
 subst ex
 obtain rfl:u=Value.ref a:=rx
 obtain⟨t1,t2,_⟩:=aIx I1 d
 refine⟨t1,t2,?_⟩
 rw [m.trees]
 refine Calls.callWith_builtin rfl (Calls.evalArgs_plain (Calls.spliced_cons (thn (he pins s1 σ H1 _ I1 q1) fun iv s2 ⟨y,H2,I2,ry,q2⟩ =>
  Calls.spliced_cons (thn (hf pins s2 σ H2 _ I2 q2) fun fv s3 ⟨z,H3,I3,rz,ov,g,q3⟩=>Calls.spliced_nil ?_))))
 exact aKp hu I3 g ry rz fun w' s4 I4 rw'=>⟨_,H3,I4,rw',q3⟩
end
section
variable {X:Cx}
theorem nP:vP X (.builtin "isinstance") (fun xs H Q=>∃ p T kvs,xs=[.ref p,.ty T]/\T ∈ uB/\H p=some (.dK kvs)/\Q (.bl (isa "dict" T)) H):=by
 intro pins s σ H xs us Q I r h
 obtain⟨p,T,kvs,rfl,hT,ht,q⟩:=h
 obtain⟨u,w',rfl,rx,rT⟩:=vals2 r
 cases rT
 cases rx
 have hT':T = "int" ∨ T = "bool" ∨ T = "str" ∨ T = "list" ∨ T = "tuple" ∨ T = "dict":=by simpa [uB] using hT
 have fin:∀ {k:Bool} {s':Shared},isa "dict" T=k->Inv X pins σ H s'->EP X pins σ Q (.bool k) s':=fun {k s'} e I'=>by subst e;exact⟨.bl _,H,I',rfl,q⟩
 obtain⟨_,_,vs,_,o,es,ep,e,hx,_⟩:=I.hok p _ ht
 have hc:o.cls=.type "dict":=hx.1
 rcases hT' with rfl|rfl|rfl|rfl|rfl|rfl
 ·exact IsiPair.dict_int e hc (fin (by decide) (I.tok _))
 ·exact IsiPair.dict_bool e hc (fin (by decide) (I.tok _))
 ·exact IsiPair.dict_str e hc (fin (by decide) (I.tok _))
 ·exact IsiPair.dict_list e hc (fin (by decide) (I.tok _))
 ·exact IsiPair.dict_tuple e hc (fin (by decide) (I.tok _))
 ·exact IsiPair.dict_dict e hc (fin (by decide) I)
def Itx (x:Str):It:=⟨fun i _=>i < x.cps.size,fun i H v H'=>H'=H/\∃ c,x.cps[i]?=some c/\v=.str ⟨#[c]⟩,fun i _=>x.cps.size<=i⟩
theorem aDh {P:Program} {w:World} {K:Frag} {tg:Expr} (it:Addr) (x:Str) (t:Tok) (ty:String)
  (hty : ["enumerate","zip","dict_itemiterator","dict_reverseitemiterator","odict_iterator","itertools.zip_longest","itertools.pairwise"].contains ty=false)
  (W:∀ A:Around,A.handled=none->Walks P w A it [it] [it] x.cps.size (SignAt x) (fun i h=>h.IsStrIter it ty x t i))
  (hself:∀ (A:Around) (i:Nat) (s:Shared) (Q:Value->Shared->Prop) (E:Value->Shared->Prop),s.heap.IsStrIter it ty x t i->Q (.ref it) s->wpAny (model P w) A (pyIter (.ref it)) Q E s):Turn P w K tg (Itx x) [it] it (fun i h=>h.IsStrIter it ty x t i/\i<=x.cps.size) where
 mem:=by simp
 obj:=fun i h st b hb=>by
  have e:b=it:=by simpa using hb
  subst e
  obtain⟨⟨o,e,c,d⟩,_⟩:=st
  exact⟨o,e,fun v z=>by rw [d] at z;cases z⟩
 keep:=fun i h h' st k=>⟨let ⟨o,ho,r⟩:=st.1; ⟨o,k it (by simp) o ho,r⟩,st.2⟩
 item:=by
  intro X hP hw hK hc i pins s σ H E I hf st hg
  subst hP hw hK
  obtain⟨f0,f1,f2,f3,f4,f5⟩:=hf it (by simp)
  refine (W X.A (I.ok.hd hc)).item i s _ _ hg st.1 fun v h' tk hv st' kk=>?_
  obtain⟨c,u,hcc,rfl⟩:=hv
  have I1:Inv X pins σ H { s with heap:=h',toks:=tk }:=I.turned (fun b o hb e=>kk b o (by simpa using hb) e) f0 f1 f3 f4 f5
  obtain⟨o,e,cc,d⟩:=id st'
  exact⟨_,rfl,wX (s:={ s with heap:=h',toks:=tk }) e cc d hty ⟨.str ⟨#[c]⟩,H,I1,⟨u,rfl⟩,⟨rfl,c,hcc,rfl⟩,⟨st',hg⟩,fun b hb=>(hf b hb).1⟩⟩
 done:=by
  intro X hP hw hK hc i pins s σ H E I hf st hg
  subst hP hw hK
  obtain⟨f0,f1,f2,f3,f4,f5⟩:=hf it (by simp)
  have hi:i=x.cps.size:=Nat.le_antisymm st.2 hg
  subst hi
  exact (W X.A (I.ok.hd hc)).done s _ _ st.1 fun h' tk eb=>⟨rfl,I.turned (fun b o hb e=>eb b o (by simpa using hb) e) f0 f1 f3 f4 f5⟩
 self:=fun A i s Q E st h=>hself A i s Q E st.1 h
def iStr (tl:TE):TI:=fun σ H R=>tl σ H fun v H1=>∃ x,v=.str x/\R (Itx x) H1
theorem aJl {tg l:Expr} {tl:TE} (hl:PE X l tl):PI X tg l (iStr tl):=by
 intro pins s σ H R I h
 refine thn (hl pins s σ H _ I h) fun v s1 zq=>?_
 obtain⟨y,H1,I1,r1,q1⟩:=zq
 obtain⟨x,e,q⟩:=q1
 subst e
 obtain⟨t,rfl⟩:=r1
 have fin:∀ (ty:String) (o:Obj),["enumerate","zip","dict_itemiterator","dict_reverseitemiterator","odict_iterator","itertools.zip_longest","itertools.pairwise"].contains ty=false →
   (∀ A:Around,A.handled=none->Walks X.prog X.w A s1.heap.objs.size [s1.heap.objs.size] [s1.heap.objs.size] x.cps.size (SignAt x) (fun i h=>h.IsStrIter s1.heap.objs.size ty x t i)) →
   (∀ (A:Around) (i:Nat) (s:Shared) (Q:Value->Shared->Prop) (E:Value->Shared->Prop),s.heap.IsStrIter s1.heap.objs.size ty x t i->Q (.ref s1.heap.objs.size) s->wpAny (model X.prog X.w) A (pyIter (.ref s1.heap.objs.size)) Q E s) →
   (s1.heap.push o).IsStrIter s1.heap.objs.size ty x t 0->PIE X pins σ tg R (.ref s1.heap.objs.size) { s1 with heap:=s1.heap.push o }:=fun ty o hty W hs st=>by
  refine⟨s1.heap.objs.size,[s1.heap.objs.size],_,_,H1,rfl,I1.kept (t':=s1.toks) fun b o e=>Heap.get?_push_of_some _ e,aDh _ x t ty hty W hs,⟨st,Nat.zero_le _⟩,fun b hb=>?_,q⟩
  have e:b=s1.heap.objs.size:=by simpa using hb
  subst e
  exact I1.fpOk (Nat.le_refl _) (I1.hok.fresh (Nat.le_refl _))
 cases ha:x.cps.all (· < 128)
 ·exact wpAny_pyIter_wide ha (fin "str_iterator" _ (by decide) (fun A hA=>Walks.strWide hA _ x t) (fun A i s Q E st h=>wpAny_pyIter_striter_wide st h) ⟨_,Heap.get?_push_size _ rfl,rfl,rfl⟩)
 ·exact wpAny_pyIter_ascii ha (fin "str_ascii_iterator" _ (by decide) (fun A hA=>Walks.strAscii hA _ x t) (fun A i s Q E st h=>wpAny_pyIter_striter_ascii st h) ⟨_,Heap.get?_push_size _ rfl,rfl,rfl⟩)
theorem aDm {x:Str} {k:Nat} {js:List Nat} {tc:TT} {te:TE} {σ:St} {Q:VK} {H1:Hp} (P:Nat->List V->Hp->Prop) (h0:P 0 [] H1) (hl:∀ i ys H,i<=x.length->P i ys H->ys.length<=i) (hz:x.length < sizeLine)
  (hs:∀ i c ys H,x.cps.toList[i]?=some c->P i ys H->tc (some (.str ⟨#[c]⟩)::qW js σ) H fun b H2=>if b=true then te (some (.str ⟨#[c]⟩)::qW js σ) H2 fun v H3=>yO P i js σ (some (.str ⟨#[c]⟩)::qW js σ) (ys++[v]) H3 else yO P i js σ (some (.str ⟨#[c]⟩)::qW js σ) ys H2)
  (hd:∀ ys H,P x.length ys H->∀ p,H p=none->Q (.ref p) (upd H p (.lst ys))) (hk:k=1:=by rfl) :
  eF (Itx x) k js (cU 0) tc te σ Q H1:=by
 subst hk
 refine⟨fun i m σ' ys H=>m=x.cps.size - i/\i<=x.cps.size/\P i ys H/\∃ o,σ'=o::qW js σ,⟨x.cps.size,by simp,Nat.zero_le _,h0,none,rfl⟩,?_⟩
 rintro i m σ' ys H ⟨rfl,hi,p,o,rfl⟩
 have hy:=hl i ys H hi p
 have hz':x.cps.size < sizeLine:=hz
 by_cases hlt:i < x.cps.size
 ·refine .inr ⟨hlt,by omega,yO P i js σ,fun σ3 zs H3 z=>⟨x.cps.size - (i + 1),by omega,rfl,hlt,z.1,z.2⟩,fun v H' y=>?_⟩
  obtain⟨e,c,hc,y⟩:=y
  subst e
  subst y
  exact hs i c ys _ (by simpa using hc) p
 ·have e:i=x.cps.size:=by omega
  subst e
  exact .inl ⟨Nat.le_refl _,hd ys H p⟩
theorem aKb (x:Str) (c:Nat):(!(Builtin.Str.occurrences x ⟨#[c]⟩ 0 x.length 1).isEmpty)=decide (c ∈ x.cps.toList):=by
 rw [PyProof.Rows.empty_one,Bool.not_not]
theorem wQ {ys:List Str} : ∀ {us:List Value},kC (ys.map V.str) us->StrsAre us ys:=by
 induction ys with
 | nil=>intro us r;cases r;exact .nil
 | cons y ys ih =>
  intro us r
  cases r with
  | cons a b=>obtain⟨t,rfl⟩:=a;exact .cons _ _ (ih b)
theorem nX:∀ (tk:Nat) (ps:List Str),kC (ps.map V.str) (strsFrom tk ps)
 | _,[]=>.nil
 | tk,p::ps=>.cons ⟨_,rfl⟩ (nX (tk + 1) ps)
theorem yE:vP X (.type "int") (fun xs H Q=>∃ (x:Str) (n:Int),xs=[.str x]/\PySem.intText? x=some n/\x.length<=640/\Q (.int n) H):=by
 intro pins s σ H xs us Q I r h
 obtain⟨x,n,rfl,h1,h2,q⟩:=h
 obtain⟨u,rfl,t,rfl⟩:=vals1 r
 exact PySem.W.KIN.call_text h1 h2 ⟨.int n,H,I.tok _,⟨_,rfl⟩,q⟩
end
end L2
namespace L2
open PySem
theorem kL {c k p} {es:List Expr} {env:Env} : starEach (.Constant c k p::es) env=(false,eval (.Constant c k p) env)::starEach es env:=rfl
theorem aHn {xs p} {es:List Expr} {env:Env} : starEach (.List xs p::es) env=(false,eval (.List xs p) env)::starEach es env:=rfl
end L2
namespace L2
open PySem PySem.Spec PyProof.Rows
structure PEx (X:Cx) (e:Expr) (t:TE):Prop where
 h:PE X e t
structure PAx (X:Cx) (es:List Expr) (t:TA):Prop where
 h:PA X es t
structure aBv (X:Cx) (st:Stmt) (t:TS):Prop where
 h:PS X st t
structure PSx (X:Cx) (sts:List Stmt) (t:TS):Prop where
 h:PSs X sts t
section
variable {X:Cx} {e:Expr} {es:List Expr} {te:TE} {t:TA} {st:Stmt} {rest:List Stmt} {ts us:TS}
theorem aAt:PAx X [] tNil:=⟨jB⟩
theorem vG (ha:PEx X e te) (hr:PAx X es t) (hs:starEach (e::es) X.env=(false,eval e X.env)::starEach es X.env):PAx X (e::es) (aIk te t):=⟨jA ha.h hr.h hs⟩
theorem vV (h:PE X e te):PEx X e te:=⟨h⟩
theorem aFw {ix:Expr} {ti:TE} {p1 p2:Pos} (hes:PAx X es t) (hi:PEx X ix ti) (hs:aAd ix):PEx X (.Subscript (.List es p1) ix p2) (tOp (rIxL X.K) (tLst t) ti):=⟨kK jX (kG hes.h) hi.h hs⟩
theorem iP (h:PS X st ts):aBv X st ts:=⟨h⟩
theorem yL (h1:aBv X st ts) (h2:PSx X rest us):PSx X (st::rest) (tSeq ts us):=⟨jD h1.h h2.h⟩
theorem iM (h1:aBv X st ts):PSx X [st] ts:=⟨jE h1.h⟩
end
section
variable {X:Cx}
def rCatS (K:Frag):R2:=fun x y H Q=>∃ l b xs zs,x=.ref l/\y=.ref b/\SqL K H l xs/\SqL K H b zs/\xs.length + zs.length<=sizeLine/\∀ p,H p=none->Q (.ref p) (upd H p (.lst (xs++zs)))
theorem rG (l:Addr) (items:Array Value) (n:Nat) (b:Addr) (items2:Array Value) (n2:Nat) (sl sl2:Array (Option Value)) (hc0:items.size + items2.size<=sizeLine) :
  Meets (Builtin.«list.__add__» ⟨[.ref l,.ref b],[]⟩) (fun _ R s=>s.heap.get? l=some { cls:=.type "list",dict:=none,data:=.seq items n,slots:=sl }/\s.heap.get? b=some { cls:=.type "list",dict:=none,data:=.seq items2 n2,slots:=sl2 }/\R (.ok (.ret (Value.ref s.heap.objs.size))) { s with heap:=s.heap.push { cls:=Value.type "list",data:=Data.seq (items++items2) },toks:=s.toks }) :=
 .of_wp fun prog w A R s h=>by obtain⟨hp,g,d,tk,os⟩:=s;obtain⟨hl,hb,h⟩:=h;have f1:=AutoSeq1.idx_int;have f2:=AutoSeq1.sub_tuple_tuple;have f3:=AutoSeq1.sub_list_list;have f4:=AutoSeq1.sub_tuple_list;have f5:=AutoSeq1.sub_list_tuple;wp_walk using AutoSeq1.wpAny_loadPart' hl,AutoSeq1.wpAny_loadPart' hb;exact⟨_,rfl,h⟩
theorem vY:OpR X (binaryOp .Add) (rCatS X.K):=by
 intro pins s σ H x y v u Q I rx ry h
 obtain⟨l,b,xs,zs,rfl,rfl,hH,hB,hz,q⟩:=h
 cases rx
 cases ry
 obtain⟨its,r,⟨o,n,e,hc,hdn,hd⟩,_⟩:=I.list hH
 obtain⟨its2,r2,⟨o2,n2,e2,hc2,hdn2,hd2⟩,_⟩:=I.list hB
 obtain⟨c,d,dt,sl⟩:=o
 obtain⟨c2,d2,dt2,sl2⟩:=o2
 cases hc;cases hdn;cases hd
 cases hc2;cases hdn2;cases hd2
 have l1:=r.length
 have l2:=r2.length
 refine concat_meets ⟨_,e,rfl⟩ ⟨_,e2,rfl⟩ PySem.noFill_list_add PySem.seq_list_add F.slot_list_add F.entry_list_add (F.args_list_add_2 _ _) (rG l its.toArray n b its2.toArray n2 sl sl2 (by rw [List.size_toArray,List.size_toArray];omega)) ⟨e,e2,?_⟩
 have ea:its.toArray++its2.toArray=(its++its2).toArray:=by simp
 rw [ea]
 exact⟨.ref _,_,I.lnew (t':=s.toks) (r.append r2) (by rw [List.length_append];omega),rfl,q _ I.fresh⟩
mutual
inductive Dat (K:Frag) (H:Hp):V->PyData->Prop
 | non:Dat K H .non .none
 | bl (b:Bool):Dat K H (.bl b) (.bool b)
 | int (i:Int):Dat K H (.int i) (.int i)
 | str (x:Str):Dat K H (.str x) (.str x)
 | lst {a:Addr} {xs:List V} {ds:List PyData} : SqL K H a xs->DatAll K H xs ds->Dat K H (.ref a) (.list ds)
 | tup {a:Addr} {xs:List V} {ds:List PyData} : SqT K H a xs->DatAll K H xs ds->Dat K H (.ref a) (.tuple ds)
inductive DatAll (K:Frag) (H:Hp):List V->List PyData->Prop
 | nil:DatAll K H [] []
 | cons {x:V} {xs:List V} {d:PyData} {ds:List PyData} : Dat K H x d->DatAll K H xs ds->DatAll K H (x::xs) (d::ds)
end
mutual
theorem Inv.reads {pins:List (Addr × Obj)} {σ:St} {H:Hp} {s:Shared} (I:Inv X pins σ H s):∀ {x:V} {d:PyData} {u:Value},Dat X.K H x d->RelV x u->∃ as,Reads s.heap u d as
 | _,_,_,.non,r=>by cases r;exact⟨_,.none⟩
 | _,_,_,.bl b,r=>by cases r;exact⟨_,.bool b⟩
 | _,_,_,.int i,r=>by obtain⟨t,rfl⟩:=r;exact⟨_,.int i t⟩
 | _,_,_,.str x,r=>by obtain⟨t,rfl⟩:=r;exact⟨_,.str x t⟩
 | _,_,_,.lst h ds,r=>by
  cases r
  obtain⟨its,rv,⟨o,n,e,hc,_,hd⟩,_⟩:=I.list h
  obtain⟨as,ra⟩:=Inv.readsAll I ds rv
  exact⟨_,.list e hc hd ra⟩
 | _,_,_,.tup h ds,r=>by
  cases r
  obtain⟨its,rv,⟨o,e,hc,n,hd⟩,_⟩:=I.tuple h
  obtain⟨as,ra⟩:=Inv.readsAll I ds rv
  exact⟨_,.tuple e hc hd ra⟩
theorem Inv.readsAll {pins:List (Addr × Obj)} {σ:St} {H:Hp} {s:Shared} (I:Inv X pins σ H s):∀ {xs:List V} {ds:List PyData} {us:List Value},DatAll X.K H xs ds->kC xs us->∃ as,ReadsAll s.heap us ds as
 | _,_,_,.nil,r=>by cases r;exact⟨_,.nil⟩
 | _,_,_,.cons h t,r=>by
  cases r with
  | cons r1 r2 =>
   obtain⟨a1,e1⟩:=Inv.reads I h r1
   obtain⟨a2,e2⟩:=Inv.readsAll I t r2
   exact⟨_,.cons e1 e2⟩
end
end
mutual
theorem Dat.same {K:Frag} {H H':Hp} (g:jI H H'):∀ {x:V} {d:PyData},Dat K H x d->Dat K H' x d
 | _,_,.non=>.non
 | _,_,.bl b=>.bl b
 | _,_,.int i=>.int i
 | _,_,.str x=>.str x
 | _,_,.lst h t=>.lst (g.seq h) (DatAll.same g t)
 | _,_,.tup h t=>.tup (by
   rcases h with (h|⟨o,h⟩)|h
   ·exact .inl (.inl (g _ _ h))
   ·exact .inl (.inr ⟨o,g _ _ h⟩)
   ·exact .inr h) (DatAll.same g t)
theorem DatAll.same {K:Frag} {H H':Hp} (g:jI H H'):∀ {xs:List V} {ds:List PyData},DatAll K H xs ds->DatAll K H' xs ds
 | _,_,.nil=>.nil
 | _,_,.cons h t=>.cons (Dat.same g h) (DatAll.same g t)
end
section
variable {X:Cx}
theorem aFa (hc:X.calm=true):vP X (.builtin "sum") (fun xs H Q=>∃ (a:Addr) (ns:List Int),xs=[.ref a]/\SqL X.K H a (ns.map V.int)/\Q (.int ns.sum) H):=by
 intro pins s σ H xs us Q I r h
 obtain⟨a,ns,rfl,ha,q⟩:=h
 obtain⟨u,rfl,rx⟩:=vals1 r
 cases rx
 obtain⟨its,rv,pl,_⟩:=I.list ha
 have hi:=intsAre_of rv
 obtain⟨ys,hy⟩:=hi.allInts.items
 refine sum_intListG (I.ok.hd hc) (hy ▸ pl.isList) fun h' tk t' hk=>?_
 have e1:ns=ys.toList.map (·.1):=by
  rw [← nums_intItems,← hy]
  exact (show numsOf its.toArray.toList=ns from hi.numsOf).symm
 rw [preSum_eq,List.take_of_length_le (by simp),← e1]
 exact⟨.int ns.sum,H,I.kept hk,⟨_,rfl⟩,q⟩
end
section
variable {X:Cx} {elt tg iter:Expr} {ifs:List Expr} {scope:Scope} {cl:List (Str × Addr)} {ts ys:List Str} {js:List Nat} {pos:Pos} {wi:TI} {g:TG} {tc:TT} {te:TE}
theorem tP (ts ys:List Str) (js:List Nat) (hc:X.calm=true) (hi:PI X tg iter wi) (hclos:closureFor scope X.env=pure cl) (hsub:cG X.env cl) (hcap:gY X scope cl ys js)
  (hg:∀ s H fp C,PG (X.comp scope cl (ts++ys) s H fp C) tg g) (ht:∀ s H fp C,PIf (X.comp scope cl (ts++ys) s H fp C) ifs tc) (he:∀ s H fp C,PE (X.comp scope cl (ts++ys) s H fp C) elt te)
  (hkind:scope.kind=.function) (hcell:(scope.names.all fun y=>y.2 != .cell)=true)
  (hnames:(scope.names.all fun y=>y.2 != .local || scope.names.lookup y.1 == some .local)=true)
  (hhas:((relabel scope X.env).names.all fun p=>(p.2 != .cell && p.2 != .free) || (cl.lookup p.1).isSome)=true)
  (hs:∀ x,foldedSetIterable iter X.env x=pure x) {use:Option (Value->Sem Unit)} {QV:Value->Shared->Prop} {pins:List (Addr × Obj)} {s:Shared} {σ:St} {H:Hp} {Q:VK} {p0:Pos} (I:Inv X pins σ H s) (h:aDo wi ts.length js g tc te σ H Q)
  (hfin:∀ {H2 H3:Hp} {s2 s4:Shared} {fp:List Addr} {C:Addr} {pins':List (Addr × Obj)} {σ':St} {its:List Value} {xs:List V} {n:Nat},Inv X pins σ H2 s2->(∀ b ∈ fp,bD X pins H2 b)->Inv (X.comp scope cl (ts++ys) s2 H2 fp C) pins' σ' H3 s4->s2.heap.objs.size<=C->s2.heap.objs.size ≠ C->kC xs its->xs.length<=sizeLine →
   s4.heap.get? s2.heap.objs.size=some { cls:=.type "list",data:=.seq its.toArray n }->H3 s2.heap.objs.size=none->(∀ p,H3 p=none->Q (.ref p) (upd H3 p (.lst xs)))->compPost (model X.prog X.w) X.A X.xe use QV (.ref s2.heap.objs.size) C (.ok .next) s4) :
  wpAny (model X.prog X.w) X.A (comprehension (.ListComp elt [⟨tg,iter,ifs,0⟩] scope pos) scope X.env p0 (newList []) false (eval iter X.env) use) QV X.xe s:=by
 have hcell':∀ y ∈ scope.names,y.2 ≠ .cell:=fun y hy z=>by
  have:=List.all_eq_true.mp hcell y hy
  rw [z] at this
  exact absurd this (by decide)
 have hnames':∀ y ∈ scope.names,y.2=.local->scope.names.lookup y.1=some .local:=fun y hy z=>by
  have:=List.all_eq_true.mp hnames y hy
  rw [z] at this
  simpa using this
 have hhas':∀ x,((relabel scope X.env).names.lookup x=some .cell\/(relabel scope X.env).names.lookup x=some .free)->∃ c,cl.lookup x=some c:=fun x hx=>by
  rcases hx with hx|hx
  ·have:=List.all_eq_true.mp hhas _ (PySem.mem_of_lookup hx)
   exact Option.isSome_iff_exists.mp (by simpa using this)
  ·have:=List.all_eq_true.mp hhas _ (PySem.mem_of_lookup hx)
   exact Option.isSome_iff_exists.mp (by simpa using this)
 refine wpAny_comprehension_free (use:=use) rfl hs hclos hkind hnames' (thn (hi pins s σ H _ I h) fun v s1 h1=>thn h1 fun itv s2 h2=>?_)
 obtain⟨it,fp,tn,J,H2,e,I2,T,st2,f2,W,⟨m0,w0⟩,turn⟩:=h2
 subst e
 have fl:∀ b ∈ fp,b < s2.heap.objs.size:=fun b hb=>by
  obtain⟨o,e,_⟩:=T.obj _ _ st2 b hb
  exact Heap.lt_size e
 refine wpAny_newObj_type (wpAny_newFunctionEnv hcell' (by intro y hy;simp at hy) (fun h₁ hns₁ hsb₁=>?_) hkind)
 dsimp only at hns₁ hsb₁ ⊢
 generalize hHH:s2.heap.push { cls:=.type "list",dict:=none,data:=.seq ([]:List Value).toArray }=HH at hns₁ hsb₁ ⊢
 have hC:HH.objs.size=s2.heap.objs.size + 1:=by rw [← hHH,Heap.size_push]
 have hDC:s2.heap.objs.size ≠ HH.objs.size:=by rw [hC];exact Nat.ne_of_lt (Nat.lt_succ_self _)
 have hCle:s2.heap.objs.size<=HH.objs.size:=by rw [hC];exact Nat.le_succ _
 have old:∀ b o,s2.heap.get? b=some o->h₁.get? b=some o:=fun b o e =>
  hsb₁.extBut b o (Nat.ne_of_lt (Nat.lt_of_lt_of_le (Heap.lt_size e) hCle)) (Heap.get?_push_of_some _ (hHH ▸ Heap.get?_push_of_some _ e))
 have hacc:h₁.get? s2.heap.objs.size=some { cls:=.type "list",data:=.seq ([]:List Value).toArray }:=hsb₁.extBut _ _ hDC (Heap.get?_push_of_some _ (hHH ▸ Heap.get?_push_size _ rfl))
 have nofs:∀ b,s2.heap.objs.size<=b->b ∉ frs X.stack:=fun b hb z=>by
  rcases List.mem_cons.mp (I2.stkSub b z) with e|e
  ·exact absurd (Nat.lt_of_lt_of_le I2.lt (e ▸ hb)) (Nat.lt_irrefl _)
  ·exact I2.nofs hb e
 have nocell:∀ b,s2.heap.objs.size<=b->∀ x c,cl.lookup x=some c->c ≠ b:=fun b hb x c e z=>by
  obtain⟨v,q⟩:=I2.cell x c (hsub.at e)
  exact absurd (Nat.lt_of_lt_of_le q.lt (z ▸ hb)) (Nat.lt_irrefl _)
 have I':Inv (X.comp scope cl (ts++ys) s2 H2 fp HH.objs.size) [] (eY ts.length js σ) H2 { s2 with heap:=h₁,toks:=s2.toks + ([]:List (Str × Value)).length } :=
  rY I2 hsub hcap hkind hhas' f2 fl hCle hns₁ old
 have addPin:∀ {σ':St} {H':Hp} {s':Shared} {o:Obj},Inv (X.comp scope cl (ts++ys) s2 H2 fp HH.objs.size) [] σ' H' s'->s'.heap.get? s2.heap.objs.size=some o->H' s2.heap.objs.size=none->(∀ v,o.data ≠ .cell v) →
   Inv (X.comp scope cl (ts++ys) s2 H2 fp HH.objs.size) [(s2.heap.objs.size,o)] σ' H' s':=fun {σ' H' s' o} J e n d=>J.pins_of fun p hp=>by
  have e':p=(s2.heap.objs.size,o):=by simpa using hp
  subst e'
  exact⟨e,n,hDC,nofs _ (Nat.le_refl _),d⟩
 have stat:∀ {pins':List (Addr × Obj)} {H':Hp},(∀ p ∈ pins',p.1=s2.heap.objs.size)->(∀ b ∈ fp,H' b=none)->∀ b ∈ fp,bD (X.comp scope cl (ts++ys) s2 H2 fp HH.objs.size) pins' H' b:=fun {pins' H'} hp hn b hb =>
  ⟨hn b hb,Nat.ne_of_lt (Nat.lt_of_lt_of_le (fl b hb) hCle),I'.ok.exfs b hb,.inl hb,(I'.ok.exf b hb).2,fun p hq z=>by
   have hq':p ∈ pins':=by simpa using hq
   exact absurd (fl b hb) (by rw [← z,hp p hq'];exact Nat.lt_irrefl _)⟩
 have tn1:tn 0 h₁:=T.keep _ _ _ st2 fun b _ o e=>old b o e
 have loop:∀ s₃ : Shared,s₃ = { s2 with heap:=h₁,toks:=s2.toks + ([]:List (Str × Value)).length } →
   codeAny (model X.prog X.w) X.A (.compLoop (.ListComp elt [⟨tg,iter,ifs,0⟩] scope pos) 0 (.ref it) (.ref s2.heap.objs.size) (compEnvC scope cl HH.objs.size X.env))
    (compPost (model X.prog X.w) X.A X.xe use QV (.ref s2.heap.objs.size) HH.objs.size) s₃:=by
  rintro s₃ rfl
  refine rJ (fun n s'=>∃ i σ' xs H' its nn,Inv (X.comp scope cl (ts++ys) s2 H2 fp HH.objs.size) [] σ' H' s'/\kC xs its/\xs.length<=sizeLine/\s'.heap.get? s2.heap.objs.size=some { cls:=.type "list",data:=.seq its.toArray nn }/\H' s2.heap.objs.size=none ∧
   tn i s'.heap/\(∀ b ∈ fp,H' b=none)/\W i n σ' xs H') ?_ m0 ⟨0,_,[],H2,[],0,I',.nil,Nat.zero_le _,hacc,I2.hok.fresh (Nat.le_refl _),tn1,fun b hb=>(f2 b hb).1,w0⟩
  rintro n s3 ⟨i,σ3,xs,H3,its,nn,I3,rv,hz3,ac3,nD3,st3,fr3,w3⟩
  have nd:∀ v,({ cls:=.type "list",data:=.seq its.toArray nn } : Obj).data ≠ .cell v:=fun v z=>by
   have z':Data.seq its.toArray nn=Data.cell v:=z
   cases z'
  have I3p:=addPin I3 ac3 nD3 nd
  have pinD:∀ p ∈ [(s2.heap.objs.size,({ cls:=.type "list",data:=.seq its.toArray nn } : Obj))],p.1=s2.heap.objs.size:=fun p hp=>by
   rw [List.mem_singleton] at hp
   rw [hp]
  rcases turn i n σ3 xs H3 w3 with⟨stop,qn⟩|⟨go,hz,N,hN,step⟩
  ·refine thn (T.done (X.comp scope cl (ts++ys) s2 H2 fp HH.objs.size) rfl rfl rfl hc i _ s3 σ3 H3 (fun _ _=>False) I3p (stat pinD fr3) st3 stop) fun r s4 zq=>?_
   obtain⟨hr,I4⟩:=zq
   subst hr
   have ac4:=(I4.pin _ (List.mem_append_right _ (List.mem_singleton.mpr rfl))).1
   exact hfin I2 f2 I4 hCle hDC rv hz3 ac4 nD3 qn
  ·refine thn (T.item (X.comp scope cl (ts++ys) s2 H2 fp HH.objs.size) rfl rfl rfl hc i _ s3 σ3 H3 (fun _ _=>False) I3p (stat pinD fr3) st3 go) fun r s4 zq=>?_
   obtain⟨u,hr,h4⟩:=zq
   subst hr
   refine thn h4 fun _ s5 zq=>?_
   obtain⟨x,H5,I5,r5,y5,st5,fr5⟩:=zq
   have I5':=I5.pinned (stat pinD fr5) (T.obj _ _ st5)
   refine thn (hg _ _ _ _ _ s5 σ3 H5 x u _ I5' r5 (step x H5 y5)) fun _ s6 zq=>?_
   obtain⟨σ6,H6,I6,q6⟩:=zq
   refine thn (ht _ _ _ _ _ s6 σ6 H6 _ I6 q6) fun b s7 zq=>?_
   obtain⟨H7,I7,q7⟩:=zq
   have facts:∀ {σ':St} {H':Hp} {s':Shared},Inv (X.comp scope cl (ts++ys) s2 H2 fp HH.objs.size) ([(s2.heap.objs.size,({ cls:=.type "list",data:=.seq its.toArray nn } : Obj))]++cD fp s5.heap) σ' H' s' →
     s'.heap.get? s2.heap.objs.size=some { cls:=.type "list",data:=.seq its.toArray nn }/\H' s2.heap.objs.size=none/\tn (i + 1) s'.heap/\(∀ b ∈ fp,H' b=none):=fun {σ' H' s'} J=>by
    have p1:=J.pin (s2.heap.objs.size,({ cls:=.type "list",data:=.seq its.toArray nn } : Obj)) (by simp)
    refine⟨p1.1,p1.2.1,T.keep _ _ _ st5 fun b hb o e=>(J.pin (b,o) (List.mem_append_right _ (List.mem_append_right _ (xF hb e)))).1,fun b hb=>?_⟩
    obtain⟨o,e,d⟩:=T.obj _ _ st5 b hb
    exact (J.pin (b,o) (List.mem_append_right _ (List.mem_append_right _ (xF hb e)))).2.1
   have bare:∀ {σ':St} {H':Hp} {s':Shared},Inv (X.comp scope cl (ts++ys) s2 H2 fp HH.objs.size) ([(s2.heap.objs.size,({ cls:=.type "list",data:=.seq its.toArray nn } : Obj))]++cD fp s5.heap) σ' H' s' →
     Inv (X.comp scope cl (ts++ys) s2 H2 fp HH.objs.size) [] σ' H' s':=fun J=>J.pins_of fun p hp=>absurd hp (by simp)
   cases b with
   | false =>
    have q7':N σ6 xs H7:=by simpa using q7
    obtain⟨m',hm,w7⟩:=hN _ _ _ q7'
    obtain⟨a1,a2,a3,a4⟩:=facts I7
    show ∃ m,m < n/\_
    exact⟨m',hm,i + 1,σ6,xs,H7,its,nn,bare I7,rv,hz3,a1,a2,a3,a4,w7⟩
   | true =>
    have q7':te σ6 H7 fun v H5=>N σ6 (xs++[v]) H5:=by
     rw [if_pos rfl] at q7
     exact q7
    show wpAny _ _ (eval elt _) _ _ s7
    refine thn (he _ _ _ _ _ s7 σ6 H7 _ I7 q7') fun xv s8 zq=>?_
    obtain⟨v,H8,I8,r8,n8⟩:=zq
    obtain⟨m',hm,w8⟩:=hN _ _ _ n8
    obtain⟨a1,a2,a3,a4⟩:=facts I8
    have hl:=rv.length
    refine call_meets F.slot_list_append ⟨_,a1,rfl⟩ F.entry_list_append (F.args_list_append_2 _ _) (PySem.list_append s2.heap.objs.size its.toArray nn xv (by rw [List.size_toArray];omega)) ⟨a1,?_⟩
    obtain⟨n9,q9⟩ : ∃ n9,(s8.heap.update s2.heap.objs.size (Obj.mapSeq fun a=>a.push xv)).get? s2.heap.objs.size=some { cls:=.type "list",data:=.seq (its++[xv]).toArray n9 } :=
     ⟨_,by rw [show (its++[xv]).toArray=its.toArray.push xv by simp];exact PySem.IsL.update a1 (fun a=>a.push xv)⟩
    have I9:Inv (X.comp scope cl (ts++ys) s2 H2 fp HH.objs.size) [] σ6 H8 { s8 with heap:=s8.heap.update s2.heap.objs.size (Obj.mapSeq fun a=>a.push xv),toks:=s8.toks } :=
     (bare I8).turned (it:=s2.heap.objs.size) (fun b o hb e=>(Heap.get?_update_other s8.heap _ (Ne.symm hb)).trans e) a2 hDC (.inr (Nat.le_refl _)) (nocell _ (Nat.le_refl _)) fun p hp=>absurd (show p ∈ ([]:List (Addr × Obj)) from hp) (by simp)
    refine⟨m',hm,i + 1,σ6,xs++[v],H8,its++[xv],n9,I9,rv.append (.cons r8 .nil),?_,q9,a2,?_,a4,w8⟩
    ·rw [List.length_append,List.length_singleton];omega
    ·exact T.keep _ _ _ a3 fun b hb o e=>(Heap.get?_update_other s8.heap _ (Ne.symm (Nat.ne_of_lt (fl b hb)))).trans e
 exact codeAny_compStart_list (loop _ rfl) (T.self _ 0 _ _ _ tn1 (loop _ rfl))
theorem qY (ts ys:List Str) (js:List Nat) (hc:X.calm=true) (hi:PI X tg iter wi) (hclos:closureFor scope X.env=pure cl) (hsub:cG X.env cl) (hcap:gY X scope cl ys js)
    (hg:∀ s H fp C,PG (X.comp scope cl (ts++ys) s H fp C) tg g) (ht:∀ s H fp C,PIf (X.comp scope cl (ts++ys) s H fp C) ifs tc) (he:∀ s H fp C,PE (X.comp scope cl (ts++ys) s H fp C) elt te)
    (hkind:scope.kind=.function:=by rfl) (hcell:(scope.names.all fun y=>y.2 != .cell)=true:=by rfl)
    (hnames:(scope.names.all fun y=>y.2 != .local || scope.names.lookup y.1 == some .local)=true:=by rfl)
    (hhas:((relabel scope X.env).names.all fun p=>(p.2 != .cell && p.2 != .free) || (cl.lookup p.1).isSome)=true:=by rfl)
    (hs:∀ x,foldedSetIterable iter X.env x=pure x:=by intro _;rfl):PE X (.ListComp elt [⟨tg,iter,ifs,0⟩] scope pos) (aDo wi ts.length js g tc te):=by
  intro pins s σ H Q I h
  rw [eval_ListComp]
  refine tP (use:=none) (QV:=EP X pins σ Q) ts ys js hc hi hclos hsub hcap hg ht he hkind hcell hnames hhas hs I h ?_
  intro H2 H3 s2 s4 fp C pins' σ' its xs n I2 f2 I4 hC hDC rv hz e4 nD q
  obtain⟨m,hm,_⟩:=I4.loc
  exact⟨m,hm,fun h' hs'=>⟨.ref _,_,sW I2 f2 I4 hC (Nat.le_refl _) hDC hs' rv hz e4 nD,rfl,q _ nD⟩⟩
theorem aHt {i:Nat} {y:Str} {py spos:Pos} (ts ys:List Str) (js:List Nat) (hN:X.N.Nodup) (hiN:X.N[i]?=some y) (hy:X.env.scope.names.lookup y=some .local) (hc:X.calm=true) (hi:PI X tg iter wi) (hclos:closureFor scope X.env=pure cl) (hsub:cG X.env cl) (hcap:gY X scope cl ys js)
  (hg:∀ s H fp C,PG (X.comp scope cl (ts++ys) s H fp C) tg g) (ht:∀ s H fp C,PIf (X.comp scope cl (ts++ys) s H fp C) ifs tc) (he:∀ s H fp C,PE (X.comp scope cl (ts++ys) s H fp C) elt te)
  (hkind:scope.kind=.function:=by rfl) (hcell:(scope.names.all fun y=>y.2 != .cell)=true:=by rfl)
  (hnames:(scope.names.all fun y=>y.2 != .local || scope.names.lookup y.1 == some .local)=true:=by rfl)
  (hhas:((relabel scope X.env).names.all fun p=>(p.2 != .cell && p.2 != .free) || (cl.lookup p.1).isSome)=true:=by rfl)
  (hs:∀ x,foldedSetIterable iter X.env x=pure x:=by intro _;rfl)
  (hsw:swapsWith (.ListComp elt [⟨tg,iter,ifs,0⟩] scope pos) (some (.Name y py)) spos.line X.env=pure true:=by rfl) :
  PS X (.Assign [.Name y py] (.ListComp elt [⟨tg,iter,ifs,0⟩] scope pos) spos) (tAsg (aDo wi ts.length js g tc te) (cU i)):=by
 intro pins s σ H D I h
 rw [exec_Assign_Name_used _ _ _ _ hsw];refine wpAny_bind (wpAny_standAt (wpAny_bind ?_))
 show wpAny _ _ (do let _ ← comprehension (.ListComp elt [⟨tg,iter,ifs,0⟩] scope pos) scope X.env _ (newList []) false (eval iter X.env) (some (assign (.Name y py) X.env))) _ _ s
 refine wpAny_bind (wpAny_mono (tP (QV:=fun _ s'=>SP X pins D .next s') ts ys js hc hi hclos hsub hcap hg ht he hkind hcell hnames hhas hs I h ?_) (fun _ s' q=>wpAny_pure (wpAny_pure q)) fun _ _ z=>z)
 intro H2 H3 s2 s4 fp C pins' σ' its xs n I2 f2 I4 hC hDC rv hz e4 nD q
 have J:Inv X pins σ (upd H3 s2.heap.objs.size (.lst xs)) { s4 with heap:=s4.heap }:=sW I2 f2 I4 hC (Nat.le_refl _) hDC (Heap.SameBut.refl _ _) rv hz e4 nD
 obtain⟨m,hm,_⟩:=I4.loc
 have hm':s4.heap.Ns C m:=hm
 have hL:C ≠ X.env.locals:=fun z=>absurd (Nat.lt_of_lt_of_le I2.lt (z ▸ hC)) (Nat.lt_irrefl _)
 have hn:upd H3 s2.heap.objs.size (.lst xs) C=none:=by
  rw [jS (Ne.symm hDC)];exact I4.free
 have hcl:∀ x c,X.env.cells.lookup x=some c->c ≠ C:=fun x c e z=>by
  obtain⟨v,q⟩:=I2.cell x c e
  exact absurd (Nat.lt_of_lt_of_le q.lt (z ▸ hC)) (Nat.lt_irrefl _)
 have hpin:∀ p ∈ X.pn++pins,p.1 ≠ C:=fun p hp z=>absurd (Nat.lt_of_lt_of_le (Heap.lt_size (I2.pin p hp).1) (z ▸ hC)) (Nat.lt_irrefl _)
 show wpAny _ _ (assign (.Name y py) X.env _) _ _ _
 refine wpAny_assign_Name (cO J hN hiN (.inl hy) (v:=.ref s2.heap.objs.size) rfl (fun s5 J5 zq=>?_) (.inr hy))
 obtain⟨a,sb,ha⟩:=zq
 have hCa:C ≠ a:=by
  rcases ha with z|z
  ·rw [z];exact hL
  ·exact Ne.symm (hcl _ _ z)
 refine⟨m,hm'.sameBut sb hCa,fun h' hs'=>?_⟩
 exact⟨_,_,J5.turned (h':=h') (t':=s5.toks) (fun b o hb e=>hs'.extBut b o hb e) hn hL (.inr (Nat.le_trans I2.sz hC)) hcl hpin,q _ nD⟩
end
section
variable {X:Cx}
theorem eR {K:Frag} {es:List Expr} {k:Nat} {t:TGs} {n:Nat} {pos:Pos} (hK:X.K=K) (hc:X.calm=true) (h:PGs X es t)
  (hn:(assignEach es X.env).length=n:=by rfl) (hst:(assignEach es X.env).findIdx? (·.1)=none:=by rfl):PG X (.Tuple es k pos) (gTup K n t):=hK ▸ xC hc h hn hst
end
def eE (P:Nat->List V->Hp->Prop) (i k:Nat) (js:List Nat) (σ:St):St->List V->Hp->Prop:=fun σ' ys H=>P (i + 1) ys H/\∃ os:St,os.length=k/\σ'=os++qW js σ
theorem wI {K:Frag} {a:Addr} {xs:List V} {k:Nat} {js:List Nat} {g:TG} {tc:TT} {te:TE} {σ:St} {Q:VK} {H1:Hp} (P:Nat->List V->Hp->Prop) (h0:P 0 [] H1) (hl:∀ i ys H,i<=xs.length->P i ys H->SqL K H a xs/\ys.length<=i) (hz:xs.length < sizeLine)
  (hs:∀ i x ys H (os:St),os.length=k->xs[i]?=some x->P i ys H->g x (os++qW js σ) H fun σ3 H3=>tc σ3 H3 fun b H2=>if b=true then te σ3 H2 fun v H3=>eE P i k js σ σ3 (ys++[v]) H3 else eE P i k js σ σ3 ys H2)
  (hd:∀ ys H,P xs.length ys H->∀ p,H p=none->Q (.ref p) (upd H p (.lst ys))) :
  eF (Itl K a) k js g tc te σ Q H1:=by
 refine⟨fun i m σ' ys H=>m=xs.length - i/\i<=xs.length/\P i ys H/\∃ os:St,os.length=k/\σ'=os++qW js σ,⟨xs.length,by simp,Nat.zero_le _,h0,List.replicate k none,List.length_replicate,rfl⟩,?_⟩
 rintro i m σ' ys H ⟨rfl,hi,p,os,ho,rfl⟩
 obtain⟨q,hy⟩:=hl i ys H hi p
 by_cases hlt:i < xs.length
 ·refine .inr ⟨⟨xs,xs[i],q,by simp [hlt]⟩,by omega,eE P i k js σ,fun σ3 zs H3 z=>⟨xs.length - (i + 1),by omega,rfl,hlt,z.1,z.2⟩,fun x H' y=>?_⟩
  obtain⟨e,y⟩:=y
  subst e
  exact hs i x ys _ os ho (y xs q) p
 ·have e:i=xs.length:=by omega
  subst e
  exact .inl ⟨⟨xs,q,Nat.le_refl _⟩,hd ys H p⟩
def But (l:Addr) (H H':Hp):Prop:=∀ b o,b ≠ l->H b=some o->H' b=some o
theorem But.trans {l:Addr} {H H1 H2:Hp} (a:But l H H1) (b:But l H1 H2):But l H H2:=fun x o n q=>b x o n (a x o n q)
theorem But.refl {l:Addr} {H:Hp} : But l H H:=fun _ _ _ q=>q
theorem But.of {l:Addr} {H H':Hp} (g:jI H H'):But l H H':=fun x o _ q=>g x o q
theorem But.same {l:Addr} {H H':Hp} (a:But l H H') (h:H l=none):jI H H':=fun x o q=>a x o (jL q h) q
theorem But.upd {l:Addr} {H:Hp} {o:HO} : But l H (upd H l o):=fun x u n q=>by rw [jS n];exact q
theorem But.tup {K:Frag} {l:Addr} {H H':Hp} {zs:List V} (e:But l H H') (hl:H l=some (.lst zs)) {a:Addr} {xs:List V} (h:SqT K H a xs):SqT K H' a xs:=by
 rcases h with (h|⟨o,h⟩)|h
 ·exact .inl (.inl (e _ _ (gI h hl (by intro z;cases z)) h))
 ·exact .inl (.inr ⟨o,e _ _ (gI h hl (by intro z;cases z)) h⟩)
 ·exact .inr h
end L2
namespace L2
open PySem
def Xc (h:Heap) (e C:Addr) (dx:Option Addr) (T:Addr) (fl:Option Value):Prop :=
 ∃ oe vs,h.get? e=some oe/\oe.cls=.ref C/\oe.dict=dx/\oe.data=.fields vs/\1 < vs.size ∧
  ((fl=none/\T=e/\vs[1]?=some .none)\/∃ oT ts v,fl=some v/\T ≠ e/\vs[1]?=some (.ref T)/\h.get? T=some oT/\oT.data=.fields ts/\ts[3]?=some v)
def Mv (S:List Addr) (e T:Addr) (h h':Heap):Prop :=
 ∀ b o,h.get? b=some o->b ≠ e->b ≠ T->(b ∉ S->h'.get? b=some o)/\∃ sl,h'.get? b=some { o with slots:=sl }
theorem Mv.refl (S:List Addr) (e T:Addr) (h:Heap):Mv S e T h h:=fun b o q _ _=>⟨fun _=>q,o.slots,q⟩
theorem Mv.ff {S:List Addr} {e T:Addr} {h h' base:Heap} {l:List Env} (m:Mv S e T h h') (ff:h.FunFrames base l) (he:∀ o,h.get? e=some o->∃ vs,o.data=.fields vs) (hT:∀ o,h.get? T=some o->∃ vs,o.data=.fields vs):h'.FunFrames base l :=
 ff.of_keeps fun b o q nf=>by
  obtain⟨_,sl,q'⟩:=m b o q (fun z=>by subst z;obtain⟨vs,z⟩:=he o q;exact nf vs z) (fun z=>by subst z;obtain⟨vs,z⟩:=hT o q;exact nf vs z)
  exact⟨_,q',rfl⟩
theorem Xc.fe {h:Heap} {e C:Addr} {dx:Option Addr} {T:Addr} {fl:Option Value} (x:Xc h e C dx T fl):∀ o,h.get? e=some o->∃ vs,o.data=.fields vs:=fun o q=>by
 obtain⟨oe,vs,he,_,_,hd,_⟩:=x
 rw [he] at q;cases q;exact⟨vs,hd⟩
theorem Xc.fT {h:Heap} {e C:Addr} {dx:Option Addr} {T:Addr} {fl:Option Value} (x:Xc h e C dx T fl):∀ o,h.get? T=some o->∃ vs,o.data=.fields vs:=fun o q=>by
 have fe:=x.fe
 obtain⟨oe,vs,he,_,_,hd,_,⟨_,rfl,_⟩|⟨oT,ts,v,_,_,_,hT,hd',_⟩⟩:=x
 ·exact fe o q
 ·rw [hT] at q;cases q;exact⟨ts,hd'⟩
theorem mS (o:Obj) (f:Array Value->Array Value):(o.mapFields f).dict=o.dict:=by
 obtain⟨c,d,dt,sl⟩:=o
 cases dt <;> rfl
section
variable {M:Model} {A:Around} {E:Value->Shared->Prop} {s:Shared} {base:Heap} {env:Env} {outer:List Env} {L e C:Addr} {dx:Option Addr} {T:Addr} {fl:Option Value} {Q:Unit->Shared->Prop}
theorem sT {s1:Shared} {oe:Obj} {vs:Array Value} {head:Value} {had:Bool} (hA:A.frames=some (env::outer)) (hL:env.frame=some L) (ff:s1.heap.FunFrames base (env::outer))
  (he:s1.heap.get? e=some oe) (hc:oe.cls=.ref C) (hx:oe.dict=dx) (hd:oe.data=.fields vs) (h1 : 1 < vs.size)
  (hQ:∀ h' T',s1.heap.get? T'=none->s1.heap.objs.size<=T'->Xc h' e C dx T' (some (rawInt L))->Mv ((env::outer).filterMap (·.frame)) e e s1.heap h'->Q () { s1 with heap:=h' }) :
  wpAny M A (do let a ← frameOf env;let pl ← entryPlaceOf L had;let b ← EntryCells.newEntry head a .none (rawInt L) .none pl;setField (.ref e) 1 b) Q E s1:=by
 have nfr:e ∉ (env::outer).filterMap (·.frame):=fun z=>by
  obtain⟨_,o,q,nf⟩:=ff.mem z
  rw [he] at q;cases q;exact nf vs hd
 refine wpAny_bind (wpAny_frameOf_fun hA ff hL fun g so=>wpAny_bind (wpAny_entryPlaceOf fun pl isp=>?_))
 unfold EntryCells.newEntry newFields
 refine wpAny_bind (wpAny_newObj_type ?_ (isp.sizeOk5 _ _ _ _ _))
 have e1:g.get? e=some oe:=(so.2.1 e nfr).trans he
 generalize hob:({ cls:=.type "traceback",dict:=none,data:=.fields ([head,.ref L,.none,rawInt L,.none]++(if pl.isEmpty then List.replicate 6 Value.none else pl)).toArray } : Obj)=ob
 have e2:=Heap.get?_push_of_some ob e1
 refine wpAny_setField e2 hd h1 ?_
 have nT:g.objs.size ≠ e:=Nat.ne_of_gt (Heap.lt_size e1)
 have d3:=Obj.data_mapFields hd (·.setIfInBounds 1 (Value.ref g.objs.size))
 have e3:=Heap.get?_update_self (Obj.mapFields (·.setIfInBounds 1 (Value.ref g.objs.size))) e2 (Obj.isFreed_of_fields d3)
 have t3:((g.push ob).update e (Obj.mapFields (·.setIfInBounds 1 (Value.ref g.objs.size)))).get? g.objs.size=some ob :=
  (Heap.get?_update_other _ _ (Ne.symm nT)).trans (Heap.get?_push_size g (by rw [← hob];rfl))
 refine hQ _ g.objs.size (Heap.get?_none_of_le (by rw [so.1];exact Nat.le_refl _)) (by rw [so.1];exact Nat.le_refl _) ⟨_,_,e3,(Obj.cls_mapFields _ _).trans hc,(mS _ _).trans hx,d3,by simpa using h1,.inr ⟨ob,_,rawInt L,rfl,nT,by simp [h1],t3,by rw [← hob],?_⟩⟩ fun b o q ne _=>?_
 ·first
   | (simp;done)
   | (rcases isp with rfl|⟨_,_,_,_,_,_,_,rfl⟩ <;> simp)
 ·have keep:∀ u,g.get? b=some u->((g.push ob).update e (Obj.mapFields (·.setIfInBounds 1 (Value.ref g.objs.size)))).get? b=some u:=fun u z=>by
   rw [Heap.get?_update_other _ _ (Ne.symm ne)]
   exact Heap.get?_push_of_some _ z
  exact⟨fun nb=>keep _ ((so.2.1 b nb).trans q),let ⟨sl,z⟩:=so.2.2 b o q; ⟨sl,keep _ z⟩⟩
theorem aBe (hA:A.frames=some (env::outer)) (hL:env.frame=some L) (ff:s.heap.FunFrames base (env::outer)) (x:Xc s.heap e C dx T fl) (hf:fl=none\/fl=some .none\/fl=some (rawInt L))
  (hQ:∀ h' T',(T'=T\/s.heap.objs.size<=T')->Xc h' e C dx T' (some (rawInt L))->Mv ((env::outer).filterMap (·.frame)) e T s.heap h'->Q () { s with heap:=h' }) :
  wpAny M A (noteFrame (.ref e) env) Q E s:=by
 have x0:=x
 obtain⟨oe,vs,he,hc,hx,hd,h1,ht⟩:=x
 unfold noteFrame
 simp only [hL]
 rcases ht with⟨rfl,rfl,hv⟩|⟨oT,ts,v,rfl,nT,hv,hT,hdT,h3⟩
 ·refine wpAny_bind (wpAny_field he hd hv ?_)
  rw [if_neg (by decide)]
  exact sT hA hL ff he hc hx hd h1 fun h' T' _ q2 q3 q4=>hQ h' T' (.inr q2) q3 q4
 ·refine wpAny_bind (wpAny_field he hd hv ?_)
  rw [if_pos (show (Value.ref T != Value.none)=true from by simp)]
  refine wpAny_bind (wpAny_field hT hdT h3 ?_)
  by_cases hvL:v=rawInt L
  ·subst hvL
   rw [if_pos (show (rawInt L == rawInt L)=true from by simp)]
   exact wpAny_pure (hQ s.heap T (.inl rfl) x0 (Mv.refl _ _ _ _))
  ·have hv0:v=.none:=by
    rcases hf with z|z|z
    ·cases z
    ·exact Option.some.inj z
    ·exact absurd (Option.some.inj z) hvL
   subst hv0
   rw [if_neg (show ¬ ((Value.none == rawInt L)=true) from by simp [rawInt])]
   refine wpAny_bind (wpAny_setField hT hdT (Array.getElem?_eq_some_iff.mp h3).1 ?_)
   have oth:∀ b,b ≠ T->(s.heap.update T (Obj.mapFields (·.setIfInBounds 3 Value.none))).get? b=s.heap.get? b:=fun b hb=>Heap.get?_update_other _ _ (Ne.symm hb)
   have mv:Mv ((env::outer).filterMap (·.frame)) e T s.heap (s.heap.update T (Obj.mapFields (·.setIfInBounds 3 Value.none))):=fun b o q _ nb=>⟨fun _=>(oth b nb).trans q,o.slots,(oth b nb).trans q⟩
   refine sT (s1:={ s with heap:=s.heap.update T (Obj.mapFields (·.setIfInBounds 3 Value.none)) }) hA hL (mv.ff ff x0.fe x0.fT) ((oth e (Ne.symm nT)).trans he) hc hx hd h1 fun h' T' q1 q2 q3 q4=>hQ h' T' (.inr ?_) q3 fun b o q ne nb=>?_
   ·have:(s.heap.update T (Obj.mapFields (·.setIfInBounds 3 Value.none))).objs.size=s.heap.objs.size:=Heap.size_after_update ..
    rw [← this];exact q2
   ·exact q4 b o ((oth b nb).trans q) ne ne
theorem fO {v:Value} {fr:Option Addr} (x:Xc s.heap e C dx T (some v))
  (hQ:∀ h',Xc h' e C dx T (some (fr.elim .none fun f=>rawInt f))->Mv [] e T s.heap h'->Q () { s with heap:=h' }):wpAny M A (setFlight (.ref e) fr) Q E s:=by
 obtain⟨oe,vs,he,hc,hx,hd,h1,⟨z,_⟩|⟨oT,ts,v',_,nT,hv,hT,hdT,h3⟩⟩:=x
 ·cases z
 have hsz:=(Array.getElem?_eq_some_iff.mp h3).1
 unfold setFlight
 refine wpAny_bind (wpAny_field he hd hv ?_)
 rw [if_pos (show (Value.ref T != Value.none)=true from by simp)]
 refine wpAny_setField hT hdT hsz (hQ _ ?_ fun b o q _ nb=>?_)
 ·exact⟨oe,vs,(Heap.get?_update_other _ _ nT).trans he,hc,hx,hd,h1,.inr ⟨_,_,_,rfl,nT,hv,Heap.get?_update_self _ hT (Obj.isFreed_of_fields (Obj.data_mapFields hdT _)),Obj.data_mapFields hdT _,by simp [hsz]⟩⟩
 ·have:=(Heap.get?_update_other s.heap (Obj.mapFields (·.setIfInBounds 3 (fr.elim Value.none fun f=>rawInt f))) (Ne.symm nb)).trans q
  exact⟨fun _=>this,o.slots,this⟩
theorem Mv.trans {S S':List Addr} {e T T':Addr} {h h1 h2:Heap} (a:Mv S e T h h1) (b:Mv S' e T' h1 h2) (hT:T'=T\/h.get? T'=none) (hS:∀ x ∈ S',x ∈ S):Mv S e T h h2:=fun c o q ne nT=>by
 obtain⟨k1,sl,k2⟩:=a c o q ne nT
 have nT':c ≠ T':=fun z=>by
  rcases hT with y|y
  ·exact nT (z.trans y)
  ·rw [← z,q] at y;cases y
 refine⟨fun nS=>(b c o (k1 nS) ne nT').1 fun z=>nS (hS c z),?_⟩
 obtain⟨_,sl',k3⟩:=b c _ k2 ne nT'
 exact⟨sl',k3⟩
theorem aFm (hA:A.frames=some (env::outer)) (hL:env.frame=some L) (ff:s.heap.FunFrames base (env::outer)) (x:Xc s.heap e C dx T fl) (hf:fl=none\/fl=some .none\/fl=some (rawInt L))
  (hQ:∀ h' T',(T'=T\/s.heap.objs.size<=T')->Xc h' e C dx T' (some .none)->Mv ((env::outer).filterMap (·.frame)) e T s.heap h'->Q () { s with heap:=h' }) :
  wpAny M A (leaving env (.ref e)) Q E s:=by
 unfold leaving
 refine wpAny_bind (aBe hA hL ff x hf fun h1 T1 q1 x1 m1=>fO x1 fun h2 x2 m2=>hQ h2 T1 q1 x2 (m1.trans m2 ?_ (by simp)))
 exact q1.imp id fun z=>Heap.get?_none_of_le z
end
structure xP (bm:List Value):Prop where
 v:bm.contains (.type "ValueError")=true
 b:bm.contains (.type "BaseException")=true
 a:bm.contains (.type "AttributeError")=false
 n:bm.contains (.type "NameError")=false
section
variable {prog:Program} {w:World} {M:Model} {A:Around} {E:Value->Shared->Prop} {h:Heap} {g:Array GenState} {d:Drawn} {t:Nat} {os:OsState}
 {nm qn:Str} {C N:Addr} {bs bm:List Value} {hdct:Bool} {sn:List Str} {sub:List Value} {ab:Bool} {col:Option Bool} {dd:Option Addr} {k0 k1 k2 k3 k5:Option Value}
abbrev fS (nm qn:Str) (C N:Addr) (bs bm:List Value) (hdct:Bool) (sn:List Str) (sub:List Value) (ab:Bool) (col:Option Bool) (dd:Option Addr) (k0 k1 k2 k3 k5:Option Value):Obj :=
 excClassObj nm qn C N bs bm hdct sn sub ab col dd k0 k1 k2 k3 k5 "ValueError.__new__"
theorem xP.cv (x:xP bm):(Value.ref C::bm).contains (.type "ValueError")=true:=by rw [List.contains_cons,x.v,Bool.or_true]
theorem xP.cb (x:xP bm):(Value.ref C::bm).contains (.type "BaseException")=true:=by rw [List.contains_cons,x.b,Bool.or_true]
theorem xP.ca (x:xP bm):(Value.ref C::bm).contains (.type "AttributeError")=false:=by rw [List.contains_cons,x.a];rfl
theorem xP.cn (x:xP bm):(Value.ref C::bm).contains (.type "NameError")=false:=by rw [List.contains_cons,x.n];rfl
theorem wF (x:xP bm) {rest:List Value} {Q:Unit->Shared->Prop} (hC:h.get? C=some (fS nm qn C N bs bm hdct sn sub ab col dd k0 k1 k2 k3 k5)) (hq:Q () ⟨h,g,d,t,os⟩) :
  wpAny M A (checkBuiltinCall "ValueError.__new__" ⟨.ref C::rest,[]⟩) Q E ⟨h,g,d,t,os⟩:=by
 have c1:=x.cv (C:=C)
 have B:=PySem.F.excBase_ValueError
 have c2:=B.noStar
 simp only [checkBuiltinCall,B.newSplit,B.newKind,B.newRow]
 repeat (first
  | refine wpAny_loadPart_at hC ?_
  | (refine wpAny_isSubtype_exc hC ?_;rw [c1])
  | refine wpAny_madeBy_exc hC ?_
  | refine wpAny_staticBase_exc hC ?_
  | simp only [bne_self_eq_false,if_false,Bool.false_eq_true]
  | wp_step)
 exact hq
theorem aFb (x:xP bm) {rest:List Value} {R:Result->Shared->Prop} (hC:h.get? C=some (fS nm qn C N bs bm hdct sn sub ab col dd k0 k1 k2 k3 k5)) (hz:rest.length<=sizeLine)
  (hq:R (.ok (.ret (.ref (h.objs.size + 1)))) ⟨(h.push { cls:=.type "tuple",data:=.seq rest.toArray }).push { cls:=.ref C,data:=.fields #[.ref h.objs.size,.none,.none,.none,.bool false,.none] },g,d,t,os⟩) :
  codeAny (model prog w) A (.builtin "ValueError.__new__" ⟨.ref C::rest,[]⟩) R ⟨h,g,d,t,os⟩:=by
 have B:=PySem.F.excBase_ValueError
 have c0:=B.ends
 have c1:=x.cv (C:=C)
 have c2:=x.ca (C:=C)
 have c3:=x.cn (C:=C)
 refine codeAny_builtinAt B.entry ?_
 unfold Builtin.«BaseException.__new__»
 refine wpAt_bind ?_
 show wpAt _ _ _ (stack >>= _) _ _ _
 refine wpAt_bind (wpAt_stack fun p below=>wpAt_of_wpAny ?_)
 wp_walk
 refine wpAt_of_wpAny ?_
 rw [B.owner]
 repeat (first
  | with_reducible refine wpAny_loadPart_at hC ?_
  | with_reducible refine wpAny_madeHere_exc B.canon hC ?_
  | (with_reducible refine wpAny_isSubtype_exc hC ?_;first|rw [c1]|rw [c2]|rw [c3])
  | wp_step)
 show R _ _
 rw [Heap.size_push]
 exact hq
theorem wN (x:xP bm) {mN:Str->Option Value} {rest:List Value} {fI:Addr} {oI:Obj} {Q:Fin->Shared->Prop} (hC:h.get? C=some (fS nm qn C N bs bm hdct sn sub ab col dd k0 k1 k2 k3 k5))
  (hn:h.Ns N mN) (hi:mN "__init__" = some (.ref fI)) (hf:h.get? fI=some oI) (hfc:oI.cls=.type "function") (hz:rest.length<=sizeLine)
  (hq:∀ h' e,Heap.MadeExcOf h h' e (.ref C) rest->h.objs.size<=e->wpAny (model prog w) A (call (.ref fI) (.ref e::rest)) (fun r s'=>r=.none/\Q (.done (.ret (.ref e))) s') E ⟨h',g,d,t,os⟩) :
  wpAny (model prog w) A (Builtin.«type.__call__» ⟨.ref C::rest,[]⟩) Q E ⟨h,g,d,t,os⟩:=by
 repeat (first
  | with_reducible refine wpAny_madeBy_exc hC ?_
  | with_reducible refine wpAny_loadPart_at hC ?_
  | wp_step)
 have B:=PySem.F.excBase_ValueError
 refine codeAny_call_builtin_code (Code.quiet_builtin _ B.quiet) (wF x hC (aFb x hC hz ?_))
 show wpAny _ _ _ _ _ _
 generalize htu:({ cls:=.type "tuple",data:=.seq rest.toArray } : Obj)=otu
 generalize hex:({ cls:=.ref C,data:=.fields #[.ref h.objs.size,.none,.none,.none,.bool false,.none] } : Obj)=oex
 have kp:∀ b o,h.get? b=some o->((h.push otu).push oex).get? b=some o:=fun b o z=>Heap.get?_push_of_some _ (Heap.get?_push_of_some _ z)
 have ge:((h.push otu).push oex).get? (h.objs.size + 1)=some oex:=by
  have:=Heap.get?_push_size (h.push otu) (o:=oex) (by rw [← hex];rfl)
  rwa [Heap.size_push] at this
 have gt:((h.push otu).push oex).get? h.objs.size=some otu:=Heap.get?_push_of_some _ (Heap.get?_push_size h (by rw [← htu];rfl))
 have oc:oex.cls=.ref C:=by rw [← hex]
 have hC1:=kp _ _ hC
 have hn1:((h.push otu).push oex).Ns N mN:=let ⟨o,es,ep,z,r⟩:=hn; ⟨o,es,ep,kp _ _ z,r⟩
 have c0:(Value.ref C::bm).contains (.ref C)=true:=by simp
 unfold isInstance
 repeat (first
  | (with_reducible refine wpAny_loadPart_at ge ?_;rw [oc])
  | (with_reducible refine wpAny_isSubtype_exc hC1 ?_;rw [c0])
  | wp_step)
 show wpAny _ _ (typeLookup (.ref C) _) _ _ _
 rw [typeLookup_eq]
 refine wpAny_bind (wpAny_mroOf_exc hC1 ?_)
 rw [lookupAlong_cons]
 refine wpAny_bind (wpAny_classOwn_exc hC1 hn1 ?_)
 rw [hi]
 refine wpAny_pure (wpAny_holding (wpAny_bind ?_))
 unfold bindSpecial
 refine wpAny_bind (wpAny_typeOf (T:="function") ⟨_,kp _ _ hf,hfc⟩ ?_)
 rw [if_pos (by decide)]
 refine wpAny_pure (wpAny_bind (wpAny_mono (hq _ (h.objs.size + 1) ⟨kp,Heap.get?_none_of_le (Nat.le_succ _),h.objs.size,by rw [ge,← hex],Heap.get?_none_of_le (Nat.le_refl _),by rw [gt,← htu]⟩ (Nat.le_succ _)) (fun r s' z=>?_) fun _ _ y=>y))
 obtain⟨rfl,z⟩:=z
 wp_walk
 exact z
theorem xmake (x:xP bm) {mN:Str->Option Value} {rest:List Value} {fI:Addr} {oI:Obj} {Q:Value->Shared->Prop} (hC:h.get? C=some (fS nm qn C N bs bm hdct sn sub ab col dd k0 k1 k2 k3 k5))
  (hn:h.Ns N mN) (hi:mN "__init__" = some (.ref fI)) (hf:h.get? fI=some oI) (hfc:oI.cls=.type "function") (hz:rest.length<=sizeLine)
  (hq:∀ h' e,Heap.MadeExcOf h h' e (.ref C) rest->h.objs.size<=e->wpAny (model prog w) (A.under (.builtin "type.__call__" ⟨.ref C::rest,[]⟩)) (call (.ref fI) (.ref e::rest)) (fun r s'=>r=.none/\Q (.ref e) s') E ⟨h',g,d,t,os⟩) :
  wpAny (model prog w) A (call (.ref C) rest) Q E ⟨h,g,d,t,os⟩:=by
 have b1:=tc_lookup
 have b2:=tc_bind (.ref C)
 have b3:(⟨h,g,d,t,os⟩ : Shared).TypeIs (.ref C) "type":=⟨_,hC,rfl⟩
 refine wpAny_call (codeAny_of_tree ?_)
 show wpAny _ _ (callAny (.ref C) _) _ _ _
 repeat (any_goals (first|assumption|with_reducible refine wpAny_loadPart_at hC ?_|wp_step))
 refine⟨rfl,codeAny_call_builtin_at (Code.quiet_builtin _ (by decide +kernel)) entry_typeCall (wpAny_check_type_call_sub hC (wN x hC hn hi hf hfc hz hq))⟩
theorem aKu {s:Shared} {env:Env} {x:Sem Value} {Q:Flow->Shared->Prop} (hh:A.handled=none)
  (hx:wpAny M A x (fun v s1=>∃ (e C N:Addr) (nm qn:Str) (bs bm:List Value) (hdct:Bool) (sn:List Str) (sub:List Value) (ab:Bool) (col:Option Bool) (dd:Option Addr) (k0 k1 k2 k3 k5:Option Value) (dx:Option Addr) (vs:Array Value) (sl:Array (Option Value)),
   v=.ref e/\xP bm/\s1.heap.get? C=some (fS nm qn C N bs bm hdct sn sub ab col dd k0 k1 k2 k3 k5)/\s1.heap.get? e=some ⟨.ref C,dx,.fields vs,sl⟩/\vs[1]?=some .none/\E (.ref e) s1) E s) :
  wpAny M A (raiseStmt env (some x) none) Q E s:=by
 unfold raiseStmt
 refine wpAny_bind (wpAny_mono hx (fun v s1 z=>?_) fun _ _ y=>y)
 obtain⟨e,C,N,nm,qn,bs,bm,hdct,sn,sub,ab,col,dd,k0,k1,k2,k3,k5,dx,vs,sl,rfl,xt,hC,he,hv,hE⟩:=z
 have c1:=xt.cb (C:=C)
 obtain⟨hp,g,d,tk,os⟩:=s1
 repeat (first
  | with_reducible refine wpAny_loadPart_at he ?_
  | with_reducible refine wpAny_loadPart_at hC ?_
  | with_reducible refine wpAny_field he rfl hv ?_
  | (with_reducible refine wpAny_isSubtype_exc hC ?_;rw [c1])
  | wp_step)
 exact wpAny_raiseNew_none hh hE
theorem aJs {s:Shared} {env:Env} {x:Expr} {pos:Pos} {Q:Flow->Shared->Prop} (hh:A.handled=none)
  (hx:wpAny M A (eval x env) (fun v s1=>∃ (e C N:Addr) (nm qn:Str) (bs bm:List Value) (hdct:Bool) (sn:List Str) (sub:List Value) (ab:Bool) (col:Option Bool) (dd:Option Addr) (k0 k1 k2 k3 k5:Option Value) (dx:Option Addr) (vs:Array Value) (sl:Array (Option Value)),
   v=.ref e/\xP bm/\s1.heap.get? C=some (fS nm qn C N bs bm hdct sn sub ab col dd k0 k1 k2 k3 k5)/\s1.heap.get? e=some ⟨.ref C,dx,.fields vs,sl⟩/\vs[1]?=some .none/\E (.ref e) s1) E s) :
  wpAny M A (exec (.Raise (some x) none pos) env) Q E s:=by
 rw [arm_exec_Raise]
 have key:=aKu (Q:=Q) (env:=env) (x:=do let v ← eval x env;standAt pos;pure v) hh (wpAny_bind (wpAny_mono hx (fun v s1 z=>wpAny_bind (wpAny_standAt (wpAny_pure z))) fun _ _ y=>y))
 first
  | exact wpAny_bind (wpAny_standAt key)
  | (simp only [evalOpt,Option.map];exact wpAny_bind (wpAny_standAt key))
theorem sF (x:xP bm) {e:Addr} {oe:Obj} {rest:List Value} {Q:Unit->Shared->Prop} (hC:h.get? C=some (fS nm qn C N bs bm hdct sn sub ab col dd k0 k1 k2 k3 k5)) (he:h.get? e=some oe) (oc:oe.cls=.ref C)
  (hq:Q () ⟨h,g,d,t,os⟩):wpAny M A (checkBuiltinCall "ValueError.__init__" ⟨.ref e::rest,[]⟩) Q E ⟨h,g,d,t,os⟩:=by
 have c1:=x.cv (C:=C)
 have B:=PySem.F.excBase_ValueError
 have c2:=B.noStar
 simp only [checkBuiltinCall,B.initSplit,B.initKind,B.initRow]
 repeat (first
  | with_reducible refine wpAny_loadPart_at hC ?_
  | (with_reducible refine wpAny_loadPart_at he ?_;rw [oc])
  | (with_reducible refine wpAny_isSubtype_exc hC ?_;rw [c1])
  | wp_step)
 refine wpAny_onRaise ?_
 rw [show ∀ (a b:String) (n:Nat),Bind.check ⟨.positional,"*","ValueError",.self,[⟨"args",.varPos,false⟩]⟩ a b n (List.map (fun y=>y.fst) ({ pos:=Value.ref e::rest } : Args).kw)=pure () from fun a b n=>check_star_args _ _ _ _ _ _]
 exact wpAny_pure hq
theorem xinit (x:xP bm) {e:Addr} {oe:Obj} {vs:Array Value} {v:Value} {Q:Value->Shared->Prop} (hC:h.get? C=some (fS nm qn C N bs bm hdct sn sub ab col dd k0 k1 k2 k3 k5)) (he:h.get? e=some oe) (oc:oe.cls=.ref C)
  (hd:oe.data=.fields vs) (h1 : 1 < vs.size)
  (hq:∀ h' oe' vs',(∀ b o,b ≠ e->h.get? b=some o->h'.get? b=some o)->h'.get? e=some oe'->oe'.cls=oe.cls->oe'.dict=oe.dict->oe'.data=.fields vs'->vs'.size=vs.size->vs'[1]?=vs[1]?->Q .none ⟨h',g,d,t,os⟩) :
  wpAny (model prog w) A (call (.builtin "ValueError.__init__") [.ref e,v]) Q E ⟨h,g,d,t,os⟩:=by
 have B:=PySem.F.excBase_ValueError
 refine wpAny_call (codeAny_call_builtin B.init.plain B.initEntry (sF x hC he oc ?_))
 obtain⟨c,dx,dt,sl⟩:=oe
 cases hd
 wp_walk
 have h0:vs[0]?=some vs[0]:=by simp
 rw [h0]
 refine wpAny_pure (wpAny_bind (wpAny_setField (Heap.get?_push_of_some _ he) rfl (by omega) ?_))
 have e2:=Heap.get?_push_of_some { cls:=Value.type "tuple",data:=Data.seq #[v] } he
 have fin:=hq _ _ _ (fun b o nb z=>(Heap.get?_update_other (h.push { cls:=Value.type "tuple",data:=Data.seq #[v] }) (Obj.mapFields (·.setIfInBounds 0 (Value.ref h.objs.size))) (Ne.symm nb)).trans (Heap.get?_push_of_some _ z))
  (Heap.get?_update_self (Obj.mapFields (·.setIfInBounds 0 (Value.ref h.objs.size))) e2 rfl) rfl rfl rfl (by simp) (by simp)
 generalize vs[0]=a0
 cases a0 <;> first
  | exact wpAny_pure (wpAny_pure fin)
  | exact wpAny_letGo (wpAny_pure fin)
theorem aIw {e Cn:Addr} {oe:Obj} {b:Bool} {Q:Bool->Shared->Prop} {nm1 q1 nm2 q2:Str} {N1 N2:Addr} {bs1 bm1 bs2 bm2:List Value} {hd1 hd2:Bool} {sn1 sn2:List Str} {sub1 sub2:List Value} {ab1 ab2:Bool} {co1 co2:Option Bool} {dd1 dd2:Option Addr}
  {j0 j1 j2 j3 j5 l0 l1 l2 l3 l5:Option Value} {ni1 ni2:String} (hC:h.get? C=some (excClassObj nm1 q1 C N1 bs1 bm1 hd1 sn1 sub1 ab1 co1 dd1 j0 j1 j2 j3 j5 ni1)) (hD:h.get? Cn=some (excClassObj nm2 q2 Cn N2 bs2 bm2 hd2 sn2 sub2 ab2 co2 dd2 l0 l1 l2 l3 l5 ni2))
  (hb:bm2.contains (.type "BaseException")=true) (he:h.get? e=some oe) (oc:oe.cls=.ref C) (hs:(Value.ref C::bm1).contains (.ref Cn)=b) (hq:Q b ⟨h,g,d,t,os⟩):wpAny M A (excMatches (.ref e) (.ref Cn)) Q E ⟨h,g,d,t,os⟩:=by
 have c1:(Value.ref Cn::bm2).contains (.type "BaseException")=true:=by rw [List.contains_cons,hb,Bool.or_true]
 have c2:=tc_notTuple
 unfold excMatches
 repeat (first
  | with_reducible refine wpAny_loadPart_at hD ?_
  | (with_reducible refine wpAny_loadPart_at he ?_;rw [oc])
  | (with_reducible refine wpAny_isSubtype_exc hD ?_;rw [c1])
  | (with_reducible refine wpAny_isSubtype_exc hC ?_;rw [hs])
  | wp_step)
 cases b <;> (wp_walk;exact hq)
end
end L2
namespace L2
open PySem PyProof.Rows
abbrev VB:List Value:=[.type "ValueError",.type "Exception",.type "BaseException",.type "object"]
structure cR (K:Frag) (C R fI:Addr):Prop where
 obj:∃ (nm qn:Str) (N:Addr) (bs:List Value) (sn:List Str) (sub:List Value) (ab:Bool) (col:Option Bool) (dd:Option Addr) (k0 k1 k2 k3 k5:Option Value),
  K.lookup C=some (fS nm qn C N bs (.ref R::VB) true sn sub ab col dd k0 k1 k2 k3 k5)/\PySem.W.nsOkIn K N=true/\nsIn K N "__init__" = some (some (.ref fI))
 fn:isFn K (.ref fI)=true
 kp:keepIn K (.ref C)=true
 sa:findIn K (.ref C) "__setattr__" = some (some (.builtin "object.__setattr__"))
 ga:findIn K (.ref C) "__getattribute__" = some (some (.builtin "BaseException.__getattribute__"))
 gh:findIn K (.ref C) "__getattr__" = some none
theorem aEd (R:Addr):xP (.ref R::VB):=⟨rfl,rfl,rfl,rfl⟩
theorem uF {K:Frag} {h:Heap} {N:Addr} {m:Str->Option Value} {n:Str} {v:Value} (X:K.In h) (G:h.Ns N m) (e:nsIn K N n=some (some v)):m n=some v:=by
 obtain⟨o,es,ep,ho,hd,_,hf⟩:=G
 unfold nsIn at e
 cases q:K.lookup N with
 | none=>rw [q] at e;cases e
 | some o' =>
  have z:=X _ _ q
  rw [ho] at z;cases z
  rw [q] at e
  obtain⟨c,d,dt,sl⟩:=o
  cases hd
  rw [← hf]
  unfold nsFind findBy
  rw [← Array.find?_toList]
  dsimp only at e
  cases q2:es.toList.find? (fun x=>x.key.isStr n) with
  | some y =>
   rw [q2] at e
   exact congrArg (fun z:Option (Option Value)=>z.getD none) e
  | none =>
   rw [q2] at e
   dsimp only at e
   split at e <;> cases e
theorem cR.cls {K:Frag} {C R fI:Addr} (c:cR K C R fI) {h:Heap} (X:K.In h) :
  ∃ (nm qn:Str) (N:Addr) (bs:List Value) (sn:List Str) (sub:List Value) (ab:Bool) (col:Option Bool) (dd:Option Addr) (k0 k1 k2 k3 k5:Option Value) (mN:Str->Option Value) (oI:Obj),
   h.get? C=some (fS nm qn C N bs (.ref R::VB) true sn sub ab col dd k0 k1 k2 k3 k5)/\h.Ns N mN/\mN "__init__" = some (.ref fI)/\h.get? fI=some oI/\oI.cls=.type "function":=by
 obtain⟨nm,qn,N,bs,sn,sub,ab,col,dd,k0,k1,k2,k3,k5,lk,nsok,nsi⟩:=c.obj
 have hN:=Heap.Ns.of_isNs (PySem.W.isNs_of_in X nsok)
 have hf:=c.fn
 unfold isFn PySem.W.typeIn at hf
 have hf':=beq_iff_eq.mp hf
 obtain⟨oI,q,r⟩:=Option.map_eq_some_iff.mp hf'
 exact⟨nm,qn,N,bs,sn,sub,ab,col,dd,k0,k1,k2,k3,k5,_,oI,X _ _ lk,hN,uF X hN nsi,X _ _ q,r⟩
section
variable {prog:Program} {w:World} {A:Around} {E:Value->Shared->Prop} {s:Shared} {K:Frag} {e C R fI:Addr} {oe:Obj} {vs:Array Value} {name:Str} {v:Value}
theorem oO {od:Option Obj} (he:s.heap.get? e=some oe) (oc:oe.cls=.ref C) (hd:oe.data=.fields vs) (hx:match oe.dict,od with|some dx,some o=>s.heap.get? dx=some o|none,none=>True|_,_=>False):PySem.W.InstAt s.heap e oe C od :=
 ⟨he,oc,by unfold PySem.W.notCls;rw [hd],hx⟩
theorem cR.clsIn (c:cR K C R fI):∃ cd,PySem.W.clsIn K C=some cd/\cd.mro=.ref C :: .ref R::VB/\cd.hasDict=true:=by
 obtain⟨nm,qn,N,bs,sn,sub,ab,col,dd,k0,k1,k2,k3,k5,lk,_⟩:=c.obj
 exact⟨_,by unfold PySem.W.clsIn;rw [lk],rfl,rfl⟩
theorem nO {od:Option Obj} {Q:Unit->Shared->Prop} (X:K.In s.heap) (c:cR K C R fI) (I:PySem.W.InstAt s.heap e oe C od) (hf:findIn K (.ref C) name=some none)
  (h:wpAny (model prog w) A.in1 (Builtin.ObjectAttr.storeInOwnDict (.ref e) (.ref C) (.str name s.toks) name v false)
   (fun fin s'=>match fin with | .done (.ret _)=>Q () s'|_=>False) (fun _ _=>False) { s with toks:=s.toks + 1 }) :
  wpAny (model prog w) A (setAttr (.ref e) name v) Q E s:=by
 have SF:=PySem.F.store_ValueError
 obtain⟨cd,hcd,hm,hh⟩:=c.clsIn
 refine PySem.W.set_plain X I c.sa ?_
 have mro:PySem.W.Looks (model prog w) s.heap (mroOf (.ref C)) (.ref C :: .ref R::VB):=hm ▸ (PySem.W.looks_clsIn X hcd).andThen .now
 have isO:PySem.W.Looks (model prog w) s.heap (isInstance (.ref e) (.type "object")) true:=I.type.andThen (PySem.W.looks_mroIn X (by
  unfold PySem.W.mroIn
  rw [hcd,Option.bind_some,hm,if_neg (by intro z;cases z)]
  rfl))
 refine codeAny_call_builtin SF.slot.plain SF.entry (@PySem.W.check_slot (model prog w) _ _ { s with toks:=s.toks + 1 } "object.__setattr__" "object" "__setattr__" (.ref e) [.str name s.toks,v] [] _ SF.kind SF.split isO (SF.args (.ref e) (.str name s.toks) v) ?_)
 rw [PySem.W.osa_eq,refuse_eq]
 refine wpAny_bind (wpAny_bind (PySem.W.Looks.here (s:={ s with toks:=s.toks + 1 }) I.type (wpAny_bind (PySem.W.Looks.here (s:={ s with toks:=s.toks + 1 }) mro ?_))))
 rw [refuseLoop_ref,refuseLoop_ref,SF.passes]
 refine wpAny_pure (wpAny_bind (PySem.W.Looks.here (s:={ s with toks:=s.toks + 1 }) I.type (wpAny_bind (PySem.W.Looks.here (s:={ s with toks:=s.toks + 1 }) (PySem.W.looks_findIn X hf) (wpAny_bind (wpAny_pure ?_))))))
 refine wpAny_mono h (fun fin s' z=>?_) fun _ _ z=>z.elim
 rcases fin with (_|_|_|_)|_ <;> first|exact z|exact z.elim
theorem wD {Q:Unit->Shared->Prop} (X:K.In s.heap) (c:cR K C R fI) (he:s.heap.get? e=some oe) (oc:oe.cls=.ref C) (hd:oe.data=.fields vs) (hx:oe.dict=none) (hf:findIn K (.ref C) name=some none)
  (h:∀ h' dx tk,s.heap.objs.size<=dx->dx ≠ e->h'.get? e=some { oe with dict:=some dx }->h'.Ns1 dx (fun y=>if y=name then some v else none)->(∀ b o,b ≠ e->s.heap.get? b=some o->h'.get? b=some o)->Q () { s with heap:=h',toks:=tk }) :
  wpAny (model prog w) A (setAttr (.ref e) name v) Q E s:=by
 obtain⟨cd,hcd,hm,hh⟩:=c.clsIn
 refine nO X c (oO (od:=none) he oc hd (by rw [hx];trivial)) hf ?_
 obtain⟨cc,dd,dt,sl⟩:=oe
 cases oc;cases hd;cases hx
 have ne:s.heap.objs.size ≠ e:=Nat.ne_of_gt (Heap.lt_size he)
 unfold Builtin.ObjectAttr.storeInOwnDict Builtin.ObjectAttr.ownDictForStores instanceDict
 refine wpAny_bind (wpAny_pure ?_)
 refine wpAny_bind (wpAny_bind (wpAny_loadPart he (wpAny_bind (PySem.W.Looks.here (s:={ s with toks:=s.toks + 1 }) (PySem.W.looks_clsIn X hcd) ?_))))
 rw [hh]
 refine wpAny_bind (wpAny_alloc ?_)
 have he1:=Heap.get?_push_of_some ({ cls:=.type "dict",data:=.dict #[] } : Obj) he
 refine wpAny_bind (wpAny_update he1 ?_)
 refine wpAny_pure (a:=some s.heap.objs.size) ?_
 have hg:((s.heap.push ({ cls:=.type "dict",data:=.dict #[] } : Obj)).update e fun o=>{ o with dict:=some s.heap.objs.size }).get? s.heap.objs.size=some ({ cls:=.type "dict",data:=.dict #[] } : Obj):=(Heap.get?_update_ne _ _ _ _ ne).trans (Heap.get?_push_at rfl rfl)
 have hE:((s.heap.push ({ cls:=.type "dict",data:=.dict #[] } : Obj)).update e fun o=>{ o with dict:=some s.heap.objs.size }).Ns s.heap.objs.size (fun _=>none):=⟨_,#[],_,hg,rfl,fun y hy=>absurd hy (by simp),fun _=>rfl⟩
 refine wpAny_bind (wpAny_pure (wpAny_bind (wpAny_nsSet1 (Heap.Ns1.of_empty hE) fun h' hn hs=>?_)))
 obtain⟨oD,esD,epD,hoD,hdD,hcD⟩:=hn.count (PySem.Within.cons name v PySem.Within.nil)
 refine wpAny_bind (wpAny_lookBehind hoD (by rw [hdD];exact pastItsLine_dict (Nat.le_trans hcD (by rw [List.length_cons,List.length_nil];omega))) ?_)
 refine wpAny_pure (h h' s.heap.objs.size _ (Nat.le_refl _) ne ((hs.2 _ (Ne.symm ne)).trans (Heap.get?_update_self _ he1 rfl)) hn fun b o hb q=>?_)
 exact (hs.2 b (Nat.ne_of_lt (Heap.lt_size q))).trans ((Heap.get?_update_ne _ _ _ _ hb).trans (Heap.get?_push_of_some _ q))
theorem aCl {dx:Addr} {mA:Str->Option Value} {ns:List Str} {Q:Unit->Shared->Prop} (X:K.In s.heap) (c:cR K C R fI) (he:s.heap.get? e=some oe) (oc:oe.cls=.ref C) (hd:oe.data=.fields vs) (hx:oe.dict=some dx) (hN:s.heap.Ns1 dx mA) (hw:PySem.Within mA ns) (hz:ns.length<=sizeLine) (hf:findIn K (.ref C) name=some none)
  (h:∀ h',h'.Ns1 dx (fun y=>if y=name then some v else mA y)->Heap.SameBut dx s.heap h'->Q () { s with heap:=h',toks:=s.toks + 2 }) :
  wpAny (model prog w) A (setAttr (.ref e) name v) Q E s:=by
 obtain⟨cd,hcd,hm,hh⟩:=c.clsIn
 obtain⟨o1,es1,ep1,ho1,_⟩:=id hN
 refine nO X c (oO (od:=some o1) he oc hd (by rw [hx];exact ho1)) hf ?_
 obtain⟨cc,dd,dt,sl⟩:=oe
 cases oc;cases hd;cases hx
 unfold Builtin.ObjectAttr.storeInOwnDict Builtin.ObjectAttr.ownDictForStores instanceDict
 refine wpAny_bind (wpAny_pure ?_)
 refine wpAny_bind (wpAny_bind (wpAny_loadPart he (wpAny_bind (PySem.W.Looks.here (s:={ s with toks:=s.toks + 1 }) (PySem.W.looks_clsIn X hcd) ?_))))
 rw [hh]
 refine wpAny_pure (a:=some dx) (wpAny_bind (wpAny_pure (wpAny_bind (wpAny_nsSet1 (s:={ s with toks:=s.toks + 1 }) hN fun h' hn hs=>?_))))
 obtain⟨oD,esD,epD,hoD,hdD,hcD⟩:=hn.count (PySem.Within.cons name v hw)
 refine wpAny_bind (wpAny_lookBehind hoD (by rw [hdD];exact pastItsLine_dict (Nat.le_trans hcD (by rw [List.length_cons];omega))) ?_)
 exact wpAny_pure (h _ hn hs)
end
section
variable {prog:Program} {w:World} {A:Around} {E:Value->Shared->Prop} {s:Shared} {K:Frag} {e C R fI:Addr} {oe:Obj} {vs:Array Value} {name:Str} {v:Value}
theorem xget {expr:Bool} {od:Option Obj} {Q:Value->Shared->Prop} (X:K.In s.heap) (c:cR K C R fI) (I:PySem.W.InstAt s.heap e oe C od) (hf:PySem.W.findObj K C od name=some (.value v)) (hh:PySem.W.handedIn v=true) (h:Q v { s with toks:=s.toks + 1 }) :
  wpAny (model prog w) A (getAttr (.ref e) name expr) Q E s:=by
 obtain⟨cd,hcd,hm,_⟩:=c.clsIn
 have isB:PySem.W.Looks (model prog w) s.heap (isInstance (.ref e) (.type "BaseException")) true:=I.type.andThen (PySem.W.looks_mroIn X (by
  unfold PySem.W.mroIn
  rw [hcd,Option.bind_some,hm,if_neg (by intro z;cases z)]
  rfl))
 have L0:=I.type (M:=model prog w)
 have L1:=PySem.W.looks_findIn (M:=model prog w) X c.ga
 have L2:=PySem.W.looks_findIn (M:=model prog w) X c.gh
 have L3:=PySem.W.looks_find (M:=model prog w) X I hf
 have hx0:(expr && onTheHeap (Value.builtin "BaseException.__getattribute__"))=false:=by cases expr <;> rfl
 obtain⟨hp,g,d,t,os⟩:=s
 unfold getAttr getAttrBy
 refine wpAny_bind (wpAny_mkText (wpAny_holding (wpAny_bind (L0.at (wpAny_bind (L1.at ?_))))))
 show wpAny _ _ (getAttrByItsOwn _ _ _ _ _ _) _ _ _
 unfold getAttrByItsOwn
 refine wpAny_bind (show wpAny _ _ (typeLookup (.ref C) "__getattr__") _ _ _ from L2.at ?_)
 have FB:=PySem.F.attr_ValueError.ga
 have hk:builtinKind "BaseException.__getattribute__" = some .slot:=by decide +kernel
 have hs:splitId "BaseException.__getattribute__" = some ("BaseException","__getattribute__"):=by decide +kernel
 refine wpAny_bind (wpAny_attempt (wpAny_holding ?_))
 unfold callGetattribute
 rw [hx0,if_neg Bool.false_ne_true]
 unfold boundAndCalled
 rw [FB.bind]
 refine wpAny_bind (wpAny_pure (wpAny_call ?_))
 show codeAny _ _ (.call (.builtin "BaseException.__getattribute__") ⟨[.ref e,.str name t],[]⟩) _ _
 refine codeAny_call_builtin FB.plain PySem.F.entry_bexc_ga ?_
 refine @PySem.W.check_slot (model prog w) _ _ _ "BaseException.__getattribute__" "BaseException" "__getattribute__" (.ref e) [.str name t] [] _ hk hs isB (PySem.F.args_bexc_ga _ _) ?_
 unfold Builtin.«object.__getattribute__» slotArgs
 refine wpAny_bind (wpAny_pure ?_)
 refine wpAny_bind (wpAny_pure ?_)
 refine wpAny_bind (L0.at ?_)
 refine wpAny_bind (L3.at ?_)
 refine wpAny_pure ?_
 show wpAny _ _ (handedOut v) _ _ _
 rw [PySem.W.handedOut_of hh]
 exact wpAny_pure h
end
end L2
namespace L2
open PySem PySem.Spec PyProof.Rows
def Ex0 (e C:Addr) (dx:Option Addr):HO:=.ext fun h=>∃ oe vs,h.get? e=some oe/\oe.cls=.ref C/\oe.dict=dx/\oe.data=.fields vs/\1 < vs.size/\vs[1]?=some .none
def ExF (e C:Addr) (dx:Option Addr):HO:=.ext fun h=>∃ oe vs,h.get? e=some oe/\oe.cls=.ref C/\oe.dict=dx/\oe.data=.fields vs
theorem Ex0.ok {P:Program} {w:World} {H:Hp} {h:Heap} {e C:Addr} {dx:Option Addr} {oe:Obj} {vs:Array Value} (he:h.get? e=some oe) (hc:oe.cls=.ref C) (hx:oe.dict=dx) (hd:oe.data=.fields vs) (h1 : 1 < vs.size) (hv:vs[1]?=some .none):qC P w H h e (Ex0 e C dx) :=
 ⟨⟨oe,vs,he,hc,hx,hd,h1,hv⟩,⟨oe,he⟩,fun _ _ ⟨oe,vs,a,b⟩ k=>⟨oe,vs,k _ a,b⟩⟩
theorem ExF.ok {P:Program} {w:World} {H:Hp} {h:Heap} {e C:Addr} {dx:Option Addr} {oe:Obj} {vs:Array Value} (he:h.get? e=some oe) (hc:oe.cls=.ref C) (hx:oe.dict=dx) (hd:oe.data=.fields vs):qC P w H h e (ExF e C dx) :=
 ⟨⟨oe,vs,he,hc,hx,hd⟩,⟨oe,he⟩,fun _ _ ⟨oe,vs,a,b⟩ k=>⟨oe,vs,k _ a,b⟩⟩
theorem Xc.ok {P:Program} {w:World} {H:Hp} {h:Heap} {e C:Addr} {dx:Option Addr} {T:Addr} {fl:Option Value} (x:Xc h e C dx T fl):qC P w H h e (ExF e C dx):=by
 obtain⟨oe,vs,he,hc,hx,hd,_⟩:=x
 exact ExF.ok he hc hx hd
structure Fly (X:Cx) (pins:List (Addr × Obj)) (σ:St) (H:Hp) (s:Shared) (e C:Addr) (dx:Option Addr) (T:Addr) (fl:Option Value):Prop where
 inv:Inv X pins σ H s
 at_:H e=some (ExF e C dx)
 xc:Xc s.heap e C dx T fl
 ye:X.s₀.heap.objs.size<=e
 fp:T=e\/bD X pins H T
section
variable {X:Cx} {pins:List (Addr × Obj)} {σ:St} {H H':Hp} {s s':Shared} {e C:Addr} {dx:Option Addr} {T:Addr} {fl:Option Value}
theorem Fly.moved (f:Fly X pins σ H s e C dx T fl) {h':Heap} {T':Addr} {fl':Option Value} (m:Mv (frs X.stack) e T s.heap h') (hT:T'=T\/s.heap.objs.size<=T') (x':Xc h' e C dx T' fl') :
  Fly X pins σ H { s with heap:=h' } e C dx T' fl':=by
 have I:=f.inv
 have nT:∀ b u,H b=some u->b ≠ e->b ≠ T:=fun b u q ne z=>by
  rcases f.fp with y|y
  ·exact ne (z.trans y)
  ·rw [z,y.1] at q;cases q
 have hok:HOk X.prog X.w H h':=fun b u q=>by
  by_cases hb:b=e
  ·subst hb;rw [f.at_] at q;cases q;exact x'.ok
  ·refine (I.hok b u q).stay (fun c v hc z=>?_) (fun _ z=>z) fun _ _ z=>z
   have hc':∃ u',H c=some u'/\c ≠ e:=by
    rcases hc with rfl|hc
    ·exact⟨u,q,hb⟩
    ·exact⟨_,hc,fun y=>by rw [y,f.at_] at hc;cases hc⟩
   obtain⟨u',qc,nc⟩:=hc'
   exact (m c v z nc (nT c u' qc nc)).1 fun y=>by rw [I.stkFree c y] at qc;cases qc
 obtain⟨oe,vs,he,_⟩:=id x'
 have un:Un (frs X.stack) [T] H H s.heap h':=by
  have nn:∀ b,H b=none->b ≠ e:=fun b n z=>by rw [z,f.at_] at n;cases n
  refine⟨fun b o q n hb hx=>(m b o q (nn b n) (fun z=>hx (by simp [z]))).1 hb,fun b o q n _ hx=>(m b o q (nn b n) (fun z=>hx (by simp [z]))).2,fun _ _ _ n _=>n,fun b o q hx=>?_,fun _ _ q=>q,fun _ _ _ q=>q,fun _ ps q=>⟨#[],by rw [q];simp⟩⟩
  by_cases hb:b=e
  ·exact⟨oe,hb ▸ he⟩
  ·obtain⟨_,sl,z⟩:=m b o q hb (fun z=>hx (by simp [z]))
   exact⟨_,z⟩
 have hch:∀ b ∈ [T],(b ∈ X.ex\/X.s₀.heap.objs.size<=b)/\b ≠ X.env.locals/\(∀ x c,X.env.cells.lookup x=some c->c ≠ b)/\∀ p ∈ X.pn++pins,p.1 ≠ b:=fun b hb=>by
  obtain rfl:b=T:=by simpa using hb
  rcases f.fp with y|y
  ·subst y
   refine⟨.inr f.ye,fun z=>?_,fun x c q z=>?_,fun p hp z=>?_⟩
   ·have:=I.free;rw [← z,f.at_] at this;cases this
   ·have:=I.freeC x c q;rw [z,f.at_] at this;cases this
   ·have:=(I.pin p hp).2.1;rw [z,f.at_] at this;cases this
  ·exact⟨y.2.2.2.1,y.2.1,y.2.2.2.2.1,y.2.2.2.2.2⟩
 refine⟨I.call (g':=s.gens) (t':=s.toks) (d':=s.drawn) un hok I.bare hch,f.at_,x',f.ye,?_⟩
 rcases hT with z|z
 ·rw [z];exact f.fp
 ·exact .inr (I.fpOk z (I.hok.fresh z))
theorem Xc.neT {h:Heap} {v:Value} (x:Xc h e C dx T (some v)):T ≠ e:=by
 obtain⟨oe,vs,_,_,_,_,_,⟨z,_⟩|⟨_,_,_,_,n,_⟩⟩:=x
 ·cases z
 ·exact n
def CXE (P:Program) (w:World):CXT:=fun outer H s E ev s'=>∃ (e C:Addr) (dx:Option Addr) (T:Addr) (H':Hp),ev=.ref e/\s'.os=s.os/\AllBare s'.gens/\Un (frs outer) [] H H' s.heap s'.heap/\HOk P w H' s'.heap ∧
 H' e=some (ExF e C dx)/\Xc s'.heap e C dx T (some .none)/\s.heap.objs.size<=e/\s.heap.objs.size<=T/\H' T=none/\E ev none H'
theorem Fly.of_call {E:XK} {ev:Value} (I:Inv X pins σ H s) (h:CXE X.prog X.w X.stack H s E ev s'):∃ e C dx T H',ev=.ref e/\Fly X pins σ H' s' e C dx T (some .none)/\E ev none H':=by
 obtain⟨e,C,dx,T,H',rfl,os,ba,un,hok,at_,xc,ye,yT,hT,hE⟩:=h
 have I':=I.call' (ch:=[]) os un hok ba (fun b hb=>absurd hb (by simp))
 exact⟨e,C,dx,T,H',rfl,⟨I',at_,xc,Nat.le_trans I.sz ye,.inr (I.fpOk yT hT)⟩,hE⟩
end
section
variable {P:Program} {w:World} {K:Frag} {mg:Str->Option Value} {base:Heap} {N:List Str} {qual:Str} {scope:Scope} {f:Addr} {cd:Value} {A:Around} {outer:List Env} {s₀ : Shared} {H₀ : Hp} {E E':XK}
theorem sR {pins:List (Addr × Obj)} {σ:St} {H:Hp} {s:Shared} {e C:Addr} {dx:Option Addr} {T:Addr} {fl:Option Value} (y:Fly (fY (CXE P w) P w K mg base N qual scope f cd A outer s₀ H₀ E) pins σ H s e C dx T fl)
  (hf:fl=none\/fl=some .none\/fl=some (rawInt s₀.heap.objs.size)) (hE:E (.ref e) none H):(fY (CXE P w) P w K mg base N qual scope f cd A outer s₀ H₀ E).xe (.ref e) s:=by
 have I:=y.inv
 refine aFm (base:=base) (env:=envOfC qual scope s₀.heap.objs.size f cd) (outer:=outer) I.ok.frames rfl I.stack y.xc hf fun h' T' hT x' m=>?_
 have y':=y.moved m hT x'
 have I':=y'.inv
 rcases y'.fp with z|z
 ·exact absurd z x'.neT
 refine⟨e,C,dx,T',H,rfl,I'.os,I'.bare,I'.base,I'.hok,y.at_,x',y.ye,?_,z.1,hE⟩
 rcases z.2.2.2.1 with q|q
 ·exact absurd (show T' ∈ ([]:List Addr) from q) (by simp)
 ·exact q
theorem aBa (hE:∀ v d H',E' v d H'->E v d H'):xV (CXE P w) (fY (CXE P w) P w K mg base N qual scope f cd A outer s₀ H₀ E) E':=by
 intro pins σ H s ev s' I h
 obtain⟨e,C,dx,T,H',rfl,y,q⟩:=Fly.of_call (X:=fY (CXE P w) P w K mg base N qual scope f cd A outer s₀ H₀ E) I h
 exact sR y (.inr (.inl rfl)) (hE _ _ _ q)
theorem passX {P:Program} {w:World} {X:Cx} : xV (CXE P w) X E0:=fun _ _ _ _ _ _ _ h=>by
 obtain⟨_,_,_,_,_,_,_,_,_,_,_,_,_,_,_,q⟩:=h
 exact q.elim
def aEa (X:Cx) (S:St->Prop) (E:XK):Prop:=∀ (pins:List (Addr × Obj)) (σ:St) (H:Hp) (s:Shared) (e C:Addr) (dx:Option Addr),S σ->Inv X pins σ H s->H e=some (Ex0 e C dx)->X.s₀.heap.objs.size<=e->E (.ref e) none (upd H e (ExF e C dx))->X.xe (.ref e) s
theorem Fly.start {X:Cx} {pins:List (Addr × Obj)} {σ:St} {H:Hp} {s:Shared} {e C:Addr} {dx:Option Addr} (I:Inv X pins σ H s) (he:H e=some (Ex0 e C dx)) (ye:X.s₀.heap.objs.size<=e) :
  Fly X pins σ (upd H e (ExF e C dx)) s e C dx e none:=by
 obtain⟨⟨oe,vs,q,hc,hx,hd,h1,hv⟩,_⟩:=I.hok e _ he
 have I':Inv X pins σ (upd H e (ExF e C dx)) s:=by
  have:=I.write (x:=e) (e:=e) (o:=ExF e C dx) (t':=s.toks) (h':=s.heap) (by rw [he];exact True.intro) (.inl rfl) (fun _ _ _ z=>z) ⟨_,q⟩ (ExF.ok q hc hx hd)
  exact this
 exact⟨I',jH,⟨oe,vs,q,hc,hx,hd,h1,.inl ⟨rfl,rfl,hv⟩⟩,ye,.inl rfl⟩
theorem aS:aEa (fY (CXE P w) P w K mg base N qual scope f cd A outer s₀ H₀ E) (fun _=>True) E:=fun pins σ H s e C dx _ I he ye hE=>sR (Fly.start I he ye) (.inl rfl) hE
theorem ownE:PassesOwn (model P w) (A.deeper (envOfC qual scope s₀.heap.objs.size f cd)) (envOfC qual scope s₀.heap.objs.size f cd) (fY (CXE P w) P w K mg base N qual scope f cd A outer s₀ H₀ E).xe:=PassesOwn.leaving
end
theorem Fun.okE {P:Program} {w:World} {K:Frag} {mg:Str->Option Value} {base:Heap} {x qual:Str} {st:Stmt} {f:Addr} {fd:FuncData} {N ps:List Str} {k:Nat} {sp:Sp} (F:Fun K x qual st f fd) (S:jM N ps (jG st)) (len:∀ vs H Q E,sp vs H Q E->vs.length=ps.length)
  (hbody:∀ (cdv:Value) (A:Around) (outer:List Env) (s:Shared) (H:Hp) (vs:List V) (Q:VK) (E:XK),qX k (A.deeper (envOfC qual (jG st) s.heap.objs.size f cdv))->sp vs H Q E →
   ∃ t,PSs (fY (CXE P w) P w K mg base N qual (jG st) f cdv A outer s H E) (yB st) t/\t { nx:=fun _ H'=>Q .non H',rt:=Q } (start N vs) H):jK P w K mg base (CXE P w) (k + 1) f fd ps sp:=by
 obtain⟨oc,od,kV,doc,pm,an,cdv,ct,osl,rfl,lk,hcd⟩:=F.ex
 exact aIs lk hcd S len fun A outer s H vs Q E hr hsp=>hbody cdv A outer s H vs Q E hr hsp
theorem Cx.Ok.re {X:Cx} (ok:X.Ok) (pn:List (Addr × Obj)) (E:Value->Shared->Prop):Cx.Ok { X with pn:=pn,xe:=E } :=
 ⟨ok.mod,ok.kind,ok.glob,ok.blt,ok.above,ok.inj,ok.has,ok.cab,ok.hd,ok.frames,ok.stk,ok.exf,ok.bs,ok.bsz,ok.noex,ok.exfs,ok.funs,ok.frf⟩
theorem Cx.Ok.back {X:Cx} {pn:List (Addr × Obj)} {E:Value->Shared->Prop} (ok:Cx.Ok { X with pn:=pn,xe:=E }):X.Ok :=
 ⟨ok.mod,ok.kind,ok.glob,ok.blt,ok.above,ok.inj,ok.has,ok.cab,ok.hd,ok.frames,ok.stk,ok.exf,ok.bs,ok.bsz,ok.noex,ok.exfs,ok.funs,ok.frf⟩
section
variable {X:Cx} {pins:List (Addr × Obj)} {σ:St} {H:Hp} {s:Shared}
theorem Inv.re (I:Inv X pins σ H s) (pn pins':List (Addr × Obj)) (E:Value->Shared->Prop) (h:∀ p ∈ pn++pins',p ∈ X.pn++pins):Inv { X with pn:=pn,xe:=E } pins' σ H s :=
 ⟨I.ok.re pn E,I.os,I.bare,I.base,I.loc,I.cell,I.free,I.freeC,fun p hp=>I.pin p (h p hp),I.hok,I.len⟩
theorem Inv.back {pn:List (Addr × Obj)} {E:Value->Shared->Prop} {pins':List (Addr × Obj)} (I:Inv { X with pn:=pn,xe:=E } pins' σ H s) (h:∀ p ∈ X.pn++pins,p ∈ pn++pins'):Inv X pins σ H s :=
 ⟨I.ok.back,I.os,I.bare,I.base,I.loc,I.cell,I.free,I.freeC,fun p hp=>I.pin p (h p hp),I.hok,I.len⟩
def XT (X:Cx) (pn:List (Addr × Obj)) (S:St->Prop) (W:XK):Value->Shared->Prop:=fun ev s=>∃ (e C:Addr) (dx:Option Addr) (T:Addr) (fl:Option Value) (σ:St) (H:Hp),
 ev=.ref e/\Fly { X with pn:=pn,xe:=fun _ _=>False } [] σ H s e C dx T fl/\(fl=none\/fl=some .none)/\S σ/\W ev none H
abbrev XB (X:Cx) (pn:List (Addr × Obj)) (S:St->Prop) (W:XK):Cx:={ X with pn:=pn,xe:=XT X pn S W }
theorem Fly.re {pn:List (Addr × Obj)} {E E':Value->Shared->Prop} {e C:Addr} {dx:Option Addr} {T:Addr} {fl:Option Value} (f:Fly { X with pn:=pn,xe:=E } pins σ H s e C dx T fl):Fly { X with pn:=pn,xe:=E' } [] σ H s e C dx T fl:=by
 refine⟨?_,f.at_,f.xc,f.ye,?_⟩
 ·exact Inv.re (X:={ X with pn:=pn,xe:=E }) f.inv pn [] E' (fun p hp=>by
   rw [List.append_nil] at hp
   exact List.mem_append_left _ hp)
 ·rcases f.fp with z|⟨a1,a2,a3,a4,a5,a6⟩
  ·exact .inl z
  ·exact .inr ⟨a1,a2,a3,a4,a5,fun p hp=>a6 p (by
    have hp':p ∈ pn++[]:=hp
    rw [List.append_nil] at hp'
    exact List.mem_append_left _ hp')⟩
def pJ (CX:CXT) (X:Cx) (S:St->Prop) (E:XK):Prop:=∀ (pins:List (Addr × Obj)) (σ:St) (H:Hp) (s:Shared) (e:Value) (s':Shared),S σ->Inv X pins σ H s->CX X.stack H s E e s'->X.xe e s'
theorem passT {pn:List (Addr × Obj)} {S:St->Prop} {W:XK} : pJ (CXE X.prog X.w) (XB X pn S W) S W:=by
 intro pins σ H s ev s' hS I h
 obtain⟨e,C,dx,T,H',rfl,y,q⟩:=Fly.of_call (X:=XB X pn S W) I h
 exact⟨e,C,dx,T,_,σ,H',rfl,y.re,.inr rfl,hS,q⟩
end
section
variable {X:Cx} {CX:CXT} {k:Nat} {f C:Addr} {fd:FuncData} {ps:List Str} {sp:Sp} {dvs:List V} {ds:List Value} {E:XK} {S:St->Prop} {x m:Str} {p pos apos:Pos} {e o:Expr} {es:List Expr} {ta:TE} {t:TA}
theorem aHy {pins:List (Addr × Obj)} {σ:St} {H:Hp} {s:Shared} {Q:VK} {us:List Value} {vs:List V} (F:jK X.prog X.w X.K X.mg X.base CX k f fd ps sp) (hr:qX k X.A) (hb:Binds X.K fd ps ds) (hd:kC dvs ds) (hx:pJ CX X S E) (hS:S σ)
  (I:Inv X pins σ H s) (r:kC vs us) (h:sp (vs++dvs) H Q E):wpAny (model X.prog X.w) X.A (call (.ref f) us) (EP X pins σ Q) X.xe s:=by
 have r2:kC (vs++dvs) (us++ds):=r.append hd
 have hl:(us++ds).length=ps.length:=by rw [← r2.length];exact F.len _ _ _ _ h
 refine wpAny_call (codeAny_mono (F.run X.A X.stack s H ⟨us,[]⟩ (us++ds) (vs++dvs) Q E hr I.env0 (hb s us I.kIn hl) r2 h) fun r s' hq=>?_)
 cases r with
 | error e=>exact hx pins σ H s e s' hS I hq
 | ok fl =>
  cases fl with
  | ret u=>exact I.after hq
  | next=>exact False.elim hq
  | brk=>exact False.elim hq
  | cont=>exact False.elim hq
def aJh (S:St->Prop) (sp:Sp) (dvs:List V) (E:XK) (t:TA):TE:=fun σ H Q=>t σ H fun vs H1=>S σ/\sp (vs++dvs) H1 Q E
theorem aEk (F:jK X.prog X.w X.K X.mg X.base CX k f fd ps sp) (hr:qX k X.A) (hg:Gl X x) (hm:X.mg x=some (.ref f)) (hk:keepIn X.K (.ref f)=true) (hb:Binds X.K fd ps ds) (hd:kC dvs ds) (hx:pJ CX X S E)
  (ha:PA X (e::es) t) (hdb:(x == ("__debug__" : Str))=false:=by decide) (he:starEach (e::es) X.env=(false,eval e X.env)::starEach es X.env:=by rfl) (hpl:(backTo pos (starEach es X.env)).any (·.1)=false:=by rfl) :
  PE X (.Call (.Name x p) (e::es) [] pos) (aJh S sp dvs E t):=by
 intro pins s σ H Q I h
 refine wpAny_Call_Name_kw (cN I hg hm ?_ hdb)
 refine PySem.W.callWith_K (h₀:=X.base) I.ok.mod.kin hk (thn (ha pos pins s σ H _ I h) fun us s1 ⟨vs,H1,I1,r,hS,q⟩=>⟨I1.kIn,?_⟩) he hpl
 exact aHy F hr hb hd hx hS I1 r q
end
structure XCls (K:Frag) (C:Addr) (bm:List Value):Prop where
 obj:∃ (nm q:Str) (N:Addr) (bs:List Value) (hd:Bool) (sn:List Str) (sub:List Value) (ab:Bool) (col:Option Bool) (dd:Option Addr) (k0 k1 k2 k3 k5:Option Value) (ni:String),K.lookup C=some (excClassObj nm q C N bs bm hd sn sub ab col dd k0 k1 k2 k3 k5 ni)
 b:bm.contains (.type "BaseException")=true
abbrev XH (X:Cx) (e:Addr):Cx:={ X with A:=X.A.mark (some (.ref e)),calm:=false,xe:=fun _ _=>False }
section
variable {X:Cx} {pins:List (Addr × Obj)} {σ:St} {H:Hp} {s:Shared}
theorem Inv.toH (I:Inv X pins σ H s) (e:Addr):Inv (XH X e) pins σ H s :=
 ⟨⟨I.ok.mod,I.ok.kind,I.ok.glob,I.ok.blt,I.ok.above,I.ok.inj,I.ok.has,I.ok.cab,(fun z=>by cases z),I.ok.frames,I.ok.stk,I.ok.exf,I.ok.bs,I.ok.bsz,I.ok.noex,I.ok.exfs,I.ok.funs,I.ok.frf⟩,I.os,I.bare,I.base,I.loc,I.cell,I.free,I.freeC,I.pin,I.hok,I.len⟩
theorem Inv.ofH {e:Addr} (hd:X.calm=true->X.A.handled=none) (I:Inv (XH X e) pins σ H s):Inv X pins σ H s :=
 ⟨⟨I.ok.mod,I.ok.kind,I.ok.glob,I.ok.blt,I.ok.above,I.ok.inj,I.ok.has,I.ok.cab,hd,I.ok.frames,I.ok.stk,I.ok.exf,I.ok.bs,I.ok.bsz,I.ok.noex,I.ok.exfs,I.ok.funs,I.ok.frf⟩,I.os,I.bare,I.base,I.loc,I.cell,I.free,I.freeC,I.pin,I.hok,I.len⟩
theorem Inv.unbound {h':Heap} {m:Str->Option Value} {u:Option Value} {i:Nat} {n:Str} (I:Inv X pins σ H s) (hN:X.N.Nodup) (hi:X.N[i]?=some n) (hn:s.heap.Ns X.env.locals m)
  (hm:∀ (j:Nat) (x:Str) (v:V),X.N[j]?=some x->σ[j]?=some (some v)->Vis X.env.scope x->∃ u,RelV v u/\Look X.env s.heap m x u)
  (hn':h'.Ns X.env.locals (fun x=>if x=n then u else m x)) (sb:Heap.SameBut X.env.locals s.heap h'):Inv X pins (σ.set i none) H { s with heap:=h' }:=by
 have kp:∀ b o,b ≠ X.env.locals->s.heap.get? b=some o->h'.get? b=some o:=fun b o nb q=>(sb.2 b nb).trans q
 have neL:∀ b o,X.s₀.heap.get? b=some o->b ≠ X.env.locals:=fun b o e=>Nat.ne_of_lt (Nat.lt_of_lt_of_le (Heap.lt_size e) I.ok.above)
 have B:=I.base
 refine⟨I.ok,I.os,I.bare,⟨fun b o q n1 hb hx=>kp b o (neL b o q) (B.keep b o q n1 hb hx),fun b o q n1 hb hx=>?_,B.free,fun b o q hx=>?_,B.tups,B.frzs,B.tbls⟩,⟨_,hn',fun j x v e1 e2 e3=>?_⟩,fun x c e=>?_,I.free,I.freeC,fun p hp=>?_,?_,?_⟩
 ·obtain⟨sl,z⟩:=B.slot b o q n1 hb hx
  exact⟨sl,kp b _ (neL b o q) z⟩
 ·obtain⟨o',z⟩:=B.there b o q hx
  exact⟨o',kp b _ (neL b o q) z⟩
 ·have hj:j ≠ i:=fun z=>by
   subst z
   rw [List.getElem?_set_self' ] at e2
   cases hz : σ[j]? with
   | none=>rw [hz] at e2;cases e2
   | some _=>rw [hz] at e2;cases e2
  rw [List.getElem?_set_ne (Ne.symm hj)] at e2
  obtain⟨u',ru,l⟩:=hm j x v e1 e2 e3
  have xn:x ≠ n:=fun z=>hj (lC hN e1 (z ▸ hi))
  refine⟨u',ru,?_⟩
  rcases l with⟨k1,k2⟩|⟨k1,c,k2,o,ho,hd⟩
  ·exact .inl ⟨k1,by show (if x=n then u else m x)=some u';rw [if_neg xn];exact k2⟩
  ·exact .inr ⟨k1,c,k2,o,kp c o (I.cne x c k2) ho,hd⟩
 ·obtain⟨v,o,ho,hd⟩:=I.cell x c e
  exact⟨v,o,kp c o (I.cne x c e) ho,hd⟩
 ·obtain⟨a1,a2,a3,a4,a5⟩:=I.pin p hp
  exact⟨kp _ _ a3 a1,a2,a3,a4,a5⟩
 ·intro b o q
  refine (I.hok b o q).stay (fun c v hc z=>kp c v ?_ z) (fun _ z=>z) fun _ _ z=>z
  rintro rfl
  rcases hc with z|z
  ·rw [← z,I.free] at q;cases q
  ·rw [I.free] at z;cases z
 ·rw [List.length_set];exact I.len
def tTry (tb:(St->Prop)->XK->TS) (K:Frag) (Cn:Addr) (i:Nat) (ts:TS):TS:=fun D σ H=>∃ (S:St->Prop) (W:XK),tb S W D σ H ∧
 ∀ (σ':St) (e:Addr) (H':Hp),S σ'->W (.ref e) none H'->∃ C dx bm,H' e=some (ExF e C dx)/\XCls K C bm/\(Value.ref C::bm).contains (.ref Cn)=true ∧
  ts { nx:=fun σ2 H2=>D.nx (σ2.set i none) H2,rt:=D.rt,bk:=fun σ2 H2=>D.bk (σ2.set i none) H2,ct:=fun σ2 H2=>D.ct (σ2.set i none) H2 } (σ'.set i (some (.ref e))) H'
theorem aJn {body:List Stmt} {b0:Stmt} {suite:List Stmt} {rest:List ExceptHandler} {cn n:Str} {Cn:Addr} {i:Nat} {tb:(St->Prop)->XK->TS} {ts:TS} {p hp pos:Pos} (hcalm:X.calm=true) (hst:X.stack=X.env::X.outer) (hfr:X.env.frame=some X.env.locals)
  (hg:Gl X cn) (hm:X.mg cn=some (.ref Cn)) {bmn:List Value} (hcl:XCls X.K Cn bmn)
  (hN:X.N.Nodup) (hi:X.N[i]?=some n) (hn:X.env.scope.names.lookup n=some .local)
  (hb:∀ pn S W,PSs (XB X pn S W) body (tb S W)) (hs:∀ e,PSs (XH X e) (b0::suite) ts) (hdb:(cn == ("__debug__" : Str))=false:=by decide) :
  PS X (.Try body (.ExceptHandler (some (.Name cn p)) (some n) (b0::suite) hp::rest) [] [] pos) (tTry tb X.K Cn i ts):=by
 intro pins s σ H D I h
 obtain⟨S,W,hbody,hh⟩:=h
 refine wpAny_Try_except (wpAny_mono (hb (X.pn++pins) S W [] s σ H D (I.re (X.pn++pins) [] _ (fun q hq=>by rwa [List.append_nil] at hq)) hbody) (fun f s1 hf=>?_) fun ev s1 hx=>?_)
 ·have bk:∀ {σ':St} {H':Hp},Inv (XB X (X.pn++pins) S W) [] σ' H' s1->Inv X pins σ' H' s1:=fun {σ' H'} J=>J.back (fun q hq=>by rw [List.append_nil];exact hq)
  cases f with
  | next =>
   obtain⟨σ',H',J,q⟩:=hf
   exact wpAny_execs_nil ⟨σ',H',bk J,q⟩
  | brk=>obtain⟨σ',H',J,q⟩:=hf;exact⟨σ',H',bk J,q⟩
  | cont=>obtain⟨σ',H',J,q⟩:=hf;exact⟨σ',H',bk J,q⟩
  | ret u=>obtain⟨v,σ',H',J,r,q⟩:=hf;exact⟨v,σ',H',bk J,r,q⟩
 ·obtain⟨e,C,dx,T,fl,σ',H',rfl,y,hfl,hS,hW⟩:=hx
  have hA:X.A.frames=some (X.env::X.outer):=hst ▸ I.ok.frames
  have ff:s1.heap.FunFrames X.base (X.env::X.outer):=hst ▸ y.inv.stack
  refine aBe hA hfr ff y.xc (hfl.imp id .inl) fun h1 T1 q1 x1 m1=>?_
  have y1:=y.moved (by show Mv (frs X.stack) _ _ _ _;rw [hst];exact m1) q1 x1
  refine fO x1 fun h2 x2 m2=>?_
  have y2:=y1.moved (h':=h2) (fun b o q ne nT=>⟨fun _=>(m2 b o q ne nT).1 (by simp),(m2 b o q ne nT).2⟩) (.inl rfl) x2
  obtain⟨C',dx',bm,hat,hxc,hmro,hsu⟩:=hh σ' e H' hS hW
  have eqs:C'=C/\dx'=dx:=by
   have z:=y.at_.symm.trans hat
   obtain⟨⟨oe,vs,a1,a2,a3,_⟩,_⟩:=y.inv.hok e _ y.at_
   obtain⟨⟨oe',vs',b1,b2,b3,_⟩,_⟩:=y.inv.hok e _ hat
   rw [a1] at b1
   cases b1
   exact⟨by rw [a2] at b2;exact (Value.ref.inj b2).symm,b3.symm.trans a3⟩
  obtain⟨rfl,rfl⟩:=eqs
  have I2:Inv X pins σ' H' { s1 with heap:=h2 }:=y2.inv.back (fun q hq=>by rw [List.append_nil];exact hq)
  refine wpAny_handleBy_cons (codeAny_handlers_test ?_) (by intro z;cases z)
  refine cN (X:=XH X e) (I2.toH e) hg hm ?_ hdb
  obtain⟨oe,vs,he,oc,_⟩:=id x2
  have match_:∀ {Q:Bool->Shared->Prop} {E:Value->Shared->Prop},Q true { s1 with heap:=h2 }->wpAny (model X.prog X.w) (X.A.mark (some (.ref e))) (excMatches (.ref e) (.ref Cn)) Q E { s1 with heap:=h2 }:=fun {Q E} q=>by
   obtain⟨nm1,q1,N1,bs1,hd1,sn1,su1,ab1,co1,dd1,j0,j1,j2,j3,j5,ni1,lk1⟩:=hxc.obj
   obtain⟨nm2,q2,N2,bs2,hd2,sn2,su2,ab2,co2,dd2,l0,l1,l2,l3,l5,ni2,lk2⟩:=hcl.obj
   exact aIw (I2.kIn _ _ lk1) (I2.kIn _ _ lk2) hcl.b he oc hmro q
  refine match_ ?_
  refine codeAny_handlers_suite_as ?_
  refine fO x2 fun h3 x3 m3=>?_
  have y3:=y2.moved (h':=h3) (fun b o q ne nT=>⟨fun _=>(m3 b o q ne nT).1 (by simp),(m3 b o q ne nT).2⟩) (.inl rfl) x3
  have I3:Inv X pins σ' H' { s1 with heap:=h3 }:=y3.inv.back (fun q hq=>by rw [List.append_nil];exact hq)
  refine cO (X:=XH X e) (I3.toH e) hN hi (.inl hn) (v:=.ref e) rfl (fun s4 I4 _=>?_) (.inr hn)
  refine wpAny_mono (hs e pins s4 _ H' _ I4 hsu) (fun fl5 s5 hf=>?_) fun _ _ z=>z.elim
  have fin:∀ {σ5:St} {H5:Hp} {P5:Shared->Prop},Inv (XH X e) pins σ5 H5 s5->(∀ s6,Inv X pins (σ5.set i none) H5 s6->P5 s6) →
    wpAny (model X.prog X.w) X.A (do bindName X.env n .none;unbindBehindTheSuite X.env n hp) (fun _ s6=>P5 s6) X.xe s5:=fun {σ5 H5 P5} J q=>by
   have J':Inv X pins σ5 H5 s5:=J.ofH I.ok.hd
   refine wpAny_bind (wpAny_bindName (cO (X:=X) J' hN hi (.inl hn) (v:=.non) rfl (fun s6 J6 _=>?_) (.inr hn)))
   obtain⟨m,hm6,hl6⟩:=id J6.loc
   have hv:∃ v,m n=some v:=by
    have hiσ:i < σ5.length:=by rw [J'.len];exact (List.getElem?_eq_some_iff.mp hi).1
    obtain⟨u,_,l⟩:=hl6 i n .non hi (by rw [List.getElem?_set_self hiσ]) (.inl hn)
    rcases l with⟨_,z⟩|⟨z,_⟩
    ·exact⟨u,z⟩
    ·have hn':X.env.kindOf n=some .local:=hn
     rcases z with z|z <;> (rw [hn'] at z;cases z)
   obtain⟨v,hv⟩:=hv
   unfold unbindBehindTheSuite
   refine wpAny_onRaise (wpAny_unbindName_local hn hm6 hv (by rw [J'.ok.kind];rfl) fun h7 u7 hn7 sb7=>?_)
   have:=J6.unbound hN hi hm6 hl6 hn7 sb7
   rw [List.set_set] at this
   exact q _ this
  cases fl5 with
  | next=>obtain⟨σ5,H5,J,q⟩:=hf;exact fin J fun s6 J6=>⟨_,H5,J6,q⟩
  | brk=>obtain⟨σ5,H5,J,q⟩:=hf;exact fin J fun s6 J6=>⟨_,H5,J6,q⟩
  | cont=>obtain⟨σ5,H5,J,q⟩:=hf;exact fin J fun s6 J6=>⟨_,H5,J6,q⟩
  | ret u=>obtain⟨v,σ5,H5,J,r,q⟩:=hf;exact fin J fun s6 J6=>⟨v,_,H5,J6,r,q⟩
end
def XD (dx:Addr) (fs:List (Str × V)):HO:=.ext fun h=>∃ mA,h.Ns1 dx mA/\(∀ f,yD (fs.lookup f) (mA f))/\PySem.Within mA (fs.map (·.1))
theorem XD.ok {P:Program} {w:World} {H:Hp} {h:Heap} {dx:Addr} {fs:List (Str × V)} (a:∃ mA,h.Ns1 dx mA/\(∀ f,yD (fs.lookup f) (mA f))/\PySem.Within mA (fs.map (·.1))):qC P w H h dx (XD dx fs):=by
 obtain⟨mA,⟨o,es,ep,ho,z⟩,r⟩:=id a
 exact⟨a,⟨o,ho⟩,fun h1 h2 ⟨mA,⟨o,es,ep,ho,z⟩,r⟩ k=>⟨mA,⟨o,es,ep,k _ ho,z⟩,r⟩⟩
theorem aKq {H:Hp} {a:Addr} {o:HO} (e:H a=some o):upd H a o=H:=by
 funext b
 unfold upd
 split
 ·rename_i q;rw [q,e]
 ·rfl
section
variable {X:Cx} {pins:List (Addr × Obj)} {σ:St} {H:Hp} {s:Shared} {e C R fI dx:Addr}
theorem Inv.xfirst {h':Heap} {t':Nat} {oe:Obj} {vs:Array Value} {fs:List (Str × V)} (I:Inv X pins σ H s) (he:H e=some (Ex0 e C none)) (hx:s.heap.objs.size<=dx) (ne:dx ≠ e) (g:h'.get? e=some oe) (oc:oe.cls=.ref C) (od:oe.dict=some dx) (hd:oe.data=.fields vs) (h1 : 1 < vs.size) (hv:vs[1]?=some .none)
  (hn:∃ mA,h'.Ns1 dx mA/\(∀ f,yD (fs.lookup f) (mA f))/\PySem.Within mA (fs.map (·.1))) (k:∀ b o,b ≠ e->s.heap.get? b=some o->h'.get? b=some o) :
  Inv X pins σ (upd (upd H dx (XD dx fs)) e (Ex0 e C (some dx))) { s with heap:=h',toks:=t' }:=by
 have nx:H dx=none:=I.hok.fresh hx
 have eqs:∀ b u,H b=some u->b ≠ e->upd (upd H dx (XD dx fs)) e (Ex0 e C (some dx)) b=some u:=fun b u q nb=>by
  rw [jS nb,jS (jL q nx)];exact q
 refine I.un ⟨fun b o q n _ _=>k b o (jL he n).symm q,fun b o q n _ _=>⟨o.slots,k b o (jL he n).symm q⟩,fun b o q n _=>?_,fun b o q _=>?_,fun b xs q=>?_,fun b o u q=>?_,fun b ps q=>⟨#[],?_⟩⟩ fun b u q=>?_
 ·rw [jS (jL he n).symm,jS (Nat.ne_of_lt (Nat.lt_of_lt_of_le (Heap.lt_size q) hx))];exact n
 ·by_cases hb:b=e
  ·exact⟨oe,hb ▸ g⟩
  ·exact⟨o,k b o hb q⟩
 ·exact eqs b _ q fun z=>by rw [z,he] at q;cases q
 ·exact eqs b _ q fun z=>by rw [z,he] at q;cases q
 ·rw [eqs b _ q fun z=>by rw [z,he] at q;cases q];simp
 ·by_cases hb:b=e
  ·subst hb;rw [jH] at q;cases q;exact Ex0.ok g oc od hd h1 hv
  ·rw [jS hb] at q
   by_cases hb2:b=dx
   ·subst hb2;rw [jH] at q;cases q;exact XD.ok hn
   ·rw [jS hb2] at q
    refine (I.hok b u q).stay (fun c v hc z=>k c v ?_ z) (fun c z=>eqs c _ z fun y=>by rw [y,he] at z;cases z) fun c xs z=>eqs c _ z fun y=>by rw [y,he] at z;cases z
    rcases hc with y|y
    ·rw [y];exact hb
    ·intro z;rw [z,he] at y;cases y
def sXfld (K:Frag) (ta tv:TE) (f:Str):TS:=fun D σ H=>tv σ H fun y H1=>ta σ H1 fun x H2=>∃ e C R fI,x=.ref e/\cR K C R fI/\findIn K (.ref C) f=some none ∧
 ((H2 e=some (Ex0 e C none)/\∀ dx,H2 dx=none->D.nx σ (upd (upd H2 dx (XD dx [(f,y)])) e (Ex0 e C (some dx)))) ∨
   ∃ dx fs,H2 e=some (Ex0 e C (some dx))/\H2 dx=some (XD dx fs)/\fs.length < 1000/\D.nx σ (upd H2 dx (XD dx (yR f y fs))))
theorem aKs {y:V} {u:Value} {f:Str} {A:Around} {E:Value->Shared->Prop} {Q:Unit->Shared->Prop} (I:Inv X pins σ H s) (c:cR X.K C R fI) (hf:findIn X.K (.ref C) f=some none) (ry:RelV y u) {N:Hp->Prop}
  (h:(H e=some (Ex0 e C none)/\∀ dx,H dx=none->N (upd (upd H dx (XD dx [(f,y)])) e (Ex0 e C (some dx))))\/∃ dx fs,H e=some (Ex0 e C (some dx))/\H dx=some (XD dx fs)/\fs.length < 1000/\N (upd H dx (XD dx (yR f y fs))))
  (q:∀ s' H',Inv X pins σ H' s'->N H'->Q () s'):wpAny (model X.prog X.w) A (setAttr (.ref e) f u) Q E s:=by
 rcases h with⟨he,hN⟩|⟨dx,fs,he,hd,hl,hN⟩
 ·obtain⟨⟨oe,vs,g,oc,ox,od,h1,hv⟩,_⟩:=I.hok e _ he
  refine wD I.kIn c g oc od ox hf fun h' dx tk hx ne g' hn k=>?_
  refine q _ _ (I.xfirst he hx ne g' oc rfl od h1 hv ⟨_,hn,fun z=>?_,fun z hz=>?_⟩ k) (hN dx (I.hok.fresh hx))
  ·show yD (List.lookup z [(f,y)]) (if z=f then some u else none)
   by_cases hz:z=f
   ·rw [if_pos hz,hz];simp only [List.lookup,beq_self_eq_true];exact ry
   ·have hb:(z == f)=false:=beq_eq_false_iff_ne.mpr hz
    rw [if_neg hz];simp only [List.lookup,hb];exact True.intro
  ·by_cases hz':z=f
   ·rw [hz'];exact List.mem_singleton.mpr rfl
   ·exact absurd (if_neg hz') hz
 ·obtain⟨⟨oe,vs,g,oc,ox,od,h1,hv⟩,_⟩:=I.hok e _ he
  obtain⟨⟨mA,hn,r,wi⟩,_⟩:=I.hok dx _ hd
  refine aCl I.kIn c g oc od ox hn wi (by rw [List.length_map,sizeLine_eq];omega) hf fun h' hn' sb=>?_
  have ho:∃ o,h'.get? dx=some o:=let ⟨o,_,_,e',_⟩:=hn'; ⟨o,e'⟩
  refine q _ _ (I.write (x:=dx) (e:=dx) (o:=XD dx (yR f y fs)) (by rw [hd];exact True.intro) (.inl rfl) (fun b o hb z=>(sb.2 b hb).trans z) ho (XD.ok ⟨_,hn',fun z=>?_,fun z hz=>?_⟩)) hN
  ·show yD ((yR f y fs).lookup z) (if z=f then some u else mA z)
   rw [cI]
   by_cases q:z=f
   ·rw [if_pos q,if_pos q];exact ry
   ·rw [if_neg q,if_neg q];exact r z
  ·by_cases q:z=f
   ·rw [q];exact (zX f y fs).1
   ·refine (zX f y fs).2 z (wi z fun y'=>hz ?_)
    show (if z=f then some u else mA z)=none
    rw [if_neg q];exact y'
theorem aAr {o value:Expr} {f:Str} {pos pos':Pos} {ta tv:TE} (ha:PE X o ta) (hv:PE X value tv) (hs:swapsWith value (some (.Attribute o f pos')) pos.line X.env=pure false:=by rfl):PS X (.Assign [.Attribute o f pos'] value pos) (sXfld X.K ta tv f):=by
 intro pins s σ H D I h
 refine plainObj_wpAny_Assign_Attribute (thn (hv pins s σ H _ I h) fun u s1 ⟨y,H1,I1,ry,h1⟩=>thn (ha pins s1 σ H1 _ I1 h1) fun ov s2 zq=>?_) hs
 obtain⟨x,H2,I2,rx,e,C,R,fI,ex,c,hf,h2⟩:=zq
 subst ex
 obtain rfl:ov=Value.ref e:=rx
 exact aKs I2 c hf ry h2 fun s' H' I' q=>⟨σ,H',I',q⟩
def aIj (K:Frag) (ta:TE) (f:Str):TE:=fun σ H Q=>ta σ H fun x H1=>∃ e C R fI dx fs v,x=.ref e/\(H1 e=some (ExF e C (some dx))\/H1 e=some (Ex0 e C (some dx)))/\H1 dx=some (XD dx fs)/\cR K C R fI/\findIn K (.ref C) f=some none/\fs.lookup f=some v/\Q v H1
theorem aGv {o:Expr} {f:Str} {pos:Pos} {ta:TE} (he:PE X o ta) (hb:attributeBase o f X.env (eval o X.env)=eval o X.env):PE X (.Attribute o f pos) (aIj X.K ta f):=by
 intro pins s σ H Q I h
 refine aAy hb (thn (he pins s σ H _ I h) fun u s1 zq=>?_)
 obtain⟨x,H1,I1,rx,e,C,R,fI,dx,fs,v,ex,ea,ed,c,hf,l,q⟩:=zq
 subst ex
 obtain rfl:u=Value.ref e:=rx
 obtain⟨⟨mA,hn,r,wi⟩,_⟩:=I1.hok dx _ ed
 obtain⟨u',hu,ru⟩:=yD.some_of (v:=v) (o:=mA f) (by rw [← l];exact r f)
 obtain⟨oe,vs,g,oc,ox,od⟩ : ∃ oe vs,s1.heap.get? e=some oe/\oe.cls=.ref C/\oe.dict=some dx/\oe.data=.fields vs:=by
  rcases ea with ea|ea
  ·obtain⟨⟨oe,vs,g,oc,ox,od⟩,_⟩:=I1.hok e _ ea;exact⟨oe,vs,g,oc,ox,od⟩
  ·obtain⟨⟨oe,vs,g,oc,ox,od,_⟩,_⟩:=I1.hok e _ ea;exact⟨oe,vs,g,oc,ox,od⟩
 obtain⟨o1,ho,hl⟩:=oC hn
 obtain⟨cd,hcd,hm,hh⟩:=c.clsIn
 have hh':PySem.W.hasDictIn X.K C=true:=by unfold PySem.W.hasDictIn;rw [hcd];exact hh
 exact xget I1.kIn c (oO (od:=some o1) g oc od (by rw [ox];exact ho)) (PySem.W.findObj_own hh' hf rfl (by rw [hl,hu])) (nQ ru) ⟨v,H1,I1.tok _,ru,q⟩
end
structure aIr (K:Frag) (B f:Addr):Prop where
 r:PySem.W.readsIn K B (.type "type")=true
 fd:PySem.W.findCls K (.ref B) (.type "type") "__init__" = some (.val (.ref f))
 g:PySem.W.specialIn K (.ref B) "__getattribute__" = some (some (.builtin "type.__getattribute__"))
 k:keepIn K (.ref f)=true
structure aDd (K:Frag):Prop where
 ga:findIn K (.type "type") "__getattribute__" = some (some (.builtin "type.__getattribute__"))
 sub:PySem.W.subIn K (.type "type") (.type "type")=some true
 f:PySem.W.findCls K (.type "ValueError") (.type "type") "__init__" = some (.val (.builtin "ValueError.__init__"))
theorem aFi:typeOf (.type "ValueError")=pure (.type "type"):=by kernel_rfl
theorem aIz:opaqueClassAbove (.type "ValueError")=pure none:=by kernel_rfl
theorem aDr:hookBefore (.type "type")=pure none:=by kernel_rfl
theorem aEf:typeLookup (.type "type") "__getattribute__" = pure (some (.builtin "type.__getattribute__")):=by rw [typeLookup_type,builtinLookup_eq_fast];kernel_rfl
theorem aKx:specialOf (.type "ValueError") "__getattribute__" = pure (some (.builtin "type.__getattribute__")):=by
 unfold specialOf
 rw [aFi]
 show typeLookup (.type "type") "__getattribute__" = _
 exact aEf
section
variable {X:Cx} {CX:CXT} {k:Nat} {f B C R:Addr} {fd:FuncData} {ps:List Str} {sp:Sp} {dvs:List V} {ds:List Value} {E:XK} {x:Str} {p pos apos:Pos} {e o:Expr} {es:List Expr} {t:TA}
theorem sK {pl:Sem Bool} (c:aIr X.K B f) (ho:PE X o (tC (.ref B))) (F:jK X.prog X.w X.K X.mg X.base CX k f fd ps sp) (hr:qX k X.A) (hb:Binds X.K fd ps ds) (hd:kC dvs ds) (hx:xV CX X E) (ha:PA X (e::es) t)
  (hst:starEach (e::es) X.env=(false,eval e X.env)::starEach es X.env:=by rfl) (hpl:(backTo pos (starEach es X.env)).any (·.1)=false:=by rfl)
  (ht:eval (.Call (.Attribute o "__init__" apos) (e::es) [] pos) X.env=(do
   let ov ← eval o X.env
   standAt apos.atName
   let (f,first) ← holding [ov] (getMethod ov "__init__" pl)
   callWith pos f first (backTo pos (starEach (e::es) X.env)) (backToKw pos (keywordEach [] X.env))):=by rfl) :
  PE X (.Call (.Attribute o "__init__" apos) (e::es) [] pos) (aDa sp dvs E t):=by
 intro pins s σ H Q I h
 refine PySem.W.methodCall_KW (pl:=pl) (thn (ho pins s σ H (fun v H1=>v=.ref B/\aDa sp dvs E t σ H1 Q) I ⟨rfl,h⟩) fun u s1 zq=>?_) ht
 obtain⟨x,H1,I1,rx,ex,q⟩:=zq
 subst ex
 obtain rfl:u=Value.ref B:=rx
 refine PySem.W.method_cls I1.kIn c.g (PySem.W.cls_value I1.kIn c.r c.fd rfl ?_)
 refine PySem.W.callWith_K (first:=[]) (h₀:=X.base) I.ok.mod.kin c.k (thn (ha pos pins _ σ H1 _ (I1.tok _) q) fun us s2 ⟨vs,H2,I2,r,q2⟩=>⟨I2.kIn,?_⟩) hst hpl
 exact lQ F hr hb hd hx I2 r q2
def aDp (K:Frag) (t:TA):TE:=fun σ H Q=>t σ H fun vs H1=>∃ e v C R fI dx,vs=[.ref e,v]/\H1 e=some (Ex0 e C dx)/\cR K C R fI/\Q .non H1
theorem aEt {pl:Sem Bool} (c:aDd X.K) (ho:PE X o (tC (.ty "ValueError"))) (ha:PA X (e::es) t)
  (hst:starEach (e::es) X.env=(false,eval e X.env)::starEach es X.env:=by rfl) (hpl:(backTo pos (starEach es X.env)).any (·.1)=false:=by rfl)
  (ht:eval (.Call (.Attribute o "__init__" apos) (e::es) [] pos) X.env=(do
   let ov ← eval o X.env
   standAt apos.atName
   let (f,first) ← holding [ov] (getMethod ov "__init__" pl)
   callWith pos f first (backTo pos (starEach (e::es) X.env)) (backToKw pos (keywordEach [] X.env))):=by rfl) :
  PE X (.Call (.Attribute o "__init__" apos) (e::es) [] pos) (aDp X.K t):=by
 intro pins s σ H Q I h
 refine PySem.W.methodCall_KW (pl:=pl) (thn (ho pins s σ H (fun v H1=>v=.ty "ValueError"/\aDp X.K t σ H1 Q) I ⟨rfl,h⟩) fun u s1 zq=>?_) ht
 obtain⟨x,H1,I1,rx,ex,q⟩:=zq
 subst ex
 obtain rfl:u=Value.type "ValueError":=rx
 have key:∀ {Q':Value × List Value->Shared->Prop},Q' (.builtin "ValueError.__init__",[]) { s1 with toks:=s1.toks + 1 }->wpAny (model X.prog X.w) X.A (getMethod (.type "ValueError") "__init__" pl) Q' X.xe s1:=fun {Q'} q'=>by
  unfold getMethod
  refine wpAny_bind ((PySem.W.Looks.of_pure aKx).here ?_)
  dsimp only
  rw [if_pos PySem.W.canon_tga]
  refine wpAny_bind (PySem.W.cls_open (hook:=none) I1.kIn (PySem.W.Looks.of_pure aIz) (PySem.W.Looks.of_pure aFi) c.ga (PySem.W.Looks.of_pure aDr) c.sub c.f (wpAny_pure ?_))
  show wpAny _ _ (handedOut (.builtin "ValueError.__init__")) _ _ _
  rw [PySem.W.handedOut_of (v:=.builtin "ValueError.__init__") rfl]
  exact wpAny_pure (wpAny_pure q')
 refine key ?_
 refine PyProof.Rows.callWith_builtin1 (thn (ha pos pins _ σ H1 _ (I1.tok _) q) fun us s2 zq=>?_) hst hpl
 obtain⟨vs,H2,I2,r,e',v,C,R,fI,dx,ev,he,cx,q2⟩:=zq
 subst ev
 cases r with
 | cons r1 r2 =>
  cases r2 with
  | cons r3 r4 =>
   cases r4
   cases r1
   obtain⟨⟨oe,vs,g,oc,ox,od,h1,hv⟩,_⟩:=I2.hok e' _ he
   obtain⟨nm,qn,N,bs,sn,sub,ab,col,dd,k0,k1,k2,k3,k5,mN,oI,hC,_⟩:=cx.cls I2.kIn
   obtain⟨hh,gg,d,tk,os⟩:=s2
   refine xinit (aEd R) hC g oc od h1 fun h' oe' vs' kp g' oc' ox' od' sz hv'=>?_
   have I3:=I2.write (x:=e') (e:=e') (o:=Ex0 e' C dx) (t':=tk) (h':=h') (by rw [he];exact True.intro) (.inl rfl) (fun b o nb z=>kp b o nb z) ⟨_,g'⟩ (Ex0.ok g' (oc'.trans oc) (ox'.trans ox) od' (by rw [sz];exact h1) (hv'.trans hv))
   rw [aKq he] at I3
   exact⟨.non,H2,I3,rfl,q2⟩
theorem aCq {pins:List (Addr × Obj)} {σ:St} {H:Hp} {s:Shared} {Q:VK} {us:List Value} {vs:List V} (c:cR X.K C R f) (F:jK X.prog X.w X.K X.mg X.base CX k f fd ps sp) (hr:qX (k + 1) X.A) (hb:Binds X.K fd ps ds) (hd:kC dvs ds)
  (hx:xV CX X E) (I:Inv X pins σ H s) (r:kC vs us) (hz:vs.length<=sizeLine) (h:∀ e,H e=none->sp (.ref e::(vs++dvs)) (upd H e (Ex0 e C none)) (fun v H2=>v=.non/\Q (.ref e) H2) E) :
  wpAny (model X.prog X.w) X.A (call (.ref C) us) (fun u s'=>∃ e H',u=.ref e/\X.s₀.heap.objs.size<=e/\Inv X pins σ H' s'/\Q (.ref e) H') X.xe s:=by
 obtain⟨nm,qn,N,bs,sn,sub,ab,col,dd,k0,k1,k2,k3,k5,mN,oI,hC,hN,hi,hf,hfc⟩:=c.cls I.kIn
 obtain⟨hh,g,d,t,os⟩:=s
 refine xmake (aEd R) hC hN hi hf hfc (by rw [← r.length];exact hz) fun h' e mk ye=>?_
 obtain⟨kp,en,t0,e1,tn,e2⟩:=mk
 have hE:H e=none:=I.hok.fresh ye
 have I2:Inv X pins σ (upd H e (Ex0 e C none)) ⟨h',g,d,t,os⟩:=I.laid (a:=e) (o:=Ex0 e C none) (t':=t) kp ye (Ex0.ok e1 rfl rfl rfl (by show 1 < 6;decide) rfl)
 have hq:=h e hE
 have r2:kC (V.ref e::(vs++dvs)) (Value.ref e::(us++ds)):=.cons rfl (r.append hd)
 have hl:(Value.ref e::us++ds).length=ps.length:=by
  have e':=r2.length
  rw [F.len _ _ _ _ hq] at e'
  exact e'.symm
 refine wpAny_call (codeAny_mono (F.run _ X.stack _ _ ⟨Value.ref e::us,[]⟩ (Value.ref e::(us++ds)) _ _ E (hr.make C us []) (I2.env0.make C us []) (hb _ (Value.ref e::us) I2.kIn hl) r2 hq) fun rr s' hq'=>?_)
 cases rr with
 | error ev=>exact hx pins σ _ _ ev s' I2 hq'
 | ok fl =>
  cases fl with
  | ret u =>
   obtain⟨v,H',I3,rv,ev,q3⟩:=I2.after hq'
   subst ev
   exact⟨rv,e,H',rfl,Nat.le_trans I.sz ye,I3,q3⟩
  | next=>exact False.elim hq'
  | brk=>exact False.elim hq'
  | cont=>exact False.elim hq'
def aJm (S:St->Prop) (C:Addr) (sp:Sp) (dvs:List V) (E:XK) (t:TA):TS:=fun _ σ H=>S σ/\t σ H fun vs H1=>vs.length<=1000/\∀ e,H1 e=none →
 sp (.ref e::(vs++dvs)) (upd H1 e (Ex0 e C none)) (fun v H2=>v=.non/\∃ e' dx,V.ref e=.ref e'/\H2 e'=some (Ex0 e' C dx)/\E (.ref e') none (upd H2 e' (ExF e' C dx))) E0
theorem zE {S:St->Prop} {rpos:Pos} (c:cR X.K C R f) (F:jK X.prog X.w X.K X.mg X.base (CXE X.prog X.w) k f fd ps sp) (hr:qX (k + 1) X.A) (hg:Gl X x) (hm:X.mg x=some (.ref C)) (hb:Binds X.K fd ps ds) (hd:kC dvs ds) (hra:aEa X S E) (ha:PA X (e::es) t)
  (hdb:(x == ("__debug__" : Str))=false:=by decide) (he:starEach (e::es) X.env=(false,eval e X.env)::starEach es X.env:=by rfl) (hpl:(backTo pos (starEach es X.env)).any (·.1)=false:=by rfl) :
  PS X (.Raise (some (.Call (.Name x p) (e::es) [] pos)) none rpos) (aJm S C sp dvs E t):=by
 intro pins s σ H D I h
 obtain⟨hS,h⟩:=h
 refine aJs hr.hd ?_
 refine wpAny_Call_Name_kw (cN I hg hm ?_ hdb)
 refine PySem.W.callWith_K (h₀:=X.base) I.ok.mod.kin c.kp (thn (ha pos pins s σ H _ I h) fun us s1 ⟨vs,H1,I1,r,hz,q⟩=>⟨I1.kIn,?_⟩) he hpl
 refine thn (aCq (E:=E0) (Q:=fun v H2=>∃ e' dx,v=.ref e'/\H2 e'=some (Ex0 e' C dx)/\E (.ref e') none (upd H2 e' (ExF e' C dx))) c F hr hb hd passX I1 r (by rw [sizeLine_eq];omega) q) fun u s2 zq=>?_
 obtain⟨e',H2,eu,ye,I2,e'',dx,e3,h2,hE⟩:=zq
 ·cases e3
  obtain⟨⟨oe,vs',g,oc,ox,od,h1,hv⟩,_⟩:=I2.hok e' _ h2
  obtain⟨nm,qn,N,bs,sn,sub,ab,col,dd,k0,k1,k2,k3,k5,mN,oI,hC,_⟩:=c.cls I2.kIn
  obtain⟨c1,d1,dt1,sl1⟩:=oe
  cases oc;cases ox;cases od
  exact⟨e',C,N,nm,qn,bs,_,true,sn,sub,ab,col,dd,k0,k1,k2,k3,k5,_,vs',sl1,eu,aEd R,hC,g,hv,hra pins σ H2 s2 e' C _ hS I2 h2 ye hE⟩
end
theorem oP {v i p} {es:List Expr} {env:Env} : starEach (.Subscript v i p::es) env=(false,eval (.Subscript v i p) env)::starEach es env:=rfl
theorem se_un {o v p} {es:List Expr} {env:Env} : starEach (.UnaryOp o v p::es) env=(false,eval (.UnaryOp o v p) env)::starEach es env:=rfl
theorem wB {l o r p} {es:List Expr} {env:Env} : starEach (.BinOp l o r p::es) env=(false,eval (.BinOp l o r p) env)::starEach es env:=rfl
section
variable {X:Cx}
theorem wW {c:Expr} {a b:List Stmt} {tc:TT} {t u:TS} {pos:Pos} (hc:PT X c tc) (ha:PSx X a t) (hb:PSs X b u):aBv X (.If c a b pos) (tIfS tc t u):=⟨kI hc ha.h hb⟩
end
section
variable {X:Cx}
def tyM (K:Frag) (x:V) (H:Hp) (t:String):Prop:=tyN K x H t\/(t = "dict"/\∃ p kvs,x=.ref p/\H p=some (.dK kvs))
theorem aBt:vP X (.builtin "isinstance") (fun xs H Q=>∃ x T t,xs=[x,.ty T]/\T ∈ uB/\tyM X.K x H t/\Q (.bl (isa t T)) H):=by
 intro pins s σ H xs us Q I r h
 obtain⟨x,T,t,rfl,hT,ht|⟨rfl,p,kvs,rfl,hp⟩,q⟩:=h
 ·exact iY pins s σ H _ us Q I r ⟨x,T,t,rfl,hT,ht,q⟩
 ·exact nP pins s σ H _ us Q I r ⟨p,T,kvs,rfl,hT,hp,q⟩
end
def aIt (v:V):Prop:=cC v=true\/∃ r,v=.ref r
theorem aEg:∀ {v:V},cC v=true->eqV v v=true
 | .non,_=>rfl
 | .bl b,_=>by cases b <;> rfl
 | .int i,_=>by simp [eqV]
 | .str x,_=>by simp [eqV]
theorem aBy {A:Around} {s:Shared} {v:V} {u u':Value} (h:aIt v) (r:RelV v u) (r':RelV v u'):SeqAt.EqAt A s u u' true:=by
 rcases h with h|⟨a,rfl⟩
 ·have:=aFj (A:=A) (s:=s) r r' h h
  rw [aEg h] at this
  exact this
 ·cases r
  cases r'
  exact SeqAt.EqAt.same _
section
variable {X:Cx} {pins:List (Addr × Obj)} {σ:St} {H:Hp} {s:Shared} {h':Heap}
theorem Inv.turned2 {t':Nat} {e it p:Addr} {o:HO} (I:Inv X pins σ H s) (k:∀ b u,b ≠ e->b ≠ it->s.heap.get? b=some u->h'.get? b=some u) (fe:bD X pins H e) (fi:bD X pins H it)
  (hp:s.heap.objs.size<=p) (new:qC X.prog X.w (upd H p o) h' p o):Inv X pins σ (upd H p o) { s with heap:=h',toks:=t' }:=by
 have hn:=I.hok.fresh hp
 have ne:∀ b u,H b=some u->b ≠ e:=fun b u q=>jL q fe.1
 have ni:∀ b u,H b=some u->b ≠ it:=fun b u q=>jL q fi.1
 have nx:∀ b,b ∉ [e,it]->b ≠ e/\b ≠ it:=fun b hb=>⟨fun z=>hb (by simp [z]),fun z=>hb (by simp [z])⟩
 have np:∀ b u,s.heap.get? b=some u->b ≠ p:=fun b u q=>Nat.ne_of_lt (Nat.lt_of_lt_of_le (Heap.lt_size q) hp)
 have u:Un (frs X.stack) [e,it] H (upd H p o) s.heap h':=by
  refine⟨fun b u q _ _ hx=>k b u (nx b hx).1 (nx b hx).2 q,fun b u q _ _ hx=>⟨u.slots,k b u (nx b hx).1 (nx b hx).2 q⟩,fun b u q n _=>?_,fun b u q hx=>⟨u,k b u (nx b hx).1 (nx b hx).2 q⟩,fun b xs q=>?_,fun b o' u q=>?_,fun b ps q=>⟨#[],?_⟩⟩
  ·rw [jS (np b u q)];exact n
  ·rw [jS (jL q hn)];exact q
  ·rw [jS (jL q hn)];exact q
  ·rw [jS (jL q hn),q];simp
 have hok:HOk X.prog X.w (upd H p o) h':=fun b v eb=>by
  by_cases hb:b=p
  ·subst hb;rw [jH] at eb;cases eb;exact new
  ·rw [jS hb] at eb
   refine (I.hok b v eb).stay (fun c w hc q=>k c w ?_ ?_ q) (fun c q=>by rw [jS (jL q hn)];exact q) fun c xs q=>by rw [jS (jL q hn)];exact q
   ·rcases hc with z|z
    ·rw [z];exact ne b v eb
    ·exact ne c _ z
   ·rcases hc with z|z
    ·rw [z];exact ni b v eb
    ·exact ni c _ z
 refine I.call (g':=s.gens) (d':=s.drawn) (t':=t') (ch:=[e,it]) u hok I.bare fun b hb=>?_
 have:b=e\/b=it:=by simpa using hb
 rcases this with rfl|rfl
 ·exact⟨fe.2.2.2.1,fe.2.1,fe.2.2.2.2.1,fe.2.2.2.2.2⟩
 ·exact⟨fi.2.2.2.1,fi.2.1,fi.2.2.2.2.1,fi.2.2.2.2.2⟩
end
def Ite (K:Frag) (a:Addr):It :=
 ⟨fun i H=>∃ xs x,SqL K H a xs/\xs[i]?=some x,fun i H x H'=>∃ y p,x=.ref p/\H p=none/\H'=upd H p (.tup [.int (i:Int),y])/\∀ xs,SqL K H a xs->xs[i]?=some y,fun i H=>∃ xs,SqL K H a xs/\xs.length<=i⟩
theorem aCk {P:Program} {w:World} {K:Frag} {elts:List Expr} {x1:Nat} {pos:Pos} (a e it:Addr) (hne:e ≠ it):Turn P w K (.Tuple elts x1 pos) (Ite K a) [e,it] e (fun i h=>(∃ old,IsEnum h e it (i:Int) old)/\h.IsListIter it a i) where
 mem:=by simp
 obj:=fun i h st b hb=>by
  have:b=e\/b=it:=by simpa using hb
  obtain⟨⟨old,he⟩,o,ho,hc,hd⟩:=st
  rcases this with rfl|rfl
  ·exact⟨_,he,fun v z=>by cases z⟩
  ·exact⟨o,ho,fun v z=>by rw [hd] at z;cases z⟩
 keep:=fun i h h' st k=>by
  obtain⟨⟨old,he⟩,o,ho,r⟩:=st
  exact⟨⟨old,k e (by simp) _ he⟩,o,k it (by simp) _ ho,r⟩
 item:=by
  intro X hP hw hK hc i pins s σ H E I hf st hg
  subst hP hw hK
  obtain⟨xs,x,hq,hx⟩:=hg
  obtain⟨its,rv,p,hz⟩:=I.list hq
  obtain⟨u,hu,ru⟩:=rv.get hx
  have fe:=hf e (by simp)
  have fi:=hf it (by simp)
  obtain⟨⟨old,he⟩,hit⟩:=st
  refine wpAny_pyNext_enum_item he hit p.isList (x:=u) (by simpa using hu) hne fun h1 heo hit1 ht1 hz1 hk1=>⟨_,rfl,?_⟩
  refine wpAny_letOwnedTupleGo_enum heo fun h2 he2 hs2=>?_
  replace hs2:Heap.SameBut e h1 h2:=hs2
  have ne:s.heap.objs.size ≠ e:=Nat.ne_of_gt (Heap.lt_size he)
  have ht2:h2.get? s.heap.objs.size=some { cls:=.type "tuple",data:=.seq #[.int i s.toks,u] }:=(hs2.2 _ ne).trans ht1
  have k2:∀ b v,b ≠ e->b ≠ it->s.heap.get? b=some v->h2.get? b=some v:=fun b v n1 n2 q=>(hs2.2 b n1).trans (hk1 b v n1 n2 q)
  refine⟨.ref s.heap.objs.size,upd H s.heap.objs.size (.tup [.int (i:Int),x]),I.turned2 (t':=s.toks + 1) k2 fe fi (Nat.le_refl _) ⟨(by show 2<=sizeLine;decide),[.int i s.toks,u],.cons ⟨_,rfl⟩ (.cons ru .nil),_,ht2,rfl,_,rfl⟩,rfl,⟨x,_,rfl,I.hok.fresh (Nat.le_refl _),rfl,fun ys hy=>by rw [I.list_inj hy hq];exact hx⟩,⟨⟨_,he2⟩,?_⟩,fun b hb=>?_⟩
  ·obtain⟨o,ho,r⟩:=hit1
   exact⟨o,(hs2.2 it (Ne.symm hne)).trans ho,r⟩
  ·have:b=e\/b=it:=by simpa using hb
   obtain⟨oi,hoi,_⟩:=hit
   rcases this with rfl|rfl
   ·rw [jS (Ne.symm ne)];exact fe.1
   ·rw [jS (Nat.ne_of_lt (Heap.lt_size hoi))];exact fi.1
 done:=by
  intro X hP hw hK hc i pins s σ H E I hf st hg
  subst hP hw hK
  obtain⟨xs,hq,hl⟩:=hg
  obtain⟨its,rv,p,hz⟩:=I.list hq
  have hlen:=rv.length
  obtain⟨f0,f1,f2,f3,f4,f5⟩:=hf it (by simp)
  obtain⟨⟨old,he⟩,hit⟩:=st
  exact wpAny_pyNext_enum_end (I.ok.hd hc) he hit p.isList (by simp;omega) fun h' eb=>⟨rfl,I.turned (t':=s.toks) (fun b o hb e=>eb b o hb e) f0 f1 f3 f4 f5⟩
 self:=fun _ _ _ _ _ st h=>by
  obtain⟨⟨old,he⟩,_⟩:=st
  exact wpAny_pyIter_enum he h
def iEnum (K:Frag) (ta:TA):TI:=fun σ H R=>ta σ H fun vs H1=>∃ a xs,vs=[.ref a]/\SqL K H1 a xs/\R (Ite K a) H1
theorem iI {X:Cx} {elts:List Expr} {x1:Nat} {tpos:Pos} {a:Expr} {ta:TA} {p pos:Pos} (hg:Gl X "enumerate") (hm:X.mg "enumerate" = none) (ha:PA X [a] ta) (hs:starEach [a] X.env=[(false,eval a X.env)]:=by rfl):PI X (.Tuple elts x1 tpos) (.Call (.Name "enumerate" p) [a] [] pos) (iEnum X.K ta):=by
 intro pins s σ H R I h
 refine Call_ (bW I hg hm boot_enumerate (PyProof.Rows.callWith_type1 (thn (ha pos pins s σ H _ I h) fun us s1 zq=>?_) hs rfl))
 obtain⟨vs,H1,I1,r1,q1⟩:=zq
 obtain⟨l,xs,e,hl,q⟩:=q1
 subst e
 obtain⟨u,rfl,rx⟩:=vals1 r1
 cases rx
 obtain⟨its,rv,pl,hz⟩:=I1.list hl
 refine call_enumerate_list pl.isList fun h' he hit hsz hk=>wpAny_pyIter_enum he ?_
 refine⟨s1.heap.objs.size + 1,[s1.heap.objs.size + 1,s1.heap.objs.size],_,_,H1,rfl,I1.kept (t':=s1.toks) hk,aCk l _ _ (Nat.succ_ne_self _),⟨⟨_,he⟩,hit⟩,fun b hb=>?_,q⟩
 have:b=s1.heap.objs.size + 1\/b=s1.heap.objs.size:=by simpa using hb
 rcases this with rfl|rfl
 ·exact I1.fpOk (Nat.le_succ _) (I1.hok.fresh (Nat.le_succ _))
 ·exact I1.fpOk (Nat.le_refl _) (I1.hok.fresh (Nat.le_refl _))
theorem dS {K:Frag} {a:Addr} {xs:List V} {g:TG} {tb:TS} {D:Ends} {σ:St} {H:Hp} (Pv:Nat->St->Hp->Prop) (h0:Pv 0 σ H) (hl:∀ i σ H,i<=xs.length->Pv i σ H->SqL K H a xs)
  (hs:∀ i x σ H p,xs[i]?=some x->Pv i σ H->H p=none->g (.ref p) σ (upd H p (.tup [.int (i:Int),x])) fun σ2 H2=>tb { D with nx:=Pv (i + 1),ct:=Pv (i + 1),bk:=D.nx } σ2 H2) (hd:∀ σ H,Pv xs.length σ H->D.nx σ H) :
  ∃ W:Nat->Nat->St->Hp->Prop,(∃ m,W 0 m σ H)/\∀ i m σ H,W i m σ H →
   ((Ite K a).stop i H/\D.nx σ H)\/((Ite K a).go i H/\∃ N:St->Hp->Prop,(∀ σ' H',N σ' H'->∃ m',m' < m/\W (i + 1) m' σ' H')/\∀ x H',(Ite K a).yld i H x H'->g x σ H' fun σ2 H2=>tb { D with nx:=N,ct:=N,bk:=D.nx } σ2 H2):=by
 refine⟨fun i m σ H=>m=xs.length - i/\i<=xs.length/\Pv i σ H,⟨xs.length,by simp,Nat.zero_le _,h0⟩,?_⟩
 rintro i m σ H ⟨rfl,hi,p⟩
 have q:=hl i σ H hi p
 by_cases hlt:i < xs.length
 ·refine .inr ⟨⟨xs,xs[i],q,by simp [hlt]⟩,Pv (i + 1),fun σ' H' p'=>⟨xs.length - (i + 1),by omega,rfl,hlt,p'⟩,fun x H' y=>?_⟩
  obtain⟨y',pa,rfl,hn,rfl,hy⟩:=y
  exact hs i y' σ H pa (hy xs q) p hn
 ·have e:i=xs.length:=by omega
  subst e
  exact .inl ⟨⟨xs,q,Nat.le_refl _⟩,hd σ H p⟩
section
variable {X:Cx}
def unlike (ns:List Int):Nat:=(firstMet (fun i=>ns.getD i 0) ns.length).length
end
end L2
namespace L2
open PySem
theorem qX.units1 {k:Nat} {A:Around} (r:qX k A):A.units + 1 < cLine:=by
 have:=r.units
 omega
end L2
namespace L2
open PySem PySem.Spec PyProof.Rows
def Sq2 (K:Frag):Bool->Hp->Addr->List V->Prop
 | false,H,a,xs=>SqL K H a xs
 | true,H,a,xs=>SqT K H a xs
def xB:Bool->Heap->Addr->Addr->Nat->Prop
 | false,h,j,a,i=>h.IsListIter j a i
 | true,h,j,a,i=>h.IsTupleIter j a i
def qP:Bool->Heap->Addr->Array Value->Prop
 | false,h,a,xs=>h.IsList a xs
 | true,h,a,xs=>h.IsTuple a xs
theorem xB.keep {b:Bool} {h g:Heap} {j a:Addr} {i:Nat} (x:xB b h j a i) (k:∀ o,h.get? j=some o->g.get? j=some o):xB b g j a i:=by
 cases b <;> (obtain⟨o,e,r⟩:=x;exact⟨o,k o e,r⟩)
theorem qP.keep {b:Bool} {h g:Heap} {a:Addr} {xs:Array Value} (x:qP b h a xs) (k:∀ o,h.get? a=some o->g.get? a=some o):qP b g a xs:=by
 cases b <;> (obtain⟨o,e,r⟩:=x;exact⟨o,k o e,r⟩)
theorem xB.obj {b:Bool} {h:Heap} {j a:Addr} {i:Nat} (x:xB b h j a i):∃ o,h.get? j=some o/\∀ v,o.data ≠ .cell v:=by
 cases b <;> (obtain⟨o,e,c,d⟩:=x;exact⟨o,e,fun v z=>by rw [d] at z;cases z⟩)
theorem qP.lt {b:Bool} {h:Heap} {a:Addr} {xs:Array Value} (x:qP b h a xs):a < h.objs.size:=by
 cases b <;> (obtain⟨o,e,_⟩:=x;exact Heap.lt_size e)
section
variable {P:Program} {w:World} {A:Around} {E:Value->Shared->Prop} {s:Shared}
theorem aHf {j a:Addr} {n:Nat} {vs:Array Value} {v:Value} {Q:Value->Shared->Prop} (hj:s.heap.IsTupleIter j a n) (ha:s.heap.IsTuple a vs) (hv:vs[n]?=some v)
  (q:∀ g,g.IsTupleIter j a (n + 1)->Heap.SameBut j s.heap g->Q v { s with heap:=g }):wpAny (model P w) A (Builtin.SmallTypes.nextOf (.ref j)) Q E s:=by
 obtain⟨oj,ej,cj,dj⟩:=id hj
 obtain⟨oa,ea,ca,na,da⟩:=ha
 unfold Builtin.SmallTypes.nextOf
 refine wpAny_bind (wpAny_callSpecial?_slot (name:=Str.ofString "__next__") hj.typeIs F.slot_tuple_iterator_next (wpAny_call_entry F.slot_tuple_iterator_next hj.typeIs F.entry_tuple_iterator_next ?_ (F.args_tuple_iterator_next_1 _)))
 show wpAny _ _ (field (.ref j) 0 >>= _) _ _ s
 refine wpAny_bind (wpAny_field ej dj (x:=.ref a) rfl ?_)
 show wpAny _ _ (if (Value.ref a == Value.none)=true then _ else _) _ _ s
 rw [if_neg (show ¬ ((Value.ref a == Value.none)=true) from Bool.false_ne_true)]
 show wpAny _ _ (field (.ref j) 1 >>= _) _ _ s
 refine wpAny_bind (wpAny_field ej dj (x:=.int n 0) rfl ?_)
 show wpAny _ _ (seqItems? (.ref a) >>= _) _ _ s
 refine wpAny_bind (wpAny_seqItems ea da ?_)
 simp only [Int.toNat_natCast,hv]
 refine wpAny_bind (wpAny_setField ej dj (by simp) (wpAny_pure ⟨v,rfl,wpAny_pure (q _ ?_ (Heap.SameBut.update ..))⟩))
 exact⟨_,Heap.get?_update_self _ ej (Obj.isFreed_of_fields (Obj.data_mapFields dj _)),(Obj.cls_mapFields ..).trans cj,by rw [Obj.data_mapFields dj];simp [rawInt]⟩
theorem aJx {j a:Addr} {n:Nat} {vs:Array Value} {Q:Value->Shared->Prop} (hh:A.handled=none) (hj:s.heap.IsTupleIter j a n) (ha:s.heap.IsTuple a vs) (hv:vs[n]?=none)
  (hE:∀ g x,Heap.ExtBut j s.heap g->(∃ o,g.get? x=some o/\o.cls=.type "StopIteration")->E (.ref x) { s with heap:=g }):wpAny (model P w) A (Builtin.SmallTypes.nextOf (.ref j)) Q E s:=by
 obtain⟨oj,ej,cj,dj⟩:=id hj
 obtain⟨oa,ea,ca,na,da⟩:=ha
 unfold Builtin.SmallTypes.nextOf
 refine wpAny_bind (wpAny_callSpecial?_slot (name:=Str.ofString "__next__") hj.typeIs F.slot_tuple_iterator_next (wpAny_call_entry F.slot_tuple_iterator_next hj.typeIs F.entry_tuple_iterator_next ?_ (F.args_tuple_iterator_next_1 _)))
 show wpAny _ _ (field (.ref j) 0 >>= _) _ _ s
 refine wpAny_bind (wpAny_field ej dj (x:=.ref a) rfl ?_)
 show wpAny _ _ (if (Value.ref a == Value.none)=true then _ else _) _ _ s
 rw [if_neg (show ¬ ((Value.ref a == Value.none)=true) from Bool.false_ne_true)]
 show wpAny _ _ (field (.ref j) 1 >>= _) _ _ s
 refine wpAny_bind (wpAny_field ej dj (x:=.int n 0) rfl ?_)
 show wpAny _ _ (seqItems? (.ref a) >>= _) _ _ s
 refine wpAny_bind (wpAny_seqItems ea da ?_)
 simp only [Int.toNat_natCast,hv]
 refine wpAny_bind (wpAny_rule (wpAny_bind (wpAny_setField ej dj (by simp) ?_)))
 show wpAny _ _ (newExc (.type "StopIteration") [] >>= fun x=>raiseNew x) _ _ _
 refine wpAny_bind ?_
 simp only [newExc,newTuple]
 refine wpAny_bind (wpAny_newObj_type ?_ (by size_fits))
 refine wpAny_bind (m:=firstArgMember _ _) (wpAny_of_eq (a:=Value.none) (by first|rfl|(simp only [firstArgMember];rfl)) ?_)
 refine wpAny_newObj_type ?_ (by size_fits)
 simp only [raiseNew]
 refine wpAny_bind (wpAny_handled ?_)
 first|rw [show A.in1.handled=none from hh]|rw [hh]
 exact wpAny_bind (wpAny_pure (wpAny_throw (hE _ _ (((Heap.SameBut.update ..).extBut.push _).push _) ⟨_,Heap.get?_push_size _ rfl,rfl⟩)))
theorem mG {b:Bool} {j a:Addr} {n:Nat} {vs:Array Value} {v:Value} {Q:Value->Shared->Prop} (hj:xB b s.heap j a n) (ha:qP b s.heap a vs) (hv:vs[n]?=some v)
  (q:∀ g,xB b g j a (n + 1)->Heap.SameBut j s.heap g->Q v { s with heap:=g }):wpAny (model P w) A (Builtin.SmallTypes.nextOf (.ref j)) Q E s:=by
 cases b
 ·exact wpAny_nextOf_list_item hj ha hv q
 ·exact aHf hj ha hv q
theorem aGb {b:Bool} {j a:Addr} {n:Nat} {vs:Array Value} {Q:Value->Shared->Prop} (hh:A.handled=none) (hj:xB b s.heap j a n) (ha:qP b s.heap a vs) (hv:vs[n]?=none)
  (hE:∀ g x,Heap.ExtBut j s.heap g->(∃ o,g.get? x=some o/\o.cls=.type "StopIteration")->E (.ref x) { s with heap:=g }):wpAny (model P w) A (Builtin.SmallTypes.nextOf (.ref j)) Q E s:=by
 cases b
 ·exact wpAny_nextOf_list_end hh hj ha hv hE
 ·exact aJx hh hj ha hv hE
end
abbrev itN (b:Bool):String:=if b then "tuple_iterator" else "list_iterator"
abbrev zp1 (b:Bool) (h:Heap) (a:Addr):Heap:=h.push { cls:=.type (itN b),data:=.fields #[.ref a,.int 0 0] }
section
variable {X:Cx} {pins:List (Addr × Obj)} {σ:St} {H:Hp} {s:Shared} {h':Heap}
theorem Inv.turnedL {t':Nat} {ch:List Addr} {p:Addr} {o:HO} (I:Inv X pins σ H s) (k:∀ b u,b ∉ ch->s.heap.get? b=some u->h'.get? b=some u) (f:∀ b ∈ ch,bD X pins H b)
  (hp:s.heap.objs.size<=p) (new:qC X.prog X.w (upd H p o) h' p o):Inv X pins σ (upd H p o) { s with heap:=h',toks:=t' }:=by
 have hn:=I.hok.fresh hp
 have nx:∀ b u,H b=some u->b ∉ ch:=fun b u q z=>jL q (f b z).1 rfl
 have np:∀ b u,s.heap.get? b=some u->b ≠ p:=fun b u q=>Nat.ne_of_lt (Nat.lt_of_lt_of_le (Heap.lt_size q) hp)
 have u:Un (frs X.stack) ch H (upd H p o) s.heap h':=by
  refine⟨fun b u q _ _ hx=>k b u hx q,fun b u q _ _ hx=>⟨u.slots,k b u hx q⟩,fun b u q n _=>?_,fun b u q hx=>⟨u,k b u hx q⟩,fun b xs q=>?_,fun b o' u q=>?_,fun b ps q=>⟨#[],?_⟩⟩
  ·rw [jS (np b u q)];exact n
  ·rw [jS (jL q hn)];exact q
  ·rw [jS (jL q hn)];exact q
  ·rw [jS (jL q hn),q];simp
 have hok:HOk X.prog X.w (upd H p o) h':=fun b v eb=>by
  by_cases hb:b=p
  ·subst hb;rw [jH] at eb;cases eb;exact new
  ·rw [jS hb] at eb
   refine (I.hok b v eb).stay (fun c w hc q=>k c w ?_ q) (fun c q=>by rw [jS (jL q hn)];exact q) fun c xs q=>by rw [jS (jL q hn)];exact q
   rcases hc with z|z
   ·rw [z];exact nx b v eb
   ·exact nx c _ z
 exact I.call (g':=s.gens) (d':=s.drawn) (t':=t') (ch:=ch) u hok I.bare fun b hb=>⟨(f b hb).2.2.2.1,(f b hb).2.1,(f b hb).2.2.2.2.1,(f b hb).2.2.2.2.2⟩
theorem Inv.turnedL0 {t':Nat} {ch:List Addr} (I:Inv X pins σ H s) (k:∀ b u,b ∉ ch->s.heap.get? b=some u->h'.get? b=some u) (f:∀ b ∈ ch,bD X pins H b):Inv X pins σ H { s with heap:=h',toks:=t' }:=by
 have nx:∀ b u,H b=some u->b ∉ ch:=fun b u q z=>jL q (f b z).1 rfl
 have u:Un (frs X.stack) ch H H s.heap h':=by
  refine⟨fun b u q _ _ hx=>k b u hx q,fun b u q _ _ hx=>⟨u.slots,k b u hx q⟩,fun b u q n _=>n,fun b u q hx=>⟨u,k b u hx q⟩,fun b xs q=>q,fun b o' u q=>q,fun b ps q=>⟨#[],?_⟩⟩
  rw [q];simp
 have hok:HOk X.prog X.w H h':=fun b v eb=>by
  refine (I.hok b v eb).stay (fun c w hc q=>k c w ?_ q) (fun c q=>q) fun c xs q=>q
  rcases hc with z|z
  ·rw [z];exact nx b v eb
  ·exact nx c _ z
 exact I.call (g':=s.gens) (d':=s.drawn) (t':=t') (ch:=ch) u hok I.bare fun b hb=>⟨(f b hb).2.2.2.1,(f b hb).2.1,(f b hb).2.2.2.2.1,(f b hb).2.2.2.2.2⟩
theorem Inv.seq2 {b:Bool} {a:Addr} {xs:List V} (I:Inv X pins σ H s) (h:Sq2 X.K b H a xs):∃ its:List Value,kC xs its/\qP b s.heap a its.toArray:=by
 cases b
 ·obtain⟨its,r,p,_⟩:=I.list h
  exact⟨its,r,p.isList⟩
 ·obtain⟨its,r,p,_⟩:=I.tuple h
  exact⟨its,r,p⟩
theorem Inv.seq2_inj {b:Bool} {a:Addr} {xs ys:List V} (I:Inv X pins σ H s) (h:Sq2 X.K b H a xs) (h':Sq2 X.K b H a ys):xs=ys:=by
 cases b
 ·exact I.list_inj h h'
 ·exact I.tuple_inj h h'
end
section
variable {X:Cx}
theorem rX:vP X (.type "int") (fun xs H Q=>∃ b:Bool,xs=[.bl b]/\Q (.int (if b then 1 else 0)) H):=by
 intro pins s σ H xs us Q I r h
 obtain⟨b,rfl,q⟩:=h
 obtain⟨u,rfl,r1⟩:=vals1 r
 cases r1
 exact call_int_bool ⟨.int _,H,I.tok _,⟨_,rfl⟩,q⟩
end
def wG (K:Frag) (H:Hp) (x:V) (d:PyData):Prop:=Dat K H x d\/(∃ a kvs,x=.ref a/\H a=some (.dK kvs))/\d=.dict []
def tyD:PyData->String
 | .none=>"NoneType"
 | .bool _=>"bool"
 | .int _=>"int"
 | .str _=>"str"
 | .list _=>"list"
 | .tuple _=>"tuple"
 | .dict _=>"dict"
theorem Dat.ty {K:Frag} {H:Hp} {x:V} {d:PyData} (h:Dat K H x d):tyN K x H (tyD d):=by
 cases h with
 | lst h _=>exact .inl ⟨rfl,_,h⟩
 | tup h _=>exact .inr ⟨rfl,_,h⟩
 | _=>rfl
theorem wG.ty {K:Frag} {H:Hp} {x:V} {d:PyData} (h:wG K H x d):tyM K x H (tyD d):=by
 rcases h with h|⟨⟨a,kvs,rfl,h⟩,rfl⟩
 ·exact .inl h.ty
 ·exact .inr ⟨rfl,a,kvs,rfl,h⟩
theorem wG.same {K:Frag} {H H':Hp} {x:V} {d:PyData} (h:wG K H x d) (g:jI H H'):wG K H' x d:=by
 rcases h with h|⟨⟨a,kvs,rfl,h⟩,rfl⟩
 ·exact .inl (h.same g)
 ·exact .inr ⟨⟨a,kvs,rfl,g _ _ h⟩,rfl⟩
theorem DatAll.length {K:Frag} {H:Hp} : ∀ {xs:List V} {ds:List PyData},DatAll K H xs ds->xs.length=ds.length
 | _,_,.nil=>rfl
 | _,_,.cons _ t=>congrArg (· + 1) (DatAll.length t)
theorem DatAll.get {K:Frag} {H:Hp} : ∀ {xs:List V} {ds:List PyData} {i:Nat} {x:V},DatAll K H xs ds->xs[i]?=some x->∃ d,ds[i]?=some d/\Dat K H x d
 | _,_,_,_,.nil,e=>by simp at e
 | _,_,0,_,.cons h _,e=>by simp at e;subst e;exact⟨_,rfl,h⟩
 | _,_,i + 1,x,.cons _ t,e=>by
  obtain⟨d,h1,h2⟩:=DatAll.get (i:=i) (x:=x) t (by simpa using e)
  exact⟨d,by simpa using h1,h2⟩
theorem DatAll.app {K:Frag} {H:Hp} : ∀ {xs ys:List V} {ds es:List PyData},DatAll K H xs ds->DatAll K H ys es->DatAll K H (xs++ys) (ds++es)
 | _,_,_,_,.nil,s=>s
 | _,_,_,_,.cons h t,s=>.cons h (DatAll.app t s)
theorem DatAll.take {K:Frag} {H:Hp} : ∀ {xs:List V} {ds:List PyData} (n:Nat),DatAll K H xs ds->DatAll K H (xs.take n) (ds.take n)
 | _,_,0,_=>.nil
 | _,_,_ + 1,.nil=>.nil
 | _,_,n + 1,.cons h t=>.cons h (DatAll.take n t)
theorem DatAll.drop {K:Frag} {H:Hp} : ∀ {xs:List V} {ds:List PyData} (n:Nat),DatAll K H xs ds->DatAll K H (xs.drop n) (ds.drop n)
 | _,_,0,h=>h
 | _,_,_ + 1,.nil=>.nil
 | _,_,n + 1,.cons _ t=>DatAll.drop n t
end L2
namespace L2
open PySem
theorem jC {H H1:Hp} {p:Addr} {o:HO} (e:upd H p o=H1) (hp:H p=none):jI H H1/\H1 p=some o:=by
 subst e
 exact⟨fun b u q=>by rw [jS (jL q hp)];exact q,jH⟩
theorem vB {H H1:Hp} {p:Addr} {o:HO} (e:upd H p o=H1):But p H H1/\H1 p=some o:=by
 subst e
 exact⟨But.upd,jH⟩
theorem jI.at {H H1:Hp} {a:Addr} {o:HO} (g:jI H H1) (h:H a=some o):H1 a=some o:=g _ _ h
theorem jI.tp {K:Frag} {H H':Hp} {a:Addr} {xs:List V} (e:jI H H') (h:SqT K H a xs):SqT K H' a xs:=by
 rcases h with (h|⟨o,h⟩)|h
 ·exact .inl (.inl (e _ _ h))
 ·exact .inl (.inr ⟨o,e _ _ h⟩)
 ·exact .inr h
theorem jI.dt {K:Frag} {H H':Hp} {x:V} {d:PyData} (g:jI H H') (h:Dat K H x d):Dat K H' x d:=h.same g
theorem jI.dts {K:Frag} {H H':Hp} {xs:List V} {ds:List PyData} (g:jI H H') (h:DatAll K H xs ds):DatAll K H' xs ds:=h.same g
theorem jI.dtt {K:Frag} {H H':Hp} {x:V} {d:PyData} (g:jI H H') (h:wG K H x d):wG K H' x d:=h.same g
theorem join {v:V} {H':Hp} {R:VK} {t:TT} {ta tb:TE} {σ:St} {H:Hp} (hk:R v H') (h:∀ Q:VK,Q v H'->tIf t ta tb σ H Q):tIf t ta tb σ H R:=h R hk
theorem tW (P:St->Hp->Prop) {D:Ends} {rest:TS} {c:TT} {t u:TS} {σ:St} {H:Hp} (hk:∀ σ' H',P σ' H'->rest D σ' H') (h:∀ nx:St->Hp->Prop,(∀ σ' H',P σ' H'->nx σ' H')->tIfS c t u { D with nx:=nx } σ H):tSeq (tIfS c t u) rest D σ H:=h (rest D) hk
end L2
local macro_rules | `(tactic| walk_at "hp") => `(tactic| first
 | assumption
 | exact L2.jH
 | exact L2.jI.refl _
 | (refine' L2.jI.at ?k1 ?_; (case k1=>assumption);walk_at "hp";done)
 | (refine L2.SqL.of ?_;walk_at "hp";done)
 | (refine L2.SqT.of ?_;walk_at "hp";done)
 | (refine' L2.jI.seq ?k1 ?_; (case k1=>assumption);walk_at "hp";done)
 | (refine' L2.jI.tp ?k1 ?_; (case k1=>assumption);walk_at "hp";done)
 | (refine' L2.jI.dt ?k1 ?_; (case k1=>assumption);walk_at "hp";done)
 | (refine' L2.jI.dts ?k1 ?_; (case k1=>assumption);walk_at "hp";done)
 | (refine' L2.jI.dtt ?k1 ?_; (case k1=>assumption);walk_at "hp";done)
 | (refine' L2.jI.trans ?_ ?k1; (case k1=>assumption);walk_at "hp";done))
local macro_rules | `(tactic| walk_at "al") => `(tactic| (intro pX hX; generalize eX : L2.upd _ pX _ = HX; obtain ⟨gX,kX⟩ := L2.jC eX hX; clear eX))
local macro_rules | `(tactic| o_unpack $r:ident) => `(tactic| (intro $r:ident hX; generalize eX : L2.upd _ $r:ident _ = HX; obtain ⟨gX,kX⟩ := L2.jC eX hX; clear eX))
local macro_rules | `(tactic| walk_at "ch") => `(tactic| (generalize eX : L2.upd _ _ _ = HX; obtain ⟨gX,kX⟩ := L2.vB eX; clear eX))
local macro_rules | `(tactic| walk_at "rd") => `(tactic| repeat first
 | (refine⟨_,rfl,?_⟩)
 | (refine⟨_,_,rfl,rfl,?_⟩)
 | (refine⟨_,_,rfl,rfl,⟨by decide,by decide⟩,?_⟩)
 | (refine' ⟨_,_,rfl,.inl ?k1,?_⟩; (case k1=>walk_at "hp"))
 | (refine' ⟨_,_,_,_,rfl,rfl,?k1,?k2,?_⟩; (case k1=>walk_at "hp"); (case k2=>rfl)))
namespace L2
open PySem PySem.Spec PyProof.Rows
section
variable {X:Cx}
theorem aF (hu:X.A.units + 64 < cLine):OpR X (compareOp .NotEq) (fun x y H Q=>∃ (a b:Addr) (xs:List V),x=.ref a/\y=.ref b/\SqL X.K H a xs/\SqL X.K H b []/\Q (.bl (!xs.isEmpty)) H):=by
 intro pins s σ H x y v u Q I rx ry h
 obtain⟨a,b,xs,rfl,rfl,ha,hb,q⟩:=h
 cases rx
 cases ry
 obtain⟨i1,r1,p1,_⟩:=I.list ha
 obtain⟨i2,r2,p2,_⟩:=I.list hb
 cases r2
 show wpAny _ _ (richCompare .NotEq (.ref a) (.ref b)) _ _ _
 cases xs with
 | nil =>
  cases r1
  refine SeqAt.RcNeAt.lists (e:=fun _=>true) p1.isList p2.isList rfl (by omega) (fun j h1 _=>absurd h1 (Nat.not_lt_zero _)) _ _ _ _ ?_
  exact⟨.bl false,H,I,rfl,q⟩
 | cons z zs =>
  cases r1 with
  | cons rz rt =>
   refine SeqAt.RcNeAt.lists_lengths p1.isList p2.isList (by simp) (by omega) _ _ _ _ ?_
   exact⟨.bl true,H,I,rfl,q⟩
end
inductive EqS (K:Frag) (H:Hp):Nat->V->V->Prop
 | same {n:Nat} {v:V} : aIt v->EqS K H n v v
 | lst {n:Nat} {a b:Addr} {xs ys:List V} : SqL K H a xs->SqL K H b ys->xs.length=ys.length->(∀ (i:Nat) x y,xs[i]?=some x->ys[i]?=some y->EqS K H n x y)->EqS K H (n + 1) (.ref a) (.ref b)
 | tup {n:Nat} {a b:Addr} {xs ys:List V} : SqT K H a xs->SqT K H b ys->xs.length=ys.length->(∀ (i:Nat) x y,xs[i]?=some x->ys[i]?=some y->EqS K H n x y)->EqS K H (n + 1) (.ref a) (.ref b)
section
variable {X:Cx}
theorem mR {n:Nat} : ((List.range n).all fun _=>true)=true:=by simp
theorem cK {us:List Value} {j:Nat} {u:Value} (h:us[j]?=some u) (hj:j < us.toArray.size):us.toArray[j]=u:=by
 have:=(List.getElem?_eq_some_iff.mp h).2
 simpa using this
theorem Inv.eqs {pins:List (Addr × Obj)} {σ:St} {H:Hp} {s:Shared} (I:Inv X pins σ H s):∀ {n:Nat} {x y:V},EqS X.K H n x y->∀ {A:Around} {u v:Value},RelV x u->RelV y v->A.units + n < cLine->SeqAt.EqAt A s u v true:=by
 intro n x y h
 induction h with
 | same hs=>intro A u v ru rv _;exact aBy hs ru rv
 | @lst n a b xs ys ha hb hl _ ih =>
  intro A u v ru rv hu
  cases ru
  cases rv
  by_cases hab:a=b
  ·subst hab;exact SeqAt.EqAt.same _
  obtain⟨i1,r1,p1,_⟩:=I.list ha
  obtain⟨i2,r2,p2,_⟩:=I.list hb
  have l1:=r1.length
  have l2:=r2.length
  refine SeqAt.EqAt.of_refs hab ?_
  have:=SeqAt.RcAt.lists (A:=A) (e:=fun _=>true) p1.isList p2.isList (by rw [List.size_toArray,List.size_toArray];omega) (by omega) (fun j h1 h2=>by
   have hj:j < xs.length:=by rw [List.size_toArray] at h1;omega
   have hj2:j < ys.length:=by omega
   obtain⟨u1,e1,q1⟩:=r1.get (List.getElem?_eq_getElem hj)
   obtain⟨u2,e2,q2⟩:=r2.get (List.getElem?_eq_getElem hj2)
   rw [cK e1,cK e2]
   exact ih j _ _ (List.getElem?_eq_getElem hj) (List.getElem?_eq_getElem hj2) q1 q2 (by show A.units + 1 + n < cLine;omega))
  rw [mR] at this
  exact this
 | @tup n a b xs ys ha hb hl _ ih =>
  intro A u v ru rv hu
  cases ru
  cases rv
  by_cases hab:a=b
  ·subst hab;exact SeqAt.EqAt.same _
  obtain⟨i1,r1,p1,_⟩:=I.tuple ha
  obtain⟨i2,r2,p2,_⟩:=I.tuple hb
  have l1:=r1.length
  have l2:=r2.length
  refine SeqAt.EqAt.of_refs hab ?_
  have:=SeqAt.RcAt.tuples (A:=A) (e:=fun _=>true) (show s.heap.IsTuple a i1.toArray from p1) (show s.heap.IsTuple b i2.toArray from p2) (by omega) (fun j h1 h2=>by
   have hj:j < xs.length:=by rw [List.size_toArray] at h1;omega
   have hj2:j < ys.length:=by omega
   obtain⟨u1,e1,q1⟩:=r1.get (List.getElem?_eq_getElem hj)
   obtain⟨u2,e2,q2⟩:=r2.get (List.getElem?_eq_getElem hj2)
   rw [cK e1,cK e2]
   exact ih j _ _ (List.getElem?_eq_getElem hj) (List.getElem?_eq_getElem hj2) q1 q2 (by show A.units + 1 + n < cLine;omega))
  rw [mR,show (i1.toArray.size == i2.toArray.size)=true by rw [List.size_toArray,List.size_toArray,show i1.length=i2.length by omega];simp] at this
  exact this
theorem aJy (hu:X.A.units + 64 < cLine):OpR X (compareOp .Eq) (fun x y H Q=>∃ (a b:Addr) (xs ys:List V),x=.ref a/\y=.ref b/\SqL X.K H a xs/\SqL X.K H b ys/\xs.length=ys.length/\(∀ (i:Nat) x y,xs[i]?=some x->ys[i]?=some y->EqS X.K H 8 x y)/\Q (.bl true) H):=by
 intro pins s σ H x y v u Q I rx ry h
 obtain⟨a,b,xs,ys,rfl,rfl,ha,hb,hl,he,q⟩:=h
 cases rx
 cases ry
 obtain⟨i1,r1,p1,_⟩:=I.list ha
 obtain⟨i2,r2,p2,_⟩:=I.list hb
 have l1:=r1.length
 have l2:=r2.length
 refine SeqAt.eq_listAt (e:=fun _=>true) p1.isList p2.isList (by rw [List.size_toArray,List.size_toArray];omega) (by omega) (fun j h1 h2=>?_) ?_
 ·have hj:j < xs.length:=by rw [List.size_toArray] at h1;omega
  have hj2:j < ys.length:=by omega
  obtain⟨u1,e1,q1⟩:=r1.get (List.getElem?_eq_getElem hj)
  obtain⟨u2,e2,q2⟩:=r2.get (List.getElem?_eq_getElem hj2)
  rw [cK e1,cK e2]
  exact I.eqs (he j _ _ (List.getElem?_eq_getElem hj) (List.getElem?_eq_getElem hj2)) q1 q2 (by show X.A.units + 1 + 8 < cLine;omega)
 ·rw [mR]
  exact⟨.bl true,H,I,rfl,q⟩
end
end L2
namespace L2
open PySem
theorem uD {n:Nat} (h:n < 2 ^ 100):n.log2 < 100:=by
 by_cases h0:n=0
 ·subst h0;decide
 ·exact (Nat.log2_lt h0).mpr h
end L2
namespace L2
open PySem PySem.Spec PyProof.Rows
theorem kY {x p} {es:List Expr} {env:Env} : starEach (.Name x p::es) env=(false,eval (.Name x p) env)::starEach es env:=rfl
section
variable {X:Cx} {e:Expr} {es:List Expr} {te:TE} {t:TA}
theorem aHl {pos:Pos} (h:PAx X es t):PEx X (.List es pos) (tLst t):=⟨kG h.h⟩
theorem dR {pos:Pos} (h:PEx X e te):aBv X (.Return (some e) pos) (tRet te):=⟨jP h.h⟩
theorem aEo {i:Nat} {x:Str} {pos' pos p1:Pos} (hN:X.N.Nodup) (hi:X.N[i]?=some x) (hx:X.env.scope.names.lookup x=some .local) (he:PEx X (.List es p1) te) :
  aBv X (.Assign [.Name x pos'] (.List es p1) pos) (tAsg te (cU i)):=⟨kB hN hi (.inl hx) he.h rfl (.inr hx)⟩
end
structure bC (k:Nat) (A:Around):Prop where
 dp:A.depth + 3 * k + 5 < recursionLimit
 un:A.units + 16 * k + 200 < cLine
 gd:A.guards=some []
theorem bC.mono {j k:Nat} {A:Around} (r:bC k A) (h:j<=k):bC j A:=⟨by have:=r.dp;omega,by have:=r.un;omega,r.gd⟩
theorem bC.deeper {k:Nat} {A:Around} (r:bC (k + 1) A) (env:Env):bC k (A.deeper env) :=
 ⟨by have:=r.dp;show A.depth + 1 + 3 * k + 5 < _;omega,by have:=r.un;show A.units + 3 + 16 * k + 200 < _;omega,r.gd⟩
theorem bC.depth {k:Nat} {A:Around} (r:bC k A):A.depth < recursionLimit:=by have:=r.dp;omega
theorem bC.units {k:Nat} {A:Around} (r:bC k A):A.units + 64 < cLine:=by have:=r.un;omega
theorem qX.toH {k:Nat} {A:Around} (r:qX k A):bC k A:=⟨r.dp,r.un,r.gd⟩
theorem qX.mark {k:Nat} {A:Around} (r:qX k A) (v:Option Value):bC k (A.mark v):=⟨r.dp,r.un,r.gd⟩
structure bF (P:Program) (w:World) (K:Frag) (mg:Str->Option Value) (base:Heap) (CX:CXT) (k:Nat) (m:Str) (C:Addr) (sp:Sp):Prop where
 cl:Cls K C
 ex:∃ f fd ps,Meth K C m f/\jK P w K mg base CX k f fd ps sp/\Binds K fd ps []
section
variable {X:Cx} {CX:CXT} {k:Nat} {E:XK} {m:Str} {pos apos:Pos} {e o:Expr} {es:List Expr} {ta:TE} {t:TA} {T:Addr->Sp->Prop}
def aGa (T:Addr->Sp->Prop) (m:Str) (E:XK) (ta:TE) (t:TA):TE:=fun σ H Q=>ta σ H fun x H1=>∃ a C dx fs sp,x=.ref a/\H1 a=some (.ins C dx fs)/\fs.lookup m=none/\T C sp/\t σ H1 fun vs H2=>sp (x::vs) H2 Q E
theorem sB {pl:Sem Bool} (he:PE X o ta) (hT:∀ C sp,T C sp->bF X.prog X.w X.K X.mg X.base CX k m C sp) (hr:qX k X.A) (hx:xV CX X E) (ha:PA X (e::es) t)
  (hst:starEach (e::es) X.env=(false,eval e X.env)::starEach es X.env:=by rfl) (hpl:(backTo pos (starEach es X.env)).any (·.1)=false:=by rfl)
  (ht:eval (.Call (.Attribute o m apos) (e::es) [] pos) X.env=(do
   let ov ← eval o X.env
   standAt apos.atName
   let (f,first) ← holding [ov] (getMethod ov m pl)
   callWith pos f first (backTo pos (starEach (e::es) X.env)) (backToKw pos (keywordEach [] X.env))):=by rfl) :
  PE X (.Call (.Attribute o m apos) (e::es) [] pos) (aGa T m E ta t):=by
 intro pins s σ H Q I h
 refine PySem.W.methodCall_KW (pl:=pl) (thn (he pins s σ H _ I h) fun u s1 zq=>?_) ht
 obtain⟨x,H1,I1,rx,a,C,dx,fs,sp,ex,ea,l,hC,q⟩:=zq
 subst ex
 obtain rfl:u=Value.ref a:=rx
 obtain⟨c,f,fd,ps,hm,F,hb⟩:=hT C sp hC
 refine dJ I1 ea c hm l ?_
 refine PySem.W.callWith_K (first:=[.ref a]) (h₀:=X.base) I.ok.mod.kin hm.kp (thn (ha pos pins s1 σ H1 _ I1 q) fun us s2 ⟨vs,H2,I2,r,q2⟩=>⟨I2.kIn,?_⟩) hst hpl
 exact lQ (us:=.ref a::us) (vs:=.ref a::vs) (dvs:=[]) F hr hb .nil hx I2 (.cons rfl r) (by rw [List.append_nil];exact q2)
theorem aE {pl:Sem Bool} (he:PE X o ta) (hT:∀ C sp,T C sp->bF X.prog X.w X.K X.mg X.base CX k m C sp) (hr:qX k X.A) (hx:xV CX X E)
  (ht:eval (.Call (.Attribute o m apos) [] [] pos) X.env=(do
   let ov ← eval o X.env
   standAt apos.atName
   let (f,first) ← holding [ov] (getMethod ov m pl)
   callWith pos f first (backTo pos (starEach [] X.env)) (backToKw pos (keywordEach [] X.env))):=by rfl) :
  PE X (.Call (.Attribute o m apos) [] [] pos) (aGa T m E ta tNil):=by
 intro pins s σ H Q I h
 refine PySem.W.methodCall_KW (pl:=pl) (thn (he pins s σ H _ I h) fun u s1 zq=>?_) ht
 obtain⟨x,H1,I1,rx,a,C,dx,fs,sp,ex,ea,l,hC,q⟩:=zq
 subst ex
 obtain rfl:u=Value.ref a:=rx
 obtain⟨c,f,fd,ps,hm,F,hb⟩:=hT C sp hC
 refine dJ I1 ea c hm l ?_
 exact PySem.W.callWith_K0 (first:=[.ref a]) I1.kIn hm.kp (lQ (us:=[.ref a]) (vs:=[.ref a]) (dvs:=[]) F hr hb .nil hx I1 (.cons rfl .nil) q)
end
def uE:V->Option Str
 | .str x=>some x
 | .int i=>if i.natAbs < 2 ^ 100 then some (toString i) else none
 | _=>none
def TJ:=St->Hp->Str->(Str->Hp->Prop)->Prop
def PJ (X:Cx) (es:List Expr) (t:TJ):Prop:=∀ (pins:List (Addr × Obj)) (s:Shared) (σ:St) (H:Hp) (acc:Str) (Q:Str->Hp->Prop),Inv X pins σ H s->t σ H acc Q →
 wpAny (model X.prog X.w) X.A (joinParts acc (evalEach es X.env)) (EP X pins σ fun v H'=>∃ z,v=.str z/\Q z H') X.xe s
section
variable {X:Cx} {e e1 e2:Expr} {es:List Expr} {te:TE} {t:TJ} {pos p:Pos} {x:Str}
def jNil:TJ:=fun _ H acc Q=>acc.length<=sizeLine/\Q acc H
theorem aJu:PJ X [] jNil:=fun _ s _ H acc Q I h=>joinParts_nil ⟨.str acc,H,I.tok _,⟨_,rfl⟩,acc,rfl,h.2⟩ h.1
def jStr (x:Str) (t:TJ):TJ:=fun σ H acc Q=>(acc++x).length<=sizeLine/\t σ H (acc++x) Q
theorem aJe {j} (ht:PJ X es t):PJ X (.Constant (.str x) j p::es) (jStr x t):=by
 intro pins s σ H acc Q I h
 refine joinParts_cons (Calls.Constant_str ⟨h.1,ht pins _ σ H _ Q (I.tok _) h.2⟩)
theorem aEz {pins:List (Addr × Obj)} {s:Shared} {σ:St} {H:Hp} {v:V} {u:Value} {y:Str} {E:Value->Shared->Prop} {R:Value->Shared->Prop} (I:Inv X pins σ H s) (r:RelV v u) (hy:uE v=some y) (hl:y.length<=sizeLine)
  (h:∀ t' tk,Inv X pins σ H { s with toks:=tk }->R (.str y t') { s with toks:=tk }):wpAny (model X.prog X.w) X.A (formatField u Str.empty) R E s:=by
 cases v with
 | str x =>
  obtain⟨t,rfl⟩:=r
  cases hy
  exact formatField_str (fun t' tk=>h t' tk (I.kept fun _ _ q=>q)) hl
 | int i =>
  obtain⟨t,rfl⟩:=r
  have hy':(if i.natAbs < 2 ^ 100 then some (Str.ofString (toString i)) else none)=some y:=hy
  by_cases hi:i.natAbs < 2 ^ 100
  ·rw [if_pos hi] at hy'
   cases hy'
   refine formatField_int_small ?_ (h _ _ (I.kept fun _ _ q=>q))
   have:=uD hi
   omega
  ·rw [if_neg hi] at hy'
   cases hy'
 | _=>cases hy
def jVal (te:TE) (t:TJ):TJ:=fun σ H acc Q=>te σ H fun v H1=>∃ y,uE v=some y/\y.length<=sizeLine/\(acc++y).length<=sizeLine/\t σ H1 (acc++y) Q
theorem aEp (he:PE X e te) (ht:PJ X es t):PJ X (.FormattedValue e (-1) none p::es) (jVal te t):=by
 intro pins s σ H acc Q I h
 refine joinParts_cons (FormattedValue_plain (thn (he pins s σ H _ I h) fun u s1 zq=>?_))
 obtain⟨v,H1,I1,r,y,hy,hl,ha,q⟩:=zq
 exact aEz I1 r hy hl fun t' tk I2=>⟨ha,ht pins _ σ H1 _ Q I2 q⟩
def tJoin (t:TJ):TE:=fun σ H Q=>t σ H Str.empty fun z H1=>Q (.str z) H1
theorem aHu (h:PJ X (e1::e2::es) t):PE X (.JoinedStr (e1::e2::es) pos) (tJoin t):=by
 intro pins s σ H Q I hq
 exact JoinedStr_many (thn (h pins s σ H Str.empty _ I hq) fun u s1 ⟨v,H1,I1,r,z,ez,q⟩=>⟨v,H1,I1,r,by rw [ez];exact q⟩)
def aKo (te:TE):TE:=fun σ H Q=>te σ H fun v H1=>∃ y,uE v=some y/\y.length<=sizeLine/\Q (.str y) H1
theorem aFo (he:PE X e te):PE X (.JoinedStr [.FormattedValue e (-1) none p] pos) (aKo te):=by
 intro pins s σ H Q I h
 refine JoinedStr_one (FormattedValue_plain (thn (he pins s σ H _ I h) fun u s1 zq=>?_))
 obtain⟨v,H1,I1,r,y,hy,hl,q⟩:=zq
 exact aEz I1 r hy hl fun t' tk I2=>⟨.str y,H1,I2,⟨_,rfl⟩,q⟩
end
end L2
namespace L2
open PySem
def jn (c:Nat):List (List Nat)->List Nat
 | []=>[]
 | [p]=>p
 | p::q::r=>p++c::jn c (q::r)
theorem aAi {c:Nat} : ∀ {p1 p2 t1 t2:List Nat},c ∉ p1->c ∉ p2->p1++c::t1=p2++c::t2->p1=p2/\t1=t2
 | [],[],t1,t2,_,_,h=>⟨rfl,(List.cons.inj h).2⟩
 | [],b::p2,t1,t2,_,h2,h=>absurd (List.mem_cons.mpr (.inl (List.cons.inj h).1)) h2
 | a::p1,[],t1,t2,h1,_,h=>absurd (List.mem_cons.mpr (.inl (List.cons.inj h).1.symm)) h1
 | a::p1,b::p2,t1,t2,h1,h2,h=>by
  obtain⟨e1,e2⟩:=List.cons.inj h
  obtain⟨e3,e4⟩:=aAi (fun z=>h1 (List.mem_cons_of_mem _ z)) (fun z=>h2 (List.mem_cons_of_mem _ z)) e2
  exact⟨by rw [e1,e3],e4⟩
theorem aEs {c:Nat} : ∀ {ps qs:List (List Nat)},ps ≠ []->qs ≠ []->(∀ p ∈ ps,c ∉ p)->(∀ q ∈ qs,c ∉ q)->jn c ps=jn c qs->ps=qs
 | [],_,h,_,_,_,_=>absurd rfl h
 | _,[],_,h,_,_,_=>absurd rfl h
 | [p],[q],_,_,_,_,h=>by rw [show p=q from h]
 | [p],q::q2::qs,_,_,hp,_,h=>by
  have e:p=q++c::jn c (q2::qs):=h
  exact absurd (by rw [e];simp) (hp p (List.mem_cons_self ..))
 | p::p2::ps,[q],_,_,_,hq,h=>by
  have e:p++c::jn c (p2::ps)=q:=h
  exact absurd (by rw [← e];simp) (hq q (List.mem_cons_self ..))
 | p::p2::ps,q::q2::qs,_,_,hp,hq,h=>by
  obtain⟨e1,e2⟩:=aAi (hp p (List.mem_cons_self ..)) (hq q (List.mem_cons_self ..)) h
  have ih:=aEs (by simp) (by simp) (fun z hz=>hp z (List.mem_cons_of_mem _ hz)) (fun z hz=>hq z (List.mem_cons_of_mem _ hz)) e2
  rw [e1,ih]
theorem iN (c:Nat):∀ ys:List Str,(Str.join ⟨#[c]⟩ ys).cps.toList=jn c (ys.map fun y=>y.cps.toList)
 | []=>rfl
 | [y]=>rfl
 | y::z::ys=>by
  show (y++⟨#[c]⟩++Str.join ⟨#[c]⟩ (z::ys)).cps.toList=_
  rw [Str.cps_append,Str.cps_append,Array.toList_append,Array.toList_append,iN c (z::ys),List.append_assoc]
  rfl
theorem aDt (x y:Str):Txt.split x y ≠ []:=fun h=>by
 unfold Txt.split at h
 split at h
 ·cases h
 ·split at h
  ·cases h
  ·rw [StrLaws.partsBetween_eq] at h
   obtain⟨p,r,e⟩:=StrLaws.partsFrom_ne x y.length 0 (Builtin.Str.occurrences x y 0 x.length (x.length + 1))
   rw [e] at h
   cases h
theorem aO {c:Nat} {ys:List Str} (hne:ys ≠ []) (hf:∀ y ∈ ys,c ∉ y.cps.toList):Txt.split (Str.join ⟨#[c]⟩ ys) ⟨#[c]⟩=ys:=by
 have h1:=StrLaws.join_split (Str.join ⟨#[c]⟩ ys) ⟨#[c]⟩
 have h2:=congrArg (fun z:Str=>z.cps.toList) h1
 simp only [iN] at h2
 have h3:=aEs (by simpa using aDt _ _) (by simpa using hne) (fun p hp=>by
  obtain⟨y,hy,rfl⟩:=List.mem_map.mp hp
  exact StrLaws.split_free _ c y hy) (fun p hp=>by
  obtain⟨y,hy,rfl⟩:=List.mem_map.mp hp
  exact hf y hy) h2
 have hi:∀ {as bs:List Str},(as.map fun y=>y.cps.toList)=(bs.map fun y=>y.cps.toList)->as=bs:=by
  intro as
  induction as with
  | nil=>intro bs h;cases bs with
   | nil=>rfl
   | cons b bs=>cases h
  | cons a as ih=>intro bs h;cases bs with
   | nil=>cases h
   | cons b bs =>
    obtain⟨e1,e2⟩:=List.cons.inj h
    rw [ih e2,Str.ext' (Array.toList_inj.mp e1)]
 exact hi h3
end L2
namespace L2
open PySem PySem.Spec PyProof.Rows
section
variable {X:Cx}
theorem yH:MtR X "str.split" (fun x vs H Q=>∃ z y:Str,x=.str z/\vs=[.str y]/\(y.length == 0)=false/\z.length + 2<=sizeLine/\∀ p,H p=none->Q (.ref p) (upd H p (.lst ((Txt.split z y).map V.str)))):=by
 intro pins s σ H x vs v us Q I rx rv h
 obtain⟨z,y,rfl,rfl,h2,h4,q⟩:=h
 have hn:(Builtin.Str.partsBetween z (Builtin.Str.occurrences z y 0 z.length (z.length + 1)) y.length).length<=sizeLine:=by
  have e1:=StrLaws.occ_length_le z y 0 z.length (z.length + 1)
  rw [length_partsBetween];omega
 obtain⟨t,rfl⟩:=rx
 obtain⟨u,rfl,ru⟩:=vals1 rv
 obtain⟨t',rfl⟩:=ru
 have fin:∀ (tk:Nat) (ws:List Value),kC ((Txt.split z y).map V.str) ws->(Txt.split z y).length<=sizeLine →
   EP X pins σ Q (.ref s.heap.objs.size) { s with toks:=tk,heap:=s.heap.push { cls:=.type "list",data:=.seq ws.toArray } }:=fun tk ws rw' hl=>by
  refine⟨.ref s.heap.objs.size,_,I.laid (o:=.lst ((Txt.split z y).map V.str)) (fun b o e=>Heap.get?_push_of_some _ e) (Nat.le_refl _) ?_,rfl,q _ (I.hok.fresh (Nat.le_refl _))⟩
  exact⟨by rw [List.length_map];exact hl,_,0,rw',Heap.get?_push_size _ rfl⟩
 cases h1:(decide (z.length < y.length) || decide (Builtin.Str.strKind z < Builtin.Str.strKind y))
 ·cases hf:(Builtin.Str.occurrences z y 0 z.length (z.length + 1)).isEmpty
  ·refine call_meets F.slot_str_split (typeIs_str _ _ _) F.entry_str_split (F.args_str_split_2 _ _) (meets_str_split_sep z y t t' h1 h2 hf (by omega) hn) ?_
   have e:Txt.split z y=Builtin.Str.partsBetween z (Builtin.Str.occurrences z y 0 z.length (z.length + 1)) y.length:=(if_neg (ne_true_of_eq_false h1)).trans (if_neg (ne_true_of_eq_false hf))
   exact fin _ _ (by rw [e];exact nX _ _) (by rw [e];exact hn)
  ·have e:Txt.split z y=[z]:=(if_neg (ne_true_of_eq_false h1)).trans (if_pos hf)
   exact call_meets F.slot_str_split (typeIs_str _ _ _) F.entry_str_split (F.args_str_split_2 _ _) (meets_str_split_not_found z y t t' h1 h2 hf) (fin s.toks [.str z t] (by rw [e];exact .cons ⟨_,rfl⟩ .nil) (by rw [e];show 1<=sizeLine;decide))
 ·have e:Txt.split z y=[z]:=if_pos h1
  exact call_meets F.slot_str_split (typeIs_str _ _ _) F.entry_str_split (F.args_str_split_2 _ _) (meets_str_split_cannot_occur z y t t' h1) (fin s.toks [.str z t] (by rw [e];exact .cons ⟨_,rfl⟩ .nil) (by rw [e];show 1<=sizeLine;decide))
theorem aFn:MtR X "str.join" (fun x vs H Q=>∃ (sep:Str) (a:Addr) (ys:List Str),x=.str sep/\vs=[.ref a]/\SqL X.K H a (ys.map V.str)/\(ys.map (·.length)).sum + ys.length * sep.length<=16777216/\Q (.str (Str.join sep ys)) H):=by
 intro pins s σ H x vs v us Q I rx rv h
 obtain⟨sep,a,ys,rfl,rfl,ha,hz,q⟩:=h
 obtain⟨t,rfl⟩:=rx
 obtain⟨u,rfl,ru⟩:=vals1 rv
 cases ru
 obtain⟨its,r,pl,_⟩:=I.list ha
 refine PyProof.Rows.join_list pl.isList (wQ (by simpa using r)) hz fun t' k=>⟨.str _,H,I.tok _,⟨_,rfl⟩,?_⟩
 rw [show Txt.join sep ys=Str.join sep ys from StrLaws.glued_eq_join sep ys]
 exact q
end
section
variable {X:Cx}
theorem gD (f:Nat->Int):∀ k,argBest (fun i j=>decide (f i > f j)) k<=k/\∀ j,j<=k->f j<=f (argBest (fun i j=>decide (f i > f j)) k)
 | 0=>⟨Nat.le_refl _,fun j hj=>by rw [show j=0 by omega];exact Int.le_refl _⟩
 | k + 1=>by
  obtain⟨h1,h2⟩:=gD f k
  unfold argBest
  by_cases h:f (k + 1) > f (argBest (fun i j=>decide (f i > f j)) k)
  ·rw [if_pos (decide_eq_true h)]
   refine⟨Nat.le_refl _,fun j hj=>?_⟩
   by_cases e:j=k + 1
   ·rw [e];exact Int.le_refl _
   ·have:=h2 j (by omega);omega
  ·rw [if_neg (by rw [decide_eq_false h];exact Bool.false_ne_true)]
   refine⟨by omega,fun j hj=>?_⟩
   by_cases e:j=k + 1
   ·rw [e];omega
   ·exact h2 j (by omega)
theorem fZ (hc:X.calm=true):vP X (.builtin "max") (fun xs H Q=>∃ (a:Addr) (ns:List Int),xs=[.ref a]/\SqL X.K H a (ns.map V.int)/\ns ≠ []/\∀ m:Int,m ∈ ns->(∀ n ∈ ns,n<=m)->Q (.int m) H):=by
 intro pins s σ H xs us Q I r h
 obtain⟨a,ns,rfl,ha,hne,q⟩:=h
 obtain⟨u,rfl,rx⟩:=vals1 r
 cases rx
 obtain⟨its,rv,pl,_⟩:=I.list ha
 have hi:=intsAre_of rv
 obtain⟨ys,hy⟩:=hi.allInts.items
 have e1:ns=ys.toList.map (·.1):=by
  rw [← nums_intItems,← hy]
  exact (show numsOf its.toArray.toList=ns from hi.numsOf).symm
 have hsz:ys.size=ns.length:=by rw [e1,List.length_map,Array.length_toList]
 have hpos : 0 < ns.length:=List.length_pos_iff.mpr hne
 have hat:∀ j,ns[j]?=ys[j]?.map (fun x:Int × Tok=>x.1):=fun j=>by rw [e1,List.getElem?_map,Array.getElem?_toList]
 have hnum:∀ j,j < ns.length->ns[j]?=some (numAt ys j):=fun j hj=>by
  have hj2:j < ys.size:=by omega
  rw [hat,Array.getElem?_eq_getElem hj2]
  unfold numAt
  rw [Array.getElem?_eq_getElem hj2]
  rfl
 refine max_intList (I.ok.hd hc) (hy ▸ pl.isList) (by omega) fun v h' tk hv hk=>?_
 obtain⟨t,rfl⟩:=intItems_at hv
 obtain⟨b1,b2⟩:=gD (numAt ys) (ys.size - 1)
 refine⟨.int _,H,I.kept hk,⟨_,rfl⟩,q _ (List.mem_of_getElem? (hnum _ (by omega))) fun n hn=>?_⟩
 obtain⟨j,hj⟩:=List.mem_iff_getElem?.mp hn
 have hjl:j < ns.length:=(List.getElem?_eq_some_iff.mp hj).1
 rw [hnum j hjl] at hj
 cases hj
 exact b2 j (by omega)
theorem aFq (hu:X.A.units + 64 < cLine):OpR X (compareOp .Eq) (fun x y H Q=>∃ (a b:Addr) (xs:List V),x=.ref a/\y=.ref b/\SqL X.K H a xs/\SqL X.K H b []/\Q (.bl xs.isEmpty) H):=by
 intro pins s σ H x y v u Q I rx ry h
 obtain⟨a,b,xs,rfl,rfl,ha,hb,q⟩:=h
 cases rx
 cases ry
 obtain⟨i1,r1,p1,_⟩:=I.list ha
 obtain⟨i2,r2,p2,_⟩:=I.list hb
 cases r2
 cases xs with
 | nil =>
  cases r1
  refine SeqAt.eq_listAt (e:=fun _=>true) p1.isList p2.isList rfl (by omega) (fun j h1 _=>absurd h1 (Nat.not_lt_zero _)) ?_
  exact⟨.bl true,H,I,rfl,q⟩
 | cons z zs =>
  cases r1 with
  | cons rz rt =>
   refine SeqAt.eq_list_lengthsAt p1.isList p2.isList (by simp) (by omega) ?_
   exact⟨.bl false,H,I,rfl,q⟩
end
def aEu (J:It) (k:Nat) (js:List Nat) (g:TG) (tc:TT) (tk tv:TE) (σ:St) (Q:VK) (H1:Hp):Prop:=∀ D,H1 D=none →
 ∃ W:Nat->Nat->St->List (Key × V)->Hp->Prop,(∃ m,W 0 m (eY k js σ) [] (upd H1 D (.dK [])))/\∀ i m σ' kvs H',W i m σ' kvs H' →
  (J.stop i H'/\Q (.ref D) H') ∨
  (J.go i H'/\∃ N:St->List (Key × V)->Hp->Prop,(∀ σ' ys H',N σ' ys H'->∃ m',m' < m/\W (i + 1) m' σ' ys H') ∧
   ∀ x H2,J.yld i H' x H2->g x σ' H2 fun σ3 H3=>tc σ3 H3 fun b H4=>if b=true then tk σ3 H4 fun y H5=>tv σ3 H5 fun v H6=>∃ key,y=kV key/\H6 D=some (.dK kvs)/\kvs.length < sizeLine/\N σ3 (putK kvs key v) (upd H6 D (.dK (putK kvs key v))) else N σ3 kvs H4)
def aJc (wi:TI) (k:Nat) (js:List Nat) (g:TG) (tc:TT) (tk tv:TE):TE:=fun σ H Q=>wi σ H fun J H1=>aEu J k js g tc tk tv σ Q H1
section
variable {prog:Program} {w:World} {A:Around} {R:Result->Shared->Prop} {s:Shared}
theorem nE {kx vx target iter:Expr} {ifs:List Expr} {scope:Scope} {pos:Pos} {it:Value} {D:Addr} {env:Env} (I:Nat->Shared->Prop)
  (turn:∀ n s,I n s->wpAny (model prog w) A (pyNext it) (fun r s₁=>match r with
   | none=>R (.ok .next) s₁
   | some v=>wpAny (model prog w) A (letOwnedTupleGo target it v) (fun _ s₀=>wpAny (model prog w) A (assign target env v) (fun _ s₂ =>
     wpAny (model prog w) A (forIn ifs true fun c r=>if r=true then do let ok ← isTrue c env (eval c env);pure (ForInStep.yield ok) else pure (ForInStep.yield r)) (fun ok s₃ =>
      if ok=true then wpAny (model prog w) A (eval kx env) (fun kv s₄=>wpAny (model prog w) A (eval vx env) (fun vv s₅ =>
       wpAny (model prog w) A (dictSet D kv vv) (fun _ s₆=>∃ m,m < n/\I m s₆) (fun _ _=>False) s₅) (fun _ _=>False) s₄) (fun _ _=>False) s₃
      else ∃ m,m < n/\I m s₃) (fun _ _=>False) s₂) (fun _ _=>False) s₀) (fun _ _=>False) s₁) (fun _ _=>False) s)
  (n:Nat) (h:I n s):codeAny (model prog w) A (.compLoop (.DictComp kx vx [⟨target,iter,ifs,0⟩] scope pos) 0 it (.ref D) env) R s:=by
 refine codeAny_loop rfl I (fun n s hI=>?_) n h
 show wpAny _ A ((compTurn (.DictComp kx vx [⟨target,iter,ifs,0⟩] scope pos) 0 it (.ref D) env).onRaise (fun x=>do noteFrame x env;theTreesLotGoes x)) _ _ s
 refine wpAny_noted ?_
 rw [compTurn_dict]
 refine wpAny_bind (wpAny_standAt (wpAny_bind (wpAny_mono (turn n s hI) (fun r s₁ h₁=>?_) fun _ _ z=>False.elim z)))
 cases r with
 | none=>exact wpAny_pure h₁
 | some v =>
  refine wpAny_bind (wpAny_mono h₁ (fun _ s₀ h₀=>?_) fun _ _ z=>False.elim z)
  refine wpAny_bind (wpAny_mono h₀ (fun _ s₂ h₂=>wpAny_bind (wpAny_mono h₂ (fun ok s₃ h₃=>?_) fun _ _ z=>False.elim z)) fun _ _ z=>False.elim z)
  cases ok with
  | false=>exact wpAny_pure ⟨rfl,h₃⟩
  | true =>
   exact wpAny_bind (wpAny_bind (wpAny_mono h₃ (fun kv s₄ h₄=>wpAny_bind (wpAny_holding (wpAny_mono h₄ (fun vv s₅ h₅=>wpAny_bind (wpAny_standAt (wpAny_holding (wpAny_mono h₅ (fun _ s₆ h₆=>wpAny_pure ⟨rfl,h₆⟩) fun _ _ z=>False.elim z)))) fun _ _ z=>False.elim z))) fun _ _ z=>False.elim z))
end
section
variable {X:Cx} {elt tg iter:Expr} {ifs:List Expr} {scope:Scope} {cl:List (Str × Addr)} {ts ys:List Str} {js:List Nat} {pos:Pos} {wi:TI} {g:TG} {tc:TT} {te:TE}
theorem aCi {pins pins':List (Addr × Obj)} {σ σ':St} {H2 H3:Hp} {s2 s4:Shared} {fp:List Addr} {C:Addr} {N:List Str} {h':Heap} (I2:Inv X pins σ H2 s2) (f2:∀ b ∈ fp,bD X pins H2 b)
  (I4:Inv (X.comp scope cl N s2 H2 fp C) pins' σ' H3 s4) (hC:s2.heap.objs.size<=C) (hs':Heap.SameBut C s4.heap h'):Inv X pins σ H3 { s4 with heap:=h' }:=by
 have ext:=hs'.extBut
 have neC:∀ b o,s2.heap.get? b=some o->b ≠ C:=fun b o e=>Nat.ne_of_lt (Nat.lt_of_lt_of_le (Heap.lt_size e) hC)
 have hok:HOk X.prog X.w H3 h':=HOk.but (C:=C) I4.hok I4.free fun b o hb e=>ext b o hb e
 have B:Un (frs X.stack) fp H2 H3 s2.heap s4.heap:=I4.base
 have u:Un (frs X.stack) fp H2 H3 s2.heap h':=by
  refine⟨fun b o e q hb hx=>ext b o (neC b o e) (B.keep b o e q hb hx),fun b o e q hb hx=>?_,B.free,fun b o e hx=>?_,B.tups,B.frzs,B.tbls⟩
  ·obtain⟨sl,e1⟩:=B.slot b o e q hb hx
   exact⟨sl,ext b _ (neC b o e) e1⟩
  ·obtain⟨o',e1⟩:=B.there b o e hx
   exact⟨o',ext b _ (neC b o e) e1⟩
 have os:s4.os=s2.os:=I4.os
 have gb:=I4.bare
 obtain⟨hh,gg,dd,tt,os'⟩:=s4
 obtain rfl:os'=s2.os:=os
 have fin:=I2.call (h':=h') (g':=gg) (d':=dd) (t':=tt) (ch:=fp) u hok gb fun b hb=>⟨(f2 b hb).2.2.2.1,(f2 b hb).2.1,(f2 b hb).2.2.2.2.1,(f2 b hb).2.2.2.2.2⟩
 exact fin
theorem aEn {kx vx:Expr} {tk tv:TE} (ts ys:List Str) (js:List Nat) (hc:X.calm=true) (hi:PI X tg iter wi) (hclos:closureFor scope X.env=pure cl) (hsub:cG X.env cl) (hcap:gY X scope cl ys js)
  (hg:∀ s H fp C,PG (X.comp scope cl (ts++ys) s H fp C) tg g) (ht:∀ s H fp C,PIf (X.comp scope cl (ts++ys) s H fp C) ifs tc) (hek:∀ s H fp C,PE (X.comp scope cl (ts++ys) s H fp C) kx tk) (hev:∀ s H fp C,PE (X.comp scope cl (ts++ys) s H fp C) vx tv)
  (hkind:scope.kind=.function:=by rfl) (hcell:(scope.names.all fun y=>y.2 != .cell)=true:=by rfl)
  (hnames:(scope.names.all fun y=>y.2 != .local || scope.names.lookup y.1 == some .local)=true:=by rfl)
  (hhas:((relabel scope X.env).names.all fun p=>(p.2 != .cell && p.2 != .free) || (cl.lookup p.1).isSome)=true:=by rfl)
  (hs:∀ x,foldedSetIterable iter X.env x=pure x:=by intro _;rfl):PE X (.DictComp kx vx [⟨tg,iter,ifs,0⟩] scope pos) (aJc wi ts.length js g tc tk tv):=by
 intro pins s σ H Q I h
 have hcell':∀ y ∈ scope.names,y.2 ≠ .cell:=fun y hy z=>by
  have:=List.all_eq_true.mp hcell y hy
  rw [z] at this
  exact absurd this (by decide)
 have hnames':∀ y ∈ scope.names,y.2=.local->scope.names.lookup y.1=some .local:=fun y hy z=>by
  have:=List.all_eq_true.mp hnames y hy
  rw [z] at this
  simpa using this
 have hhas':∀ x,((relabel scope X.env).names.lookup x=some .cell\/(relabel scope X.env).names.lookup x=some .free)->∃ c,cl.lookup x=some c:=fun x hx=>by
  rcases hx with hx|hx
  ·have:=List.all_eq_true.mp hhas _ (PySem.mem_of_lookup hx)
   exact Option.isSome_iff_exists.mp (by simpa using this)
  ·have:=List.all_eq_true.mp hhas _ (PySem.mem_of_lookup hx)
   exact Option.isSome_iff_exists.mp (by simpa using this)
 rw [arm_eval_DictComp]
 refine wpAny_comprehension_free (use:=none) rfl hs hclos hkind hnames' (thn (hi pins s σ H _ I h) fun v s1 h1=>thn h1 fun itv s2 h2=>?_)
 obtain⟨it,fp,tn,J,H2,e,I2,T,st2,f2,hD⟩:=h2
 subst e
 have fl:∀ b ∈ fp,b < s2.heap.objs.size:=fun b hb=>by
  obtain⟨o,e,_⟩:=T.obj _ _ st2 b hb
  exact Heap.lt_size e
 refine wpAny_newObj_type (wpAny_newFunctionEnv hcell' (by intro y hy;simp at hy) (fun h₁ hns₁ hsb₁=>?_) hkind)
 dsimp only at hns₁ hsb₁ ⊢
 have hn2:H2 s2.heap.objs.size=none:=I2.hok.fresh (Nat.le_refl _)
 obtain⟨W,⟨m0,w0⟩,turn⟩:=hD _ hn2
 have I2d:Inv X pins σ (upd H2 s2.heap.objs.size (.dK [])) { s2 with heap:=s2.heap.push { cls:=.type "dict",data:=.dict #[] } } :=
  I2.laid (a:=s2.heap.objs.size) (o:=.dK []) (h':=s2.heap.push { cls:=.type "dict",data:=.dict #[] }) (t':=s2.toks) (fun _ _ q=>Heap.get?_push_of_some _ q) (Nat.le_refl _) (aFh s2.heap I2.big)
 generalize hHH:s2.heap.push { cls:=.type "dict",dict:=none,data:=.dict #[] }=HH at hns₁ hsb₁ I2d ⊢
 have hC:HH.objs.size=s2.heap.objs.size + 1:=by rw [← hHH,Heap.size_push]
 have hlt:s2.heap.objs.size < HH.objs.size:=by rw [hC];exact Nat.lt_succ_self _
 have f2d:∀ b ∈ fp,bD X pins (upd H2 s2.heap.objs.size (.dK [])) b:=fun b hb=>⟨by rw [jS (Nat.ne_of_lt (fl b hb))];exact (f2 b hb).1,(f2 b hb).2⟩
 have fld:∀ b ∈ fp,b < HH.objs.size:=fun b hb=>Nat.lt_trans (fl b hb) hlt
 have old:∀ b o,HH.get? b=some o->h₁.get? b=some o:=fun b o e=>hsb₁.extBut b o (Nat.ne_of_lt (Heap.lt_size e)) (Heap.get?_push_of_some _ e)
 have I':Inv (X.comp scope cl (ts++ys) { s2 with heap:=HH } (upd H2 s2.heap.objs.size (.dK [])) fp HH.objs.size) [] (eY ts.length js σ) (upd H2 s2.heap.objs.size (.dK [])) { s2 with heap:=h₁,toks:=s2.toks + ([]:List (Str × Value)).length } :=
  rY (s:={ s2 with heap:=HH }) I2d hsub hcap hkind hhas' f2d fld (Nat.le_refl _) hns₁ old
 have stat:∀ {H':Hp},(∀ b ∈ fp,H' b=none)->∀ b ∈ fp,bD (X.comp scope cl (ts++ys) { s2 with heap:=HH } (upd H2 s2.heap.objs.size (.dK [])) fp HH.objs.size) [] H' b:=fun {H'} hn b hb =>
  ⟨hn b hb,Nat.ne_of_lt (fld b hb),I'.ok.exfs b hb,.inl hb,(I'.ok.exf b hb).2,fun p hq=>absurd (show p ∈ ([]:List (Addr × Obj)) from by simpa using hq) (by simp)⟩
 have tn1:tn 0 h₁:=T.keep _ _ _ st2 fun b _ o e=>old b o (hHH ▸ Heap.get?_push_of_some _ e)
 have loop:∀ s₃ : Shared,s₃ = { s2 with heap:=h₁,toks:=s2.toks + ([]:List (Str × Value)).length } →
   codeAny (model X.prog X.w) X.A (.compLoop (.DictComp kx vx [⟨tg,iter,ifs,0⟩] scope pos) 0 (.ref it) (.ref s2.heap.objs.size) (compEnvC scope cl HH.objs.size X.env))
    (compPost (model X.prog X.w) X.A X.xe none (EP X pins σ Q) (.ref s2.heap.objs.size) HH.objs.size) s₃:=by
  rintro s₃ rfl
  refine nE (fun n s'=>∃ i σ' kvs H',Inv (X.comp scope cl (ts++ys) { s2 with heap:=HH } (upd H2 s2.heap.objs.size (.dK [])) fp HH.objs.size) [] σ' H' s'/\tn i s'.heap/\(∀ b ∈ fp,H' b=none)/\W i n σ' kvs H') ?_ m0 ⟨0,_,[],_,I',tn1,fun b hb=>(f2d b hb).1,w0⟩
  rintro n s3 ⟨i,σ3,kvs,H3,I3,st3,fr3,w3⟩
  rcases turn i n σ3 kvs H3 w3 with⟨stop,qn⟩|⟨go,N,hN,step⟩
  ·refine thn (T.done (X.comp scope cl (ts++ys) { s2 with heap:=HH } (upd H2 s2.heap.objs.size (.dK [])) fp HH.objs.size) rfl rfl rfl hc i _ s3 σ3 H3 (fun _ _=>False) I3 (stat fr3) st3 stop) fun r s4 zq=>?_
   obtain⟨hr,I4⟩:=zq
   subst hr
   obtain⟨m,hn,_⟩:=I4.loc
   exact⟨m,hn,fun h' hs'=>⟨.ref s2.heap.objs.size,_,aCi (s2:={ s2 with heap:=HH }) I2d f2d I4 (Nat.le_refl _) hs',rfl,qn⟩⟩
  ·refine thn (T.item (X.comp scope cl (ts++ys) { s2 with heap:=HH } (upd H2 s2.heap.objs.size (.dK [])) fp HH.objs.size) rfl rfl rfl hc i _ s3 σ3 H3 (fun _ _=>False) I3 (stat fr3) st3 go) fun r s4 zq=>?_
   obtain⟨u,hr,h4⟩:=zq
   subst hr
   refine thn h4 fun _ s5 zq=>?_
   obtain⟨x,H5,I5,r5,y5,st5,fr5⟩:=zq
   have I5':=I5.pinned (stat fr5) (T.obj _ _ st5)
   refine thn (hg _ _ _ _ _ s5 σ3 H5 x u _ I5' r5 (step x H5 y5)) fun _ s6 zq=>?_
   obtain⟨σ6,H6,I6,q6⟩:=zq
   refine thn (ht _ _ _ _ _ s6 σ6 H6 _ I6 q6) fun b s7 zq=>?_
   obtain⟨H7,I7,q7⟩:=zq
   have facts:∀ {σ':St} {H':Hp} {s':Shared},Inv (X.comp scope cl (ts++ys) { s2 with heap:=HH } (upd H2 s2.heap.objs.size (.dK [])) fp HH.objs.size) ([]++cD fp s5.heap) σ' H' s'->tn (i + 1) s'.heap/\(∀ b ∈ fp,H' b=none):=fun {σ' H' s'} J=>by
    refine⟨T.keep _ _ _ st5 fun b hb o e=>(J.pin (b,o) (List.mem_append_right _ (List.mem_append_right _ (xF hb e)))).1,fun b hb=>?_⟩
    obtain⟨o,e,d⟩:=T.obj _ _ st5 b hb
    exact (J.pin (b,o) (List.mem_append_right _ (List.mem_append_right _ (xF hb e)))).2.1
   have bare:∀ {σ':St} {H':Hp} {s':Shared},Inv (X.comp scope cl (ts++ys) { s2 with heap:=HH } (upd H2 s2.heap.objs.size (.dK [])) fp HH.objs.size) ([]++cD fp s5.heap) σ' H' s'->Inv (X.comp scope cl (ts++ys) { s2 with heap:=HH } (upd H2 s2.heap.objs.size (.dK [])) fp HH.objs.size) [] σ' H' s':=fun J=>J.pins_of fun p hp=>absurd hp (by simp)
   cases b with
   | false =>
    have q7':N σ6 kvs H7:=by simpa using q7
    obtain⟨m',hm,w7⟩:=hN _ _ _ q7'
    obtain⟨a3,a4⟩:=facts I7
    show ∃ m,m < n/\_
    exact⟨m',hm,i + 1,σ6,kvs,H7,bare I7,a3,a4,w7⟩
   | true =>
    rw [if_pos rfl] at q7
    show wpAny _ _ (eval kx _) _ _ s7
    refine thn (hek _ _ _ _ _ s7 σ6 H7 _ I7 q7) fun kv s8 zq=>?_
    obtain⟨y,H8,I8,r8,q8⟩:=zq
    refine thn (hev _ _ _ _ _ s8 σ6 H8 _ I8 q8) fun vv s9 zq=>?_
    obtain⟨v,H9,I9,r9,key,ek,eD,hl,n9⟩:=zq
    subst ek
    obtain⟨m',hm,w9⟩:=hN _ _ _ n9
    obtain⟨a3,a4⟩:=facts I9
    have I9':=bare I9
    obtain⟨z,hd,vs,rel,dd⟩:=aIq I9'.hok eD
    have hz:vs.length<=sizeLine:=by rw [← rel.length];exact z
    have hlp:(putK kvs key v).length<=sizeLine:=by have:=gK kvs key v;omega
    refine wpAny_dictSet_pairs (hsz:=hz) (lK r8) dd fun h' dd' hs=>?_
    have he:∃ q,h'.get? s2.heap.objs.size=some q:=let ⟨q,_,_,hq,_⟩:=dd'; ⟨q,hq⟩
    exact⟨m',hm,i + 1,σ6,putK kvs key v,_,aIe I9' (by rw [eD];exact True.intro) hs he (uM hlp hd (rel.put key r9) dd'),T.keep _ _ _ a3 fun b hb o e=>(hs.2 b (Nat.ne_of_lt (fl b hb))).trans e,fun b hb=>by rw [jS (Nat.ne_of_lt (fl b hb))];exact a4 b hb,w9⟩
 exact codeAny_compStart_dict (loop _ rfl) (T.self _ 0 _ _ _ tn1 (loop _ rfl))
end
def uL (P:Nat->List (Key × V)->Hp->Prop) (i:Nat) (js:List Nat) (σ:St):St->List (Key × V)->Hp->Prop:=fun σ' ys H=>P (i + 1) ys H/\∃ o,σ'=o::qW js σ
theorem uK {K:Frag} {a:Addr} {xs:List V} {k:Nat} {js:List Nat} {tc:TT} {tk tv:TE} {σ:St} {Q:VK} {H1:Hp} (P:Addr->Nat->List (Key × V)->Hp->Prop) (h0:∀ D,H1 D=none->P D 0 [] (upd H1 D (.dK []))) (hl:∀ D i ys H,i<=xs.length->P D i ys H->SqL K H a xs)
  (hs:∀ D i x ys H,xs[i]?=some x->P D i ys H->tc (some x::qW js σ) H fun b H2=>if b=true then tk (some x::qW js σ) H2 fun y H3=>tv (some x::qW js σ) H3 fun v H4=>∃ key,y=kV key/\H4 D=some (.dK ys)/\ys.length < sizeLine/\uL (P D) i js σ (some x::qW js σ) (putK ys key v) (upd H4 D (.dK (putK ys key v))) else uL (P D) i js σ (some x::qW js σ) ys H2)
  (hd:∀ D ys H,P D xs.length ys H->Q (.ref D) H) (hk:k=1:=by rfl) :
  aEu (Itl K a) k js (cU 0) tc tk tv σ Q H1:=by
 subst hk
 intro D hD
 refine⟨fun i m σ' ys H=>m=xs.length - i/\i<=xs.length/\P D i ys H/\∃ o,σ'=o::qW js σ,⟨xs.length,by simp,Nat.zero_le _,h0 D hD,none,rfl⟩,?_⟩
 rintro i m σ' ys H ⟨rfl,hi,p,o,rfl⟩
 have q:=hl D i ys H hi p
 by_cases hlt:i < xs.length
 ·refine .inr ⟨⟨xs,xs[i],q,by simp [hlt]⟩,uL (P D) i js σ,fun σ3 zs H3 z=>⟨xs.length - (i + 1),by omega,rfl,hlt,z.1,z.2⟩,fun x H' y=>?_⟩
  obtain⟨e,y⟩:=y
  subst e
  exact hs D i x ys _ (y xs q) p
 ·have e:i=xs.length:=by omega
  subst e
  exact .inl ⟨⟨xs,q,Nat.le_refl _⟩,hd D ys H p⟩
section
variable {X:Cx} {tg:Expr}
def iSeq (K:Frag) (tl:TE):TI:=fun σ H R=>tl σ H fun x H1=>∃ a,x=.ref a/\(((∃ xs,SqL K H1 a xs)/\R (Itl K a) H1)\/((∃ xs,SqT K H1 a xs)/\R (Itt K a) H1))
theorem aJd {l:Expr} {tl:TE} (hl:PE X l tl):PI X tg l (iSeq X.K tl):=by
 intro pins s σ H R I h
 refine thn (hl pins s σ H _ I h) fun v s1 zq=>?_
 obtain⟨x,H1,I1,r1,q1⟩:=zq
 obtain⟨a,e,q1⟩:=q1
 subst e
 cases r1
 rcases q1 with⟨⟨xs,hq⟩,q⟩|⟨⟨xs,hq⟩,q⟩
 ·obtain⟨its,rv,p,hz⟩:=I1.list hq
  refine wpAny_pyIter_list p.isList ?_
  refine⟨s1.heap.objs.size,[s1.heap.objs.size],_,_,H1,rfl,I1.kept (t':=s1.toks) fun b o e=>Heap.get?_push_of_some _ e,nU a _,⟨_,Heap.get?_push_size _ rfl,rfl,rfl⟩,fun b hb=>?_,q⟩
  have e:b=s1.heap.objs.size:=by simpa using hb
  subst e
  exact I1.fpOk (Nat.le_refl _) (I1.hok.fresh (Nat.le_refl _))
 ·obtain⟨its,rv,p,hz⟩:=I1.tuple hq
  refine wpAny_pyIter_tuple (show s1.heap.IsTuple a its.toArray from p) ?_
  refine⟨s1.heap.objs.size,[s1.heap.objs.size],_,_,H1,rfl,I1.kept (t':=s1.toks) fun b o e=>Heap.get?_push_of_some _ e,lD a _,⟨_,Heap.get?_push_size _ rfl,rfl,rfl⟩,fun b hb=>?_,q⟩
  have e:b=s1.heap.objs.size:=by simpa using hb
  subst e
  exact I1.fpOk (Nat.le_refl _) (I1.hok.fresh (Nat.le_refl _))
theorem pI {K:Frag} {e:Expr} {ta:TE} {f:Str} {pos:Pos} (hK:X.K=K) (he:PE X e ta) (hb:attributeBase e f X.env (eval e X.env)=eval e X.env):PE X (.Attribute e f pos) (tFld K ta f):=hK ▸ kH he hb
theorem aDx:OpR X (binaryOp .Add) (fun x y H Q=>∃ a b xs ys,x=.ref a/\y=.ref b/\SqT X.K H a xs/\SqT X.K H b ys/\ys ≠ []/\xs.length + ys.length<=sizeLine ∧
  (xs=[]->Q (.ref b) H)/\(xs ≠ []->∀ p,H p=none->Q (.ref p) (upd H p (.tup (xs++ys))))):=by
 intro pins s σ H x y v u Q I rx ry h
 obtain⟨a,b,xs,ys,rfl,rfl,ha,hb,hx,hz,q1,q2⟩:=h
 by_cases hxs:xs=[]
 ·cases rx
  cases ry
  obtain⟨its,r1,p1,_⟩:=I.tuple ha
  obtain⟨its2,r2,p2,_⟩:=I.tuple hb
  have e1:its=[]:=r1.nil_iff.mpr hxs
  subst e1
  obtain⟨⟨cls,dd,data,sl⟩,ho,hc,n,hd⟩:=id p1
  obtain⟨⟨cls2,dd2,data2,sl2⟩,ho2,hc2,n2,hd2⟩:=id p2
  simp only at hc hd hc2 hd2
  subst hc hd hc2 hd2
  exact concat_meets ⟨_,ho,rfl⟩ ⟨_,ho2,rfl⟩ noFill_tuple_add seq_tuple_add PySem.F.slot_tuple_add PySem.F.entry_tuple_add (PySem.F.args_tuple_add_2 _ _)
   (tuple_addW0 a b _ _ n n2 dd dd2 sl sl2 rfl) ⟨ho,ho2,.ref b,H,I,rfl,q1 hxs⟩
 ·exact aGi pins s σ H _ _ v u Q I rx ry ⟨a,b,xs,ys,rfl,rfl,ha,hb,hxs,hz,fun z=>absurd z hx,fun _=>q2 hxs⟩
end
theorem aCv {X:Cx} : OpR X (binaryOp .Add) (fun x y H Q=>∃ a b xs ys,x=.ref a/\y=.ref b/\SqT X.K H a xs/\SqT X.K H b ys/\ys ≠ []/\xs.length + ys.length<=sizeLine/\∀ p H',jI H H'->SqT X.K H' p (xs++ys)->Q (.ref p) H'):=by
 intro pins s σ H x y v u Q I rx ry h
 obtain⟨a,b,xs,ys,rfl,rfl,ha,hb,hx,hz,q⟩:=h
 refine aDx pins s σ H _ _ v u Q I rx ry ⟨a,b,xs,ys,rfl,rfl,ha,hb,hx,hz,fun e=>?_,fun _ p hp=>?_⟩
 ·subst e;exact q b H (fun _ _ z=>z) hb
 ·exact q p _ (fun b o z=>by rw [jS (jL z hp)];exact z) (SqT.of jH)
theorem cP {K:Frag} {a:Addr} {xs:List V} {k:Nat} {js:List Nat} {g:TG} {tc:TT} {te:TE} {σ:St} {Q:VK} {H1:Hp} (P:Nat->List V->Hp->Prop) (h0:P 0 [] H1) (hl:∀ i ys H,i<=xs.length->P i ys H->SqT K H a xs/\ys.length<=i) (hz:xs.length < sizeLine)
  (hs:∀ i x ys H (os:St),os.length=k->xs[i]?=some x->P i ys H->g x (os++qW js σ) H fun σ3 H3=>tc σ3 H3 fun b H2=>if b=true then te σ3 H2 fun v H3=>eE P i k js σ σ3 (ys++[v]) H3 else eE P i k js σ σ3 ys H2)
  (hd:∀ ys H,P xs.length ys H->∀ p,H p=none->Q (.ref p) (upd H p (.lst ys))) :
  eF (Itt K a) k js g tc te σ Q H1:=by
 refine⟨fun i m σ' ys H=>m=xs.length - i/\i<=xs.length/\P i ys H/\∃ os:St,os.length=k/\σ'=os++qW js σ,⟨xs.length,by simp,Nat.zero_le _,h0,List.replicate k none,List.length_replicate,rfl⟩,?_⟩
 rintro i m σ' ys H ⟨rfl,hi,p,os,ho,rfl⟩
 obtain⟨q,hy⟩:=hl i ys H hi p
 by_cases hlt:i < xs.length
 ·refine .inr ⟨⟨xs,xs[i],q,by simp [hlt]⟩,by omega,eE P i k js σ,fun σ3 zs H3 z=>⟨xs.length - (i + 1),by omega,rfl,hlt,z.1,z.2⟩,fun x H' y=>?_⟩
  obtain⟨e,y⟩:=y
  subst e
  exact hs i x ys _ os ho (y xs q) p
 ·have e:i=xs.length:=by omega
  subst e
  exact .inl ⟨⟨xs,q,Nat.le_refl _⟩,hd ys H p⟩
end L2
namespace L2
open PySem
inductive Kd where
 | num (w:Nat)
 | nest (i:Nat)
 | many (n:Nat) (k:Kd)
 | pick (is:List Nat)
abbrev Shp:=Str × List (Str × Kd)
abbrev Un3:=Str × Nat × Str
def xD:List Nat->Nat
 | []=>0
 | x::xs=>max x (xD xs)
theorem iJ {n:Nat} : ∀ {xs:List Nat},n ∈ xs->n<=xD xs
 | x::xs,h=>by
  rcases List.mem_cons.mp h with rfl|h
  ·exact Nat.le_max_left _ _
  ·exact Nat.le_trans (iJ h) (Nat.le_max_right _ _)
theorem rW:∀ {xs:List Nat},xs ≠ []->xD xs ∈ xs
 | [],h=>absurd rfl h
 | [x],_=>by show max x 0 ∈ [x];rw [Nat.max_zero];exact List.mem_singleton.mpr rfl
 | x::y::xs,_=>by
  have ih:=rW (xs:=y::xs) (by simp)
  show max x (xD (y::xs)) ∈ _
  by_cases h:x<=xD (y::xs)
  ·rw [Nat.max_eq_right h];exact List.mem_cons_of_mem _ ih
  ·rw [Nat.max_eq_left (by omega)];exact List.mem_cons_self ..
theorem aHh {m:Nat} {xs:List Nat} (h1:m ∈ xs) (h2:∀ n ∈ xs,n<=m):m=xD xs :=
 Nat.le_antisymm (iJ h1) (h2 _ (rW fun z=>by rw [z] at h1;cases h1))
def Kd.size (sz:List Nat):Kd->Nat
 | .num w=>w
 | .nest i=>sz.getD i 0
 | .many n k=>n * k.size sz
 | .pick is=>1 + xD (is.map fun i=>sz.getD i 0)
def Kd.depth (dp:List Nat):Kd->Nat
 | .num _=>0
 | .nest i=>dp.getD i 0
 | .many _ k=>k.depth dp
 | .pick is=>xD (is.map fun i=>dp.getD i 0)
def pj (p x:Str):Str:=if p.length=0 then x else p++Str.ofString "." ++ x
def Kd.units (sz:List Nat) (ut:List (Str->List Un3)):Kd->Str->List Un3
 | .num w,p=>[(p,w,Str.ofString "num")]
 | .nest i,p=>(ut.getD i fun _=>[]) p
 | .many n k,p=>(List.range n).flatMap fun j=>k.units sz ut (pj p (Str.ofString (toString j)))
 | .pick is,p=>[(pj p (Str.ofString "tag"),1,Str.ofString "tag"),(p,xD (is.map fun i=>sz.getD i 0),Str.ofString "pick")]
structure Tab where
 sz:List Nat
 dp:List Nat
 ut:List (Str->List Un3)
def Tab.more (t:Tab) (s:Shp):Tab:=⟨t.sz++[(s.2.map fun f=>f.2.size t.sz).sum],t.dp++[1 + xD (s.2.map fun f=>f.2.depth t.dp)],t.ut++[fun p=>s.2.flatMap fun f=>f.2.units t.sz t.ut (pj p f.1)]⟩
def tabs (S:List Shp):Tab:=S.foldl Tab.more ⟨[],[],[]⟩
theorem aCs (S:List Shp) (s:Shp):tabs (S++[s])=(tabs S).more s:=by unfold tabs;rw [List.foldl_append];rfl
def Tab.Ok (t:Tab):Prop:=t.ut.length=t.sz.length/\∀ i p,(((t.ut.getD i fun _=>[]) p).map (·.2.1)).sum=t.sz.getD i 0
theorem tL (f:Nat->List Un3) (m:Nat) (h:∀ j,((f j).map (·.2.1)).sum=m):∀ n,((((List.range n).flatMap f)).map (·.2.1)).sum=n * m
 | 0=>by simp
 | n + 1=>by
  rw [List.range_succ,List.flatMap_append,List.map_append,List.sum_append,tL f m h n,List.flatMap_singleton,h n,Nat.succ_mul]
theorem Kd.units_sum {t:Tab} (h:t.Ok):∀ (k:Kd) (p:Str),((k.units t.sz t.ut p).map (·.2.1)).sum=k.size t.sz
 | .num w,p=>by simp [Kd.units,Kd.size]
 | .nest i,p=>h.2 i p
 | .many n k,p=>tL _ _ (fun j=>Kd.units_sum h k _) n
 | .pick is,p=>by simp [Kd.units,Kd.size]
theorem lE {t:Tab} (h:t.Ok) (p:Str):∀ fs:List (Str × Kd),((fs.flatMap fun f=>f.2.units t.sz t.ut (pj p f.1)).map (·.2.1)).sum=(fs.map fun f=>f.2.size t.sz).sum
 | []=>rfl
 | f::fs=>by
  rw [List.flatMap_cons,List.map_append,List.sum_append,Kd.units_sum h,lE h p fs,List.map_cons,List.sum_cons]
theorem Tab.Ok.more {t:Tab} (h:t.Ok) (s:Shp):(t.more s).Ok:=by
 refine⟨by show (t.ut++[_]).length=(t.sz++[_]).length;rw [List.length_append,List.length_append,h.1];rfl,fun i p=>?_⟩
 show ((((t.ut++[_]).getD i fun _=>[]) p).map (fun u:Un3=>u.2.1)).sum=(t.sz++[_]).getD i 0
 rw [List.getD_eq_getElem?_getD,List.getD_eq_getElem?_getD]
 by_cases hi:i < t.ut.length
 ·rw [List.getElem?_append_left hi,List.getElem?_append_left (by rw [← h.1];exact hi)]
  have:=h.2 i p
  rw [List.getD_eq_getElem?_getD,List.getD_eq_getElem?_getD] at this
  exact this
 ·rw [List.getElem?_append_right (by omega),List.getElem?_append_right (by rw [← h.1];omega),← h.1]
  by_cases e:i - t.ut.length=0
  ·rw [e]
   exact lE h p s.2
  ·obtain⟨n,hn⟩ : ∃ n,i - t.ut.length=n + 1:=⟨i - t.ut.length - 1,by omega⟩
   rw [hn]
   rfl
def Kd.Below (n:Nat):Kd->Prop
 | .num _=>True
 | .nest i=>i < n
 | .many _ k=>k.Below n
 | .pick is=>∀ i ∈ is,i < n
theorem yM {α : Type} {xs ys:List α} {d : α} {i:Nat} (h:i < xs.length):(xs++ys).getD i d=xs.getD i d:=by
 rw [List.getD_eq_getElem?_getD,List.getD_eq_getElem?_getD,List.getElem?_append_left h]
theorem Kd.Below.mono {n m:Nat} (h:n<=m):∀ {k:Kd},k.Below n->k.Below m
 | .num _,_=>True.intro
 | .nest i,q=>Nat.lt_of_lt_of_le (show i < n from q) h
 | .many _ k,q=>Kd.Below.mono (k:=k) h q
 | .pick is,q=>fun i hi=>Nat.lt_of_lt_of_le (q i hi) h
theorem pB {xs ys is:List Nat} (h:∀ i ∈ is,i < xs.length):(is.map fun i=>(xs++ys).getD i 0)=is.map fun i=>xs.getD i 0 :=
 List.map_congr_left fun i hi=>yM (h i hi)
theorem Kd.size_app {sz more:List Nat} : ∀ {k:Kd},k.Below sz.length->k.size (sz++more)=k.size sz
 | .num _,_=>rfl
 | .nest i,q=>yM q
 | .many n k,q=>by show n * _=n * _;rw [Kd.size_app (k:=k) q]
 | .pick is,q=>by show 1 + xD _=1 + xD _;rw [pB q]
theorem Kd.depth_app {dp more:List Nat} : ∀ {k:Kd},k.Below dp.length->k.depth (dp++more)=k.depth dp
 | .num _,_=>rfl
 | .nest i,q=>yM q
 | .many n k,q=>Kd.depth_app (k:=k) q
 | .pick is,q=>by show xD _=xD _;rw [pB q]
theorem Kd.units_app {sz more:List Nat} {ut um:List (Str->List Un3)} (e:ut.length=sz.length):∀ {k:Kd},k.Below sz.length->∀ p,k.units (sz++more) (ut++um) p=k.units sz ut p
 | .num _,_,_=>rfl
 | .nest i,q,p=>by show ((ut++um).getD i _) p=(ut.getD i _) p;rw [yM (by rw [e];exact q)]
 | .many n k,q,p=>by
  show (List.range n).flatMap _=(List.range n).flatMap _
  congr 1
  funext j
  exact Kd.units_app e (k:=k) q _
 | .pick is,q,p=>by
  show [_,(p,xD _,_)]=[_,(p,xD _,_)]
  rw [pB q]
theorem cJ:∀ S:List Shp,(tabs S).sz.length=S.length/\(tabs S).dp.length=S.length/\(tabs S).ut.length=S.length:=fun S=>by
 have:∀ (S:List Shp) (t:Tab) (n:Nat),(t.sz.length=n/\t.dp.length=n/\t.ut.length=n)->((S.foldl Tab.more t).sz.length=n + S.length/\(S.foldl Tab.more t).dp.length=n + S.length/\(S.foldl Tab.more t).ut.length=n + S.length):=by
  intro S
  induction S with
  | nil=>intro t n h;exact h
  | cons s S ih =>
   intro t n h
   have:=ih (t.more s) (n + 1) ⟨by show (t.sz++[_]).length=_;rw [List.length_append,h.1];rfl,by show (t.dp++[_]).length=_;rw [List.length_append,h.2.1];rfl,by show (t.ut++[_]).length=_;rw [List.length_append,h.2.2];rfl⟩
   rw [List.length_cons,show n + (S.length + 1)=n + 1 + S.length by omega]
   exact this
 have h:=this S ⟨[],[],[]⟩ 0 ⟨rfl,rfl,rfl⟩
 rw [Nat.zero_add] at h
 exact h
theorem uA (S:List Shp):∀ R:List Shp,∃ a b c,(tabs (S++R)).sz=(tabs S).sz++a/\(tabs (S++R)).dp=(tabs S).dp++b/\(tabs (S++R)).ut=(tabs S).ut++c:=fun R=>by
 have:∀ (R:List Shp) (t:Tab),∃ a b c,(R.foldl Tab.more t).sz=t.sz++a/\(R.foldl Tab.more t).dp=t.dp++b/\(R.foldl Tab.more t).ut=t.ut++c:=by
  intro R
  induction R with
  | nil=>intro t;exact⟨[],[],[],by simp,by simp,by simp⟩
  | cons s R ih =>
   intro t
   obtain⟨a,b,c,h1,h2,h3⟩:=ih (t.more s)
   exact⟨[_]++a,[_]++b,[_]++c,h1.trans (List.append_assoc _ _ _),h2.trans (List.append_assoc _ _ _),h3.trans (List.append_assoc _ _ _)⟩
 unfold tabs
 rw [List.foldl_append]
 exact this R _
structure Cl5 where
 num:Addr
 nest:Addr
 many:Addr
 pick:Addr
 shape:Addr
inductive KO (c:Cl5) (K:Frag) (H:Hp) (sa:List Addr):Addr->Kd->Prop
 | num {a dx:Addr} {w:Nat} : H a=some (.ins c.num dx [("width",.int w)])->KO c K H sa a (.num w)
 | nest {a dx s:Addr} {i:Nat} : sa[i]?=some s->H a=some (.ins c.nest dx [("shape",.ref s)])->KO c K H sa a (.nest i)
 | many {a dx b:Addr} {n:Nat} {k:Kd} : H a=some (.ins c.many dx [("count",.int n),("kind",.ref b)])->KO c K H sa b k->KO c K H sa a (.many n k)
 | pick {a dx t:Addr} {is:List Nat} {ss:List Addr} : H a=some (.ins c.pick dx [("shapes",.ref t)])->SqT K H t (ss.map V.ref)->ss.length=is.length->(∀ (j i:Nat) (s:Addr),is[j]?=some i->ss[j]?=some s->sa[i]?=some s)->KO c K H sa a (.pick is)
theorem KO.same {c:Cl5} {K:Frag} {H H':Hp} {sa:List Addr} {a:Addr} {k:Kd} (h:KO c K H sa a k) (g:jI H H'):KO c K H' sa a k:=by
 induction h with
 | num h=>exact .num (g _ _ h)
 | nest e h=>exact .nest e (g _ _ h)
 | many h _ ih=>exact .many (g _ _ h) ih
 | pick h t l e=>exact .pick (g _ _ h) (g.tp t) l e
theorem rM {sa more:List Addr} {i:Nat} {s:Addr} (h:sa[i]?=some s):(sa++more)[i]?=some s:=by
 rw [List.getElem?_append_left (List.getElem?_eq_some_iff.mp h).1];exact h
theorem KO.more {c:Cl5} {K:Frag} {H:Hp} {sa:List Addr} {a:Addr} {k:Kd} (h:KO c K H sa a k) (more:List Addr):KO c K H (sa++more) a k:=by
 induction h with
 | num h=>exact .num h
 | nest e h=>exact .nest (rM e) h
 | many h _ ih=>exact .many h ih
 | pick h t l e=>exact .pick h t l fun j i s h1 h2=>rM (e j i s h1 h2)
theorem KO.ahead {c:Cl5} {K:Frag} {H:Hp} {sa:List Addr} {a:Addr} {k:Kd} (h:KO c K H sa a k):k.Below sa.length:=by
 induction h with
 | num h=>exact True.intro
 | nest e h=>exact (List.getElem?_eq_some_iff.mp e).1
 | many h _ ih=>exact ih
 | @pick a dx t is ss h t' l e =>
  intro i hi
  obtain⟨j,hj⟩:=List.mem_iff_getElem?.mp hi
  have hj1:j < is.length:=(List.getElem?_eq_some_iff.mp hj).1
  exact (List.getElem?_eq_some_iff.mp (e j i _ hj (List.getElem?_eq_getElem (by omega)))).1
inductive FO (c:Cl5) (K:Frag) (H:Hp) (sa:List Addr):List Addr->List (Str × Kd)->Prop
 | nil:FO c K H sa [] []
 | cons {p k:Addr} {ps:List Addr} {nm:Str} {kd:Kd} {fs:List (Str × Kd)} : SqT K H p [.str nm,.ref k]->KO c K H sa k kd->FO c K H sa ps fs->FO c K H sa (p::ps) ((nm,kd)::fs)
theorem FO.same {c:Cl5} {K:Frag} {H H':Hp} {sa ps:List Addr} {fs:List (Str × Kd)} (h:FO c K H sa ps fs) (g:jI H H'):FO c K H' sa ps fs:=by
 induction h with
 | nil=>exact .nil
 | cons t k _ ih=>exact .cons (g.tp t) (k.same g) ih
theorem FO.len {c:Cl5} {K:Frag} {H:Hp} {sa ps:List Addr} {fs:List (Str × Kd)} (h:FO c K H sa ps fs):ps.length=fs.length:=by
 induction h with
 | nil=>rfl
 | cons _ _ _ ih=>rw [List.length_cons,List.length_cons,ih]
theorem FO.snoc {c:Cl5} {K:Frag} {H:Hp} {sa ps:List Addr} {fs:List (Str × Kd)} {p k:Addr} {nm:Str} {kd:Kd} (h:FO c K H sa ps fs) (t:SqT K H p [.str nm,.ref k]) (hk:KO c K H sa k kd):FO c K H sa (ps++[p]) (fs++[(nm,kd)]):=by
 induction h with
 | nil=>exact .cons t hk .nil
 | cons t' k' _ ih=>exact .cons t' k' ih
theorem FO.get {c:Cl5} {K:Frag} {H:Hp} {sa ps:List Addr} {fs:List (Str × Kd)} (h:FO c K H sa ps fs):∀ {i:Nat} {p:Addr},ps[i]?=some p->∃ nm kd k,fs[i]?=some (nm,kd)/\SqT K H p [.str nm,.ref k]/\KO c K H sa k kd:=by
 induction h with
 | nil=>intro i p e;simp at e
 | cons t k _ ih =>
  intro i p e
  cases i with
  | zero=>cases e;exact⟨_,_,_,rfl,t,k⟩
  | succ i=>exact ih e
def SO (c:Cl5) (K:Frag) (H:Hp) (sa:List Addr) (a:Addr) (s:Shp):Prop:=∃ dx t ps,H a=some (.ins c.shape dx [("name",.str s.1),("fields",.ref t)])/\SqT K H t (ps.map V.ref)/\FO c K H sa ps s.2
theorem SO.same {c:Cl5} {K:Frag} {H H':Hp} {sa:List Addr} {a:Addr} {s:Shp} (h:SO c K H sa a s) (g:jI H H'):SO c K H' sa a s:=by
 obtain⟨dx,t,ps,h1,h2,h3⟩:=h
 exact⟨dx,t,ps,g _ _ h1,g.tp h2,h3.same g⟩
def SW (c:Cl5) (K:Frag) (H:Hp) (sa:List Addr) (S:List Shp):Prop:=sa.length=S.length/\∀ (i:Nat) (a:Addr) (s:Shp),sa[i]?=some a->S[i]?=some s->SO c K H (sa.take i) a s
theorem SW.same {c:Cl5} {K:Frag} {H H':Hp} {sa:List Addr} {S:List Shp} (h:SW c K H sa S) (g:jI H H'):SW c K H' sa S:=⟨h.1,fun i a s h1 h2=>(h.2 i a s h1 h2).same g⟩
theorem SW.nil {c:Cl5} {K:Frag} {H:Hp} : SW c K H [] []:=⟨rfl,fun i a s h _=>by simp at h⟩
theorem SW.snoc {c:Cl5} {K:Frag} {H:Hp} {sa:List Addr} {S:List Shp} {a:Addr} {s:Shp} (h:SW c K H sa S) (x:SO c K H sa a s):SW c K H (sa++[a]) (S++[s]):=by
 have hl:sa.length=S.length:=h.1
 refine⟨by rw [List.length_append,List.length_append,h.1];rfl,fun i b u h1 h2=>?_⟩
 by_cases hi:i < sa.length
 ·rw [List.getElem?_append_left hi] at h1
  rw [List.getElem?_append_left (by rw [← h.1];exact hi)] at h2
  rw [List.take_append_of_le_length (by omega)]
  exact h.2 i b u h1 h2
 ·have hi2:i < (sa++[a]).length:=(List.getElem?_eq_some_iff.mp h1).1
  have e:i=sa.length:=by rw [List.length_append,List.length_singleton] at hi2;omega
  subst e
  rw [List.getElem?_append_right (Nat.le_refl _),Nat.sub_self] at h1
  rw [List.getElem?_append_right (by omega),show sa.length - S.length=0 by omega] at h2
  cases h1
  cases h2
  rw [List.take_left' rfl]
  exact x
inductive LK (K:Frag) (H:Hp):Addr->Kd->Prop
 | num {a:Addr} {w:Nat} : SqT K H a [.str (Str.ofString "num"),.int w]->LK K H a (.num w)
 | nest {a:Addr} {i:Nat} : SqT K H a [.str (Str.ofString "shape"),.int i]->LK K H a (.nest i)
 | many {a b:Addr} {n:Nat} {k:Kd} : SqT K H a [.str (Str.ofString "row"),.int n,.ref b]->LK K H b k->LK K H a (.many n k)
 | pick {a l:Addr} {is:List Nat} : SqT K H a [.str (Str.ofString "pick"),.ref l]->SqL K H l (is.map fun (i:Nat)=>V.int i)->LK K H a (.pick is)
theorem LK.same {K:Frag} {H H':Hp} {a:Addr} {k:Kd} (h:LK K H a k) (g:jI H H'):LK K H' a k:=by
 induction h with
 | num h=>exact .num (g.tp h)
 | nest h=>exact .nest (g.tp h)
 | many h _ ih=>exact .many (g.tp h) ih
 | pick h l=>exact .pick (g.tp h) (g.seq l)
inductive LF (K:Frag) (H:Hp):List Addr->List (Str × Kd)->Prop
 | nil:LF K H [] []
 | cons {p k:Addr} {ps:List Addr} {nm:Str} {kd:Kd} {fs:List (Str × Kd)} : SqT K H p [.str nm,.ref k]->LK K H k kd->LF K H ps fs->LF K H (p::ps) ((nm,kd)::fs)
theorem LF.same {K:Frag} {H H':Hp} {ps:List Addr} {fs:List (Str × Kd)} (h:LF K H ps fs) (g:jI H H'):LF K H' ps fs:=by
 induction h with
 | nil=>exact .nil
 | cons t k _ ih=>exact .cons (g.tp t) (k.same g) ih
theorem LF.len {K:Frag} {H:Hp} {ps:List Addr} {fs:List (Str × Kd)} (h:LF K H ps fs):ps.length=fs.length:=by
 induction h with
 | nil=>rfl
 | cons _ _ _ ih=>rw [List.length_cons,List.length_cons,ih]
theorem LF.snoc {K:Frag} {H:Hp} {ps:List Addr} {fs:List (Str × Kd)} {p k:Addr} {nm:Str} {kd:Kd} (h:LF K H ps fs) (t:SqT K H p [.str nm,.ref k]) (hk:LK K H k kd):LF K H (ps++[p]) (fs++[(nm,kd)]):=by
 induction h with
 | nil=>exact .cons t hk .nil
 | cons t' k' _ ih=>exact .cons t' k' ih
theorem LF.get {K:Frag} {H:Hp} {ps:List Addr} {fs:List (Str × Kd)} (h:LF K H ps fs):∀ {i:Nat} {p:Addr},ps[i]?=some p->∃ nm kd k,fs[i]?=some (nm,kd)/\SqT K H p [.str nm,.ref k]/\LK K H k kd:=by
 induction h with
 | nil=>intro i p e;simp at e
 | cons t k _ ih =>
  intro i p e
  cases i with
  | zero=>cases e;exact⟨_,_,_,rfl,t,k⟩
  | succ i=>exact ih e
def LS (K:Frag) (H:Hp) (a:Addr) (s:Shp):Prop:=∃ l ps,SqT K H a [.str s.1,.ref l]/\SqL K H l (ps.map V.ref)/\LF K H ps s.2
theorem LS.same {K:Frag} {H H':Hp} {a:Addr} {s:Shp} (h:LS K H a s) (g:jI H H'):LS K H' a s:=by
 obtain⟨l,ps,h1,h2,h3⟩:=h
 exact⟨l,ps,g.tp h1,g.seq h2,h3.same g⟩
inductive LW (K:Frag) (H:Hp):List Addr->List Shp->Prop
 | nil:LW K H [] []
 | cons {a:Addr} {as:List Addr} {s:Shp} {S:List Shp} : LS K H a s->LW K H as S->LW K H (a::as) (s::S)
theorem LW.same {K:Frag} {H H':Hp} {as:List Addr} {S:List Shp} (h:LW K H as S) (g:jI H H'):LW K H' as S:=by
 induction h with
 | nil=>exact .nil
 | cons t _ ih=>exact .cons (t.same g) ih
theorem LW.len {K:Frag} {H:Hp} {as:List Addr} {S:List Shp} (h:LW K H as S):as.length=S.length:=by
 induction h with
 | nil=>rfl
 | cons _ _ ih=>rw [List.length_cons,List.length_cons,ih]
theorem LW.snoc {K:Frag} {H:Hp} {as:List Addr} {S:List Shp} {a:Addr} {s:Shp} (h:LW K H as S) (x:LS K H a s):LW K H (as++[a]) (S++[s]):=by
 induction h with
 | nil=>exact .cons x .nil
 | cons t _ ih=>exact .cons t ih
theorem LW.get {K:Frag} {H:Hp} {as:List Addr} {S:List Shp} (h:LW K H as S):∀ {i:Nat} {a:Addr},as[i]?=some a->∃ s,S[i]?=some s/\LS K H a s:=by
 induction h with
 | nil=>intro i a e;simp at e
 | cons t _ ih =>
  intro i a e
  cases i with
  | zero=>cases e;exact⟨_,rfl,t⟩
  | succ i=>exact ih e
abbrev spS:Str:=⟨#[32]⟩
abbrev nlS:Str:=⟨#[10]⟩
def Kd.words (nm:Nat->Str):Kd->List Str
 | .num w=>[Str.ofString "num",Str.ofString (toString (w:Int))]
 | .nest i=>[nm i]
 | .many n k=>Str.ofString "row" :: Str.ofString (toString (n:Int))::k.words nm
 | .pick is=>Str.ofString "pick" :: is.map nm
theorem Kd.words_ne (nm:Nat->Str):∀ k:Kd,k.words nm ≠ []
 | .num _=>by simp [Kd.words]
 | .nest _=>by simp [Kd.words]
 | .many _ _=>by simp [Kd.words]
 | .pick _=>by simp [Kd.words]
def kN (S:List Shp) (i:Nat):Str:=(S.getD i (Str.empty,[])).1
def aAe (nm:Nat->Str) (s:Shp):List (List Str):=[Str.ofString "shape",s.1]::s.2.map fun f=>f.1::f.2.words nm
def iG (S:List Shp):List (List Str):=S.flatMap (aAe (kN S))
def Pln (w:Str):Prop:=32 ∉ w.cps.toList/\10 ∉ w.cps.toList
theorem aAm {c d:Nat} (ne:d ≠ c):∀ {ps:List (List Nat)},(∀ p ∈ ps,d ∉ p)->d ∉ jn c ps
 | [],_=>by simp [jn]
 | [p],h=>h p (List.mem_singleton.mpr rfl)
 | p::q::r,h=>by
  have ih:=aAm ne (ps:=q::r) fun x hx=>h x (List.mem_cons_of_mem _ hx)
  have hp:=h p (List.mem_cons_self ..)
  show d ∉ p++c::jn c (q::r)
  simp only [List.mem_append,List.mem_cons,not_or]
  exact⟨hp,ne,ih⟩
theorem wM {ws:List Str} (hne:ws ≠ []) (h:∀ w ∈ ws,Pln w):Txt.split (Str.join spS ws) spS=ws:=aO hne fun w hw=>(h w hw).1
theorem rP {ls:List (List Str)} (hne:ls ≠ []) (h:∀ l ∈ ls,∀ w ∈ l,Pln w):Txt.split (Str.join nlS (ls.map (Str.join spS))) nlS=ls.map (Str.join spS):=by
 refine aO (by simpa using hne) fun y hy=>?_
 obtain⟨l,hl,rfl⟩:=List.mem_map.mp hy
 rw [iN]
 refine aAm (by decide) fun p hp=>?_
 obtain⟨w,hw,rfl⟩:=List.mem_map.mp hp
 exact (h l hl w hw).2
theorem aBm {sep y:Str} {ys:List Str} (h:ys ≠ []):Str.join sep (y::ys)=y++sep++Str.join sep ys:=by
 cases ys with
 | nil=>exact absurd rfl h
 | cons z zs=>rfl
theorem aBf {n:Nat} (h:n<=9):Pln (Str.ofString (toString (n:Int))):=by
 have:∀ m:Fin 10,Pln (Str.ofString (toString ((m.val:Nat):Int))):=by
  intro m
  unfold Pln
  revert m
  decide +kernel
 exact this ⟨n,by omega⟩
def Kd.Fit (n:Nat):Kd->Prop
 | .num w=>1<=w/\w<=4
 | .nest i=>i < n
 | .many m k=>1<=m/\m<=6/\((∃ w,k=.num w/\1<=w/\w<=4)\/∃ i,k=.nest i/\i < n)
 | .pick is=>2<=is.length/\is.length<=4/\is.Nodup/\∀ i ∈ is,i < n
theorem Kd.Fit.below {n:Nat} : ∀ {k:Kd},k.Fit n->k.Below n
 | .num _,_=>True.intro
 | .nest _,h=>h
 | .many _ k,h=>by
  rcases h.2.2 with⟨w,rfl,_⟩|⟨i,rfl,hi⟩
  ·exact True.intro
  ·exact hi
 | .pick _,h=>h.2.2.2
theorem Kd.Fit.plain {n:Nat} {nm:Nat->Str} (hnm:∀ i,i < n->Pln (nm i)):∀ {k:Kd},k.Fit n->∀ w ∈ k.words nm,Pln w:=by
 have hnum:∀ w:Nat,1<=w/\w<=4->∀ x ∈ (Kd.num w).words nm,Pln x:=fun w hw x hx=>by
  simp only [Kd.words,List.mem_cons,List.not_mem_nil,or_false] at hx
  rcases hx with rfl|rfl
  ·unfold Pln;decide +kernel
  ·exact aBf (by omega)
 intro k h
 cases k with
 | num w=>exact hnum w h
 | nest i =>
  intro x hx
  rw [List.mem_singleton.mp (show x ∈ [nm i] from hx)]
  exact hnm i h
 | many m k =>
  intro x hx
  simp only [Kd.words,List.mem_cons] at hx
  rcases hx with rfl|rfl|hx
  ·unfold Pln;decide +kernel
  ·exact aBf (by have:=h.2.1;omega)
  ·rcases h.2.2 with⟨w,rfl,hw⟩|⟨i,rfl,hi⟩
   ·exact hnum w hw x hx
   ·rw [List.mem_singleton.mp (show x ∈ [nm i] from hx)]
    exact hnm i hi
 | pick is =>
  intro x hx
  simp only [Kd.words,List.mem_cons,List.mem_map] at hx
  rcases hx with rfl|⟨i,hi,rfl⟩
  ·unfold Pln;decide +kernel
  ·exact hnm i (h.2.2.2 i hi)
def Kd.Rk (r:Nat):Kd->Prop
 | .num _=>True
 | .nest i=>2 * i + 2<=r
 | .many _ k=>(∃ w,k=.num w/\1<=r)\/∃ i,k=.nest i/\2 * i + 3<=r
 | .pick is=>∀ i ∈ is,2 * i + 3<=r
theorem Kd.Fit.rk {n:Nat} : ∀ {k:Kd},k.Fit n->k.Rk (2 * n + 1)
 | .num _,_=>True.intro
 | .nest i,h=>by have:i < n:=h;show 2 * i + 2<=2 * n + 1;omega
 | .many m k,h=>by
  rcases h.2.2 with⟨w,e,_⟩|⟨i,e,hi⟩
  ·exact .inl ⟨w,e,by omega⟩
  ·exact .inr ⟨i,e,by omega⟩
 | .pick is,h=>fun i hi=>by have:=h.2.2.2 i hi;omega
theorem Kd.Rk.mono {r q:Nat} (h:r<=q):∀ {k:Kd},k.Rk r->k.Rk q
 | .num _,_=>True.intro
 | .nest i,g=>Nat.le_trans (show 2 * i + 2<=r from g) h
 | .many m k,g=>by
  rcases g with⟨w,e,hw⟩|⟨i,e,hi⟩
  ·exact .inl ⟨w,e,by omega⟩
  ·exact .inr ⟨i,e,by omega⟩
 | .pick is,g=>fun i hi=>Nat.le_trans (g i hi) h
theorem Kd.Fit.mono {n m:Nat} (h:n<=m):∀ {k:Kd},k.Fit n->k.Fit m
 | .num _,g=>g
 | .nest i,g=>Nat.lt_of_lt_of_le (show i < n from g) h
 | .many _ k,g=>⟨g.1,g.2.1,by
  rcases g.2.2 with g|⟨i,e,hi⟩
  ·exact .inl g
  ·exact .inr ⟨i,e,by omega⟩⟩
 | .pick is,g=>⟨g.1,g.2.1,g.2.2.1,fun i hi=>Nat.lt_of_lt_of_le (g.2.2.2 i hi) h⟩
structure Good (S:List Shp):Prop where
 ne:∀ (i:Nat) (s:Shp),S[i]?=some s->s.2 ≠ []
 few:∀ (i:Nat) (s:Shp),S[i]?=some s->s.2.length<=6
 fit:∀ (i:Nat) (s:Shp),S[i]?=some s->∀ f ∈ s.2,f.2.Fit i/\1<=f.1.length/\f.1.length<=6
 sz:∀ i:Nat,(tabs S).sz.getD i 0<=1000
theorem aDf {α : Type} {S:List α} {i:Nat} {s : α} (h:S[i]?=some s):S=S.take i++s::S.drop (i + 1)/\(S.take i).length=i:=by
 obtain⟨hi,e⟩:=List.getElem?_eq_some_iff.mp h
 refine⟨?_,by rw [List.length_take];omega⟩
 conv=>lhs;rw [← List.take_append_drop i S]
 rw [List.drop_eq_getElem_cons hi,e]
theorem mT {α : Type} {xs zs:List α} {y d : α} : (xs++y::zs).getD xs.length d=y:=by
 rw [List.getD_eq_getElem?_getD,List.getElem?_append_right (Nat.le_refl _),Nat.sub_self];rfl
theorem iH {S R:List Shp} {i:Nat} (h:i < S.length):(tabs (S++R)).sz.getD i 0=(tabs S).sz.getD i 0/\(tabs (S++R)).dp.getD i 0=(tabs S).dp.getD i 0/\((tabs (S++R)).ut.getD i fun _=>[])=(tabs S).ut.getD i fun _=>[]:=by
 obtain⟨a,b,c,e1,e2,e3⟩:=uA S R
 obtain⟨l1,l2,l3⟩:=cJ S
 rw [e1,e2,e3]
 exact⟨yM (by omega),yM (by omega),yM (by omega)⟩
theorem eL (S:List Shp) (s:Shp) (R:List Shp):(tabs (S++s::R)).sz.getD S.length 0=(s.2.map fun f=>f.2.size (tabs S).sz).sum/\(tabs (S++s::R)).dp.getD S.length 0=1 + xD (s.2.map fun f=>f.2.depth (tabs S).dp)/\∀ p,((tabs (S++s::R)).ut.getD S.length fun _=>[]) p=s.2.flatMap fun f=>f.2.units (tabs S).sz (tabs S).ut (pj p f.1):=by
 have e:S++s::R=(S++[s])++R:=by rw [List.append_assoc];rfl
 obtain⟨h1,h2,h3⟩:=iH (S:=S++[s]) (R:=R) (i:=S.length) (by rw [List.length_append];exact Nat.lt_succ_self _)
 obtain⟨l1,l2,l3⟩:=cJ S
 rw [e,h1,h2,h3,aCs]
 refine⟨?_,?_,fun p=>?_⟩
 ·show ((tabs S).sz++[_]).getD _ _=_
  rw [← l1,mT]
 ·show ((tabs S).dp++[_]).getD _ _=_
  rw [← l2,mT]
 ·show ((tabs S).ut++[_]).getD _ _ p=_
  rw [← l3,mT]
theorem Kd.tab_lo {S R:List Shp} {k:Kd} (h:k.Below S.length):k.size (tabs (S++R)).sz=k.size (tabs S).sz/\k.depth (tabs (S++R)).dp=k.depth (tabs S).dp/\∀ p,k.units (tabs (S++R)).sz (tabs (S++R)).ut p=k.units (tabs S).sz (tabs S).ut p:=by
 obtain⟨a,b,c,e1,e2,e3⟩:=uA S R
 obtain⟨l1,l2,l3⟩:=cJ S
 rw [e1,e2,e3]
 exact⟨Kd.size_app (by rw [l1];exact h),Kd.depth_app (by rw [l2];exact h),fun p=>Kd.units_app (by omega) (by rw [l1];exact h) p⟩
theorem tK {α β : Type} {f g : α->List β} : ∀ {xs:List α},(∀ x ∈ xs,f x=g x)->xs.flatMap f=xs.flatMap g
 | [],_=>rfl
 | x::xs,h=>by rw [List.flatMap_cons,List.flatMap_cons,h x (List.mem_cons_self ..),tK fun y hy=>h y (List.mem_cons_of_mem _ hy)]
theorem oW {S:List Shp} {i:Nat} {s:Shp} (h:S[i]?=some s) (hF:∀ f ∈ s.2,f.2.Below i):(tabs S).sz.getD i 0=(s.2.map fun f=>f.2.size (tabs S).sz).sum/\(tabs S).dp.getD i 0=1 + xD (s.2.map fun f=>f.2.depth (tabs S).dp)/\∀ p,((tabs S).ut.getD i fun _=>[]) p=s.2.flatMap fun f=>f.2.units (tabs S).sz (tabs S).ut (pj p f.1):=by
 obtain⟨e,hl⟩:=aDf h
 generalize S.take i=A at e hl
 generalize S.drop (i + 1)=B at e
 subst e
 subst hl
 obtain⟨h1,h2,h3⟩:=eL A s B
 have q:=fun f hf=>Kd.tab_lo (R:=s::B) (hF f hf)
 refine⟨?_,?_,fun p=>?_⟩
 ·rw [h1,List.map_congr_left fun f hf=>(q f hf).1]
 ·rw [h2,List.map_congr_left fun f hf=>(q f hf).2.1]
 ·rw [h3 p,tK fun f hf=>(q f hf).2.2 _]
theorem Kd.units_len {sz:List Nat} {ut:List (Str->List Un3)} {n:Nat} (h:∀ i,i < n->1<=sz.getD i 0/\∀ p,((ut.getD i fun _=>[]) p).length<=sz.getD i 0):∀ {k:Kd},k.Fit n->1<=k.size sz/\∀ p,(k.units sz ut p).length<=k.size sz:=by
 have hn:∀ w,1<=w->1<=(Kd.num w).size sz/\∀ p,((Kd.num w).units sz ut p).length<=(Kd.num w).size sz:=fun w hw=>⟨hw,fun p=>hw⟩
 intro k hk
 cases k with
 | num w=>exact hn w hk.1
 | nest i=>exact h i hk
 | many m k =>
  have hs : 1<=k.size sz/\∀ p,(k.units sz ut p).length<=k.size sz:=by
   rcases hk.2.2 with⟨w,rfl,hw,_⟩|⟨i,rfl,hi⟩
   ·exact hn w hw
   ·exact h i hi
  refine⟨Nat.mul_pos hk.1 hs.1,fun p=>?_⟩
  show ((List.range m).flatMap _).length<=m * _
  have:∀ m,((List.range m).flatMap fun j=>k.units sz ut (pj p (Str.ofString (toString j)))).length<=m * k.size sz:=by
   intro m
   induction m with
   | zero=>exact Nat.zero_le _
   | succ m ih =>
    rw [List.range_succ,List.flatMap_append,List.length_append,List.flatMap_singleton,Nat.succ_mul]
    exact Nat.add_le_add ih (hs.2 _)
  exact this m
 | pick is =>
  refine⟨by show 1<=1 + _;omega,fun p=>?_⟩
  show 2<=1 + xD _
  cases is with
  | nil=>exact absurd hk.1 (by decide)
  | cons i r =>
   have:=(h i (hk.2.2.2 i (List.mem_cons_self ..))).1
   have g:=iJ (n:=sz.getD i 0) (xs:=(i::r).map fun i=>sz.getD i 0) (List.mem_cons_self ..)
   omega
theorem dE {sz:List Nat} {ut:List (Str->List Un3)} (p:Str):∀ {fs:List (Str × Kd)},(∀ f ∈ fs,1<=f.2.size sz/\∀ p,(f.2.units sz ut p).length<=f.2.size sz)->(fs.flatMap fun f=>f.2.units sz ut (pj p f.1)).length<=(fs.map fun f=>f.2.size sz).sum/\fs.length<=(fs.map fun f=>f.2.size sz).sum
 | [],_=>⟨Nat.le_refl _,Nat.le_refl _⟩
 | f::fs,h=>by
  have ih:=dE p (fs:=fs) fun g hg=>h g (List.mem_cons_of_mem _ hg)
  have h0:=h f (List.mem_cons_self ..)
  rw [List.flatMap_cons,List.length_append,List.map_cons,List.sum_cons,List.length_cons]
  exact⟨Nat.add_le_add (h0.2 _) ih.1,by omega⟩
theorem Good.len {S:List Shp} (h:Good S):∀ n i,i < n->i < S.length->1<=(tabs S).sz.getD i 0/\∀ p,(((tabs S).ut.getD i fun _=>[]) p).length<=(tabs S).sz.getD i 0
 | 0,i,hi,_=>absurd hi (Nat.not_lt_zero _)
 | n + 1,i,hi,hl=>by
  have hs:S[i]?=some S[i]:=List.getElem?_eq_getElem hl
  have hF:=h.fit i _ hs
  obtain⟨e1,e2,e3⟩:=oW hs fun f hf=>(hF f hf).1.below
  have q:∀ f ∈ S[i].2,1<=f.2.size (tabs S).sz/\∀ p,(f.2.units (tabs S).sz (tabs S).ut p).length<=f.2.size (tabs S).sz:=fun f hf =>
   Kd.units_len (fun j hj=>Good.len h n j (by omega) (by omega)) (hF f hf).1
  have hne:=h.ne i _ hs
  have : 1<=S[i].2.length:=by
   cases e:S[i].2 with
   | nil=>exact absurd e hne
   | cons _ _=>exact Nat.succ_le_succ (Nat.zero_le _)
  refine⟨?_,fun p=>?_⟩
  ·rw [e1];exact Nat.le_trans this (dE Str.empty q).2
  ·rw [e1,e3 p];exact (dE p q).1
theorem Good.kd {S:List Shp} (h:Good S) {k:Kd} (hk:k.Fit S.length) : 1<=k.size (tabs S).sz/\∀ p,(k.units (tabs S).sz (tabs S).ut p).length<=k.size (tabs S).sz:=Kd.units_len (fun j hj=>h.len S.length j hj hj) hk
theorem pD {m:Nat} : ∀ {xs:List Nat},(∀ x ∈ xs,x<=m)->xD xs<=m
 | [],_=>Nat.zero_le _
 | x::xs,h=>Nat.max_le.mpr ⟨h x (List.mem_cons_self ..),pD fun y hy=>h y (List.mem_cons_of_mem _ hy)⟩
theorem Kd.size_bd {sz:List Nat} {m n:Nat} (h:∀ i,sz.getD i 0<=m) (hm : 4<=m):∀ {k:Kd},k.Fit n->k.size sz<=6 * m
 | .num w,hk=>by have:=hk.2;show w<=_;omega
 | .nest i,_=>by have:=h i;show sz.getD i 0<=_;omega
 | .many c k,hk=>by
  have:k.size sz<=m:=by
   rcases hk.2.2 with⟨w,rfl,_,hw⟩|⟨i,rfl,hi⟩
   ·show w<=m;omega
   ·exact h i
  exact Nat.mul_le_mul hk.2.1 this
 | .pick is,_=>by
  have:xD (is.map fun i=>sz.getD i 0)<=m:=pD fun x hx=>by obtain⟨i,_,rfl⟩:=List.mem_map.mp hx;exact h i
  show 1 + _<=_
  omega
def Kd.parts (S:List Shp):Kd->List (Str × Kd)
 | .nest i=>(S.getD i (Str.empty,[])).2
 | .many n k=>(List.range n).map fun j=>(Str.ofString (toString j),k)
 | _=>[]
theorem Kd.parts_units {S:List Shp} (h:Good S) {k:Kd} (hk:k.Fit S.length) (hs:(∃ i,k=.nest i)\/∃ n q,k=.many n q) (p:Str):k.units (tabs S).sz (tabs S).ut p=(k.parts S).flatMap fun f=>f.2.units (tabs S).sz (tabs S).ut (pj p f.1):=by
 rcases hs with⟨i,rfl⟩|⟨n,q,rfl⟩
 ·have hi:i < S.length:=hk
  have hs:S[i]?=some S[i]:=List.getElem?_eq_getElem hi
  have e:(Kd.nest i).parts S=S[i].2:=by show (S.getD i _).2=_;rw [List.getD_eq_getElem?_getD,hs];rfl
  rw [e]
  exact (oW hs fun f hf=>((h.fit i _ hs) f hf).1.below).2.2 p
 ·show (List.range n).flatMap _=((List.range n).map _).flatMap _
  rw [List.flatMap_map]
def Kd.isNum:Kd->Bool
 | .num _=>true
 | _=>false
def Kd.isNest:Kd->Bool
 | .nest _=>true
 | _=>false
def Kd.isMany:Kd->Bool
 | .many _ _=>true
 | _=>false
def Kd.isPick:Kd->Bool
 | .pick _=>true
 | _=>false
def Nolk (m:Str):Prop:=∀ v w:V,[(("width" : Str),v)].lookup m=none/\[(("shape" : Str),v)].lookup m=none/\[(("count" : Str),v),(("kind" : Str),w)].lookup m=none/\[(("shapes" : Str),v)].lookup m=none
def spV (c:Cl5) (K:Frag) (r:Nat) (F:Kd->Bool) (val:Kd->Tab->Nat):Sp:=fun vs H Q _=>∃ (a:Addr) (kd:Kd) (sa:List Addr) (S:List Shp),vs=[.ref a]/\F kd=true/\kd.Rk r/\kd.Fit S.length/\KO c K H sa a kd/\SW c K H sa S/\Good S/\∀ H',jI H H'->Q (.int (val kd (tabs S))) H'
def TV (c:Cl5) (K:Frag) (r:Nat) (val:Kd->Tab->Nat):Addr->Sp->Prop:=fun C sp=>(C=c.num/\sp=spV c K r Kd.isNum val)\/(C=c.nest/\sp=spV c K r Kd.isNest val)\/(C=c.many/\sp=spV c K r Kd.isMany val)\/(C=c.pick/\sp=spV c K r Kd.isPick val)
theorem aAc {c:Cl5} {K:Frag} {r:Nat} {val:Kd->Tab->Nat} {H:Hp} {a:Addr} {kd:Kd} {sa:List Addr} {S:List Shp} {Q:VK} {E:XK} {m:Str} (hm:Nolk m) (hr:kd.Rk r) (hf:kd.Fit S.length) (ho:KO c K H sa a kd) (hw:SW c K H sa S) (hg:Good S)
  (q:∀ H',jI H H'->Q (.int (val kd (tabs S))) H'):∃ a' C dx fs sp,V.ref a=.ref a'/\H a'=some (.ins C dx fs)/\fs.lookup m=none/\TV c K r val C sp/\sp [.ref a] H Q E:=by
 cases id ho with
 | num h=>exact⟨_,_,_,_,_,rfl,h,(hm _ .non).1,.inl ⟨rfl,rfl⟩,a,_,sa,S,rfl,rfl,hr,hf,ho,hw,hg,q⟩
 | nest e h=>exact⟨_,_,_,_,_,rfl,h,(hm _ .non).2.1,.inr (.inl ⟨rfl,rfl⟩),a,_,sa,S,rfl,rfl,hr,hf,ho,hw,hg,q⟩
 | many h _=>exact⟨_,_,_,_,_,rfl,h,(hm _ _).2.2.1,.inr (.inr (.inl ⟨rfl,rfl⟩)),a,_,sa,S,rfl,rfl,hr,hf,ho,hw,hg,q⟩
 | pick h _ _ _=>exact⟨_,_,_,_,_,rfl,h,(hm _ .non).2.2.2,.inr (.inr (.inr ⟨rfl,rfl⟩)),a,_,sa,S,rfl,rfl,hr,hf,ho,hw,hg,q⟩
def gL (c:Cl5) (K:Frag) (r:Nat) (val:Nat->Tab->Nat):Sp:=fun vs H Q _=>∃ (a:Addr) (i:Nat) (sa:List Addr) (S:List Shp),vs=[.ref a]/\sa[i]?=some a/\2 * i + 1<=r/\SW c K H sa S/\Good S/\∀ H',jI H H'->Q (.int (val i (tabs S))) H'
inductive UR (K:Frag) (H:Hp):List Addr->List Un3->Prop
 | nil:UR K H [] []
 | cons {t:Addr} {ts:List Addr} {u:Un3} {us:List Un3} : SqT K H t [.str u.1,.int u.2.1,.str u.2.2]->UR K H ts us->UR K H (t::ts) (u::us)
theorem UR.same {K:Frag} {H H':Hp} {ts:List Addr} {us:List Un3} (h:UR K H ts us) (g:jI H H'):UR K H' ts us:=by
 induction h with
 | nil=>exact .nil
 | cons t _ ih=>exact .cons (g.tp t) ih
theorem UR.len {K:Frag} {H:Hp} {ts:List Addr} {us:List Un3} (h:UR K H ts us):ts.length=us.length:=by
 induction h with
 | nil=>rfl
 | cons _ _ ih=>rw [List.length_cons,List.length_cons,ih]
theorem UR.app {K:Frag} {H:Hp} {ts ts':List Addr} {us us':List Un3} (h:UR K H ts us) (h':UR K H ts' us'):UR K H (ts++ts') (us++us'):=by
 induction h with
 | nil=>exact h'
 | cons t _ ih=>exact .cons t ih
theorem UR.get {K:Frag} {H:Hp} {ts:List Addr} {us:List Un3} (h:UR K H ts us):∀ {i:Nat} {t:Addr},ts[i]?=some t->∃ u,us[i]?=some u/\SqT K H t [.str u.1,.int u.2.1,.str u.2.2]:=by
 induction h with
 | nil=>intro i t e;simp at e
 | cons t _ ih =>
  intro i a e
  cases i with
  | zero=>cases e;exact⟨_,rfl,t⟩
  | succ i=>exact ih e
theorem UR.but {K:Frag} {H H':Hp} {l:Addr} {zs:List V} {ts:List Addr} {us:List Un3} (h:UR K H ts us) (g:But l H H') (hl:H l=some (.lst zs)):UR K H' ts us:=by
 induction h with
 | nil=>exact .nil
 | cons t _ ih=>exact .cons (g.tup hl t) ih
def UL (K:Frag) (H:Hp) (l:Addr) (us:List Un3):Prop:=∃ ts:List Addr,H l=some (.lst (ts.map V.ref))/\UR K H ts us
abbrev un (kd:Kd) (S:List Shp) (p:Str):List Un3:=kd.units (tabs S).sz (tabs S).ut p
theorem Kd.parts_un {S:List Shp} (h:Good S) {k:Kd} (hk:k.Fit S.length) (hs:(∃ i,k=.nest i)\/∃ n q,k=.many n q) {p:Str} : un k S p=(k.parts S).flatMap fun f=>un f.2 S (pj p f.1):=Kd.parts_units h hk hs p
def spU (c:Cl5) (K:Frag) (r:Nat) (F:Kd->Bool):Sp:=fun vs H Q _=>∃ (a:Addr) (p:Str) (kd:Kd) (sa:List Addr) (S:List Shp),vs=[.ref a,.str p]/\p.length + 8 * r<=200/\F kd=true/\kd.Rk r/\kd.Fit S.length/\KO c K H sa a kd/\SW c K H sa S/\Good S ∧
 ∀ l H',jI H H'->H l=none->UL K H' l (un kd S p)->Q (.ref l) H'
def TU (c:Cl5) (K:Frag) (r:Nat):Addr->Sp->Prop:=fun C sp=>(C=c.num/\sp=spU c K r Kd.isNum)\/(C=c.nest/\sp=spU c K r Kd.isNest)\/(C=c.many/\sp=spU c K r Kd.isMany)\/(C=c.pick/\sp=spU c K r Kd.isPick)
theorem kdU {c:Cl5} {K:Frag} {r:Nat} {H:Hp} {a:Addr} {kd:Kd} {sa:List Addr} {S:List Shp} {m:Str} (hm:Nolk m) (hr:kd.Rk r) (hf:kd.Fit S.length) (ho:KO c K H sa a kd) (hw:SW c K H sa S) (hg:Good S) :
  ∃ C dx fs sp,H a=some (.ins C dx fs)/\fs.lookup m=none/\TU c K r C sp/\∀ (p:Str) (Q:VK) (E:XK),p.length + 8 * r<=200->(∀ l H',jI H H'->H l=none->UL K H' l (un kd S p)->Q (.ref l) H')->sp [.ref a,.str p] H Q E:=by
 cases id ho with
 | num h=>exact⟨_,_,_,_,h,(hm _ .non).1,.inl ⟨rfl,rfl⟩,fun p Q E hp q=>⟨a,p,_,sa,S,rfl,hp,rfl,hr,hf,ho,hw,hg,q⟩⟩
 | nest e h=>exact⟨_,_,_,_,h,(hm _ .non).2.1,.inr (.inl ⟨rfl,rfl⟩),fun p Q E hp q=>⟨a,p,_,sa,S,rfl,hp,rfl,hr,hf,ho,hw,hg,q⟩⟩
 | many h _=>exact⟨_,_,_,_,h,(hm _ _).2.2.1,.inr (.inr (.inl ⟨rfl,rfl⟩)),fun p Q E hp q=>⟨a,p,_,sa,S,rfl,hp,rfl,hr,hf,ho,hw,hg,q⟩⟩
 | pick h _ _ _=>exact⟨_,_,_,_,h,(hm _ .non).2.2.2,.inr (.inr (.inr ⟨rfl,rfl⟩)),fun p Q E hp q=>⟨a,p,_,sa,S,rfl,hp,rfl,hr,hf,ho,hw,hg,q⟩⟩
inductive PR (c:Cl5) (K:Frag) (H:Hp) (sa:List Addr):List Addr->List (Str × Kd)->Prop
 | nil:PR c K H sa [] []
 | cons {t k:Addr} {x:V} {y:Str} {kd:Kd} {ts:List Addr} {ps:List (Str × Kd)} : SqT K H t [x,.ref k]->uE x=some y->KO c K H sa k kd->PR c K H sa ts ps->PR c K H sa (t::ts) ((y,kd)::ps)
theorem PR.same {c:Cl5} {K:Frag} {H H':Hp} {sa ts:List Addr} {ps:List (Str × Kd)} (h:PR c K H sa ts ps) (g:jI H H'):PR c K H' sa ts ps:=by
 induction h with
 | nil=>exact .nil
 | cons t x k _ ih=>exact .cons (g.tp t) x (k.same g) ih
theorem PR.len {c:Cl5} {K:Frag} {H:Hp} {sa ts:List Addr} {ps:List (Str × Kd)} (h:PR c K H sa ts ps):ts.length=ps.length:=by
 induction h with
 | nil=>rfl
 | cons _ _ _ _ ih=>rw [List.length_cons,List.length_cons,ih]
theorem PR.snoc {c:Cl5} {K:Frag} {H:Hp} {sa ts:List Addr} {ps:List (Str × Kd)} {t k:Addr} {x:V} {y:Str} {kd:Kd} (h:PR c K H sa ts ps) (t1:SqT K H t [x,.ref k]) (h2:uE x=some y) (h3:KO c K H sa k kd):PR c K H sa (ts++[t]) (ps++[(y,kd)]):=by
 induction h with
 | nil=>exact .cons t1 h2 h3 .nil
 | cons t x k _ ih=>exact .cons t x k ih
theorem PR.get {c:Cl5} {K:Frag} {H:Hp} {sa ts:List Addr} {ps:List (Str × Kd)} (h:PR c K H sa ts ps):∀ {i:Nat} {t:Addr},ts[i]?=some t->∃ x y kd k,ps[i]?=some (y,kd)/\SqT K H t [x,.ref k]/\uE x=some y/\KO c K H sa k kd:=by
 induction h with
 | nil=>intro i t e;simp at e
 | cons t x k _ ih =>
  intro i a e
  cases i with
  | zero=>cases e;exact⟨_,_,_,_,rfl,t,x,k⟩
  | succ i=>exact ih e
theorem FO.parts {c:Cl5} {K:Frag} {H:Hp} {sa ps:List Addr} {fs:List (Str × Kd)} (h:FO c K H sa ps fs) (more:List Addr):PR c K H (sa++more) ps fs:=by
 induction h with
 | nil=>exact .nil
 | cons t k _ ih=>exact .cons t rfl (k.more more) ih
def PL (c:Cl5) (K:Frag) (H:Hp) (sa:List Addr) (l:Addr) (ps:List (Str × Kd)):Prop:=∃ ts:List Addr,H l=some (.lst (ts.map V.ref))/\PR c K H sa ts ps
def spP (c:Cl5) (K:Frag) (F:Kd->Bool):Sp:=fun vs H Q _=>∃ (a:Addr) (kd:Kd) (sa:List Addr) (S:List Shp),vs=[.ref a]/\F kd=true/\kd.Fit S.length/\KO c K H sa a kd/\SW c K H sa S/\Good S/\∀ l H',jI H H'->H l=none->PL c K H' sa l (kd.parts S)->Q (.ref l) H'
def TPt (c:Cl5) (K:Frag):Addr->Sp->Prop:=fun C sp=>(C=c.nest/\sp=spP c K Kd.isNest)\/(C=c.many/\sp=spP c K Kd.isMany)
theorem callP {c:Cl5} {K:Frag} {H:Hp} {a:Addr} {kd:Kd} {sa:List Addr} {S:List Shp} {Q:VK} {E:XK} {m:Str} (hm:Nolk m) (hs:(∃ i,kd=.nest i)\/∃ n q,kd=.many n q) (hf:kd.Fit S.length) (ho:KO c K H sa a kd) (hw:SW c K H sa S) (hg:Good S)
  (q:∀ l H',jI H H'->H l=none->PL c K H' sa l (kd.parts S)->Q (.ref l) H'):∃ a' C dx fs sp,V.ref a=.ref a'/\H a'=some (.ins C dx fs)/\fs.lookup m=none/\TPt c K C sp/\sp [.ref a] H Q E:=by
 cases id ho with
 | num h=>rcases hs with⟨_,z⟩|⟨_,_,z⟩ <;> cases z
 | nest e h=>exact⟨_,_,_,_,_,rfl,h,(hm _ .non).2.1,.inl ⟨rfl,rfl⟩,a,_,sa,S,rfl,rfl,hf,ho,hw,hg,q⟩
 | many h _=>exact⟨_,_,_,_,_,rfl,h,(hm _ _).2.2.1,.inr ⟨rfl,rfl⟩,a,_,sa,S,rfl,rfl,hf,ho,hw,hg,q⟩
 | pick h _ _ _=>rcases hs with⟨_,z⟩|⟨_,_,z⟩ <;> cases z
theorem SW.at {c:Cl5} {K:Frag} {H:Hp} {sa:List Addr} {S:List Shp} (h:SW c K H sa S) {i:Nat} {a:Addr} (e:sa[i]?=some a):∃ s,S[i]?=some s/\SO c K H (sa.take i) a s:=by
 have hi:i < S.length:=by rw [← h.1];exact (List.getElem?_eq_some_iff.mp e).1
 exact⟨S[i],List.getElem?_eq_getElem hi,h.2 i a _ e (List.getElem?_eq_getElem hi)⟩
theorem SO.fields {c:Cl5} {K:Frag} {H:Hp} {sa:List Addr} {i:Nat} {a:Addr} {s:Shp} (h:SO c K H (sa.take i) a s):∃ dx t ps,H a=some (.ins c.shape dx [("name",.str s.1),("fields",.ref t)])/\SqT K H t (ps.map V.ref)/\PR c K H sa ps s.2:=by
 obtain⟨dx,t,ps,h1,h2,h3⟩:=h
 refine⟨dx,t,ps,h1,h2,?_⟩
 have:=h3.parts (sa.drop i)
 rw [List.take_append_drop] at this
 exact this
theorem aCm:∀ j:Nat,j < 6->(Str.ofString (toString j)).length=1:=by decide +kernel
theorem Kd.parts_ok {S:List Shp} (h:Good S) {k:Kd} {r:Nat} (hk:k.Fit S.length) (hr:k.Rk (r + 1)) {f:Str × Kd} (hf:f ∈ k.parts S):f.2.Rk r/\f.2.Fit S.length/\1<=f.1.length/\f.1.length<=6:=by
 cases k with
 | num w=>cases hf
 | nest i =>
  have hi:i < S.length:=hk
  have hs:S[i]?=some S[i]:=List.getElem?_eq_getElem hi
  have e:(Kd.nest i).parts S=S[i].2:=by show (S.getD i _).2=_;rw [List.getD_eq_getElem?_getD,hs];rfl
  rw [e] at hf
  obtain⟨g1,g2,g3⟩:=h.fit i _ hs f hf
  exact⟨g1.rk.mono (by have : 2 * i + 2<=r + 1:=hr;omega),g1.mono (by omega),g2,g3⟩
 | many n q =>
  obtain⟨j,hj,rfl⟩:=List.mem_map.mp hf
  have hj':j < 6:=Nat.lt_of_lt_of_le (List.mem_range.mp hj) hk.2.1
  have:=aCm j hj'
  refine⟨?_,?_,by show 1<=(Str.ofString (toString j)).length;omega,by show (Str.ofString (toString j)).length<=6;omega⟩
  ·rcases hr with⟨w,rfl,_⟩|⟨i,rfl,hi⟩
   ·exact True.intro
   ·show 2 * i + 2<=r;omega
  ·rcases hk.2.2 with⟨w,rfl,hw⟩|⟨i,rfl,hi⟩
   ·exact hw
   ·exact hi
 | pick is=>cases hf
def Kd.lv:Kd->Nat
 | .many _ _=>1
 | _=>0
def LX (K:Frag) (H:Hp) (sl:Addr) (S:List Shp):Prop:=∃ as:List Addr,SqL K H sl (as.map V.ref)/\LW K H as S
theorem LX.same {K:Frag} {H H':Hp} {sl:Addr} {S:List Shp} (h:LX K H sl S) (g:jI H H'):LX K H' sl S:=by
 obtain⟨as,h1,h2⟩:=h
 exact⟨as,g.seq h1,h2.same g⟩
def vSz (kd:Kd) (t:Tab):Nat:=kd.size t.sz
def vDp (kd:Kd) (t:Tab):Nat:=kd.depth t.dp
def sSz (i:Nat) (t:Tab):Nat:=t.sz.getD i 0
def sDp (i:Nat) (t:Tab):Nat:=t.dp.getD i 0
theorem KO.but {c:Cl5} {K:Frag} {H H':Hp} {l:Addr} {zs:List V} (g:But l H H') (hl:H l=some (.lst zs)) {sa:List Addr} {a:Addr} {k:Kd} (h:KO c K H sa a k):KO c K H' sa a k:=by
 have n:∀ {a C dx fs},H a=some (.ins C dx fs)->H' a=some (.ins C dx fs):=fun h=>g _ _ (gI h hl (by intro z;cases z)) h
 induction h with
 | num h=>exact .num (n h)
 | nest e h=>exact .nest e (n h)
 | many h _ ih=>exact .many (n h) ih
 | pick h t l e=>exact .pick (n h) (g.tup hl t) l e
theorem FO.but {c:Cl5} {K:Frag} {H H':Hp} {l:Addr} {zs:List V} (g:But l H H') (hl:H l=some (.lst zs)) {sa ps:List Addr} {fs:List (Str × Kd)} (h:FO c K H sa ps fs):FO c K H' sa ps fs:=by
 induction h with
 | nil=>exact .nil
 | cons t k _ ih=>exact .cons (g.tup hl t) (k.but g hl) ih
theorem SO.but {c:Cl5} {K:Frag} {H H':Hp} {l:Addr} {zs:List V} (g:But l H H') (hl:H l=some (.lst zs)) {sa:List Addr} {a:Addr} {s:Shp} (h:SO c K H sa a s):SO c K H' sa a s:=by
 obtain⟨dx,t,ps,h1,h2,h3⟩:=h
 exact⟨dx,t,ps,g _ _ (gI h1 hl (by intro z;cases z)) h1,g.tup hl h2,h3.but g hl⟩
theorem SW.but {c:Cl5} {K:Frag} {H H':Hp} {l:Addr} {zs:List V} (g:But l H H') (hl:H l=some (.lst zs)) {sa:List Addr} {S:List Shp} (h:SW c K H sa S):SW c K H' sa S:=⟨h.1,fun i a s h1 h2=>(h.2 i a s h1 h2).but g hl⟩
theorem But.from {l:Addr} {H H1 H2:Hp} (g:jI H H1) (hl:H l=none) (b:But l H1 H2):jI H H2:=fun x o q=>b x o (jL q hl) (g x o q)
theorem aG {H:Hp} {x dx:Addr} {o u:HO} (hx:H x=none) (hd:H dx=none):jI H (upd (upd H dx o) x u):=fun b v q=>by
 rw [jS (jL q hx),jS (jL q hd)];exact q
theorem jI.putn {H H1:Hp} {a:Addr} {o:HO} (g:jI H H1) (h:H a=none):jI H (upd H1 a o):=fun b v q=>by
 rw [jS (jL q h)];exact g _ _ q
theorem vA {ss:List Addr} {i:Nat} {x:V} (h:(ss.map V.ref)[i]?=some x):∃ s,ss[i]?=some s/\x=.ref s:=by
 rw [List.getElem?_map] at h
 cases e:ss[i]? with
 | none=>rw [e] at h;cases h
 | some c=>rw [e] at h;cases h;exact⟨c,rfl,rfl⟩
theorem yJ {α β : Type} {f : α->β} {l:List α} {i:Nat} {a : α} (h:l[i]?=some a):(l.take (i + 1)).map f=(l.take i).map f++[f a]:=by
 rw [List.take_add_one,h,List.map_append];rfl
theorem wU {α β : Type} {f : α->List β} {l:List α} {i:Nat} {a : α} (h:l[i]?=some a):(l.take (i + 1)).flatMap f=(l.take i).flatMap f++f a:=by
 rw [List.take_add_one,h,List.flatMap_append]
 show _++[a].flatMap f=_
 rw [List.flatMap_singleton]
theorem qU {α : Type} {l:List α} : l.take l.length=l:=List.take_length
theorem maxI {ns:List Nat} {m:Int} (h1:m ∈ ns.map fun n:Nat=>(n:Int)) (h2:∀ n ∈ ns.map fun n:Nat=>(n:Int),n<=m):m=((xD ns:Nat):Int):=by
 obtain⟨n,hn,rfl⟩:=List.mem_map.mp h1
 rw [← aHh hn fun k hk=>by have:=h2 (k:Int) (List.mem_map_of_mem hk);omega]
theorem sumI:∀ ns:List Nat,(ns.map fun n:Nat=>(n:Int)).sum=((ns.sum:Nat):Int)
 | []=>rfl
 | n::ns=>by rw [List.map_cons,List.sum_cons,List.sum_cons,sumI ns];omega
theorem Kd.Rk.zero {n:Nat} : ∀ {k:Kd},k.Rk 0->k.Fit n->k.isNum=true
 | .num _,_,_=>rfl
 | .nest i,h,_=>by have : 2 * i + 2<=0:=h;omega
 | .many _ _,h,_=>by
  rcases h with⟨_,_,h⟩|⟨i,_,h⟩ <;> omega
 | .pick is,h,q=>by
  cases is with
  | nil=>exact absurd q.1 (by decide)
  | cons i _=>have:=h i (List.mem_cons_self ..);omega
theorem Kd.Rk.sub {n r:Nat} {k:Kd} (h:(Kd.many n k).Rk (r + 1)):k.Rk r:=by
 rcases h with⟨w,rfl,_⟩|⟨i,rfl,hi⟩
 ·exact True.intro
 ·show 2 * i + 2<=r;omega
theorem Kd.Fit.sub {n m:Nat} {k:Kd} (h:(Kd.many n k).Fit m):k.Fit m:=by
 rcases h.2.2 with⟨w,rfl,hw⟩|⟨i,rfl,hi⟩
 ·exact hw
 ·exact hi
theorem aCj {os:St} (h:os.length=2):∃ a b,os=[a,b]:=by
 match os,h with
 | [a,b],_=>exact⟨a,b,rfl⟩
theorem uO {m:Str} (h:m = "size" ∨ m = "depth" ∨ m = "units_at" ∨ m = "parted"):Nolk m:=by
 rcases h with rfl|rfl|rfl|rfl <;> exact fun _ _=>⟨rfl,rfl,rfl,rfl⟩
theorem bF.mono {P:Program} {w:World} {K:Frag} {mg:Str->Option Value} {base:Heap} {CX:CXT} {j k:Nat} {m:Str} {C:Addr} {sp:Sp} (h:bF P w K mg base CX j m C sp) (hk:j<=k):bF P w K mg base CX k m C sp:=by
 obtain⟨c,f,fd,ps,h1,h2,h3⟩:=h
 exact⟨c,f,fd,ps,h1,h2.mono hk,h3⟩
theorem noFn {P:Program} {w:World} {K:Frag} {mg:Str->Option Value} {base:Heap} {CX:CXT} {k:Nat} {f:Addr} {fd:FuncData} {ps:List Str} {sp:Sp} (h:∀ vs H Q E,sp vs H Q E->False):jK P w K mg base CX k f fd ps sp:=⟨fun vs H Q E q=>(h vs H Q E q).elim,fun _ _ _ H _ _ vs Q E _ _ _ _ q=>(h vs H Q E q).elim⟩
theorem noV {c:Cl5} {K:Frag} {F:Kd->Bool} {val:Kd->Tab->Nat} (hF:∀ k,F k=true->k.isNum=true->False):∀ vs H Q E,spV c K 0 F val vs H Q E->False:=fun vs H Q E ⟨a,kd,sa,S,_,h1,h2,h3,_⟩=>hF kd h1 (h2.zero h3)
theorem noU {c:Cl5} {K:Frag} {F:Kd->Bool} (hF:∀ k,F k=true->k.isNum=true->False):∀ vs H Q E,spU c K 0 F vs H Q E->False:=fun vs H Q E ⟨a,p,kd,sa,S,_,_,h1,h2,h3,_⟩=>hF kd h1 (h2.zero h3)
theorem nn1:∀ k:Kd,k.isNest=true->k.isNum=true->False:=fun k h g=>by cases k <;> first|exact Bool.false_ne_true h|exact Bool.false_ne_true g
theorem nn2:∀ k:Kd,k.isMany=true->k.isNum=true->False:=fun k h g=>by cases k <;> first|exact Bool.false_ne_true h|exact Bool.false_ne_true g
theorem nn3:∀ k:Kd,k.isPick=true->k.isNum=true->False:=fun k h g=>by cases k <;> first|exact Bool.false_ne_true h|exact Bool.false_ne_true g
theorem ff1:∀ k:Kd,k.isNest=true->(∃ i,k=.nest i)\/∃ n q,k=.many n q:=fun k h=>by
 cases k <;> first|exact .inl ⟨_,rfl⟩|cases h
theorem ff2:∀ k:Kd,k.isMany=true->(∃ i,k=.nest i)\/∃ n q,k=.many n q:=fun k h=>by
 cases k <;> first|exact .inr ⟨_,_,rfl⟩|cases h
inductive Itm where
 | sh (n:Str)
 | fd (n:Str) (k:Kd)
def lL (s:Shp):List Itm:=.sh s.1::s.2.map fun f=>.fd f.1 f.2
def vN (S:List Shp):List Itm:=S.flatMap lL
def Itm.line (nm:Nat->Str):Itm->List Str
 | .sh n=>[Str.ofString "shape",n]
 | .fd n k=>n::k.words nm
theorem dI (S:List Shp):iG S=(vN S).map (Itm.line (kN S)):=by
 unfold iG vN
 rw [List.map_flatMap]
 congr 1
 funext s
 unfold aAe lL
 rw [List.map_cons,List.map_map]
 rfl
theorem bN (A B:List Shp):vN (A++B)=vN A++vN B:=List.flatMap_append
def gV (S:List Shp) (j:Nat) (T:List Shp):Prop:=(∃ S2,S=T++S2/\j=(vN T).length)\/∃ S1 s S2 f1 f2,S=S1++s::S2/\s.2=f1++f2/\T=S1++[(s.1,f1)]/\j=(vN S1).length + 1 + f1.length
theorem gV.start (S:List Shp):gV S 0 []:=.inl ⟨S,rfl,rfl⟩
theorem gV.next {S:List Shp} {j:Nat} {T:List Shp} (h:gV S j T) (hj:j < (vN S).length):∃ S1 s S2,S=S1++s::S2 ∧
  (((vN S)[j]?=some (.sh s.1)/\T=S1/\gV S (j + 1) (S1++[(s.1,[])]))\/∃ f1 n k f2,s.2=f1++(n,k)::f2/\(vN S)[j]?=some (.fd n k)/\T=S1++[(s.1,f1)]/\gV S (j + 1) (S1++[(s.1,f1++[(n,k)])])):=by
 have one:∀ {T:List Shp} {S2:List Shp},S=T++S2->j=(vN T).length->∃ S1 s S2,S=S1++s::S2 ∧
  (((vN S)[j]?=some (.sh s.1)/\T=S1/\gV S (j + 1) (S1++[(s.1,[])]))\/∃ f1 n k f2,s.2=f1++(n,k)::f2/\(vN S)[j]?=some (.fd n k)/\T=S1++[(s.1,f1)]/\gV S (j + 1) (S1++[(s.1,f1++[(n,k)])])):=by
  intro T S2 e ej
  cases S2 with
  | nil=>rw [e,List.append_nil,← ej] at hj;exact absurd hj (Nat.lt_irrefl _)
  | cons s S2 =>
   refine⟨T,s,S2,e,.inl ⟨?_,rfl,.inr ⟨T,s,S2,[],s.2,e,rfl,rfl,by rw [ej];rfl⟩⟩⟩
   rw [e,bN,List.getElem?_append_right (by omega),ej,Nat.sub_self]
   rfl
 rcases h with⟨S2,e,ej⟩|⟨S1,s,S2,f1,f2,e,ef,eT,ej⟩
 ·exact one e ej
 ·cases f2 with
  | nil =>
   rw [List.append_nil] at ef
   have e2:T=S1++[s]:=by rw [eT,← ef]
   refine one (S2:=S2) (by rw [e,e2,List.append_assoc];rfl) ?_
   rw [e2,bN,List.length_append,ej]
   show _=_ + ([s].flatMap lL).length
   rw [List.flatMap_singleton]
   unfold lL
   rw [List.length_cons,List.length_map,ef]
   omega
  | cons f f2 =>
   refine⟨S1,s,S2,e,.inr ⟨f1,f.1,f.2,f2,ef,?_,eT,.inr ⟨S1,s,S2,f1++[(f.1,f.2)],f2,e,by rw [ef,List.append_assoc];rfl,rfl,by rw [ej,List.length_append];rfl⟩⟩⟩
   rw [e,bN,List.getElem?_append_right (by omega),show j - (vN S1).length=f1.length + 1 by omega]
   show ((lL s)++vN S2)[f1.length + 1]?=_
   unfold lL
   rw [List.cons_append,List.getElem?_cons_succ,List.getElem?_append_left (by rw [List.length_map,ef,List.length_append,List.length_cons];omega),List.getElem?_map,ef,List.getElem?_append_right (Nat.le_refl _),Nat.sub_self]
   rfl
theorem pR {A:List Shp} (h:A ≠ []) : 0 < (vN A).length:=by
 cases A with
 | nil=>exact absurd rfl h
 | cons a A=>exact Nat.succ_pos _
theorem gV.done {S:List Shp} {T:List Shp} (h:gV S (vN S).length T):T=S:=by
 rcases h with⟨S2,e,ej⟩|⟨S1,s,S2,f1,f2,e,ef,eT,ej⟩
 ·cases S2 with
  | nil=>rw [e,List.append_nil]
  | cons s S2 =>
   rw [e,bN,List.length_append] at ej
   have:=pR (A:=s::S2) (by simp)
   omega
 ·rw [e,bN,List.length_append,show vN (s::S2)=lL s++vN S2 from rfl,List.length_append] at ej
  unfold lL at ej
  rw [List.length_cons,List.length_map,ef,List.length_append] at ej
  have h2:f2=[]:=List.length_eq_zero_iff.mp (by omega)
  have h3:S2=[]:=by
   cases S2 with
   | nil=>rfl
   | cons a A=>have:=pR (A:=a::A) (by simp);omega
  rw [eT,e,h3]
  subst h2
  rw [List.append_nil] at ef
  rw [← ef]
theorem yG (sa:List Addr) (z:Addr):atI ((sa++[z]).map V.ref) (-1)=some (.ref z):=by
 have l:((sa++[z]).map V.ref).length=sa.length + 1:=by rw [List.length_map,List.length_append];rfl
 have e:ixN (sa.length + 1) (-1)=some sa.length:=by
  unfold ixN
  rw [if_neg (by omega),if_pos (by omega)]
  congr 1
  omega
 unfold atI
 rw [l,e]
 show ((sa++[z]).map V.ref)[sa.length]?=_
 rw [List.map_append,List.getElem?_append_right (by rw [List.length_map];exact Nat.le_refl _),List.length_map,Nat.sub_self]
 rfl
theorem aDj (sa:List Addr) (z:Addr):ixN ((sa++[z]).map V.ref).length (-1)=some sa.length:=by
 rw [List.length_map,List.length_append,List.length_singleton]
 unfold ixN
 rw [if_neg (by omega),if_pos (by omega)]
 congr 1
 omega
theorem aDe (sa:List Addr) (z y:Addr):((sa++[z]).map V.ref).set sa.length (.ref y)=(sa++[y]).map V.ref:=by
 rw [List.map_append,List.map_append,List.set_append_right _ _ (by rw [List.length_map];exact Nat.le_refl _),List.length_map,Nat.sub_self]
 rfl
theorem cutA (xs:List V) (k:Nat):xJ xs (some (k:Int)) none=xs.drop k:=by
 unfold xJ
 rw [HT.sIx_none,HT.sIx_nat]
 have e:xs.drop (min k xs.length)=xs.drop k:=by
  by_cases h:k<=xs.length
  ·rw [Nat.min_eq_left h]
  ·rw [Nat.min_eq_right (by omega),List.drop_length,List.drop_eq_nil_of_le (by omega)]
 rw [e,List.take_of_length_le]
 rw [List.length_drop]
 omega
theorem tN (x:V) (xs:List V):xJ (x::xs) (some 1) none=xs:=cutA (x::xs) 1
theorem aIm (x y:V) (xs:List V):xJ (x::y::xs) (some 2) none=xs:=cutA (x::y::xs) 2
theorem at0 {x:V} {xs:List V} : atI (x::xs) 0=some x:=bA (j:=0) rfl
theorem at1 {x y:V} {xs:List V} : atI (x::y::xs) 1=some y:=bA (j:=1) rfl
theorem cutB (xs:List V) (k:Nat):xJ xs none (some (k:Int))=xs.take k:=by
 unfold xJ
 rw [HT.sIx_none,HT.sIx_nat,List.drop_zero,Nat.sub_zero]
 by_cases h:k<=xs.length
 ·rw [Nat.min_eq_left h]
 ·rw [Nat.min_eq_right (by omega),List.take_length,List.take_of_length_le (by omega)]
theorem cutC (sa:List Addr) (z:Addr):xJ ((sa++[z]).map V.ref) none (some (-1))=sa.map V.ref:=by
 unfold xJ
 rw [HT.sIx_none,List.drop_zero,Nat.sub_zero]
 have l:((sa++[z]).map V.ref).length=sa.length + 1:=by rw [List.length_map,List.length_append];rfl
 have e:HT.sIx ((sa++[z]).map V.ref).length ((sa++[z]).map V.ref).length (some (-1))=(sa.map V.ref).length:=by
  rw [l,List.length_map]
  show (if (-1:Int) < 0 then ((-1:Int) + ((sa.length + 1:Nat):Int)).toNat else min (-1:Int).toNat (sa.length + 1))=_
  rw [if_pos (by decide)]
  omega
 rw [e,List.map_append,List.take_left' rfl]
def dk (T:List Shp) (sa:List Addr):List (Key × V):=List.zipWith (fun (s:Shp) (a:Addr)=>((.inr s.1:Key),V.ref a)) T sa
theorem aDv {T:List Shp} {sa:List Addr} (hn:(T.map (·.1)).Nodup):∀ {i:Nat} {s:Shp} {a:Addr},T[i]?=some s->sa[i]?=some a->yF (dk T sa) (.inr s.1)=some (.ref a):=by
 induction T generalizing sa with
 | nil=>intro i s a h;simp at h
 | cons t T ih =>
  intro i s a h1 h2
  cases sa with
  | nil=>simp at h2
  | cons b sa =>
   cases i with
   | zero =>
    cases h1
    cases h2
    unfold dk yF
    rw [List.zipWith_cons_cons,List.find?_cons_of_pos (by simp)]
    rfl
   | succ i =>
    have hn':=List.nodup_cons.mp (show (t.1::T.map (·.1)).Nodup from hn)
    have:=ih hn'.2 (sa:=sa) h1 h2
    unfold dk yF at this ⊢
    rw [List.zipWith_cons_cons,List.find?_cons_of_neg]
    ·exact this
    ·intro z
     have z2:t.1=s.1:=Sum.inr.inj (show (Sum.inr t.1:Key)=.inr s.1 from of_decide_eq_true z)
     have h1':T[i]?=some s:=h1
     exact hn'.1 (by rw [z2];exact List.mem_map_of_mem (List.mem_of_getElem? h1'))
theorem aBr {kvs:List (Key × V)} {k:Key} {v:V} (h:∀ x ∈ kvs,x.1 ≠ k):putK kvs k v=kvs++[(k,v)]:=by
 unfold putK
 first
 | rw [if_neg (by simp only [List.any_eq_true,not_exists];rintro x ⟨hx,z⟩;exact h x hx (of_decide_eq_true z))]
 | (split
    · rename_i z
      simp only [List.any_eq_true] at z
      obtain⟨x,hx,z⟩:=z
      exact absurd (by simpa using z) (h x hx)
    · rfl)
theorem cB {α β γ : Type} (f : α->β->γ):∀ {xs:List α} {ys:List β} {x : α} {y : β},xs.length=ys.length->List.zipWith f (xs++[x]) (ys++[y])=List.zipWith f xs ys++[f x y]
 | [],[],_,_,_=>rfl
 | a::xs,b::ys,x,y,h=>by
  rw [List.cons_append,List.cons_append,List.zipWith_cons_cons,List.zipWith_cons_cons,cB f (Nat.succ.inj h)];rfl
theorem aGf {T:List Shp} {sa:List Addr} {j:Nat} {s:Shp} {a:Addr} (h1:T[j]?=some s) (h2:sa[j]?=some a):dk (T.take (j + 1)) (sa.take (j + 1))=dk (T.take j) (sa.take j)++[(.inr s.1,.ref a)]:=by
 unfold dk
 rw [List.take_add_one,List.take_add_one,h1,h2]
 refine cB _ ?_
 rw [List.length_take,List.length_take]
 have:=(List.getElem?_eq_some_iff.mp h1).1
 have:=(List.getElem?_eq_some_iff.mp h2).1
 omega
theorem aHz {T:List Shp} {sa:List Addr} : ∀ x ∈ dk T sa,∃ s ∈ T,x.1=.inr s.1:=by
 induction T generalizing sa with
 | nil=>intro x hx;cases sa <;> simp [dk] at hx
 | cons t T ih =>
  intro x hx
  cases sa with
  | nil=>simp [dk] at hx
  | cons a sa =>
   unfold dk at hx
   rw [List.zipWith_cons_cons] at hx
   rcases List.mem_cons.mp hx with rfl|hx
   ·exact⟨t,List.mem_cons_self ..,rfl⟩
   ·obtain⟨s,hs,e⟩:=ih x hx
    exact⟨s,List.mem_cons_of_mem _ hs,e⟩
theorem SW.init {c:Cl5} {K:Frag} {H:Hp} {sa:List Addr} {z:Addr} {T:List Shp} {s:Shp} (h:SW c K H (sa++[z]) (T++[s])):SW c K H sa T/\SO c K H sa z s:=by
 have hl:sa.length=T.length:=by have:=h.1;rw [List.length_append,List.length_append] at this;exact Nat.succ.inj this
 refine⟨⟨hl,fun i a u h1 h2=>?_⟩,?_⟩
 ·have hi:i < sa.length:=(List.getElem?_eq_some_iff.mp h1).1
  have:=h.2 i a u (rM h1) (by rw [List.getElem?_append_left (by omega)];exact h2)
  rw [List.take_append_of_le_length (by omega)] at this
  exact this
 ·have:=h.2 sa.length z s (by rw [List.getElem?_append_right (Nat.le_refl _),Nat.sub_self];rfl) (by rw [hl,List.getElem?_append_right (Nat.le_refl _),Nat.sub_self];rfl)
  rw [List.take_left' rfl] at this
  exact this
theorem aDl (c:Nat):∀ ps:List (List Nat),(jn c ps).length<=(ps.map (·.length)).sum + ps.length
 | []=>Nat.le_refl _
 | [p]=>by show p.length<=(p.length + 0) + 1;omega
 | p::q::r=>by
  have ih:=aDl c (q::r)
  show (p++c::jn c (q::r)).length<=_
  rw [List.length_append,List.length_cons,List.map_cons,List.sum_cons,List.length_cons]
  omega
theorem oR {α : Type} {f : α->Nat} {m:Nat} : ∀ {l:List α},(∀ x ∈ l,f x<=m)->(l.map f).sum<=l.length * m
 | [],_=>Nat.zero_le _
 | x::l,h=>by
  have h1:=h x (List.mem_cons_self ..)
  have h2:=oR (f:=f) (l:=l) fun y hy=>h y (List.mem_cons_of_mem _ hy)
  rw [List.map_cons,List.sum_cons,List.length_cons,Nat.succ_mul]
  omega
theorem mE {c:Nat} {ws:List Str} {m:Nat} (h:∀ w ∈ ws,w.length<=m):(Str.join ⟨#[c]⟩ ws).length<=ws.length * (m + 1):=by
 have e:(Str.join ⟨#[c]⟩ ws).length=(jn c (ws.map fun w=>w.cps.toList)).length:=by
  rw [← iN];exact (Array.length_toList).symm
 rw [e]
 refine Nat.le_trans (aDl _ _) ?_
 rw [List.map_map,List.length_map,Nat.mul_add,Nat.mul_one]
 exact Nat.add_le_add_right (oR fun w hw=>by show w.cps.toList.length<=m;rw [Array.length_toList];exact h w hw) _
theorem LX.at {K:Frag} {H:Hp} {sl:Addr} {S:List Shp} (h:LX K H sl S) {i:Nat} (hi:i < S.length):∃ (as:List Addr) (s l:Addr) (ps:List Addr),SqL K H sl (as.map V.ref)/\as[i]?=some s/\SqT K H s [.str (S[i]).1,.ref l]/\SqL K H l (ps.map V.ref)/\LF K H ps (S[i]).2:=by
 obtain⟨as,h1,h2⟩:=h
 have hl:=h2.len
 have ha:as[i]?=some (as[i]'(by omega)):=List.getElem?_eq_getElem _
 obtain⟨s,hs,l,ps,q1,q2,q3⟩:=h2.get ha
 rw [List.getElem?_eq_getElem hi] at hs
 cases hs
 exact⟨as,_,l,ps,h1,ha,q1,q2,q3⟩
def offs (xs:List Addr) (H:Hp):Hp:=fun b=>if b ∈ xs then none else H b
theorem kZ {xs:List Addr} {a:Addr} {H:Hp} {o:HO} (n:a ∉ xs) (h:H a=some o):offs xs H a=some o:=by unfold offs;rw [if_neg n];exact h
theorem jN {xs:List Addr} {H:Hp} : jI (offs xs H) H:=fun b o q=>by
 unfold offs at q
 split at q
 ·cases q
 ·exact q
theorem sP {xs:List Addr} {H H':Hp} (h:∀ b o,b ∉ xs->H b=some o->H' b=some o):jI (offs xs H) (offs xs H'):=fun b o q=>by
 unfold offs at q ⊢
 split at q
 ·cases q
 ·rename_i n
  rw [if_neg n]
  exact h b o n q
theorem jJ {xs:List Addr} {H H':Hp} (g:jI H H'):jI (offs xs H) (offs xs H'):=sP fun b o _ q=>g b o q
theorem dX {xs ys:List Addr} {H:Hp} (h:∀ b,b ∈ xs->b ∈ ys):jI (offs ys H) (offs xs H):=fun b o q=>by
 unfold offs at q ⊢
 split at q
 ·cases q
 ·rename_i n
  rw [if_neg fun z=>n (h b z)]
  exact q
def Al (xs:List Addr) (H:Hp):Prop:=∀ b ∈ xs,∃ o,H b=some o
theorem Al.same {xs:List Addr} {H H':Hp} (h:Al xs H) (g:jI H H'):Al xs H':=fun b hb=>by
 obtain⟨o,ho⟩:=h b hb
 exact⟨o,g _ _ ho⟩
theorem Al.new {xs:List Addr} {H:Hp} {t:Addr} (h:Al xs H) (ht:H t=none):t ∉ xs:=fun z=>by
 obtain⟨o,ho⟩:=h t z
 rw [ht] at ho
 cases ho
abbrev aDw:=Str × Nat
abbrev fR:=Str × Nat × Nat × List aDw
def lj (p x:Str):Str:=if p.length=0 then x else if x.length=0 then p else p++Str.ofString "." ++ x
def ahd (st:Str) (m:Int) (x:fR):fR:=(lj st x.1,x.2.1,((x.2.2.1:Int) + m).toNat,x.2.2.2.map fun h=>(lj st h.1,h.2))
def ahead (st:Str) (rows:List fR) (m:Int):List fR:=rows.map (ahd st m)
def insF (S:List Shp) (f:Kd->List fR):Nat->List (Str × Kd)->List fR
 | _,[]=>[]
 | o,x::xs=>ahead x.1 (f x.2) o++insF S f (o + x.2.size (tabs S).sz) xs
def pickR (n:Nat) (x:fR):fR:=(x.1,x.2.1,x.2.2.1,(Str.empty,n)::x.2.2.2)
def ins (S:List Shp):Nat->Kd->List fR
 | 0,.num w=>[(Str.empty,w,0,[])]
 | 0,_=>[]
 | r + 1,.num w=>[(Str.empty,w,0,[])]
 | r + 1,.nest i=>insF S (ins S r) 0 ((Kd.nest i).parts S)
 | r + 1,.many n k=>insF S (ins S r) 0 ((Kd.many n k).parts S)
 | r + 1,.pick is=>(Str.ofString "tag",1,0,[])::(List.range is.length).flatMap fun n=>(ahead (kN S (is.getD n 0)) (ins S r (.nest (is.getD n 0))) 1).map (pickR n)
def NmL (S:List Shp):Prop:=∀ i,i < S.length->1<=(kN S i).length/\(kN S i).length<=6
inductive LR {α : Type} (R:Addr->α->Prop):List Addr->List α->Prop
 | nil:LR R [] []
 | cons {a:Addr} {as:List Addr} {x : α} {xs:List α} : R a x->LR R as xs->LR R (a::as) (x::xs)
theorem LR.imp {α : Type} {R R':Addr->α->Prop} (g:∀ a x,R a x->R' a x) {as:List Addr} {xs:List α} (h:LR R as xs):LR R' as xs:=by
 induction h with
 | nil=>exact .nil
 | cons h _ ih=>exact .cons (g _ _ h) ih
theorem LR.len {α : Type} {R:Addr->α->Prop} {as:List Addr} {xs:List α} (h:LR R as xs):as.length=xs.length:=by
 induction h with
 | nil=>rfl
 | cons _ _ ih=>rw [List.length_cons,List.length_cons,ih]
theorem LR.app {α : Type} {R:Addr->α->Prop} {as bs:List Addr} {xs ys:List α} (h:LR R as xs) (h':LR R bs ys):LR R (as++bs) (xs++ys):=by
 induction h with
 | nil=>exact h'
 | cons h _ ih=>exact .cons h ih
theorem LR.get {α : Type} {R:Addr->α->Prop} {as:List Addr} {xs:List α} (h:LR R as xs):∀ {i:Nat} {a:Addr},as[i]?=some a->∃ x,xs[i]?=some x/\R a x:=by
 induction h with
 | nil=>intro i a e;simp at e
 | cons h _ ih =>
  intro i a e
  cases i with
  | zero=>cases e;exact⟨_,rfl,h⟩
  | succ i=>exact ih e
def HdR (K:Frag) (H:Hp) (t:Addr) (h:aDw):Prop:=SqT K H t [.str h.1,.int h.2]
def HoR (K:Frag) (H:Hp) (t:Addr) (hs:List aDw):Prop:=∃ ts:List Addr,SqT K H t (ts.map V.ref)/\LR (HdR K H) ts hs
def R4R (K:Frag) (H:Hp) (t:Addr) (y:fR):Prop:=∃ ht,SqT K H t [.str y.1,.int y.2.1,.int y.2.2.1,.ref ht]/\HoR K H ht y.2.2.2
theorem HoR.same {K:Frag} {H H':Hp} {t:Addr} {hs:List aDw} (h:HoR K H t hs) (g:jI H H'):HoR K H' t hs:=by
 obtain⟨ts,h1,h2⟩:=h
 exact⟨ts,g.tp h1,h2.imp fun _ _ q=>g.tp q⟩
theorem HoR.but {K:Frag} {H H':Hp} {l:Addr} {zs:List V} {t:Addr} {hs:List aDw} (h:HoR K H t hs) (g:But l H H') (hl:H l=some (.lst zs)):HoR K H' t hs:=by
 obtain⟨ts,h1,h2⟩:=h
 exact⟨ts,g.tup hl h1,h2.imp fun _ _ q=>g.tup hl q⟩
theorem R4R.same {K:Frag} {H H':Hp} {t:Addr} {y:fR} (h:R4R K H t y) (g:jI H H'):R4R K H' t y:=by
 obtain⟨ht,h1,h2⟩:=h
 exact⟨ht,g.tp h1,h2.same g⟩
theorem R4R.but {K:Frag} {H H':Hp} {l:Addr} {zs:List V} {t:Addr} {y:fR} (h:R4R K H t y) (g:But l H H') (hl:H l=some (.lst zs)):R4R K H' t y:=by
 obtain⟨ht,h1,h2⟩:=h
 exact⟨ht,g.tup hl h1,h2.but g hl⟩
def R4L (K:Frag) (H:Hp) (l:Addr) (ys:List fR):Prop:=∃ ts:List Addr,H l=some (.lst (ts.map V.ref))/\LR (R4R K H) ts ys
structure WdL (S:List Shp):Prop where
 good:Good S
 nm:NmL S
 dp:∀ i,(tabs S).dp.getD i 0<=4
def aFv (K:Frag):Nat->Sp
 | 0=>fun _ _ _ _=>False
 | r + 1=>fun vs H Q _=>∃ (a sl:Addr) (kd:Kd) (S:List Shp),vs=[.ref a,.ref sl]/\kd.Rk r/\r<=50/\kd.lv<=r/\kd.Fit S.length/\LK K H a kd/\LX K H sl S/\WdL S/\∀ l H',jI H H'->H l=none->R4L K H' l (ins S r kd)->Q (.ref l) H'
end L2
namespace L2
open PySem PySem.Spec PyProof.Rows
theorem aDq {P:Program} {w:World} {k:Key} {u:Value} (h:(kS P w).is k u=true):RelV (kV k) u:=by
 rcases qI (show mM k u=true from h) with⟨i,t,rfl,rfl⟩|⟨x,t,rfl,rfl⟩
 ·exact⟨t,rfl⟩
 ·exact⟨t,rfl⟩
def epOf (o:Obj):Nat:=match o.data with | .dict _ ep=>ep|_=>0
theorem Inv.frozen {X:Cx} {pins:List (Addr × Obj)} {σ:St} {H:Hp} {s:Shared} {a:Addr} {kvs:List (Key × V)} (I:Inv X pins σ H s) (e:H a=some (.dK kvs)):∃ o,s.heap.get? a=some o/\Inv X pins σ (upd H a (.frz o (.dK kvs))) s:=by
 obtain⟨z,hd,vs,rel,dd⟩:=aIq I.hok e
 obtain⟨o,es,ep,ho,r⟩:=id dd
 exact⟨o,ho,I.write (x:=a) (e:=a) (h':=s.heap) (t':=s.toks) (by rw [e];exact True.intro) (.inl rfl) (fun _ _ _ q=>q) ⟨o,ho⟩ ⟨ho,uM z hd rel dd⟩⟩
theorem wK {P:Program} {w:World} {H:Hp} {h:Heap} {a:Addr} {o:Obj} {kvs:List (Key × V)} (ok:HOk P w H h) (e:H a=some (.frz o (.dK kvs))):(a == sysModules)=false/\∃ vs,KV kvs vs/\h.DictAt (kS P w) a vs (epOf o):=by
 obtain⟨h1,z,hd,vs,rel,q,es,ep,hq,h2,h3,r⟩:=(show qC P w H h a (.frz o (.dK kvs)) from ok a _ e)
 rw [h1] at hq;cases hq
 refine⟨hd,vs,rel,o,es,h1,h2,?_,r⟩
 rw [h3];unfold epOf;rw [h3]
theorem KV.get:∀ {kvs:List (Key × V)} {vs:List (Key × Value)},KV kvs vs->∀ {i:Nat} {kv:Key × V},kvs[i]?=some kv->∃ u,vs[i]?=some (kv.1,u)
 | _,_,.nil,_,_,e=>by simp at e
 | _,_,.cons (a:=p) (b:=q) r _,0,kv,e=>by
  simp at e;subst e
  exact⟨q.2,by simp [r.1]⟩
 | _,_,.cons _ t,i + 1,kv,e=>by
  obtain⟨u,h⟩:=KV.get t (i:=i) (kv:=kv) (by simpa using e)
  exact⟨u,by simpa using h⟩
def Itd (a:Addr) (o:Obj) (kvs:List (Key × V)):It :=
 ⟨fun i H=>H a=some (.frz o (.dK kvs))/\i < kvs.length,fun i H x H'=>H'=H/\∃ kv,kvs[i]?=some kv/\x=kV kv.1,fun i H=>H a=some (.frz o (.dK kvs))/\kvs.length<=i⟩
theorem aBu {P:Program} {w:World} {K:Frag} {tg:Expr} (a it:Addr) (o:Obj) (kvs:List (Key × V)):Turn P w K tg (Itd a o kvs) [it] it (fun i h=>h.IsKeyIter it a i kvs.length (epOf o)) where
 mem:=by simp
 obj:=fun i h st b hb=>by
  have e:b=it:=by simpa using hb
  subst e
  obtain⟨o,e,c,d⟩:=st
  exact⟨o,e,fun v z=>by rw [d] at z;cases z⟩
 keep:=fun i h h' st k=>st.at fun o e=>k it (by simp) o e
 item:=by
  intro X hP hw hK hc i pins s σ H E I hf st hg
  subst hP hw hK
  obtain⟨hq,hi⟩:=hg
  obtain⟨_,vs,rel,dd⟩:=wK I.hok hq
  obtain⟨u,hu⟩:=KV.get rel (i:=i) (kv:=kvs[i]) (by simp [hi])
  obtain⟨f0,f1,f2,f3,f4,f5⟩:=hf it (by simp)
  have hl:kvs.length=vs.length:=Paired.length rel
  rw [hl] at st
  refine wpAny_pyNext_dict_item st dd hu fun key h' hk st' sb=>?_
  have I1:Inv X pins σ H { s with heap:=h' }:=I.turned (t':=s.toks) (fun b o hb e=>(sb.2 b hb).trans e) f0 f1 f3 f4 f5
  exact⟨key,rfl,letGo_keyiter st' ⟨kV kvs[i].1,H,I1,aDq hk,⟨rfl,kvs[i],by simp [hi],rfl⟩,by rw [hl];exact st',fun b hb=>(hf b hb).1⟩⟩
 done:=by
  intro X hP hw hK hc i pins s σ H E I hf st hg
  subst hP hw hK
  obtain⟨hq,hi⟩:=hg
  obtain⟨_,vs,rel,dd⟩:=wK I.hok hq
  obtain⟨f0,f1,f2,f3,f4,f5⟩:=hf it (by simp)
  have hl:kvs.length=vs.length:=Paired.length rel
  rw [hl] at st hi
  exact wpAny_pyNext_dict_end (I.ok.hd hc) st dd (by simp;omega) fun h' eb=>⟨rfl,I.turned (t':=s.toks) (fun b o hb e=>eb b o hb e) f0 f1 f3 f4 f5⟩
 self:=fun _ _ _ _ _ st h=>wpAny_pyIter_keyiter st h
def iDict (tl:TE):TI:=fun σ H R=>tl σ H fun x H1=>∃ a kvs,x=.ref a/\H1 a=some (.dK kvs)/\∀ o,R (Itd a o kvs) (upd H1 a (.frz o (.dK kvs)))
theorem aHw {X:Cx} {tg l:Expr} {tl:TE} (hl:PE X l tl):PI X tg l (iDict tl):=by
 intro pins s σ H R I h
 refine thn (hl pins s σ H _ I h) fun v s1 zq=>?_
 obtain⟨x,H1,I1,r1,q1⟩:=zq
 obtain⟨a,kvs,e,hq,q⟩:=q1
 subst e
 cases r1
 obtain⟨o,ho,I2⟩:=I1.frozen hq
 obtain⟨hd,vs,rel,dd⟩:=wK I2.hok (jH)
 have hl:kvs.length=vs.length:=Paired.length rel
 refine wpAny_pyIter_dict hd dd ?_
 refine⟨s1.heap.objs.size,[s1.heap.objs.size],_,_,_,rfl,I2.kept (t':=s1.toks) fun b o e=>Heap.get?_push_of_some _ e,aBu a _ o kvs,⟨_,Heap.get?_push_size _ rfl,rfl,?_⟩,fun b hb=>?_,q o⟩
 ·rw [hl];rfl
 have e:b=s1.heap.objs.size:=by simpa using hb
 subst e
 exact I2.fpOk (Nat.le_refl _) (I2.hok.fresh (Nat.le_refl _))
end L2
namespace L2.TX
open PySem PySem.Spec PyProof.Rows
def firstMet (val:Nat->Str) (i:Nat):List Str:=((List.range i).map val).foldl step_dedup []
section
variable {prog:Program} {w:World} {A:Around} {R:Result->Shared->Prop} {I:Addr} {fp wr:List Addr} {G:Array GenState->Array GenState->Prop} {n:Nat} {P:Nat->Value->Prop} {St:Nat->Shared->Prop}
end
end L2.TX
namespace L2
open PySem PySem.Spec PyProof.Rows
theorem aCt {a:Addr} {o:Obj} {kvs:List (Key × V)} {k:Nat} {js:List Nat} {tc:TT} {te:TE} {σ:St} {Q:VK} {H1:Hp} (P:Nat->List V->Hp->Prop) (h0:P 0 [] H1) (hl:∀ i ys H,i<=kvs.length->P i ys H->H a=some (.frz o (.dK kvs))/\ys.length<=i) (hz:kvs.length < sizeLine)
  (hs:∀ i kv ys H,kvs[i]?=some kv->P i ys H->tc (some (kV kv.1)::qW js σ) H fun b H2=>if b=true then te (some (kV kv.1)::qW js σ) H2 fun v H3=>yO P i js σ (some (kV kv.1)::qW js σ) (ys++[v]) H3 else yO P i js σ (some (kV kv.1)::qW js σ) ys H2)
  (hd:∀ ys H,P kvs.length ys H->∀ p,H p=none->Q (.ref p) (upd H p (.lst ys))) (hk:k=1:=by rfl) :
  eF (Itd a o kvs) k js (cU 0) tc te σ Q H1:=by
 subst hk
 refine⟨fun i m σ' ys H=>m=kvs.length - i/\i<=kvs.length/\P i ys H/\∃ o,σ'=o::qW js σ,⟨kvs.length,by simp,Nat.zero_le _,h0,none,rfl⟩,?_⟩
 rintro i m σ' ys H ⟨rfl,hi,p,o,rfl⟩
 obtain⟨q,hy⟩:=hl i ys H hi p
 by_cases hlt:i < kvs.length
 ·refine .inr ⟨⟨q,hlt⟩,by omega,yO P i js σ,fun σ3 zs H3 z=>⟨kvs.length - (i + 1),by omega,rfl,hlt,z.1,z.2⟩,fun x H' y=>?_⟩
  obtain⟨e,kv,y,rfl⟩:=y
  subst e
  exact hs i kv ys _ y p
 ·have e:i=kvs.length:=by omega
  subst e
  exact .inl ⟨⟨q,Nat.le_refl _⟩,hd ys H p⟩
structure aFs (K:Frag) (C:Addr):Prop where
 cl:Cls K C
 ha:findIn K (.ref C) "__class__" = some (some (.builtin "object.__class__"))
 hn:PySem.W.specialIn K (.builtin "object.__class__") "__get__" = some (some (.builtin "getset_descriptor.__get__"))
 htk:PySem.W.takesIn K (.builtin "object.__class__")=some true
 hm:PySem.W.mroIn K C (.type "object")=some true
theorem aFs.ty {K:Frag} {C:Addr} (c:aFs K C) {H:Hp} {a dx:Addr} {fs:List (Str × V)} (e:H a=some (.ins C dx fs)):eK K H (.ref a) (.ref C):=.ins e c.cl c.ha c.hn c.htk c.hm
theorem bG {X:Cx} {K:Frag} (hK:X.K=K):vP X (.builtin "isinstance") (fun xs H Q=>∃ (x:V) (D:Addr) (t:Value) (b:Bool),xs=[x,.ref D]/\eK K H x t/\PySem.W.kitOne K t (.ref D)=some b/\Q (.bl b) H):=by
 intro pins s σ H xs us Q I r h
 obtain⟨x,D,t,b,rfl,ht,hk,q⟩:=h
 subst hK
 obtain⟨u,w',rfl,rx,rD⟩:=vals2 r
 cases rD
 exact aBh I rx ht hk fun tk=>⟨.bl b,H,I.tok tk,rfl,q⟩
section
variable {P:Program} {w:World} {A:Around} {E:Value->Shared->Prop} {s:Shared}
structure ZpM (b c2:Bool) (h:Heap) (z ti to j1 j2 a1 a2:Addr) (n:Nat):Prop where
 z:IsZip h z ti to .none
 ti:IsPair h ti (.ref j1) (.ref j2)
 to:∃ p q,IsPair h to p q
 i1:xB b h j1 a1 n
 i2:xB c2 h j2 a2 n
theorem aAb {b c2:Bool} {z ti to j1 j2 a1 a2:Addr} {n:Nat} {us vs:Array Value} {u v:Value} {Q:Option Value->Shared->Prop} (D:ZipApart z ti to j1 j2 a1 a2) (hz:ZpM b c2 s.heap z ti to j1 j2 a1 a2 n)
  (g1:qP b s.heap a1 us) (g2:qP c2 s.heap a2 vs) (hu:us[n]?=some u) (hv:vs[n]?=some v)
  (k:∀ g,IsZip g z ti to (rawInt s.heap.objs.size)->IsPair g to u v->xB b g j1 a1 (n + 1)->xB c2 g j2 a2 (n + 1)->IsPair g s.heap.objs.size u v →
   (∀ c o,c ∉ [z,to,j1,j2]->s.heap.get? c=some o->g.get? c=some o)->Q (some (.ref s.heap.objs.size)) { s with heap:=g }):wpAny (model P w) A (pyNext (.ref z)) Q E s:=by
 obtain⟨hz,hi,⟨p,q,ho⟩,h1,h2⟩:=hz
 have ty:s.TypeIs (.ref z) "zip":=⟨_,hz,rfl⟩
 unfold pyNext
 refine wpAny_bind (wpAny_attempt (wpAny_callSpecial?_slot (name:=Str.ofString "__next__") ty F.slot_zip_next (wpAny_call_entry F.slot_zip_next ty F.entry_zip_next ?_ (F.args_zip_next_1 _))))
 show wpAny _ _ (field (.ref z) 2 >>= fun _=>_) _ _ _
 refine wpAny_bind (wpAny_field hz rfl (x:=.bool false) rfl ?_)
 show wpAny _ _ (field (.ref z) 3 >>= fun _=>_) _ _ _
 refine wpAny_bind (wpAny_field hz rfl (x:=.ref ti) rfl ?_)
 refine wpAny_bind (wpAny_seqItems hi rfl ?_)
 show wpAny _ _ (Builtin.SmallTypes.ownedTupleIsFree (.ref z) >>= fun _=>_) _ _ _
 refine wpAny_bind ?_
 unfold Builtin.SmallTypes.ownedTupleIsFree
 refine wpAny_bind (wpAny_field hz rfl (x:=Value.none) rfl (wpAny_pure ?_))
 simp only [if_true]
 refine wpAny_bind (wpAny_rule ?_)
 refine wpAny_bind (wpAny_field hz rfl (x:=.ref to) rfl ?_)
 refine wpAny_bind (wpAny_setField_rec hz (by simp) fun e1 z1 s1=>?_)
 replace z1:IsZip e1 z ti to .ellipsis:=z1
 refine wpAny_bind ?_
 simp only [List.zipIdx_cons,List.zipIdx_nil,List.forIn_cons,List.forIn_nil]
 have x1:=s1.extBut
 refine wpAny_bind (wpAny_bind (wpAny_onRaise ?_))
 show wpAny _ _ (Builtin.SmallTypes.nextOf (.ref j1) >>= fun _=>_) _ _ _
 refine wpAny_bind (mG (h1.keep fun o e=>x1 _ o D.i1z e) (g1.keep fun o e=>x1 _ o D.l1z e) hu fun e2 m2 s2=>wpAny_pure ?_)
 have x2:=s2.extBut
 have o2:IsPair e2 to p q:=x2 _ _ D.TOi1 (x1 _ _ D.TOz ho)
 refine wpAny_bind (wpAny_seqItems o2 rfl ?_)
 refine wpAny_bind (wpAny_updateSeq_pair o2 fun e3 o3 s3=>?_)
 replace o3:IsPair e3 to u q:=o3
 have x3:=s3.extBut
 refine wpAny_bind (wpAny_letGo (wpAny_pure ?_))
 refine wpAny_bind (wpAny_bind (wpAny_onRaise ?_))
 show wpAny _ _ (Builtin.SmallTypes.nextOf (.ref j2) >>= fun _=>_) _ _ _
 refine wpAny_bind (mG (h2.keep fun o e=>x3 _ o D.TOi2.symm (x2 _ o D.i12.symm (x1 _ o D.i2z e))) (g2.keep fun o e=>x3 _ o D.l2TO (x2 _ o D.l2i1 (x1 _ o D.l2z e))) hv fun e4 m4 s4=>wpAny_pure ?_)
 have x4:=s4.extBut
 have o4:IsPair e4 to u q:=x4 _ _ D.TOi2 o3
 refine wpAny_bind (wpAny_seqItems o4 rfl ?_)
 refine wpAny_bind (wpAny_updateSeq_pair o4 fun e5 o5 s5=>?_)
 replace o5:IsPair e5 to u v:=o5
 have x5:=s5.extBut
 refine wpAny_bind (wpAny_letGo (wpAny_pure (wpAny_pure ?_)))
 refine wpAny_bind (wpAny_seqItems o5 rfl ?_)
 refine wpAny_bind (wpAny_newTuple ?_)
 have sz:e5.objs.size=s.heap.objs.size:=by rw [s5.1,s4.1,s3.1,s2.1,s1.1]
 have z5:IsZip e5 z ti to .ellipsis:=x5 _ _ D.TOz.symm (x4 _ _ D.i2z.symm (x3 _ _ D.TOz.symm (x2 _ _ D.i1z.symm z1)))
 have k5:∀ c o,c ∉ [z,to,j1,j2]->s.heap.get? c=some o->e5.get? c=some o:=fun c o hc e=>by
  simp only [List.mem_cons,List.not_mem_nil,or_false,not_or] at hc
  exact x5 _ _ hc.2.1 (x4 _ _ hc.2.2.2 (x3 _ _ hc.2.1 (x2 _ _ hc.2.2.1 (x1 _ _ hc.1 e))))
 have m25:xB b e5 j1 a1 (n + 1):=m2.keep fun o e=>x5 _ o D.TOi1.symm (x4 _ o D.i12 (x3 _ o D.TOi1.symm e))
 have m45:xB c2 e5 j2 a2 (n + 1):=m4.keep fun o e=>x5 _ o D.TOi2.symm e
 have lz:z < e5.objs.size:=Heap.lt_size z5
 show wpAny _ _ (Builtin.SmallTypes.ownedTupleHandOut (.ref z) (.ref e5.objs.size) >>= fun _=>_) _ _ _
 refine wpAny_bind ?_
 unfold Builtin.SmallTypes.ownedTupleHandOut
 have z6:IsZip (e5.push { cls:=.type "tuple",data:=.seq #[u,v] }) z ti to .ellipsis:=Heap.get?_push_of_some _ z5
 refine wpAny_bind (wpAny_setField_rec z6 (by simp) fun e7 z7 s7=>?_)
 replace z7:IsZip e7 z ti to (rawInt e5.objs.size):=z7
 refine wpAny_setField_rec z7 (by simp) fun e8 z8 s8=>?_
 replace z8:IsZip e8 z ti to (rawInt e5.objs.size):=z8
 have up:∀ c o,c ≠ z->e5.get? c=some o->e8.get? c=some o:=fun c o c1 e=>s8.extBut _ _ c1 (s7.extBut _ _ c1 (Heap.get?_push_of_some _ e))
 have t8:IsPair e8 e5.objs.size u v:=s8.extBut _ _ (Nat.ne_of_gt lz) (s7.extBut _ _ (Nat.ne_of_gt lz) (Heap.get?_push_size _ rfl))
 rw [sz] at z8 t8
 refine wpAny_pure ⟨_,rfl,wpAny_pure ?_⟩
 rw [sz]
 exact k e8 z8 (up _ _ D.TOz o5) (m25.keep fun o e=>up _ o D.i1z e) (m45.keep fun o e=>up _ o D.i2z e) t8 fun c o hc e=>up c o (fun x=>hc (by simp [x])) (k5 c o hc e)
theorem aEb {b c2:Bool} {z ti to j1 j2 a1 a2:Addr} {n:Nat} {us vs:Array Value} {Q:Option Value->Shared->Prop} (hh:A.handled=none) (D:ZipApart z ti to j1 j2 a1 a2) (hz:ZpM b c2 s.heap z ti to j1 j2 a1 a2 n)
  (g1:qP b s.heap a1 us) (g2:qP c2 s.heap a2 vs) (hend:us[n]?=none\/vs[n]?=none)
  (k:∀ g,(∀ c o,c ∉ [z,to,j1,j2]->s.heap.get? c=some o->g.get? c=some o)->Q none { s with heap:=g }):wpAny (model P w) A (pyNext (.ref z)) Q E s:=by
 obtain⟨hz,hi,⟨p,q,ho⟩,h1,h2⟩:=hz
 have ty:s.TypeIs (.ref z) "zip":=⟨_,hz,rfl⟩
 have nx:∀ c,c ∉ [z,to,j1,j2]->c ≠ z/\c ≠ to/\c ≠ j1/\c ≠ j2:=fun c hc=>by simpa only [List.mem_cons,List.not_mem_nil,or_false,not_or] using hc
 unfold pyNext
 refine wpAny_bind (wpAny_attempt (wpAny_callSpecial?_slot (name:=Str.ofString "__next__") ty F.slot_zip_next (wpAny_call_entry F.slot_zip_next ty F.entry_zip_next ?_ (F.args_zip_next_1 _))))
 show wpAny _ _ (field (.ref z) 2 >>= fun _=>_) _ _ _
 refine wpAny_bind (wpAny_field hz rfl (x:=.bool false) rfl ?_)
 show wpAny _ _ (field (.ref z) 3 >>= fun _=>_) _ _ _
 refine wpAny_bind (wpAny_field hz rfl (x:=.ref ti) rfl ?_)
 refine wpAny_bind (wpAny_seqItems hi rfl ?_)
 show wpAny _ _ (Builtin.SmallTypes.ownedTupleIsFree (.ref z) >>= fun _=>_) _ _ _
 refine wpAny_bind ?_
 unfold Builtin.SmallTypes.ownedTupleIsFree
 refine wpAny_bind (wpAny_field hz rfl (x:=Value.none) rfl (wpAny_pure ?_))
 simp only [if_true]
 refine wpAny_bind (wpAny_rule ?_)
 refine wpAny_bind (wpAny_field hz rfl (x:=.ref to) rfl ?_)
 refine wpAny_bind (wpAny_setField_rec hz (by simp) fun e1 z1 s1=>?_)
 replace z1:IsZip e1 z ti to .ellipsis:=z1
 refine wpAny_bind ?_
 simp only [List.zipIdx_cons,List.zipIdx_nil,List.forIn_cons,List.forIn_nil]
 have x1:=s1.extBut
 refine wpAny_bind (wpAny_bind (wpAny_onRaise ?_))
 show wpAny _ _ (Builtin.SmallTypes.nextOf (.ref j1) >>= fun _=>_) _ _ _
 cases hu:us[n]? with
 | none =>
  refine wpAny_bind (aGb hh (h1.keep fun o e=>x1 _ o D.i1z e) (g1.keep fun o e=>x1 _ o D.l1z e) hu fun e2 x s2 hx=>?_)
  obtain⟨ox,ex,cx⟩:=hx
  have z2:IsZip e2 z ti to .ellipsis:=s2 _ _ D.i1z.symm z1
  have nz:x ≠ z:=fun y=>by subst y;rw [z2] at ex;cases ex;simp at cx
  refine wpAny_setField_rec z2 (by simp) fun e3 _ s3=>?_
  refine wpAny_bind (wpAny_isInstance (T:="StopIteration") (b:=true) ⟨ox,s3.extBut _ _ nz ex,cx⟩ isSubtype_stop ?_)
  refine wpAny_pure (k _ fun c o hc e=>?_)
  exact s3.extBut _ _ (nx c hc).1 (s2 _ _ (nx c hc).2.2.1 (x1 _ _ (nx c hc).1 e))
 | some u =>
  have hv:vs[n]?=none:=by
   rcases hend with y|y
   ·rw [hu] at y;cases y
   ·exact y
  refine wpAny_bind (mG (h1.keep fun o e=>x1 _ o D.i1z e) (g1.keep fun o e=>x1 _ o D.l1z e) hu fun e2 m2 s2=>wpAny_pure ?_)
  have x2:=s2.extBut
  have o2:IsPair e2 to p q:=x2 _ _ D.TOi1 (x1 _ _ D.TOz ho)
  refine wpAny_bind (wpAny_seqItems o2 rfl ?_)
  refine wpAny_bind (wpAny_updateSeq_pair o2 fun e3 o3 s3=>?_)
  have x3:=s3.extBut
  refine wpAny_bind (wpAny_letGo (wpAny_pure ?_))
  refine wpAny_bind (wpAny_bind (wpAny_onRaise ?_))
  show wpAny _ _ (Builtin.SmallTypes.nextOf (.ref j2) >>= fun _=>_) _ _ _
  refine wpAny_bind (aGb hh (h2.keep fun o e=>x3 _ o D.TOi2.symm (x2 _ o D.i12.symm (x1 _ o D.i2z e))) (g2.keep fun o e=>x3 _ o D.l2TO (x2 _ o D.l2i1 (x1 _ o D.l2z e))) hv fun e4 x s4 hx=>?_)
  obtain⟨ox,ex,cx⟩:=hx
  have z4:IsZip e4 z ti to .ellipsis:=s4 _ _ D.i2z.symm (x3 _ _ D.TOz.symm (x2 _ _ D.i1z.symm z1))
  have nz:x ≠ z:=fun y=>by subst y;rw [z4] at ex;cases ex;simp at cx
  refine wpAny_setField_rec z4 (by simp) fun e5 _ s5=>?_
  refine wpAny_bind (wpAny_isInstance (T:="StopIteration") (b:=true) ⟨ox,s5.extBut _ _ nz ex,cx⟩ isSubtype_stop ?_)
  refine wpAny_pure (k _ fun c o hc e=>?_)
  exact s5.extBut _ _ (nx c hc).1 (s4 _ _ (nx c hc).2.2.2 (x3 _ _ (nx c hc).2.1 (x2 _ _ (nx c hc).2.2.1 (x1 _ _ (nx c hc).1 e))))
end
abbrev zp3M (b c2:Bool) (h:Heap) (a1 a2:Addr):Heap:=(zp1 c2 (zp1 b h a1) a2).push { cls:=.type "tuple",data:=.seq #[.ref h.objs.size,.ref (zp1 b h a1).objs.size] }
abbrev zp4M (b c2:Bool) (h:Heap) (a1 a2:Addr):Heap:=(zp3M b c2 h a1 a2).push { cls:=.type "tuple",data:=.seq #[.none,.none] }
abbrev aBk (b c2:Bool) (h:Heap) (a1 a2:Addr):Heap:=(zp4M b c2 h a1 a2).push { cls:=.type "zip",data:=.fields #[.none,.bool false,.bool false,.ref (zp1 c2 (zp1 b h a1) a2).objs.size,.ref (zp3M b c2 h a1 a2).objs.size] }
theorem aDn (b c2:Bool) (a1 a2:Addr) (us vs:Array Value):Meets (Builtin.«zip.__new__» ⟨[.type "zip",.ref a1,.ref a2],[]⟩) (fun _ R s=>qP b s.heap a1 us/\qP c2 s.heap a2 vs/\R (.ok (.ret (.ref (zp4M b c2 s.heap a1 a2).objs.size))) { s with heap:=aBk b c2 s.heap a1 a2 }) :=
 .of_wp fun prog w A R s h=>by
  obtain⟨hp,g,d,tk,os⟩:=s
  obtain⟨k1,k2,h⟩:=h
  have hsub:=sub_zip
  cases b <;> cases c2
  ·have y1:Heap.IsList (Shared.heap ⟨hp,g,d,tk,os⟩) a1 us:=k1
   have y2:Heap.IsList (Shared.heap ⟨hp.push { cls:=.type "list_iterator",data:=.fields #[.ref a1,.int 0 0] },g,d,tk,os⟩) a2 vs:=Heap.IsList.push k2 _
   wp_walk using wpAny_pyIter_list y1,wpAny_pyIter_list y2
   exact⟨_,rfl,h⟩
  ·have y1:Heap.IsList (Shared.heap ⟨hp,g,d,tk,os⟩) a1 us:=k1
   have y2:Heap.IsTuple (Shared.heap ⟨hp.push { cls:=.type "list_iterator",data:=.fields #[.ref a1,.int 0 0] },g,d,tk,os⟩) a2 vs:=Heap.IsTuple.push k2 _
   wp_walk using wpAny_pyIter_list y1,wpAny_pyIter_tuple y2
   exact⟨_,rfl,h⟩
  ·have y1:Heap.IsTuple (Shared.heap ⟨hp,g,d,tk,os⟩) a1 us:=k1
   have y2:Heap.IsList (Shared.heap ⟨hp.push { cls:=.type "tuple_iterator",data:=.fields #[.ref a1,.int 0 0] },g,d,tk,os⟩) a2 vs:=Heap.IsList.push k2 _
   wp_walk using wpAny_pyIter_tuple y1,wpAny_pyIter_list y2
   exact⟨_,rfl,h⟩
  ·have y1:Heap.IsTuple (Shared.heap ⟨hp,g,d,tk,os⟩) a1 us:=k1
   have y2:Heap.IsTuple (Shared.heap ⟨hp.push { cls:=.type "tuple_iterator",data:=.fields #[.ref a1,.int 0 0] },g,d,tk,os⟩) a2 vs:=Heap.IsTuple.push k2 _
   wp_walk using wpAny_pyIter_tuple y1,wpAny_pyIter_tuple y2
   exact⟨_,rfl,h⟩
section
variable {P:Program} {w:World} {A:Around} {E:Value->Shared->Prop} {s:Shared}
theorem aAz {b c2:Bool} {a1 a2:Addr} {us vs:Array Value} {Q:Value->Shared->Prop} (k1:qP b s.heap a1 us) (k2:qP c2 s.heap a2 vs)
  (h:∀ g,ZpM b c2 g (s.heap.objs.size + 4) (s.heap.objs.size + 2) (s.heap.objs.size + 3) s.heap.objs.size (s.heap.objs.size + 1) a1 a2 0->(∀ c o,s.heap.get? c=some o->g.get? c=some o)->Q (.ref (s.heap.objs.size + 4)) { s with heap:=g }) :
  wpAny (model P w) A (call (.type "zip") [.ref a1,.ref a2]) Q E s:=by
 refine callType_new F.called_zip (by decide) (F.typeCall_zip_2 _ _) (F.newCall_zip_2 _ _) (fun obj=>F.args_object_init_3 obj _ _) F.entry_zip_new (aDn b c2 a1 a2 us vs) ⟨k1,k2,?_⟩
 have z1:(zp1 b s.heap a1).objs.size=s.heap.objs.size + 1:=Heap.size_push ..
 have z2:(zp1 c2 (zp1 b s.heap a1) a2).objs.size=s.heap.objs.size + 2:=by rw [Heap.size_push,z1]
 have z3:(zp3M b c2 s.heap a1 a2).objs.size=s.heap.objs.size + 3:=by rw [Heap.size_push,z2]
 have z4:(zp4M b c2 s.heap a1 a2).objs.size=s.heap.objs.size + 4:=by rw [Heap.size_push,z3]
 have up:=fun {h:Heap} {c:Addr} {x:Obj} (o:Obj) (e:h.get? c=some x)=>Heap.get?_push_of_some o e
 have g5:(aBk b c2 s.heap a1 a2).get? (zp4M b c2 s.heap a1 a2).objs.size=some _:=Heap.get?_push_size _ rfl
 have g4:(aBk b c2 s.heap a1 a2).get? (zp3M b c2 s.heap a1 a2).objs.size=some _:=up _ (Heap.get?_push_size _ rfl)
 have g3:(aBk b c2 s.heap a1 a2).get? (zp1 c2 (zp1 b s.heap a1) a2).objs.size=some _:=up _ (up _ (Heap.get?_push_size _ rfl))
 have g2:(aBk b c2 s.heap a1 a2).get? (zp1 b s.heap a1).objs.size=some _:=up _ (up _ (up _ (Heap.get?_push_size _ rfl)))
 have g1:(aBk b c2 s.heap a1 a2).get? s.heap.objs.size=some _:=up _ (up _ (up _ (up _ (Heap.get?_push_size _ rfl))))
 show _/\_
 rw [z2,z3,z4] at g5
 rw [z1,z2] at g3
 rw [z3] at g4
 rw [z1] at g2
 rw [z4]
 refine⟨⟨_,g5,rfl⟩,h _ ⟨g5,g3,⟨_,_,g4⟩,?_,?_⟩ fun c o x=>up _ (up _ (up _ (up _ (up _ x))))⟩
 ·cases b <;> exact⟨_,g1,rfl,rfl⟩
 ·cases c2 <;> exact⟨_,g2,rfl,rfl⟩
end
def aBl (K:Frag) (b c2:Bool) (a1 a2:Addr):It :=
 ⟨fun i H=>∃ xs ys x y,Sq2 K b H a1 xs/\Sq2 K c2 H a2 ys/\xs[i]?=some x/\ys[i]?=some y,
   fun i H v H'=>∃ x y p,v=.ref p/\H p=none/\H'=upd H p (.tup [x,y])/\(∀ xs,Sq2 K b H a1 xs->xs[i]?=some x)/\∀ ys,Sq2 K c2 H a2 ys->ys[i]?=some y,
   fun i H=>∃ xs ys,Sq2 K b H a1 xs/\Sq2 K c2 H a2 ys/\(xs.length<=i\/ys.length<=i)⟩
theorem aCn {P:Program} {w:World} {K:Frag} {elts:List Expr} {x1:Nat} {pos:Pos} {b c2:Bool} {z ti to j1 j2 a1 a2:Addr} (D:ZipApart z ti to j1 j2 a1 a2) :
  Turn P w K (.Tuple elts x1 pos) (aBl K b c2 a1 a2) [z,ti,to,j1,j2] z (fun i h=>ZpM b c2 h z ti to j1 j2 a1 a2 i) where
 mem:=by simp
 obj:=fun i h st c hc=>by
  obtain⟨hz,hi,⟨p,q,ho⟩,h1,h2⟩:=st
  have:c=z\/c=ti\/c=to\/c=j1\/c=j2:=by simpa using hc
  rcases this with rfl|rfl|rfl|rfl|rfl
  ·exact⟨_,hz,fun v z=>by cases z⟩
  ·exact⟨_,hi,fun v z=>by cases z⟩
  ·exact⟨_,ho,fun v z=>by cases z⟩
  ·exact h1.obj
  ·exact h2.obj
 keep:=fun i h h' st k=>by
  obtain⟨hz,hi,⟨p,q,ho⟩,h1,h2⟩:=st
  exact⟨k z (by simp) _ hz,k ti (by simp) _ hi,⟨p,q,k to (by simp) _ ho⟩,h1.keep fun o e=>k j1 (by simp) o e,h2.keep fun o e=>k j2 (by simp) o e⟩
 item:=by
  intro X hP hw hK hc i pins s σ H E I hf st hg
  subst hP hw hK
  obtain⟨xs,ys,x,y,hq1,hq2,hx,hy⟩:=hg
  obtain⟨is1,r1,p1⟩:=I.seq2 hq1
  obtain⟨is2,r2,p2⟩:=I.seq2 hq2
  obtain⟨u,hu,ru⟩:=r1.get hx
  obtain⟨v,hv,rv⟩:=r2.get hy
  refine aAb D st p1 p2 (u:=u) (v:=v) (by simpa using hu) (by simpa using hv) fun g gz go g1 g2 gn gk=>⟨_,rfl,?_⟩
  refine wpAny_letOwnedTupleGo_zip gz fun h2 z2 s2=>?_
  replace s2:Heap.SameBut z g h2:=s2
  have nz:s.heap.objs.size ≠ z:=Nat.ne_of_gt (Heap.lt_size st.z)
  have t2:IsPair h2 s.heap.objs.size u v:=(s2.2 _ nz).trans gn
  have k2:∀ c o,c ∉ [z,to,j1,j2]->s.heap.get? c=some o->h2.get? c=some o:=fun c o hc e=>(s2.2 c (fun q=>hc (by simp [q]))).trans (gk c o hc e)
  have mem:∀ c ∈ [z,to,j1,j2],c ∈ [z,ti,to,j1,j2]:=fun c hc=>by
   simp only [List.mem_cons,List.not_mem_nil,or_false] at hc ⊢
   rcases hc with q|q|q|q <;> simp [q]
  refine⟨.ref s.heap.objs.size,upd H s.heap.objs.size (.tup [x,y]),I.turnedL (t':=s.toks) k2 (fun c hc=>hf c (mem c hc)) (Nat.le_refl _) ⟨(by show 2<=sizeLine;decide),[u,v],.cons ru (.cons rv .nil),_,t2,rfl,_,rfl⟩,rfl,
   ⟨x,y,_,rfl,I.hok.fresh (Nat.le_refl _),rfl,fun zs hz=>by rw [I.seq2_inj hz hq1];exact hx,fun zs hz=>by rw [I.seq2_inj hz hq2];exact hy⟩,
   ⟨z2,k2 ti _ (by simp [D.TIz,D.TITO,D.TIi1,D.TIi2]) st.ti,⟨_,_,(s2.2 to D.TOz).trans go⟩,g1.keep fun o e=>(s2.2 j1 D.i1z).trans e,g2.keep fun o e=>(s2.2 j2 D.i2z).trans e⟩,fun c hc=>?_⟩
  obtain⟨oc,ec,_⟩ : ∃ o,s.heap.get? c=some o/\∀ v,o.data ≠ .cell v:=by
   obtain⟨hz,hi,⟨p,q,ho⟩,h1,h2⟩:=st
   have:c=z\/c=ti\/c=to\/c=j1\/c=j2:=by simpa using hc
   rcases this with rfl|rfl|rfl|rfl|rfl
   ·exact⟨_,hz,fun v z=>by cases z⟩
   ·exact⟨_,hi,fun v z=>by cases z⟩
   ·exact⟨_,ho,fun v z=>by cases z⟩
   ·exact h1.obj
   ·exact h2.obj
  rw [jS (Nat.ne_of_lt (Heap.lt_size ec))]
  exact (hf c hc).1
 done:=by
  intro X hP hw hK hc i pins s σ H E I hf st hg
  subst hP hw hK
  obtain⟨xs,ys,hq1,hq2,hl⟩:=hg
  obtain⟨is1,r1,p1⟩:=I.seq2 hq1
  obtain⟨is2,r2,p2⟩:=I.seq2 hq2
  have e1:=r1.length
  have e2:=r2.length
  have mem:∀ c ∈ [z,to,j1,j2],c ∈ [z,ti,to,j1,j2]:=fun c hc=>by
   simp only [List.mem_cons,List.not_mem_nil,or_false] at hc ⊢
   rcases hc with q|q|q|q <;> simp [q]
  refine aEb (I.ok.hd hc) D st p1 p2 ?_ fun g gk=>⟨rfl,I.turnedL0 (t':=s.toks) gk fun c hc=>hf c (mem c hc)⟩
  rcases hl with q|q
  ·exact .inl (by simp;omega)
  ·exact .inr (by simp;omega)
 self:=fun _ _ _ _ _ st h=>wpAny_pyIter_zip st.z h
def iZipM (K:Frag) (b c2:Bool) (ta:TA):TI:=fun σ H R=>ta σ H fun vs H1=>∃ a1 a2 xs ys,vs=[.ref a1,.ref a2]/\Sq2 K b H1 a1 xs/\Sq2 K c2 H1 a2 ys/\R (aBl K b c2 a1 a2) H1
def aJz (K:Frag) (ta:TA):TI:=fun σ H R=>∃ b c2,iZipM K b c2 ta σ H R
theorem aAk {X:Cx} {elts:List Expr} {x1:Nat} {tpos:Pos} {a c:Expr} {ta:TA} {p pos:Pos} (hg:Gl X "zip") (hm:X.mg "zip" = none) (ha:PA X [a,c] ta) (hs:starEach [a,c] X.env=(false,eval a X.env)::starEach [c] X.env:=by rfl) (hs2:starEach [c] X.env=[(false,eval c X.env)]:=by rfl) :
  PI X (.Tuple elts x1 tpos) (.Call (.Name "zip" p) [a,c] [] pos) (aJz X.K ta):=by
 intro pins s σ H R I h
 obtain⟨b,c2,h⟩:=h
 refine Call_ (bW I hg hm (show bootBuiltins "zip" = some (.type "zip") from by decide +kernel) (PyProof.Rows.callWith_type1 (thn (ha pos pins s σ H _ I h) fun us s1 zq=>?_) (by rw [hs,hs2]) (by rw [hs2];rfl)))
 obtain⟨vs,H1,I1,r1,q1⟩:=zq
 obtain⟨a1,a2,xs,ys,e,h1,h2,q⟩:=q1
 subst e
 obtain⟨u,v,rfl,rx,ry⟩:=vals2 r1
 cases rx
 cases ry
 obtain⟨is1,v1,p1⟩:=I1.seq2 h1
 obtain⟨is2,v2,p2⟩:=I1.seq2 h2
 have l1:=p1.lt
 have l2:=p2.lt
 refine aAz p1 p2 fun g gz gk=>wpAny_pyIter_zip gz.z ?_
 have D:ZipApart (s1.heap.objs.size + 4) (s1.heap.objs.size + 2) (s1.heap.objs.size + 3) s1.heap.objs.size (s1.heap.objs.size + 1) a1 a2:=by
  have A1:(s1.heap.objs.size:Nat) + 4=s1.heap.objs.size + 4:=rfl
  constructor <;> simp <;> first|exact Nat.ne_of_lt (Nat.lt_of_lt_of_le l1 (Nat.le_add_right _ _))|exact Nat.ne_of_lt (Nat.lt_of_lt_of_le l2 (Nat.le_add_right _ _))|exact Nat.ne_of_lt l1|exact Nat.ne_of_lt l2|decide
 refine⟨_,_,_,_,H1,rfl,I1.kept (t':=s1.toks) gk,aCn D,gz,fun c hc=>?_,q⟩
 have:c=s1.heap.objs.size + 4\/c=s1.heap.objs.size + 2\/c=s1.heap.objs.size + 3\/c=s1.heap.objs.size\/c=s1.heap.objs.size + 1:=by simpa using hc
 have ge:s1.heap.objs.size<=c:=by
  rcases this with rfl|rfl|rfl|rfl|rfl <;> first|exact Nat.le_add_right _ _|exact Nat.le_refl _
 exact I1.fpOk ge (I1.hok.fresh ge)
theorem aFl {K:Frag} {b c2:Bool} {a1 a2:Addr} {xs ys:List V} {g:TG} {tb:TS} {D:Ends} {σ:St} {H:Hp} (Pv:Nat->St->Hp->Prop) (he:ys.length=xs.length) (h0:Pv 0 σ H) (hl:∀ i σ H,i<=xs.length->Pv i σ H->Sq2 K b H a1 xs/\Sq2 K c2 H a2 ys)
  (hs:∀ i x y σ H p,xs[i]?=some x->ys[i]?=some y->Pv i σ H->H p=none->g (.ref p) σ (upd H p (.tup [x,y])) fun σ2 H2=>tb { D with nx:=Pv (i + 1),ct:=Pv (i + 1),bk:=D.nx } σ2 H2) (hd:∀ σ H,Pv xs.length σ H->D.nx σ H) :
  ∃ W:Nat->Nat->St->Hp->Prop,(∃ m,W 0 m σ H)/\∀ i m σ H,W i m σ H →
   ((aBl K b c2 a1 a2).stop i H/\D.nx σ H)\/((aBl K b c2 a1 a2).go i H/\∃ N:St->Hp->Prop,(∀ σ' H',N σ' H'->∃ m',m' < m/\W (i + 1) m' σ' H')/\∀ x H',(aBl K b c2 a1 a2).yld i H x H'->g x σ H' fun σ2 H2=>tb { D with nx:=N,ct:=N,bk:=D.nx } σ2 H2):=by
 refine⟨fun i m σ H=>m=xs.length - i/\i<=xs.length/\Pv i σ H,⟨xs.length,by simp,Nat.zero_le _,h0⟩,?_⟩
 rintro i m σ H ⟨rfl,hi,p⟩
 obtain⟨q1,q2⟩:=hl i σ H hi p
 by_cases hlt:i < xs.length
 ·have hl2:i < ys.length:=by omega
  refine .inr ⟨⟨xs,ys,xs[i],ys[i],q1,q2,by simp [hlt],by simp [hl2]⟩,Pv (i + 1),fun σ' H' p'=>⟨xs.length - (i + 1),by omega,rfl,hlt,p'⟩,fun v H' y=>?_⟩
  obtain⟨x,y,pa,rfl,hn,rfl,hx,hy⟩:=y
  exact hs i x y σ H pa (hx xs q1) (hy ys q2) p hn
 ·have e:i=xs.length:=by omega
  subst e
  exact .inl ⟨⟨xs,ys,q1,q2,.inl (Nat.le_refl _)⟩,hd σ H p⟩
theorem aBs {K:Frag} {b c2:Bool} {a1 a2:Addr} {xs ys:List V} {k:Nat} {js:List Nat} {g:TG} {tc:TT} {te:TE} {σ:St} {Q:VK} {H1:Hp} (P:Nat->List V->Hp->Prop) (he:ys.length=xs.length) (h0:P 0 [] H1) (hl:∀ i zs H,i<=xs.length->P i zs H->Sq2 K b H a1 xs/\Sq2 K c2 H a2 ys/\zs.length<=i) (hz:xs.length < sizeLine)
  (hs:∀ i x y zs H p (os:St),os.length=k->xs[i]?=some x->ys[i]?=some y->P i zs H->H p=none->g (.ref p) (os++qW js σ) (upd H p (.tup [x,y])) fun σ3 H3=>tc σ3 H3 fun b H2=>if b=true then te σ3 H2 fun v H3=>eE P i k js σ σ3 (zs++[v]) H3 else eE P i k js σ σ3 zs H2)
  (hd:∀ zs H,P xs.length zs H->∀ p,H p=none->Q (.ref p) (upd H p (.lst zs))) :
  eF (aBl K b c2 a1 a2) k js g tc te σ Q H1:=by
 refine⟨fun i m σ' zs H=>m=xs.length - i/\i<=xs.length/\P i zs H/\∃ os:St,os.length=k/\σ'=os++qW js σ,⟨xs.length,by simp,Nat.zero_le _,h0,List.replicate k none,List.length_replicate,rfl⟩,?_⟩
 rintro i m σ' zs H ⟨rfl,hi,p,os,ho,rfl⟩
 obtain⟨q1,q2,hy⟩:=hl i zs H hi p
 by_cases hlt:i < xs.length
 ·have hl2:i < ys.length:=by omega
  refine .inr ⟨⟨xs,ys,xs[i],ys[i],q1,q2,by simp [hlt],by simp [hl2]⟩,by omega,eE P i k js σ,fun σ3 zs H3 z=>⟨xs.length - (i + 1),by omega,rfl,hlt,z.1,z.2⟩,fun v H' y=>?_⟩
  obtain⟨x,y,pa,rfl,hn,rfl,hx,hy⟩:=y
  exact hs i x y zs H pa os ho (hx xs q1) (hy ys q2) p hn
 ·have e:i=xs.length:=by omega
  subst e
  exact .inl ⟨⟨xs,ys,q1,q2,.inl (Nat.le_refl _)⟩,hd zs H p⟩
section
variable {P:Program} {w:World} {A:Around} {E:Value->Shared->Prop} {s:Shared}
theorem dW {M:Model} {A:Around} {E:Value->Shared->Prop} {s:Shared} {a:Addr} {Q:Option Obj->Shared->Prop} (h:Q (s.heap.get? a) s):wpAny M A (loadIfAlive a) Q E s:=fun Γ p hΓ=>by
 unfold loadIfAlive
 rw [Sem.wp_loadIfAlive]
 exact h
abbrev iV (h:Heap) (z TI TO:Addr) (f0:Value) (b:Bool):Prop :=
 h.get? z=some { cls:=.type "zip",dict:=none,data:=.fields #[f0,.bool b,.bool false,.ref TI,.ref TO],slots:=#[] }
structure ZpB (b c2 f:Bool) (T:Addr) (h:Heap) (z ti to j1 j2 a1 a2:Addr) (n:Nat):Prop where
 z:iV h z ti to (rawInt T) f
 ti:IsPair h ti (.ref j1) (.ref j2)
 t:∃ o,h.get? T=some o
 i1:xB b h j1 a1 n
 i2:xB c2 h j2 a2 n
theorem aFk {T:Addr} {f:Bool} {z ti to:Addr} {Q:Bool->Shared->Prop} (hz:iV s.heap z ti to (rawInt T) f) (ht:∃ o,s.heap.get? T=some o) (nz:T ≠ z)
  (k:∀ g,iV g z ti to (rawInt T) true->(∀ c o,c ≠ z->s.heap.get? c=some o->g.get? c=some o)->g.objs.size=s.heap.objs.size->Q false { s with heap:=g }):wpAny (model P w) A (Builtin.SmallTypes.ownedTupleIsFree (.ref z)) Q E s:=by
 obtain⟨o,ho⟩:=ht
 unfold Builtin.SmallTypes.ownedTupleIsFree
 refine wpAny_bind (wpAny_field hz rfl (x:=rawInt T) rfl ?_)
 show wpAny _ _ (loadIfAlive T >>= fun _=>_) _ _ _
 refine wpAny_bind (dW ?_)
 rw [ho]
 simp only [Option.isNone_some,Bool.false_eq_true,if_false]
 cases f with
 | false =>
  refine wpAny_bind (wpAny_field hz rfl (x:=.bool false) rfl ?_)
  rw [if_pos (by decide)]
  refine wpAny_bind (wpAny_setField_rec hz (by simp) fun e1 z1 s1=>?_)
  exact wpAny_pure (k _ z1 (fun c o hc e=>s1.extBut _ _ hc e) s1.1)
 | true =>
  refine wpAny_bind (wpAny_field hz rfl (x:=.bool true) rfl ?_)
  rw [if_neg (by decide)]
  exact wpAny_pure (k _ hz (fun c o _ e=>e) rfl)
theorem aGx {b c2 f:Bool} {T z ti to j1 j2 a1 a2:Addr} {n:Nat} {us vs:Array Value} {u v:Value} {Q:Option Value->Shared->Prop} (D:ZipApart z ti to j1 j2 a1 a2) (nz:T ≠ z) (hz:ZpB b c2 f T s.heap z ti to j1 j2 a1 a2 n)
  (g1:qP b s.heap a1 us) (g2:qP c2 s.heap a2 vs) (hu:us[n]?=some u) (hv:vs[n]?=some v)
  (k:∀ g,iV g z ti to (rawInt T) true->xB b g j1 a1 (n + 1)->xB c2 g j2 a2 (n + 1)->IsPair g s.heap.objs.size u v->g.objs.size=s.heap.objs.size + 1 →
   (∀ c o,c ∉ [z,j1,j2]->s.heap.get? c=some o->g.get? c=some o)->Q (some (.ref s.heap.objs.size)) { s with heap:=g }):wpAny (model P w) A (pyNext (.ref z)) Q E s:=by
 obtain⟨hz,hi,ht,h1,h2⟩:=hz
 have ty:s.TypeIs (.ref z) "zip":=⟨_,hz,rfl⟩
 unfold pyNext
 refine wpAny_bind (wpAny_attempt (wpAny_callSpecial?_slot (name:=Str.ofString "__next__") ty F.slot_zip_next (wpAny_call_entry F.slot_zip_next ty F.entry_zip_next ?_ (F.args_zip_next_1 _))))
 show wpAny _ _ (field (.ref z) 2 >>= fun _=>_) _ _ _
 refine wpAny_bind (wpAny_field hz rfl (x:=.bool false) rfl ?_)
 show wpAny _ _ (field (.ref z) 3 >>= fun _=>_) _ _ _
 refine wpAny_bind (wpAny_field hz rfl (x:=.ref ti) rfl ?_)
 refine wpAny_bind (wpAny_seqItems hi rfl ?_)
 show wpAny _ _ (Builtin.SmallTypes.ownedTupleIsFree (.ref z) >>= fun _=>_) _ _ _
 refine wpAny_bind (aFk hz ht nz fun e1 z1 x1 sz1=>?_)
 simp only [Bool.false_eq_true,if_false]
 refine wpAny_bind ?_
 simp only [← Array.forIn_toList,List.forIn_cons,List.forIn_nil]
 refine wpAny_bind (wpAny_bind (wpAny_holding ?_))
 show wpAny _ _ (Builtin.SmallTypes.nextOf (.ref j1) >>= fun _=>_) _ _ _
 refine wpAny_bind (mG (h1.keep fun o e=>x1 _ o D.i1z e) (g1.keep fun o e=>x1 _ o D.l1z e) hu fun e2 m2 s2=>wpAny_pure ?_)
 have x2:=s2.extBut
 refine wpAny_pure ?_
 refine wpAny_bind (wpAny_bind (wpAny_holding ?_))
 show wpAny _ _ (Builtin.SmallTypes.nextOf (.ref j2) >>= fun _=>_) _ _ _
 refine wpAny_bind (mG (h2.keep fun o e=>x2 _ o D.i12.symm (x1 _ o D.i2z e)) (g2.keep fun o e=>x2 _ o D.l2i1 (x1 _ o D.l2z e)) hv fun e4 m4 s4=>wpAny_pure ?_)
 have x4:=s4.extBut
 refine wpAny_pure (wpAny_pure ?_)
 show wpAny _ _ (newTuple [u,v] >>= fun _=>_) _ _ _
 refine wpAny_bind (wpAny_newTuple ?_)
 refine wpAny_pure ⟨_,rfl,wpAny_pure ?_⟩
 have sz:e4.objs.size=s.heap.objs.size:=by rw [s4.1,s2.1,sz1]
 show Q (some (.ref e4.objs.size)) _
 have lt:∀ {c:Addr} {o:Obj},e4.get? c=some o->(e4.push { cls:=.type "tuple",data:=.seq #[u,v] }).get? c=some o:=fun e=>Heap.get?_push_of_some _ e
 have up:∀ c o,c ∉ [z,j1,j2]->s.heap.get? c=some o->e4.get? c=some o:=fun c o hc e=>by
  simp only [List.mem_cons,List.not_mem_nil,or_false,not_or] at hc
  exact x4 _ _ hc.2.2 (x2 _ _ hc.2.1 (x1 _ _ hc.1 e))
 have z4:iV e4 z ti to (rawInt T) true:=x4 _ _ D.i2z.symm (x2 _ _ D.i1z.symm z1)
 have m24:xB b e4 j1 a1 (n + 1):=m2.keep fun o e=>x4 _ o D.i12 e
 have tp:(e4.push { cls:=.type "tuple",data:=.seq #[u,v] }).get? e4.objs.size=some { cls:=.type "tuple",data:=.seq #[u,v] }:=Heap.get?_push_size _ rfl
 have szp:(e4.push { cls:=.type "tuple",data:=.seq #[u,v] }).objs.size=e4.objs.size + 1:=Heap.size_push ..
 rw [sz] at tp szp
 rw [sz]
 exact k _ (lt z4) (m24.keep fun o e=>lt e) (m4.keep fun o e=>lt e) tp szp fun c o hc e=>lt (up c o hc e)
theorem aJi {b c2 f:Bool} {T z ti to j1 j2 a1 a2:Addr} {n:Nat} {us vs:Array Value} {Q:Option Value->Shared->Prop} (hh:A.handled=none) (D:ZipApart z ti to j1 j2 a1 a2) (nz:T ≠ z) (hz:ZpB b c2 f T s.heap z ti to j1 j2 a1 a2 n)
  (g1:qP b s.heap a1 us) (g2:qP c2 s.heap a2 vs) (hend:us[n]?=none)
  (k:∀ g,(∀ c o,c ∉ [z,j1,j2]->s.heap.get? c=some o->g.get? c=some o)->Q none { s with heap:=g }):wpAny (model P w) A (pyNext (.ref z)) Q E s:=by
 obtain⟨hz,hi,ht,h1,h2⟩:=hz
 have ty:s.TypeIs (.ref z) "zip":=⟨_,hz,rfl⟩
 unfold pyNext
 refine wpAny_bind (wpAny_attempt (wpAny_callSpecial?_slot (name:=Str.ofString "__next__") ty F.slot_zip_next (wpAny_call_entry F.slot_zip_next ty F.entry_zip_next ?_ (F.args_zip_next_1 _))))
 show wpAny _ _ (field (.ref z) 2 >>= fun _=>_) _ _ _
 refine wpAny_bind (wpAny_field hz rfl (x:=.bool false) rfl ?_)
 show wpAny _ _ (field (.ref z) 3 >>= fun _=>_) _ _ _
 refine wpAny_bind (wpAny_field hz rfl (x:=.ref ti) rfl ?_)
 refine wpAny_bind (wpAny_seqItems hi rfl ?_)
 show wpAny _ _ (Builtin.SmallTypes.ownedTupleIsFree (.ref z) >>= fun _=>_) _ _ _
 refine wpAny_bind (aFk hz ht nz fun e1 z1 x1 sz1=>?_)
 simp only [Bool.false_eq_true,if_false]
 refine wpAny_bind ?_
 simp only [← Array.forIn_toList,List.forIn_cons,List.forIn_nil]
 refine wpAny_bind (wpAny_bind (wpAny_holding ?_))
 show wpAny _ _ (Builtin.SmallTypes.nextOf (.ref j1) >>= fun _=>_) _ _ _
 refine wpAny_bind (aGb hh (h1.keep fun o e=>x1 _ o D.i1z e) (g1.keep fun o e=>x1 _ o D.l1z e) hend fun e2 x s2 hx=>?_)
 obtain⟨ox,ex,cx⟩:=hx
 refine wpAny_bind (wpAny_isInstance (T:="StopIteration") (b:=true) ⟨ox,ex,cx⟩ isSubtype_stop ?_)
 refine wpAny_pure (k _ fun c o hc e=>?_)
 simp only [List.mem_cons,List.not_mem_nil,or_false,not_or] at hc
 exact s2 _ _ hc.2.1 (x1 _ _ hc.1 e)
end
theorem cQ:typeLookup (.type "zip") "__getattr__" = pure none:=by rw [typeLookup_type,builtinLookup_eq_fast];kernel_rfl
theorem fV:typeLookup (.type "zip") "keys" = pure none:=by rw [typeLookup_type,builtinLookup_eq_fast];kernel_rfl
theorem zF:entryFor table "zip.__getattribute__" = some Builtin.«object.__getattribute__» :=
 entryFor_alias (id':="object.__getattribute__") (by kernel_rfl) (by decide +kernel) (by decide +kernel) (by kernel_rfl)
theorem yC (a:Addr) (fs:Array Value) (sl:Array (Option Value)) (name:Str) (u:Tok) (hmiss:typeLookup (.type "zip") name=pure none) (hname:(["__module__","__name__","__qualname__","__doc__","__annotations__"]:List Str).contains name=false) (hsz:name.length + 100<=sizeLine:=by size_fits) :
  Meets (Builtin.«object.__getattribute__» ⟨[.ref a,.str name u],[]⟩) (fun A R s=>s.heap.get? a=some { cls:=.type "zip",dict:=none,data:=.fields fs,slots:=sl }/\raisesAttr (.ref a) name A R s) :=
 Meets.of_wp fun prog w A R s hs=>by
  obtain⟨hp,g,d,tk,os⟩:=s
  obtain⟨hx,hs⟩:=hs
  have hT:(⟨hp,g,d,tk,os⟩ : Shared).TypeIs (.ref a) "zip":=⟨_,hx,rfl⟩
  unfold Builtin.«object.__getattribute__»
  repeat (any_goals (first|assumption|wp_step))
  simp only [hname,Bool.false_eq_true,if_false]
  repeat (any_goals (first|assumption|wp_step))
  exact wpAny_raiseAttrError hs.1 hs.2 (attrMsg_fits (by decide +kernel) hsz)
theorem sU {prog:Program} {w:World} {A:Around} {E:Value->Shared->Prop} {s:Shared} {a:Addr} {fs:Array Value} {Q:Option Value->Shared->Prop}
  (hx:s.heap.get? a=some { cls:=.type "zip",dict:=none,data:=.fields fs,slots:=#[] }) (hA:A.handled=none)
  (h:∀ h' tk e,Heap.NewExcOf s.heap h' e "AttributeError"->Q none { s with heap:=h',toks:=tk }) :
  wpAny (model prog w) A (getAttr? (.ref a) "keys") Q E s:=by
 obtain⟨hp,g,d,tk,os⟩:=s
 have hT:∀ tk',(⟨hp,g,d,tk',os⟩ : Shared).TypeIs (.ref a) "zip":=fun _=>⟨_,hx,rfl⟩
 have f1:=sub_AttributeError
 have f3:=F.slot_zip_getattribute.lookup
 have f4:=F.slot_zip_getattribute.bind (.ref a)
 have f5:=cQ
 unfold getAttr? getAttrBy? getAttrBy
 repeat (any_goals (first|assumption|exact hT _|((with_reducible show wpAny _ _ (call (Value.builtin "zip.__getattribute__") _ _) _ _ _);refine call_meets F.slot_zip_getattribute (hT _) zF (F.args_zip_getattribute_2 _ _) (yC a fs #[] "keys" _ fV (by decide) (by size_fits)) ⟨hx,hA,fun h' tk' e hx'=>?_⟩)|wp_step))
 obtain⟨t',u',he⟩:=hx'.there
 show wpAny _ _ (getattributeRaised _ _ _ _ _ _ _) _ _ _
 unfold getattributeRaised
 repeat (any_goals (first|assumption|wp_step))
 exact h _ _ _ hx'.of
theorem oB:entryFor table "dict.update.loop" = some Builtin.«dict.update.loop»:=entryFor_of_tree (by kernel_rfl)
theorem cM:plainId "dict.update.loop" = true:=by decide +kernel
def ZS (b c2:Bool) (h:Heap) (z ti to j1 j2 a1 a2:Addr) (n:Nat):Prop:=ZpM b c2 h z ti to j1 j2 a1 a2 n\/∃ f T,T ≠ z/\T ∉ [to,j1,j2]/\(∃ o,h.get? to=some o)/\ZpB b c2 f T h z ti to j1 j2 a1 a2 n
section
variable {P:Program} {w:World} {A:Around} {E:Value->Shared->Prop} {s:Shared}
theorem aIu {b c2:Bool} {z ti to j1 j2 a1 a2:Addr} {n:Nat} {us vs:Array Value} {u v:Value} {Q:Option Value->Shared->Prop} (D:ZipApart z ti to j1 j2 a1 a2) (hz:ZS b c2 s.heap z ti to j1 j2 a1 a2 n)
  (g1:qP b s.heap a1 us) (g2:qP c2 s.heap a2 vs) (hu:us[n]?=some u) (hv:vs[n]?=some v)
  (k:∀ g,ZS b c2 g z ti to j1 j2 a1 a2 (n + 1)->IsPair g s.heap.objs.size u v->(∀ c o,c ∉ [z,to,j1,j2]->s.heap.get? c=some o->g.get? c=some o)->Q (some (.ref s.heap.objs.size)) { s with heap:=g }):wpAny (model P w) A (pyNext (.ref z)) Q E s:=by
 have tin:ti ∉ [z,to,j1,j2]:=by simp [D.TIz,D.TITO,D.TIi1,D.TIi2]
 rcases hz with hz|⟨f,T,nz,nT,⟨o',ho'⟩,hz⟩
 ·have l0:z < s.heap.objs.size:=Heap.lt_size hz.z
  obtain⟨p,q,hto⟩:=hz.to
  have l1:to < s.heap.objs.size:=Heap.lt_size hto
  obtain⟨o1,e1,_⟩:=hz.i1.obj
  obtain⟨o2,e2,_⟩:=hz.i2.obj
  have l2:=Heap.lt_size e1
  have l3:=Heap.lt_size e2
  refine aAb D hz g1 g2 hu hv fun g gz go i1 i2 gn fr=>k g (.inr ⟨false,s.heap.objs.size,Nat.ne_of_gt l0,?_,⟨_,go⟩,gz,fr _ _ tin hz.ti,⟨_,gn⟩,i1,i2⟩) gn fr
  simp only [List.mem_cons,List.not_mem_nil,or_false,not_or]
  exact⟨Nat.ne_of_gt l1,Nat.ne_of_gt l2,Nat.ne_of_gt l3⟩
 ·obtain⟨ot,ht⟩:=hz.t
  have nT':T ∉ [z,j1,j2]:=by
   simp only [List.mem_cons,List.not_mem_nil,or_false,not_or] at nT ⊢
   exact⟨nz,nT.2.1,nT.2.2⟩
  have tin':ti ∉ [z,j1,j2]:=by simp [D.TIz,D.TIi1,D.TIi2]
  have to':to ∉ [z,j1,j2]:=by simp [D.TOz,D.TOi1,D.TOi2]
  refine aGx D nz hz g1 g2 hu hv fun g gz i1 i2 gn _ fr=>k g (.inr ⟨true,T,nz,nT,⟨_,fr _ _ to' ho'⟩,gz,fr _ _ tin' hz.ti,⟨_,fr _ _ nT' ht⟩,i1,i2⟩) gn fun c o hc e=>fr c o (fun m=>hc ?_) e
  simp only [List.mem_cons,List.not_mem_nil,or_false] at m ⊢
  rcases m with m|m|m
  ·exact .inl m
  ·exact .inr (.inr (.inl m))
  ·exact .inr (.inr (.inr m))
theorem zsEnd {b c2:Bool} {z ti to j1 j2 a1 a2:Addr} {n:Nat} {us vs:Array Value} {Q:Option Value->Shared->Prop} (hh:A.handled=none) (D:ZipApart z ti to j1 j2 a1 a2) (hz:ZS b c2 s.heap z ti to j1 j2 a1 a2 n)
  (g1:qP b s.heap a1 us) (g2:qP c2 s.heap a2 vs) (hend:us[n]?=none)
  (k:∀ g,(∀ c o,c ∉ [z,to,j1,j2]->s.heap.get? c=some o->g.get? c=some o)->Q none { s with heap:=g }):wpAny (model P w) A (pyNext (.ref z)) Q E s:=by
 rcases hz with hz|⟨f,T,nz,nT,_,hz⟩
 ·exact aEb hh D hz g1 g2 (.inl hend) k
 ·refine aJi hh D nz hz g1 g2 hend fun g fr=>k g fun c o hc e=>fr c o (fun m=>hc ?_) e
  simp only [List.mem_cons,List.not_mem_nil,or_false] at m ⊢
  rcases m with m|m|m
  ·exact .inl m
  ·exact .inr (.inr (.inl m))
  ·exact .inr (.inr (.inr m))
end
def aAv (xs:List Str) (vs:List Value) (kvs:List (Key × Value)):List (Key × Value):=(xs.zip vs).foldl (fun acc p=>stored acc (.inr p.1) p.2) kvs
section
variable {P:Program} {w:World} {A:Around} {R:Result->Shared->Prop}
theorem aKe {b c2:Bool} {z ti to j1 j2 a1 a2 d:Addr} {xs:List Str} {us vs:Array Value} (hh:A.handled=none) (D:ZipApart z ti to j1 j2 a1 a2) (hd:d ∉ [z,ti,to,j1,j2,a1,a2]) (hx:∀ (i:Nat) (x:Str),xs[i]?=some x->∃ t,us[i]?=some (.str x t)) (hl:xs.length=us.size) (hv:vs.size=us.size) (hb:us.size<=100) :
  ∀ (m n:Nat) (i:Int) (kvs:List (Key × Value)) (s:Shared),us.size - n=m->n<=us.size->kvs.length<=n->ZS b c2 s.heap z ti to j1 j2 a1 a2 n->qP b s.heap a1 us->qP c2 s.heap a2 vs->s.heap.DictOf (kS P w) d kvs →
   (∀ (h':Heap) (tk:Nat),h'.DictOf (kS P w) d (aAv (xs.drop n) (vs.toList.drop n) kvs)->(∀ c o,c ∉ [z,to,j1,j2,d]->s.heap.get? c=some o->h'.get? c=some o)->R (.ok (.ret .none)) { s with heap:=h',toks:=tk }) →
   codeAny (model P w) A (.builtin "dict.update.loop" ⟨[.ref d,.ref z,rawInt i,.none],[]⟩) R s:=by
 intro m
 induction m with
 | zero =>
  intro n i kvs s hm hn hk zs g1 g2 dd hR
  have hin:n=us.size:=by omega
  refine codeAny_builtin oB ?_
  rw [Around.under_plainId cM _]
  show wpAny _ A.in1 (pyNext (.ref z) >>= _) _ _ s
  refine wpAny_bind (zsEnd hh D zs g1 g2 (by rw [hin];simp) fun g fr=>?_)
  show wpAny _ _ (Builtin.Dict.addKeywords d [] >>= _) _ _ _
  refine wpAny_bind (wpAny_pure (wpAny_pure ?_))
  have e0:aAv (xs.drop n) (vs.toList.drop n) kvs=kvs:=by
   rw [List.drop_of_length_le (by omega)];rfl
  refine hR g s.toks ?_ fun c o hc e=>fr c o (fun m=>hc ?_) e
  ·rw [e0]
   obtain⟨o,es,ep,ho,rest⟩:=dd
   refine⟨o,es,ep,fr _ _ (fun m=>hd ?_) ho,rest⟩
   simp only [List.mem_cons,List.not_mem_nil,or_false] at m ⊢
   rcases m with m|m|m|m <;> simp [m]
  ·simp only [List.mem_cons,List.not_mem_nil,or_false] at m ⊢
   rcases m with m|m|m|m <;> simp [m]
 | succ m ih =>
  intro n i kvs s hm hn hk zs g1 g2 dd hR
  have hlt:n < us.size:=by omega
  have hxn:n < xs.length:=by omega
  obtain⟨t,hu⟩:=hx n xs[n] (List.getElem?_eq_getElem hxn)
  have hvn:vs[n]?=some vs[n]:=by simp [hv,hlt]
  refine codeAny_builtin oB ?_
  rw [Around.under_plainId cM _]
  show wpAny _ A.in1 (pyNext (.ref z) >>= _) _ _ s
  refine wpAny_bind (aIu D zs g1 g2 hu hvn fun g zs' pr fr=>?_)
  show wpAny _ _ (holding [Value.ref s.heap.objs.size] _ >>= _) _ _ _
  refine wpAny_bind (wpAny_holding (wpAny_bind (wpAny_tryCatch ?_)))
  unfold Builtin.Dict.pairItems
  have hT:({ s with heap:=g } : Shared).TypeIs (.ref s.heap.objs.size) "tuple":=⟨_,pr,rfl⟩
  refine wpAny_bind (wpAny_typeOf hT ?_)
  rw [if_pos (by decide)]
  refine wpAny_bind (wpAny_seqItems pr rfl (wpAny_pure ?_))
  show wpAny _ _ (holding [Value.str xs[n] t,vs[n]] (dictSet d (.str xs[n] t) vs[n])) _ _ _
  have frd:∀ {c:Addr},c ∈ [z,to,j1,j2]->c ∈ [z,to,j1,j2,d]:=fun {c} m=>by
   simp only [List.mem_cons,List.not_mem_nil,or_false] at m ⊢
   rcases m with m|m|m|m <;> simp [m]
  have dd':g.DictOf (kS P w) d kvs:=by
   obtain⟨o,es,ep,ho,rest⟩:=dd
   refine⟨o,es,ep,fr _ _ (fun m=>hd ?_) ho,rest⟩
   simp only [List.mem_cons,List.not_mem_nil,or_false] at m ⊢
   rcases m with m|m|m|m <;> simp [m]
  refine wpAny_holding (wpAny_dictSet_pairs (knd:=kS P w) (k:=Sum.inr xs[n]) (lK (k:=Sum.inr xs[n]) ⟨t,rfl⟩) dd' (fun h' dd2 sb=>?_) (by rw [sizeLine_eq];omega))
  have ls:(stored kvs (Sum.inr xs[n]) vs[n]).length<=n + 1:=by
   unfold stored
   split
   ·rw [List.length_map];omega
   ·rw [List.length_append,List.length_singleton];omega
  have nd:∀ c,c ∈ [z,ti,to,j1,j2,a1,a2]->c ≠ d:=fun c hc e=>hd (e ▸ hc)
  have kp:∀ c o,c ≠ d->g.get? c=some o->h'.get? c=some o:=fun c o hc e=>sb.extBut _ _ hc e
  have zs2:ZS b c2 h' z ti to j1 j2 a1 a2 (n + 1):=by
   rcases zs' with q|⟨f,T,nz,nT,⟨o',ho'⟩,q⟩
   ·obtain⟨p,q',ho⟩:=q.to
    exact .inl ⟨kp _ _ (nd _ (by simp)) q.z,kp _ _ (nd _ (by simp)) q.ti,⟨p,q',kp _ _ (nd _ (by simp)) ho⟩,q.i1.keep fun o e=>kp _ _ (nd _ (by simp)) e,q.i2.keep fun o e=>kp _ _ (nd _ (by simp)) e⟩
   ·refine .inr ⟨f,T,nz,nT,⟨o',kp _ _ (nd _ (by simp)) ho'⟩,kp _ _ (nd _ (by simp)) q.z,kp _ _ (nd _ (by simp)) q.ti,?_,q.i1.keep fun o e=>kp _ _ (nd _ (by simp)) e,q.i2.keep fun o e=>kp _ _ (nd _ (by simp)) e⟩
    obtain⟨o,ho⟩:=q.t
    by_cases e:T=d
    ·rw [e]
     obtain⟨o2,_,_,h2,_⟩:=dd2
     exact⟨o2,h2⟩
    ·exact⟨o,kp _ _ e ho⟩
  have a1n:a1 ∉ [z,to,j1,j2]:=by simp [D.l1z,D.l1TO,D.l1i1,D.l1i2]
  have a2n:a2 ∉ [z,to,j1,j2]:=by simp [D.l2z,D.l2TO,D.l2i1,D.l2i2]
  refine wpAny_pure ⟨plainId_quiet cM _,ih (n + 1) (i + 1) _ _ (by omega) (by omega) ls zs2 (g1.keep fun o e=>kp _ _ (nd _ (by simp)) (fr _ _ a1n e)) (g2.keep fun o e=>kp _ _ (nd _ (by simp)) (fr _ _ a2n e)) dd2 fun h2 tk dd3 fr2=>?_⟩
  refine hR h2 tk ?_ fun c o hc e=>fr2 c o hc (kp _ _ (fun z=>hc (by simp [z])) (fr _ _ (fun m=>hc (frd m)) e))
  have e1:xs.drop n=xs[n]::xs.drop (n + 1):=List.drop_eq_getElem_cons hxn
  have e2:vs.toList.drop n=vs[n]::vs.toList.drop (n + 1):=List.drop_eq_getElem_cons (by simpa using (show n < vs.size by omega))
  rw [e1,e2]
  exact dd3
end
section
variable {P:Program} {w:World} {A:Around} {E:Value->Shared->Prop} {s:Shared}
theorem nK {b c2:Bool} {z ti to j1 j2 a1 a2:Addr} {xs:List Str} {us vs:Array Value} {Q:Value->Shared->Prop} (hh:A.handled=none) (D:ZipApart z ti to j1 j2 a1 a2) (hz:ZpM b c2 s.heap z ti to j1 j2 a1 a2 0) (g1:qP b s.heap a1 us) (g2:qP c2 s.heap a2 vs)
  (hx:∀ (i:Nat) (x:Str),xs[i]?=some x->∃ t,us[i]?=some (.str x t)) (hl:xs.length=us.size) (hv:vs.size=us.size) (hb:us.size<=100)
  (h:∀ (h':Heap) (tk:Nat),h'.DictOf (kS P w) s.heap.objs.size (aAv xs vs.toList [])->(∀ c o,c ∉ [z,to,j1,j2]->s.heap.get? c=some o->h'.get? c=some o)->Q (.ref s.heap.objs.size) { s with heap:=h',toks:=tk }) :
  wpAny (model P w) A (call (.type "dict") [.ref z]) Q E s:=by
 refine callType_codes (Q₁:=fun obj s₁=>obj=.ref s.heap.objs.size/\s₁ = { s with heap:=s.heap.push { cls:=.type "dict",data:=.dict #[] } }) F.kt_called_dict (F.kt_typeCall_dict_1 _) F.entry_dict_init (kt_code_dict_new _ ⟨rfl,rfl⟩) ?_
 rintro obj s₁ ⟨rfl,rfl⟩
 have hnew:(s.heap.push { cls:=.type "dict",data:=.dict #[] }).DictOf (kS P w) s.heap.objs.size []:=Heap.DictOf.new s.heap
 have up:∀ c o,s.heap.get? c=some o->(s.heap.push { cls:=.type "dict",data:=.dict #[] }).get? c=some o:=fun c o e=>Heap.get?_push_of_some _ e
 have hz':IsZip (s.heap.push { cls:=.type "dict",data:=.dict #[] }) z ti to .none:=up _ _ hz.z
 refine⟨hnew.typeIs,F.args_dict_init_2 _ _,?_⟩
 unfold Builtin.«dict.__init__»
 refine wpAny_bind ?_
 unfold Builtin.Dict.selfAndRest
 refine wpAny_bind (wpAny_notOrdered_dict hnew.typeIs ?_)
 show wpAny _ _ (pure (s.heap.objs.size,[Value.ref z])) _ _ _
 refine wpAny_pure ?_
 show wpAny _ _ (Builtin.Dict.updateFrom "dict.__init__" s.heap.objs.size (.ref z) [] .none) _ _ _
 unfold Builtin.Dict.updateFrom
 refine wpAny_bind (wpAny_typeOf (T:="zip") ⟨_,hz',rfl⟩ ?_)
 rw [if_pos (by decide)]
 refine wpAny_bind (sU hz' hh fun h1 tk e ne=>?_)
 simp only [Option.isNone_none,if_true]
 have kp:∀ c o,s.heap.get? c=some o->h1.get? c=some o:=fun c o q=>ne.keeps _ _ (up _ _ q)
 refine wpAny_bind (wpAny_rule ?_)
 refine wpAny_bind (wpAny_pyIter_zip (kp _ _ hz.z) ?_)
 obtain⟨p,q,ho⟩:=hz.to
 have z1:ZpM b c2 h1 z ti to j1 j2 a1 a2 0:=⟨kp _ _ hz.z,kp _ _ hz.ti,⟨p,q,kp _ _ ho⟩,hz.i1.keep fun o e=>kp _ _ e,hz.i2.keep fun o e=>kp _ _ e⟩
 have dd1:h1.DictOf (kS P w) s.heap.objs.size []:=by
  obtain⟨o,es,ep,ho,rest⟩:=hnew
  exact⟨o,es,ep,ne.keeps _ _ ho,rest⟩
 obtain⟨o1,e1,_⟩:=hz.i1.obj
 obtain⟨o2,e2,_⟩:=hz.i2.obj
 have hd:s.heap.objs.size ∉ [z,ti,to,j1,j2,a1,a2]:=by
  simp only [List.mem_cons,List.not_mem_nil,or_false,not_or]
  exact⟨Nat.ne_of_gt (Heap.lt_size hz.z),Nat.ne_of_gt (Heap.lt_size hz.ti),Nat.ne_of_gt (Heap.lt_size ho),Nat.ne_of_gt (Heap.lt_size e1),Nat.ne_of_gt (Heap.lt_size e2),Nat.ne_of_gt g1.lt,Nat.ne_of_gt g2.lt⟩
 refine wpAny_pure ⟨plainId_quiet cM _,aKe (A:=A.in1) hh D hd hx hl hv hb us.size 0 0 [] _ rfl (Nat.zero_le _) (Nat.le_refl _) (.inl z1) (g1.keep fun o e=>kp _ _ e) (g2.keep fun o e=>kp _ _ e) dd1 fun h' tk' dd fr=>⟨rfl,h h' tk' dd fun c o hc e=>fr c o (fun m=>?_) (kp _ _ e)⟩⟩
 simp only [List.mem_cons,List.not_mem_nil,or_false] at m hc
 rcases m with m|m|m|m|m
 ·exact hc (.inl m)
 ·exact hc (.inr (.inl m))
 ·exact hc (.inr (.inr (.inl m)))
 ·exact hc (.inr (.inr (.inr m)))
 ·exact absurd (Heap.lt_size e) (by rw [m];exact Nat.lt_irrefl _)
end
theorem sV:∀ {xs ys:List Str} {us:List Value} {kvs:List (Key × V)} {vs:List (Key × Value)},xs.length=ys.length->kC (ys.map V.str) us->KV kvs vs->KV (yY kvs (List.zipWith (fun x y=>((.inr x:Key),V.str y)) xs ys)) (aAv xs us vs)
 | [],_,_,_,_,_,_,r=>r
 | x::xs,[],_,_,_,h,_,_=>by simp at h
 | x::xs,y::ys,us,kvs,vs,h,hv,r=>by
  rw [List.map_cons] at hv
  cases hv with
  | @cons _ _ u us' ru rs =>
   exact sV (xs:=xs) (ys:=ys) (by simpa using h) rs (r.put (.inr x) ru)
def tDZip (K:Frag) (ta:TA):TE:=fun σ H Q=>ta σ H fun vs H1=>∃ (b c2:Bool) (a1 a2:Addr) (xs ys:List Str),vs=[.ref a1,.ref a2]/\Sq2 K b H1 a1 (xs.map V.str)/\Sq2 K c2 H1 a2 (ys.map V.str)/\xs.length=ys.length/\xs.length<=100 ∧
 ∀ d,H1 d=none->Q (.ref d) (upd H1 d (.dK (yY [] (List.zipWith (fun x y=>((.inr x:Key),V.str y)) xs ys))))
theorem aIa {X:Cx} {a c:Expr} {ta:TA} {p p2 pos pos2:Pos} (hgd:Gl X "dict") (hmd:X.mg "dict" = none) (hg:Gl X "zip") (hm:X.mg "zip" = none) (hc:X.calm=true) (ha:PA X [a,c] ta)
  (hs:starEach [a,c] X.env=(false,eval a X.env)::starEach [c] X.env:=by rfl) (hs2:starEach [c] X.env=[(false,eval c X.env)]:=by rfl)
  (hs3:starEach [.Call (.Name "zip" p2) [a,c] [] pos2] X.env=(false,eval (.Call (.Name "zip" p2) [a,c] [] pos2) X.env)::starEach [] X.env:=by rfl) :
  PE X (.Call (.Name "dict" p) [.Call (.Name "zip" p2) [a,c] [] pos2] [] pos) (tDZip X.K ta):=by
 intro pins s σ H Q I h
 refine wpAny_Call_Name_kw (bW I hgd hmd (show bootBuiltins "dict" = some (.type "dict") from by decide +kernel) ?_ (by decide) (by decide))
 refine PyProof.Rows.callWith_type1 ?_ hs3 rfl
 rw [hs3]
 show wpAny _ _ (spliced ((false,eval (.Call (.Name "zip" p2) [a,c] [] pos2) X.env)::backTo pos (starEach [] X.env))) _ _ s
 refine Calls.spliced_cons ?_
 refine wpAny_Call_Name_kw (bW I hg hm (show bootBuiltins "zip" = some (.type "zip") from by decide +kernel) ?_ (by decide) (by decide))
 refine PyProof.Rows.callWith_type1 (thn (ha pos2 pins s σ H _ I h) fun us s1 zq=>?_) hs (by rw [hs2];rfl)
 obtain⟨vs,H1,I1,r1,q1⟩:=zq
 obtain⟨b,c2,a1,a2,xs,ys,e,h1,h2,hl,hb,q⟩:=q1
 subst e
 obtain⟨u,v,rfl,rx,ry⟩:=vals2 r1
 cases rx
 cases ry
 obtain⟨is1,v1,k1⟩:=I1.seq2 h1
 obtain⟨is2,v2,k2⟩:=I1.seq2 h2
 have l1:=k1.lt
 have l2:=k2.lt
 have n1:=v1.length
 have n2:=v2.length
 rw [List.length_map] at n1 n2
 refine aAz k1 k2 fun g gz gk=>?_
 have D:ZipApart (s1.heap.objs.size + 4) (s1.heap.objs.size + 2) (s1.heap.objs.size + 3) s1.heap.objs.size (s1.heap.objs.size + 1) a1 a2:=by
  constructor <;> simp <;> first|exact Nat.ne_of_lt (Nat.lt_of_lt_of_le l1 (Nat.le_add_right _ _))|exact Nat.ne_of_lt (Nat.lt_of_lt_of_le l2 (Nat.le_add_right _ _))|exact Nat.ne_of_lt l1|exact Nat.ne_of_lt l2|decide
 refine Calls.spliced_nil ?_
 refine nK (xs:=xs) (I1.ok.hd hc) D gz (k1.keep fun o e=>gk _ _ e) (k2.keep fun o e=>gk _ _ e) (fun i x hx=>?_) (by rw [List.size_toArray];omega) (by rw [List.size_toArray,List.size_toArray];omega) (by rw [List.size_toArray];omega) fun h' tk dd fr=>?_
 ·obtain⟨u,hu,ru⟩:=v1.get (x:=V.str x) (i:=i) (by rw [List.getElem?_map,hx];rfl)
  obtain⟨t,rfl⟩:=ru
  exact⟨t,by simpa using hu⟩
 have gs:s1.heap.objs.size<=g.objs.size:=by
  have:=Heap.lt_size gz.z
  exact Nat.le_of_lt (Nat.lt_of_le_of_lt (Nat.le_add_right _ _) this)
 have keep:∀ b o,s1.heap.get? b=some o->h'.get? b=some o:=fun b o e=>by
  have lb:=Heap.lt_size e
  refine fr b o ?_ (gk _ _ e)
  simp only [List.mem_cons,List.not_mem_nil,or_false,not_or]
  exact⟨Nat.ne_of_lt (Nat.lt_of_lt_of_le lb (Nat.le_add_right _ _)),Nat.ne_of_lt (Nat.lt_of_lt_of_le lb (Nat.le_add_right _ _)),Nat.ne_of_lt lb,Nat.ne_of_lt (Nat.lt_of_lt_of_le lb (Nat.le_add_right _ _))⟩
 have hz:(yY [] (List.zipWith (fun x y=>((.inr x:Key),V.str y)) xs ys)).length<=sizeLine:=by
  have h1:=cS (List.zipWith (fun x y=>((.inr x:Key),V.str y)) xs ys) []
  rw [List.length_nil,List.length_zipWith] at h1
  rw [sizeLine_eq];omega
 refine⟨.ref g.objs.size,_,I1.laid (a:=g.objs.size) (o:=.dK (yY [] (List.zipWith (fun x y=>((.inr x:Key),V.str y)) xs ys))) (t':=tk) keep gs ?_,rfl,q _ (I1.hok.fresh gs)⟩
 exact uM hz (beq_eq_false_iff_ne.mpr (Ne.symm (Nat.ne_of_lt (Nat.lt_of_lt_of_le I1.big gs)))) (sV hl v2 .nil) (by simpa using dd)
theorem wT {X:Cx} {K:Frag} (hK:X.K=K):OpR X (compareOp .In) (rIn K false):=hK ▸ vC
theorem aHk {X:Cx} (hu:X.A.units + 64 < cLine):OpR X (compareOp .NotEq) (fun x y H Q=>∃ (a b:Addr) (o:Option Str) (z:Str),x=.ref a/\y=.ref b/\SqL X.K H a (o.toList.map V.str)/\SqL X.K H b [.str z]/\Q (.bl (!decide (o=some z))) H):=by
 intro pins s σ H x y v u Q I rx ry h
 obtain⟨a,b,o,z,rfl,rfl,ha,hb,q⟩:=h
 cases rx
 cases ry
 obtain⟨i1,r1,p1,_⟩:=I.list ha
 obtain⟨i2,r2,p2,_⟩:=I.list hb
 show wpAny _ _ (richCompare .NotEq (.ref a) (.ref b)) _ _ _
 cases r2 with
 | cons rz rt =>
  cases rt
  obtain⟨t,rfl⟩:=rz
  cases o with
  | none =>
   cases r1
   refine SeqAt.RcNeAt.lists_lengths p1.isList p2.isList (by simp) (by omega) _ _ _ _ ?_
   exact⟨.bl true,H,I,rfl,q⟩
  | some w =>
   cases r1 with
   | cons rw' rt' =>
    cases rt'
    obtain⟨t',rfl⟩:=rw'
    refine SeqAt.RcNeAt.lists (e:=fun _=>w == z) p1.isList p2.isList rfl (by omega) (fun j h1 h2=>?_) _ _ _ _ ?_
    ·obtain rfl:j=0:=by simp at h1;omega
     exact SeqAt.EqAt.str_str w t' z t
    ·refine⟨.bl (!decide (w=z)),H,I,?_,?_⟩
     ·show RelV _ _
      by_cases e:w=z
      ·subst e;simp [RelV]
      ·simp [RelV,e]
     ·rw [show (decide (w=z))=decide (some w=some z) by simp];exact q
inductive Dd where
 | row|loop|cond|els|fin
 deriving DecidableEq
def lnD (x:Str):Dd:=if x = "else" then .els else if x = "end" then .fin else if x = "if a" ∨ x = "if b" then .cond else if x = "out a" ∨ x = "out c" ∨ x = "b = a" then .row else .loop
def lnS (x:Str):Str:=if x = "else" then "else" else if x = "end" then "end" else if x = "if a" ∨ x = "if b" then "if" else if x = "out a" ∨ x = "out c" then "out" else if x = "b = a" then "name" else if x = "each a" ∨ x = "each b" then "each" else "span"
def lnW (x:Str):Str:=if x = "b = a" then "b" else lnS x
def stp (st:List Str) (x:Str):Option (List Str):=match lnD x with
 | .row=>some st
 | .loop=>if st.length=3 then none else some (st++[lnS x])
 | .cond=>if st.length=3 then none else some (st++[lnS x])
 | .els=>if st.getLast?=some "if" then some (st.dropLast++[("else" : Str)]) else none
 | .fin=>if st=[] then none else some st.dropLast
def due:List Str->List Str->Nat->Option Nat
 | [],st,i=>if st=[] then none else some i
 | x::xs,st,i=>match stp st x with
  | none=>some i
  | some st'=>due xs st' (i + 1)
inductive Tr where
 | row (i:Nat)
 | loop (i j:Nat) (rs:List Tr)
 | ch (i j:Nat) (m:Option Nat) (rs os:List Tr)
inductive Prs (ds:List Str):Nat->List Tr->Nat->Prop
 | stop {n:Nat} : (ds.length<=n\/∃ x,ds[n]?=some x/\(lnD x=.els\/lnD x=.fin))->Prs ds n [] n
 | row {n e:Nat} {x:Str} {ts:List Tr} : ds[n]?=some x->lnD x=.row->Prs ds (n + 1) ts e->Prs ds n (.row n::ts) e
 | loop {n b e:Nat} {x y:Str} {rs ts:List Tr} : ds[n]?=some x->lnD x=.loop->Prs ds (n + 1) rs b->ds[b]?=some y->lnD y=.fin->Prs ds (b + 1) ts e->Prs ds n (.loop n b rs::ts) e
 | if1 {n b e:Nat} {x y:Str} {rs ts:List Tr} : ds[n]?=some x->lnD x=.cond->Prs ds (n + 1) rs b->ds[b]?=some y->lnD y=.fin->Prs ds (b + 1) ts e->Prs ds n (.ch n b none rs []::ts) e
 | if2 {n b c e:Nat} {x y z:Str} {rs os ts:List Tr} : ds[n]?=some x->lnD x=.cond->Prs ds (n + 1) rs b->ds[b]?=some y->lnD y=.els->Prs ds (b + 1) os c->ds[c]?=some z->lnD z=.fin->Prs ds (c + 1) ts e->Prs ds n (.ch n c (some b) rs os::ts) e
inductive Dp:Nat->List Tr->Prop
 | nil {d:Nat} : Dp d []
 | row {d i:Nat} {ts:List Tr} : Dp d ts->Dp d (.row i::ts)
 | loop {d i j:Nat} {rs ts:List Tr} : Dp d rs->Dp (d + 1) ts->Dp (d + 1) (.loop i j rs::ts)
 | ch {d i j:Nat} {m:Option Nat} {rs os ts:List Tr} : Dp d rs->Dp d os->Dp (d + 1) ts->Dp (d + 1) (.ch i j m rs os::ts)
theorem aFe {x:Str} (h:lnD x=.loop):lnS x = "each" ∨ lnS x = "span":=by
 unfold lnD at h
 unfold lnS
 split at h
 ·cases h
 ·split at h
  ·cases h
  ·split at h
   ·cases h
   ·split at h
    ·cases h
    ·rename_i h1 h2 h3 h4
     rw [if_neg h1,if_neg h2,if_neg h3,if_neg (fun z=>h4 (by rcases z with z|z;exact .inl z;exact .inr (.inl z))),if_neg (fun z=>h4 (.inr (.inr z)))]
     split
     ·exact .inl rfl
     ·exact .inr rfl
theorem aKm {ds:List Str} : ∀ (k n:Nat) (st:List Str),ds.length - n<=k->st.length<=3->due (ds.drop n) st n=none->∃ ts e,Prs ds n ts e/\Dp (3 - st.length) ts/\n<=e/\due (ds.drop e) st e=none/\(ds.length<=e\/∃ x,ds[e]?=some x/\(lnD x=.els\/lnD x=.fin)):=by
 have ends:∀ {st:List Str} {n:Nat},st ≠ []->ds.length<=n->due (ds.drop n) st n=none->False:=fun {st n} hs hn h=>by
  rw [List.drop_of_length_le hn] at h
  have h':(if st=[] then none else some n)=none:=h
  rw [if_neg hs] at h'
  cases h'
 have next:∀ {st:List Str} {n:Nat} {x:Str},ds[n]?=some x->due (ds.drop n) st n=none->∃ st',stp st x=some st'/\due (ds.drop (n + 1)) st' (n + 1)=none:=fun {st n x} hx h=>by
  obtain⟨hn,e⟩:=List.getElem?_eq_some_iff.mp hx
  rw [List.drop_eq_getElem_cons hn,e] at h
  have h':(match stp st x with|none=>some n|some st'=>due (ds.drop (n + 1)) st' (n + 1))=none:=h
  cases hs:stp st x with
  | none=>rw [hs] at h';cases h'
  | some st'=>rw [hs] at h';exact⟨st',rfl,h'⟩
 intro k
 induction k with
 | zero =>
  intro n st hk hl h
  exact⟨[],n,.stop (.inl (by omega)),.nil,Nat.le_refl _,h,.inl (by omega)⟩
 | succ k ih =>
  intro n st hk hl h
  by_cases hn:ds.length<=n
  ·exact⟨[],n,.stop (.inl hn),.nil,Nat.le_refl _,h,.inl hn⟩
  have hx:ds[n]?=some (ds[n]'(by omega)):=List.getElem?_eq_getElem _
  generalize ds[n]'(by omega)=x at hx
  have close:∀ {b:Nat} {s:Str},st.length ≠ 3->due (ds.drop b) (st++[s]) b=none->(ds.length<=b\/∃ x,ds[b]?=some x/\(lnD x=.els\/lnD x=.fin)) →
    ∃ y,ds[b]?=some y/\((lnD y=.fin/\due (ds.drop (b + 1)) st (b + 1)=none)\/(lnD y=.els/\s = "if"/\due (ds.drop (b + 1)) (st++[("else" : Str)]) (b + 1)=none)):=fun {b s} h3 hd hb=>by
   rcases hb with hb|⟨y,hy,hyd⟩
   ·exact (ends (by simp) hb hd).elim
   ·refine⟨y,hy,?_⟩
    obtain⟨st',e1,e2⟩:=next hy hd
    unfold stp at e1
    rcases hyd with hyd|hyd
    ·rw [hyd] at e1
     have e1':(if (st++[s]).getLast?=some "if" then some ((st++[s]).dropLast++[("else" : Str)]) else none)=some st':=e1
     split at e1'
     ·rename_i hlast
      rw [List.getLast?_append] at hlast
      have hs:s = "if":=by simpa using hlast
      rw [List.dropLast_concat] at e1'
      cases e1'
      exact .inr ⟨hyd,hs,e2⟩
     ·cases e1'
    ·rw [hyd] at e1
     have e1':(if st++[s]=[] then none else some (st++[s]).dropLast)=some st':=e1
     rw [if_neg (by simp),List.dropLast_concat] at e1'
     cases e1'
     exact .inl ⟨hyd,e2⟩
  obtain⟨st',e1,e2⟩:=next hx h
  cases hd:lnD x with
  | els=>exact⟨[],n,.stop (.inr ⟨x,hx,.inl hd⟩),.nil,Nat.le_refl _,h,.inr ⟨x,hx,.inl hd⟩⟩
  | fin=>exact⟨[],n,.stop (.inr ⟨x,hx,.inr hd⟩),.nil,Nat.le_refl _,h,.inr ⟨x,hx,.inr hd⟩⟩
  | row =>
   unfold stp at e1
   rw [hd] at e1
   cases e1
   obtain⟨ts,e,p,dp,le,d2,hend⟩:=ih (n + 1) st (by omega) hl e2
   exact⟨_,e,.row hx hd p,.row dp,by omega,d2,hend⟩
  | loop =>
   unfold stp at e1
   rw [hd] at e1
   have e1':(if st.length=3 then none else some (st++[lnS x]))=some st':=e1
   split at e1'
   ·cases e1'
   ·rename_i h3
    cases e1'
    obtain⟨rs,b,p1,dp1,le1,d1,hb⟩:=ih (n + 1) _ (by omega) (by rw [List.length_append];simp;omega) e2
    obtain⟨y,hy,⟨hyd,d3⟩|⟨_,hs,_⟩⟩:=close h3 d1 hb
    ·obtain⟨ts,e,p2,dp2,le2,d4,hend⟩:=ih (b + 1) st (by omega) hl d3
     rw [List.length_append,List.length_singleton] at dp1
     refine⟨_,e,.loop hx hd p1 hy hyd p2,?_,by omega,d4,hend⟩
     obtain⟨d,hd'⟩ : ∃ d,3 - st.length=d + 1:=⟨2 - st.length,by omega⟩
     rw [hd'] at dp2 ⊢
     exact .loop (by rw [show d=3 - (st.length + 1) by omega];exact dp1) dp2
    ·rcases aFe hd with z|z <;> rw [z] at hs <;> exact absurd hs (by decide)
  | cond =>
   unfold stp at e1
   rw [hd] at e1
   have e1':(if st.length=3 then none else some (st++[lnS x]))=some st':=e1
   split at e1'
   ·cases e1'
   ·rename_i h3
    cases e1'
    obtain⟨rs,b,p1,dp1,le1,d1,hb⟩:=ih (n + 1) _ (by omega) (by rw [List.length_append];simp;omega) e2
    rw [List.length_append,List.length_singleton] at dp1
    obtain⟨d,hd'⟩ : ∃ d,3 - st.length=d + 1:=⟨2 - st.length,by omega⟩
    have dp1':Dp d rs:=by rw [show d=3 - (st.length + 1) by omega];exact dp1
    obtain⟨y,hy,⟨hyd,d3⟩|⟨hyd,_,d3⟩⟩:=close h3 d1 hb
    ·obtain⟨ts,e,p2,dp2,le2,d4,hend⟩:=ih (b + 1) st (by omega) hl d3
     refine⟨_,e,.if1 hx hd p1 hy hyd p2,?_,by omega,d4,hend⟩
     rw [hd'] at dp2 ⊢
     exact .ch dp1' .nil dp2
    ·obtain⟨os,c,p2,dp2,le2,d4,hc⟩:=ih (b + 1) _ (by omega) (by rw [List.length_append];simp;omega) d3
     rw [List.length_append,List.length_singleton] at dp2
     obtain⟨z,hz,⟨hzd,d5⟩|⟨_,hs,_⟩⟩:=close h3 d4 hc
     ·obtain⟨ts,e,p3,dp3,le3,d6,hend⟩:=ih (c + 1) st (by omega) hl d5
      refine⟨_,e,.if2 hx hd p1 hy hyd p2 hz hzd p3,?_,by omega,d6,hend⟩
      rw [hd'] at dp3 ⊢
      exact .ch dp1' (by rw [show d=3 - (st.length + 1) by omega];exact dp2) dp3
     ·exact absurd hs (by decide)
theorem aGg {ds:List Str} (h:due ds [] 0=none):∃ ts e,Prs ds 0 ts e/\Dp 3 ts:=by
 obtain⟨ts,e,p,dp,_⟩:=aKm (ds:=ds) ds.length 0 [] (by omega) (Nat.zero_le _) h
 exact⟨ts,e,p,dp⟩
def dA:List Str:=["A","B","C","I","J"]
def sigL:List Str:=["+","-","*","<","=","&"]
def bE:List Str:=["each","span","if"]
def fN:List (Str × List Str):=[("number",["A","=","NUMBER"]),("name",["A","=","B"]),("OP",["A","=","B","OP","C"]),("look",["A","=","look","I","PATH"]),("store",["store","I","PATH","B"]),("which",["A","=","which","I","PATH"]),("choose",["choose","I","PATH","B"]),("copy",["copy","I","J"]),("put",["A","=","put"]),("take",["take","I"]),("many",["A","=","many"]),("out",["out","A"]),("each",["each","I"]),("span",["span","I","B","C"]),("if",["if","A"]),("else",["else"]),("end",["end"])]
def iL (K:Frag) (H:Hp) (fas:List Addr) (fs:List (Str × List Str)):Prop:=fas.length=fs.length/\∀ (i:Nat) (fa:Addr) (f:Str × List Str),fas[i]?=some fa->fs[i]?=some f->∃ ga,SqT K H fa [.str f.1,.ref ga]/\SqT K H ga (f.2.map V.str)
end L2
namespace K31
open PySem L2
set_option hygiene false in
local macro_rules | `(tactic| walk_at "sc") => `(tactic| exact ⟨rfl, rfl, rfl, by decide +kernel, rfl, by decide +kernel, by decide +kernel⟩)
set_option hygiene false in
local macro_rules | `(tactic| walk_at "hr") => `(tactic| have hr := hr0.mono (Nat.le_succ _))
set_option hygiene false in
local macro_rules | `(tactic| walk_at "b1") => `(tactic| exact fun _ _ _ _ _ _ us hl => by obtain ⟨a0, rfl⟩ := ls1 hl; rfl)
set_option hygiene false in
local macro_rules | `(tactic| walk_at "b2") => `(tactic| exact fun _ _ _ _ _ _ us hl => by obtain ⟨a0, a1, rfl⟩ := ls2 hl; rfl)
set_option hygiene false in
local macro_rules | `(tactic| walk_at "b3") => `(tactic| exact fun _ _ _ _ _ _ us hl => by obtain ⟨a0, a1, a2, rfl⟩ := ls3 hl; rfl)
set_option hygiene false in
local macro_rules | `(tactic| walk_at "b4") => `(tactic| exact fun _ _ _ _ _ _ us hl => by obtain ⟨a0, a1, a2, a3, rfl⟩ := ls4 hl; rfl)
set_option hygiene false in
local macro_rules | `(tactic| walk_at "b5") => `(tactic| exact fun _ _ _ _ _ _ us hl => by obtain ⟨a0, a1, a2, a3, a4, rfl⟩ := ls5 hl; rfl)
set_option hygiene false in
local macro_rules | `(tactic| walk_at "b7") => `(tactic| exact fun _ _ _ _ _ _ us hl => by obtain ⟨a0, a1, a2, a3, a4, a5, a6, rfl⟩ := ls7 hl; rfl)
set_option hygiene false in
local macro_rules | `(tactic| walk_at "o") => `(tactic| first | exact Or.inl rfl | exact Or.inr rfl)
set_option hygiene false in
local macro_rules | `(tactic| w_cond $s:ident) => `(tactic| (obtain ⟨M, C, Ua, Ub, Uc, Ud, Ue, Uf, T_Row, T_Loop, T_Choice, T_Program, tRE, VI, T_NoProgram, T_TooMuch⟩ := Z; first | refine F.ok $s (fun vs H Q E h => ?_) (fun cdv A outer s0 H vs Q E hr0 h => ?_) | refine F.okE $s (fun vs H Q E h => ?_) (fun cdv A outer s0 H vs Q E hr0 h => ?_)))
def top (i : Nat) : Stmt := PySem.Challenge.pw_roomslaid_k31_loops_and_choices.main.body.getD i (.Pass ⟨0,0,0,0⟩)
def inClass:Stmt->Nat->Stmt
 | .ClassDef _ _ _ body _ _ _ _ _ _ _,j=>body.getD j (.Pass ⟨0,0,0,0⟩)
 | s,_=>s
theorem qQ {c A B:Prop} [Decidable c] (hc:c) (h:A):if c then A else B:=by rw [if_pos hc];exact h
theorem kQ {c A B:Prop} [Decidable c] (hc:¬ c) (h:B):if c then A else B:=by rw [if_neg hc];exact h
structure Blt (mg:Str->Option Value):Prop where
 range:mg "range" = none
 len:mg "len" = none
 isinstance:mg "isinstance" = none
 int:mg "int" = none
 bool:mg "bool" = none
 list:mg "list" = none
 all:mg "all" = none
 max:mg "max" = none
 min:mg "min" = none
 reversed:mg "reversed" = none
 tuple:mg "tuple" = none
 divmod:mg "divmod" = none
 str:mg "str" = none
 sum:mg "sum" = none
 zip:mg "zip" = none
 enumerate:mg "enumerate" = none
 dict:mg "dict" = none
 ValueError:mg "ValueError" = none
 repr:mg "repr" = none
structure Df (K:Frag) (mg:Str->Option Value) (x:Str) (f:Addr) (fd:FuncData) (ps:List Str):Prop where
 m:mg x=some (.ref f)
 k:keepIn K (.ref f)=true
 b:Binds K fd ps []
def St3 (H:Hp) (p:Addr):Prop:=∃ a b c:Int,H p=some (.lst [.int a,.int b,.int c])
def Drawn (p:Addr) (H H':Hp):Prop:=St3 H' p/\∀ b o,b ≠ p->H b=some o->H' b=some o
theorem Drawn.trans {p:Addr} {H H1 H2:Hp} (a:Drawn p H H1) (b:Drawn p H1 H2):Drawn p H H2:=⟨b.1,fun c o n h=>b.2 c o n (a.2 c o n h)⟩
theorem Drawn.refl {p:Addr} {H:Hp} (h:St3 H p):Drawn p H H:=⟨h,fun _ _ _ q=>q⟩
theorem Drawn.new {p l:Addr} {H H1:Hp} {o:HO} (a:Drawn p H H1) (hl:H1 l=none):Drawn p H (upd H1 l o):=by
 obtain⟨⟨x,y,z,e⟩,h⟩:=a
 refine⟨⟨x,y,z,by rw [jS (jL e hl)];exact e⟩,fun b u n q=>?_⟩
 have:=h b u n q
 rw [jS (jL this hl)];exact this
theorem Drawn.same {p:Addr} {H H':Hp} (a:Drawn p H H') (hp:H p=none):jI H H':=fun b o h=>a.2 b o (jL h hp) h
theorem vX {H:Hp} {p:Addr} (h:H p=none) (o:HO):jI H (upd H p o):=fun b u q=>by rw [jS (jL q h)];exact q
theorem tG (ns:List Int) {i:Int} (h0 : 0<=i) (h1:i < ns.length):∃ v:Int,atI (ns.map V.int) i=some (.int v):=by
 have hk:i.toNat < ns.length:=by omega
 have e:i=((i.toNat:Nat):Int):=by omega
 have q:atI (ns.map V.int) ((i.toNat:Nat):Int)=some (.int ns[i.toNat]):=bA (by rw [List.getElem?_map,List.getElem?_eq_getElem hk] <;> rfl)
 rw [← e] at q
 exact⟨_,q⟩
theorem small {n:Nat} (h:n<=1000):n<=sizeLine:=Nat.le_of_lt (qB h)
def aAs (K:Frag):Sp:=fun vs H Q _=>∃ (a:Addr) (ns:List Int),vs=[.ref a]/\SqL K H a (ns.map V.int)/\ns.length<=63/\∀ H',Q (.bl true) H'
theorem jI.tup {K:Frag} {H H':Hp} {a:Addr} {xs:List V} (e:jI H H') (h:SqT K H a xs):SqT K H' a xs:=by
 rcases h with (h|⟨o,h⟩)|h
 ·exact .inl (.inl (e _ _ h))
 ·exact .inl (.inr ⟨o,e _ _ h⟩)
 ·exact .inr h
theorem Drawn.tup {K:Frag} {p:Addr} {H H':Hp} {a:Addr} {xs:List V} (hs:St3 H p) (e:Drawn p H H') (h:SqT K H a xs):SqT K H' a xs:=by
 obtain⟨x,y,z,hp⟩:=hs
 rcases h with (h|⟨o,h⟩)|h
 ·exact .inl (.inl (e.2 _ _ (gI h hp (by intro z;cases z)) h))
 ·exact .inl (.inr ⟨o,e.2 _ _ (gI h hp (by intro z;cases z)) h⟩)
 ·exact .inr h
structure lJ (K:Frag) (mg:Str->Option Value) (x:Str) (C fI:Addr) (as:List Str):Prop where
 m:mg x=some (.ref C)
 cl:Cls K C
 ma:Mk K C fI
 na:∀ a ∈ as,yV K C a
structure DfM (K:Frag) (C:Addr) (m:Str) (f:Addr) (fd:FuncData) (ps:List Str):Prop where
 me:Meth K C m f
 b:Binds K fd ps []
structure DfI (K:Frag) (fd:FuncData) (ps:List Str):Prop where
 b:Binds K fd ps []
structure TX (K:Frag) (mg:Str->Option Value) (x:Str) (C R fI:Addr) (as:List Str):Prop where
 m:mg x=some (.ref C)
 c:cR K C R fI
 x:XCls K C (.ref R::VB)
 n:∀ a ∈ as,findIn K (.ref C) a=some none
structure TXB (K:Frag) (mg:Str->Option Value) (C fI:Addr):Prop where
 m:mg "RoomError" = some (.ref C)
 i:aIr K C fI
 x:XCls K C VB
def ownL:List Str:=["shape","num","row","pick","tag","room","things","part","tags","put","take","many","look","which","store","choose","copy","each","span","if","else","end","out"]
abbrev zZ:Str:="abcdefghijklmnopqrstuvwxyz"
abbrev aC:Str:="0123456789"
structure Cst (K:Frag) (mg:Str->Option Value) (t1 t2 t3 t4 t5 t6 t7 t8 t9 t10 t11 t12 t13 t14 t15 t16 t17:Tok) (ts tNa tSi tBe tFo:Addr):Prop where
 SMALL_LETTERS:mg "SMALL_LETTERS" = some (.str "abcdefghijklmnopqrstuvwxyz" t1)
 FIGURES:mg "FIGURES" = some (.str "0123456789" t2)
 MOST_LETTERS:mg "MOST_LETTERS" = some (.int 6 t3)
 MOST_FIGURES:mg "MOST_FIGURES" = some (.int 10 t4)
 MOST_SHAPES:mg "MOST_SHAPES" = some (.int 8 t5)
 MOST_FIELDS:mg "MOST_FIELDS" = some (.int 6 t6)
 MOST_CELLS:mg "MOST_CELLS" = some (.int 64 t7)
 MOST_UNITS:mg "MOST_UNITS" = some (.int 40 t8)
 MOST_DEPTH:mg "MOST_DEPTH" = some (.int 4 t9)
 MOST_WIDTH:mg "MOST_WIDTH" = some (.int 4 t10)
 MOST_COUNT:mg "MOST_COUNT" = some (.int 6 t11)
 LEAST_PICKED:mg "LEAST_PICKED" = some (.int 2 t12)
 MOST_PICKED:mg "MOST_PICKED" = some (.int 4 t13)
 WORD_CELLS:mg "WORD_CELLS" = some (.int 4 t14)
 MOST_LINES:mg "MOST_LINES" = some (.int 60 t15)
 MOST_NAMES:mg "MOST_NAMES" = some (.int 12 t16)
 MOST_BEGUN:mg "MOST_BEGUN" = some (.int 3 t17)
 NAMES:mg "NAMES" = some (.ref tNa)
 nams:∀ H,SqT K H tNa (dA.map V.str)
 SIGNS:mg "SIGNS" = some (.ref tSi)
 sgns:∀ H,SqT K H tSi (sigL.map V.str)
 BEGINNINGS:mg "BEGINNINGS" = some (.ref tBe)
 begs:∀ H,SqT K H tBe (bE.map V.str)
 FORMS:mg "FORMS" = some (.ref tFo)
 frms:∀ H,∃ fas:List Addr,SqT K H tFo (fas.map V.ref)/\iL K H fas fN
 OWN_WORDS:mg "OWN_WORDS" = some (.ref ts)
 words:∀ H,SqT K H ts (ownL.map V.str)
def tyA (K:Frag) (x:V) (H:Hp) (t:String):Prop:=tyN K x H t\/(t = "dict"/\∃ p kvs,x=.ref p/\H p=some (.dK kvs))
theorem jI.tyA {K:Frag} {x:V} {H H':Hp} {t:String} (g:jI H H') (h:tyA K x H t):tyA K x H' t:=by
 rcases h with h|⟨e,p,kvs,ex,h⟩
 ·left
  cases x with
  | ref p =>
   rcases h with⟨e,xs,h⟩|⟨e,xs,h⟩
   ·exact .inl ⟨e,xs,g.seq h⟩
   ·exact .inr ⟨e,xs,jI.tup g h⟩
  | _=>exact h
 ·exact .inr ⟨e,p,kvs,ex,g _ _ h⟩
def within (x:Str) (most:Int):Bool:=decide (1<=(x.length:Int)) && decide ((x.length:Int)<=most)
def aAp (x signs:Str):Bool:=x.cps.toList.all fun c=>decide (c ∈ signs.cps.toList)
def kU (x:Str):Bool:=within x 6 && aAp x zZ && !decide (x ∈ ownL)
def sC (x:Str):Bool:=decide (x.cps.toList[0]?=some 48) && decide (1 < (x.length:Int))
def lG (x:Str):Option Int:=if (within x 10 && aAp x aC && !sC x)=true then some ((PySem.NumText.digitsVal x.cps.toList:Nat):Int) else none
def optV:Option Int->V
 | none=>.non
 | some n=>.int n
def zD (o:Option Int) (lo hi:Int):Option Int:=match o with
 | none=>none
 | some n=>if lo<=n/\n<=hi then some n else none
def iT (K:Frag):Sp:=fun vs H Q _=>∃ (x:V) (signs:Str) (most:Int),vs=[x,.str signs,.int most] ∧
 ((∃ z:Str,x=.str z/\z.length<=1000/\∀ H',jI H H'->Q (.bl (within z most && aAp z signs)) H')\/(∃ t,tyA K x H t/\t ≠ "str"/\Q (.bl false) H))
def zC (K:Frag):Sp:=fun vs H Q _=>∃ x:V,vs=[x] ∧
 ((∃ z:Str,x=.str z/\z.length<=1000/\∀ H',jI H H'->Q (.bl (kU z)) H')\/(∃ t,tyA K x H t/\t ≠ "str"/\∀ H',jI H H'->Q (.bl false) H'))
def aJ (K:Frag):Sp:=fun vs H Q _=>∃ (x:V) (lo hi:Int),vs=[x,.int lo,.int hi] ∧
 ((∃ z:Str,x=.str z/\z.length<=1000/\∀ H',jI H H'->Q (optV (zD (lG z) lo hi)) H')\/(∃ t,tyA K x H t/\t ≠ "str"/\∀ H',jI H H'->Q .non H'))
theorem kR (x:Str) (ys:List Str):inV (.str x) (ys.map V.str)=decide (x ∈ ys):=by
 rw [Bool.eq_iff_iff]
 simp only [inV,List.any_map,List.any_eq_true,Function.comp,decide_eq_true_eq,eqV,beq_iff_eq]
 constructor
 ·rintro ⟨y,hy,rfl⟩;exact hy
 ·intro h;exact⟨x,h,rfl⟩
theorem kW (ys:List Str):(ys.map V.str).all cC=true:=by
 rw [List.all_eq_true]
 intro x hx
 obtain⟨n,_,rfl⟩:=List.mem_map.mp hx
 rfl
theorem oN:zZ.cps.toList=List.range' 97 26:=by decide +kernel
theorem pT:aC.cps.toList=List.range' 48 10:=by decide +kernel
theorem tM (c:Nat):c ∈ zZ.cps.toList ↔ 97<=c/\c<=122:=by
 rw [oN,List.mem_range'_1];omega
theorem tR (c:Nat):c ∈ aC.cps.toList ↔ 48<=c/\c<=57:=by
 rw [pT,List.mem_range'_1];omega
theorem aEx (f:Nat->Bool) (l:List Nat) (i:Nat) {c:Nat} (h:l[i]?=some c):((l.take (i + 1)).map f)=(l.take i).map f++[f c]:=by
 rw [List.take_add_one,h,List.map_append] <;> rfl
theorem all_map (f:Nat->Bool) (l:List Nat):(l.map f).all id=l.all f:=by
 rw [List.all_map];rfl
theorem isa3 {t:String} (h:t ≠ "str"):isa t "str" = false:=by
 unfold isa
 simp [h]
theorem is_0 {c:Nat} : decide (V.str ⟨#[c]⟩=V.str (Str.ofString "0"))=decide (c=48):=by
 have e:(Str.ofString "0")=⟨#[48]⟩:=by decide +kernel
 rw [e,Bool.eq_iff_iff,decide_eq_true_eq,decide_eq_true_eq]
 constructor
 ·intro h;injection h with h;injection h with h;simpa using h
 ·rintro rfl;rfl
theorem jI.st3 {p:Addr} {H H':Hp} (g:jI H H') (h:St3 H p):St3 H' p:=by
 obtain⟨x,y,z,e⟩:=h
 exact⟨x,y,z,g _ _ e⟩
theorem Drawn.keep {p:Addr} {H H1 H2:Hp} (d:Drawn p H H1) (g:jI H1 H2):Drawn p H H2:=⟨jI.st3 g d.1,fun b o n e=>g _ _ (d.2 b o n e)⟩
theorem len_list (z:Str):z.cps.toList.length=z.length:=Array.length_toList
theorem iK (p:Str):Str.empty++p=p:=Str.ext' (by rw [Str.cps_append];simp [Str.empty])
theorem aFd {a:Nat} (h:a<=5000):a<=sizeLine:=by rw [sizeLine_eq];omega
def lP:Sp:=fun vs H Q _=>∃ (p:Str) (x:V) (y:Str),vs=[.str p,x]/\uE x=some y/\p.length<=1000/\y.length<=1000/\Q (.str (pj p y)) H
def aFp:Sp:=fun vs H Q _=>∃ (p:Addr) (m:Int),vs=[.ref p,.int m]/\0 < m/\m < 1073741824/\St3 H p/\∀ (v:Nat) (H':Hp),(v:Int) < m->Drawn p H H'->Q (.int v) H'
def aIi:Sp:=fun vs H Q _=>∃ c:Int,vs=[.int c]/\∀ (p:Addr) (H':Hp),H p=none->Drawn p H H'->Q (.ref p) H'
structure Wds (K:Frag) (H:Hp) (a:Addr) (ws:List Str):Prop where
 l:SqL K H a (ws.map V.str)
 s:∀ w ∈ ws,w.length<=1000
 n:ws.length<=1000
theorem Wds.same {K:Frag} {H H':Hp} {a:Addr} {ws:List Str} (h:Wds K H a ws) (g:jI H H'):Wds K H' a ws:=⟨g.seq h.l,h.s,h.n⟩
def uC:List Str->Bool
 | [x,y]=>decide (x=Str.ofString "shape") && kU y
 | _=>false
def aIo (K:Frag):Sp:=fun vs H Q _=>∃ (a:Addr) (ws:List Str),vs=[.ref a]/\Wds K H a ws/\∀ H',jI H H'->Q (.bl (uC ws)) H'
def aEe (C:Addr) (n:Str):Sp:=fun vs H Q _=>∃ (a dx:Addr) (v:V) (H1:Hp),vs=[.ref a,v]/\H a=some (.ins C dx [])/\jI H1 H/\H1 a=none/\∀ H',jI H1 H'->H' a=some (.ins C dx [(n,v)])->Q .non H'
def spI2 (C:Addr) (n m:Str):Sp:=fun vs H Q _=>∃ (a dx:Addr) (v u:V) (H1:Hp),vs=[.ref a,v,u]/\H a=some (.ins C dx [])/\jI H1 H/\H1 a=none/\∀ H',jI H1 H'->H' a=some (.ins C dx [(n,v),(m,u)])->Q .non H'
def spIT (K:Frag) (C:Addr) (n:Str):Sp:=fun vs H Q _=>∃ (a dx l:Addr) (ys:List V) (H1:Hp),vs=[.ref a,.ref l]/\H a=some (.ins C dx [])/\jI H1 H/\H1 a=none/\SqL K H1 l ys/\∀ t H',jI H1 H'->H' a=some (.ins C dx [(n,.ref t)])->SqT K H' t ys->Q .non H'
def aCw (c:Cl5) (K:Frag):Sp:=fun vs H Q _=>∃ (a dx fl:Addr) (nm:Str) (ps:List Addr) (fs:List (Str × Kd)) (sa:List Addr) (H1:Hp),vs=[.ref a,.str nm,.ref fl]/\H a=some (.ins c.shape dx [])/\jI H1 H/\H1 a=none/\(SqL K H1 fl (ps.map V.ref)\/SqT K H1 fl (ps.map V.ref))/\FO c K H1 sa ps fs/\fs.length<=100 ∧
 ∀ t ps' H',jI H1 H'->H' a=some (.ins c.shape dx [("name",.str nm),("fields",.ref t)])->SqT K H' t (ps'.map V.ref)->FO c K H' sa ps' fs->Q .non H'
def spGr (c:Cl5) (K:Frag) (r:Nat):Sp:=fun vs H Q _=>∃ (a:Addr) (is:List Nat) (sa:List Addr) (S:List Shp),vs=[.ref a]/\(Kd.pick is).Rk r/\(Kd.pick is).Fit S.length/\KO c K H sa a (.pick is)/\SW c K H sa S/\Good S/\∀ H',jI H H'->Q (.int ((xD (is.map fun i=>(tabs S).sz.getD i 0):Nat):Int)) H'
def aIl (c:Cl5) (K:Frag) (r:Nat):Sp:=fun vs H Q _=>∃ (a:Addr) (i:Nat) (sa:List Addr) (S:List Shp),vs=[.ref a]/\sa[i]?=some a/\2 * i + 2<=r/\8 * r<=200/\SW c K H sa S/\Good S/\∀ l H',jI H H'->H l=none->UL K H' l (un (.nest i) S Str.empty)->Q (.ref l) H'
theorem FO.insD {c:Cl5} {K:Frag} {H:Hp} {sa ps:List Addr} {fs:List (Str × Kd)} {a:Addr} {C dx:Addr} {x:V} {o:HO} (h:FO c K H sa ps fs) (ha:H a=some (.ins C dx [("name",x)])):FO c K (upd H a o) sa ps fs:=by
 have n:∀ {b C' dx' fs'},H b=some (.ins C' dx' fs')->fs'.head?.map (·.1) ≠ some ("name" : Str)->upd H a o b=some (.ins C' dx' fs'):=fun hb z=>by
  rw [jS (fun e=>z (by rw [e,ha] at hb;cases hb;rfl))];exact hb
 have t:∀ {b xs},SqT K H b xs->SqT K (upd H a o) b xs:=fun h=>by
  rcases h with (h|⟨o',h⟩)|h
  ·exact .inl (.inl (by rw [jS (gI h ha (by intro z;cases z))];exact h))
  ·exact .inl (.inr ⟨o',by rw [jS (gI h ha (by intro z;cases z))];exact h⟩)
  ·exact .inr h
 have kk:∀ {b kd},KO c K H sa b kd->KO c K (upd H a o) sa b kd:=fun h=>by
  induction h with
  | num h=>exact .num (n h (by show some (Str.ofString "width") ≠ some (Str.ofString "name");decide))
  | nest e h=>exact .nest e (n h (by show some (Str.ofString "shape") ≠ some (Str.ofString "name");decide))
  | many h _ ih=>exact .many (n h (by show some (Str.ofString "count") ≠ some (Str.ofString "name");decide)) ih
  | pick h h2 l e=>exact .pick (n h (by show some (Str.ofString "shapes") ≠ some (Str.ofString "name");decide)) (t h2) l e
 induction h with
 | nil=>exact .nil
 | cons h1 h2 _ ih=>exact .cons (t h1) (kk h2) ih
def NOk (nm:Nat->Str) (n:Nat):Prop:=∀ i,i < n->kU (nm i)=true
theorem xO {x:Str} (h:kU x=true) : 1<=x.length/\x.length<=6:=by
 unfold kU within at h
 simp only [Bool.and_eq_true,decide_eq_true_eq] at h
 omega
theorem aM {x y:Str} (h:kU x=true) (hy:y ∈ ownL):x ≠ y:=by
 rintro rfl
 unfold kU at h
 simp only [Bool.and_eq_true,Bool.not_eq_true',decide_eq_false_iff_not] at h
 exact h.2 hy
theorem dig {w:Nat} (h:w<=9):lG (Str.ofString (toString (w:Int)))=some (w:Int)/\(Str.ofString (toString (w:Int))).length=1/\kU (Str.ofString (toString (w:Int)))=false/\PySem.intText? (Str.ofString (toString (w:Int)))=some (w:Int):=by
 have:∀ m:Fin 10,lG (Str.ofString (toString ((m.val:Nat):Int)))=some ((m.val:Nat):Int)/\(Str.ofString (toString ((m.val:Nat):Int))).length=1/\kU (Str.ofString (toString ((m.val:Nat):Int)))=false/\PySem.intText? (Str.ofString (toString ((m.val:Nat):Int)))=some ((m.val:Nat):Int):=by decide +kernel
 exact this ⟨w,by omega⟩
theorem lS:kU (Str.ofString "num")=false/\kU (Str.ofString "row")=false/\kU (Str.ofString "pick")=false:=by decide +kernel
def Kd.named (nm:Nat->Str):Kd->List Str
 | .num _=>[]
 | .nest i=>[nm i]
 | .many _ k=>Kd.named nm k
 | .pick is=>is.map nm
theorem pO {nm:Nat->Str} {n:Nat} (hn:NOk nm n):∀ {k:Kd},k.Fit n->(k.words nm).filter kU=Kd.named nm k:=by
 have hnum:∀ w,w<=9->((Kd.num w).words nm).filter kU=[]:=fun w hw=>by
  show [Str.ofString "num",Str.ofString (toString (w:Int))].filter kU=[]
  rw [List.filter_cons_of_neg (by rw [lS.1];decide),List.filter_cons_of_neg (by rw [(dig hw).2.2.1];decide)];rfl
 have hnest:∀ i,i < n->((Kd.nest i).words nm).filter kU=[nm i]:=fun i hi=>by
  show [nm i].filter kU=_
  rw [List.filter_cons_of_pos (hn i hi)];rfl
 intro k hk
 cases k with
 | num w=>exact hnum w (by have:=hk.2;omega)
 | nest i=>exact hnest i hk
 | many m k =>
  show (Str.ofString "row" :: Str.ofString (toString (m:Int))::k.words nm).filter kU=Kd.named nm k
  rw [List.filter_cons_of_neg (by rw [lS.2.1];decide),List.filter_cons_of_neg (by rw [(dig (by have:=hk.2.1;omega)).2.2.1];decide)]
  rcases hk.2.2 with⟨w,rfl,hw⟩|⟨i,rfl,hi⟩
  ·exact hnum w (by omega)
  ·exact hnest i hi
 | pick is =>
  show (Str.ofString "pick" :: is.map nm).filter kU=is.map nm
  rw [List.filter_cons_of_neg (by rw [lS.2.2];decide),List.filter_eq_self.mpr]
  intro x hx
  obtain⟨i,hi,rfl⟩:=List.mem_map.mp hx
  exact hn i (hk.2.2.2 i hi)
theorem oF {nm:Nat->Str} {n:Nat} (hn:NOk nm n):∀ {k:Kd},k.Fit n->(∀ w ∈ k.words nm,w.length<=6)/\(k.words nm).length<=5:=by
 have hnum:∀ w,w<=9->∀ x ∈ (Kd.num w).words nm,x.length<=6:=fun w hw x hx=>by
  simp only [Kd.words,List.mem_cons,List.not_mem_nil,or_false] at hx
  rcases hx with rfl|rfl
  ·decide
  ·rw [(dig hw).2.1];decide
 have hnest:∀ i,i < n->∀ x ∈ (Kd.nest i).words nm,x.length<=6:=fun i hi x hx=>by
  rw [List.mem_singleton.mp (show x ∈ [nm i] from hx)];exact (xO (hn i hi)).2
 intro k hk
 cases k with
 | num w=>exact⟨hnum w (by have:=hk.2;omega),by show 2<=5;decide⟩
 | nest i=>exact⟨hnest i hk,by show 1<=5;decide⟩
 | many m k =>
  have:(∀ x ∈ k.words nm,x.length<=6)/\(k.words nm).length<=2:=by
   rcases hk.2.2 with⟨w,rfl,hw⟩|⟨i,rfl,hi⟩
   ·exact⟨hnum w (by omega),by show 2<=2;decide⟩
   ·exact⟨hnest i hi,by show 1<=2;decide⟩
  refine⟨fun x hx=>?_,by show (k.words nm).length + 1 + 1<=5;omega⟩
  simp only [Kd.words,List.mem_cons] at hx
  rcases hx with rfl|rfl|hx
  ·decide
  ·rw [(dig (by have:=hk.2.1;omega)).2.1];decide
  ·exact this.1 x hx
 | pick is =>
  refine⟨fun x hx=>?_,by show (is.map nm).length + 1<=5;rw [List.length_map];have:=hk.2.1;omega⟩
  simp only [Kd.words,List.mem_cons,List.mem_map] at hx
  rcases hx with rfl|⟨i,hi,rfl⟩
  ·decide
  ·exact (xO (hn i (hk.2.2.2 i hi))).2
def spSg (K:Frag):Sp:=fun vs H Q _=>∃ (a:Addr) (ws:List Str),vs=[.ref a]/\SqL K H a (ws.map V.str)/\((∃ w:Nat,1<=w/\w<=4/\ws=[Str.ofString "num",Str.ofString (toString (w:Int))])\/∃ x,kU x=true/\ws=[x])/\∀ H',jI H H'->Q (.bl true) H'
def spKd (K:Frag):Sp:=fun vs H Q _=>∃ (a:Addr) (nm:Nat->Str) (n:Nat) (kd:Kd),vs=[.ref a]/\SqL K H a ((kd.words nm).map V.str)/\kd.Fit n/\NOk nm n/\∀ H',jI H H'->Q (.bl true) H'
def spFl (K:Frag):Sp:=fun vs H Q _=>∃ (a:Addr) (nm:Nat->Str) (n:Nat) (kd:Kd) (f:Str),vs=[.ref a]/\SqL K H a ((f::kd.words nm).map V.str)/\kU f=true/\kd.Fit n/\NOk nm n/\∀ H',jI H H'->Q (.bl true) H'
def aAo (K:Frag):Sp:=fun vs H Q _=>∃ (a:Addr) (nm:Nat->Str) (n:Nat) (kd:Kd) (f:Str),vs=[.ref a]/\SqL K H a ((f::kd.words nm).map V.str)/\kd.Fit n/\NOk nm n/\∀ l H',jI H H'->H l=none->H' l=some (.lst ((Kd.named nm kd).map V.str))->Q (.ref l) H'
theorem oH {f:Str->Bool} {l:List Str} {i:Nat} {a:Str} (h:l[i]?=some a):(l.take (i + 1)).filter f=(l.take i).filter f++(if f a=true then [a] else []):=by
 rw [List.take_add_one,h,List.filter_append]
 congr 1
 show [a].filter f=_
 by_cases z:f a=true
 ·rw [if_pos z,List.filter_cons_of_pos z];rfl
 ·rw [if_neg z,List.filter_cons_of_neg z];rfl
theorem qR {ns:List Str} {i:Nat} {x:V} (h:(ns.map V.str)[i]?=some x):∃ c,ns[i]?=some c/\x=.str c:=by
 rw [List.getElem?_map] at h
 cases e:ns[i]? with
 | none=>rw [e] at h;cases h
 | some c=>rw [e] at h;cases h;exact⟨c,rfl,rfl⟩
structure Wel (S:List Shp):Prop where
 good:Good S
 nm:∀ s ∈ S,kU s.1=true
 fnm:∀ s ∈ S,∀ f ∈ s.2,kU f.1=true
 nd:(S.map (·.1)).Nodup
 fnd:∀ s ∈ S,(s.2.map (·.1)).Nodup
 len:S.length<=5
 bd:∀ (i:Nat) (s:Shp),S[i]?=some s->(tabs S).sz.getD i 0<=64/\(un (.nest i) S Str.empty).length<=40/\(tabs S).dp.getD i 0<=4/\s.2.length<=5
theorem yN {α : Type} {S:List α} {x y : α} {i:Nat} (h:(S++[x])[i]?=some y):S[i]?=some y\/(i=S.length/\y=x):=by
 by_cases hi:i < S.length
 ·rw [List.getElem?_append_left hi] at h;exact .inl h
 ·rw [List.getElem?_append_right (by omega)] at h
  have:i - S.length < 1:=(List.getElem?_eq_some_iff.mp h).1
  have e:i=S.length:=by omega
  subst e
  rw [Nat.sub_self] at h
  cases h
  exact .inr ⟨rfl,rfl⟩
theorem Good.snoc {S1:List Shp} {s:Shp} (h:Good S1) (h1:s.2 ≠ []) (h2:s.2.length<=6) (h3:∀ f ∈ s.2,f.2.Fit S1.length/\1<=f.1.length/\f.1.length<=6) (h4:(s.2.map fun f=>f.2.size (tabs S1).sz).sum<=1000):Good (S1++[s]):=by
 refine⟨fun i t e=>?_,fun i t e=>?_,fun i t e=>?_,fun i=>?_⟩
 ·rcases yN e with e|⟨_,rfl⟩
  ·exact h.ne i t e
  ·exact h1
 ·rcases yN e with e|⟨_,rfl⟩
  ·exact h.few i t e
  ·exact h2
 ·rcases yN e with e|⟨rfl,rfl⟩
  ·exact h.fit i t e
  ·exact h3
 ·by_cases hi:i < S1.length
  ·rw [(iH hi).1];exact h.sz i
  ·by_cases e:i=S1.length
   ·subst e;rw [(eL S1 s []).1];exact h4
   ·have hl:=(cJ (S1++[s])).1
    rw [List.length_append,List.length_singleton] at hl
    rw [List.getD_eq_getElem?_getD,List.getElem?_eq_none (by omega)];exact Nat.zero_le _
theorem Good.pre {S1 S2:List Shp} (h:Good (S1++S2)):Good S1:=by
 refine⟨fun i t e=>h.ne i t ?_,fun i t e=>h.few i t ?_,fun i t e=>h.fit i t ?_,fun i=>?_⟩
 ·rw [List.getElem?_append_left (List.getElem?_eq_some_iff.mp e).1];exact e
 ·rw [List.getElem?_append_left (List.getElem?_eq_some_iff.mp e).1];exact e
 ·rw [List.getElem?_append_left (List.getElem?_eq_some_iff.mp e).1];exact e
 ·by_cases hi:i < S1.length
  ·rw [← (iH (R:=S2) hi).1];exact h.sz i
  ·have hl:=(cJ S1).1
   rw [List.getD_eq_getElem?_getD,List.getElem?_eq_none (by omega)];exact Nat.zero_le _
def Smal (S:List Shp) (i:Nat):Prop:=(tabs S).sz.getD i 0<=64/\(un (.nest i) S Str.empty).length<=40/\(tabs S).dp.getD i 0<=4
theorem Wel.pre {S S1 S2:List Shp} {s:Shp} {f1 f2:List (Str × Kd)} (h:Wel S) (e:S=S1++s::S2) (ef:s.2=f1++f2) (hne:f1 ≠ []):Good (S1++[(s.1,f1)])/\Smal (S1++[(s.1,f1)]) S1.length/\f1.length<=5:=by
 subst e
 have hi:(S1++s::S2)[S1.length]?=some s:=by rw [List.getElem?_append_right (Nat.le_refl _),Nat.sub_self];rfl
 obtain⟨b1,b2,b3,b4⟩:=h.bd _ _ hi
 obtain⟨t1,t2,t3⟩:=eL S1 s S2
 obtain⟨u1,u2,u3⟩:=eL S1 (s.1,f1) []
 rw [ef,List.length_append] at b4
 have z1:(f1.map fun f=>f.2.size (tabs S1).sz).sum<=64:=by
  rw [t1,ef,List.map_append,List.sum_append] at b1;omega
 have hfit:=h.good.fit _ _ hi
 refine⟨Good.snoc (Good.pre h.good) hne (by show f1.length<=6;omega) (fun f hf=>hfit f (by rw [ef];exact List.mem_append_left _ hf)) (by show (f1.map _).sum<=1000;omega),⟨by rw [u1];exact z1,?_,?_⟩,by omega⟩
 ·have e1:un (.nest S1.length) (S1++[(s.1,f1)]) Str.empty=_:=u3 Str.empty
  have e2:un (.nest S1.length) (S1++s::S2) Str.empty=_:=t3 Str.empty
  rw [e2,ef,List.flatMap_append,List.length_append] at b2
  rw [e1]
  show (f1.flatMap _).length<=40
  omega
 ·rw [u2]
  rw [t2,ef,List.map_append] at b3
  have:xD (f1.map fun f=>f.2.depth (tabs S1).dp)<=xD ((f1.map fun f=>f.2.depth (tabs S1).dp)++(f2.map fun f=>f.2.depth (tabs S1).dp)):=pD fun x hx=>iJ (List.mem_append_left _ hx)
  show 1 + xD (f1.map fun f=>f.2.depth (tabs S1).dp)<=4
  omega
theorem vZ {S:List Shp} {i:Nat} {s:Shp} (h:S[i]?=some s):kN S i=s.1:=by
 unfold kN;rw [List.getD_eq_getElem?_getD,h];rfl
theorem aEj {S1 S2:List Shp} {i:Nat} (h:i < S1.length):kN (S1++S2) i=kN S1 i:=by
 have e:S1[i]?=some S1[i]:=List.getElem?_eq_getElem h
 rw [vZ e,vZ (by rw [List.getElem?_append_left h];exact e)]
theorem gE {nm nm':Nat->Str} {n:Nat} (h:∀ i,i < n->nm i=nm' i):∀ {k:Kd},k.Below n->k.words nm=k.words nm'
 | .num _,_=>rfl
 | .nest i,hk=>by show [nm i]=[nm' i];rw [h i hk]
 | .many m k,hk=>by show _::_::k.words nm=_::_::k.words nm';rw [gE h (k:=k) hk]
 | .pick is,hk=>by
  show _::is.map nm=_::is.map nm'
  rw [List.map_congr_left fun i hi=>h i (hk i hi)]
theorem aDi {S:List Shp} (h:∀ s ∈ S,kU s.1=true):NOk (kN S) S.length:=fun i hi=>by
 have e:S[i]?=some S[i]:=List.getElem?_eq_getElem hi
 rw [vZ e];exact h _ (List.getElem_mem hi)
theorem aFz {S:List Shp} (h:(S.map (·.1)).Nodup) {i j:Nat} (hi:i < S.length) (hj:j < S.length) (e:kN S i=kN S j):i=j:=by
 have ei:S[i]?=some S[i]:=List.getElem?_eq_getElem hi
 have ej:S[j]?=some S[j]:=List.getElem?_eq_getElem hj
 rw [vZ ei,vZ ej] at e
 have hp:=List.pairwise_iff_getElem.mp h
 rcases Nat.lt_trichotomy i j with hl|hl|hl
 ·exact absurd (by rw [List.getElem_map,List.getElem_map];exact e) (hp i j (by rw [List.length_map];exact hi) (by rw [List.length_map];exact hj) hl)
 ·exact hl
 ·exact absurd (by rw [List.getElem_map,List.getElem_map];exact e.symm) (hp j i (by rw [List.length_map];exact hj) (by rw [List.length_map];exact hi) hl)
theorem tD {S:List Shp} (h:(S.map (·.1)).Nodup):∀ {k:Kd},k.Fit S.length->(Kd.named (kN S) k).Nodup/\(Kd.named (kN S) k).length<=4/\∀ x ∈ Kd.named (kN S) k,∃ i,i < S.length/\x=kN S i:=by
 have hs:∀ {k:Kd},(∃ w,k=.num w/\1<=w/\w<=4)\/(∃ i,k=.nest i/\i < S.length)->(Kd.named (kN S) k).Nodup/\(Kd.named (kN S) k).length<=4/\∀ x ∈ Kd.named (kN S) k,∃ i,i < S.length/\x=kN S i:=by
  rintro k (⟨w,rfl,_⟩|⟨i,rfl,hi⟩)
  ·exact⟨List.Pairwise.nil,Nat.zero_le _,fun x hx=>by cases hx⟩
  ·exact⟨List.pairwise_singleton _ _,(by show 1<=4;decide),fun x hx=>⟨i,hi,List.mem_singleton.mp hx⟩⟩
 intro k hk
 cases k with
 | num w=>exact hs (.inl ⟨w,rfl,hk⟩)
 | nest i=>exact hs (.inr ⟨i,rfl,hk⟩)
 | many m k=>exact hs (k:=k) hk.2.2
 | pick is =>
  refine⟨?_,by show (is.map _).length<=4;rw [List.length_map];exact hk.2.1,fun x hx=>?_⟩
  ·show (is.map (kN S)).Pairwise (· ≠ ·)
   rw [List.pairwise_map]
   exact hk.2.2.1.imp_of_mem fun ha hb ne e=>ne (aFz h (hk.2.2.2 _ ha) (hk.2.2.2 _ hb) e)
  ·obtain⟨i,hi,rfl⟩:=List.mem_map.mp hx
   exact⟨i,hk.2.2.2 i hi,rfl⟩
theorem aId {n:Str} {ws:List Str} (h:kU n=true):uC (n::ws)=false:=by
 match ws with
 | []=>rfl
 | [y] =>
  show (decide (n=Str.ofString "shape") && kU y)=false
  rw [decide_eq_false (aM h (by decide)),Bool.false_and]
 | _::_::_=>rfl
def aIp (c:Cl5) (K:Frag):Sp:=fun vs H Q _=>∃ (tl:Addr) (x:V) (nm:Str) (sa:List Addr) (T:List Shp),vs=[.ref tl,x,.str nm]/\H tl=some (.lst (sa.map V.ref))/\SW c K H sa T/\(∀ s ∈ T,s.2 ≠ [])/\nm ∉ T.map (·.1)/\T.length < 8/\∀ H',jI H H'->Q .non H'
def spWh (c:Cl5) (K:Frag):Sp:=fun vs H Q _=>∃ (tl z:Addr) (sa:List Addr) (T:List Shp) (s:Shp),vs=[.ref tl]/\H tl=some (.lst ((sa++[z]).map V.ref))/\SW c K H (sa++[z]) (T++[s])/\(T.map (·.1)).Nodup/\T.length<=100/\∀ d H',jI H H'->H d=none->H' d=some (.dK (dk T sa))->Q (.ref d) H'
def spNF (c:Cl5) (K:Frag):Sp:=fun vs H Q _=>∃ (tl a z:Addr) (x:V) (sa:List Addr) (T:List Shp) (s:Shp) (fn:Str) (kd:Kd),vs=[.ref tl,x,.ref a]/\H tl=some (.lst ((sa++[z]).map V.ref))/\SW c K H (sa++[z]) (T++[s])/\SqL K H a ((fn::kd.words (kN T)).map V.str)/\kU fn=true/\fn ∉ s.2.map (·.1)/\s.2.length<=100/\kd.Fit T.length/\NOk (kN T) T.length/\(T.map (·.1)).Nodup/\T.length<=100/\∀ H',jI H H'->Q .non H'
def aAf (c:Cl5) (K:Frag) (n:Nat):Sp:=fun vs H Q _=>∃ (a d:Addr) (kd:Kd) (sa:List Addr) (T:List Shp),vs=[.ref a,.ref d]/\kd.lv < n/\SqL K H a ((kd.words (kN T)).map V.str)/\H d=some (.dK (dk T sa))/\kd.Fit T.length/\NOk (kN T) T.length/\(T.map (·.1)).Nodup/\sa.length=T.length/\∀ k H',jI H H'->KO c K H' sa k kd->Q (.ref k) H'
def spTM (c:Cl5) (K:Frag) (r:Nat):Sp:=fun vs H Q _=>∃ (a:Addr) (i:Nat) (sa:List Addr) (S:List Shp),vs=[.ref a]/\sa[i]?=some a/\2 * i + 2<=r/\8 * r<=200/\SW c K H sa S/\Good S/\Smal S i/\∀ H',jI H H'->Q (.bl false) H'
def spWF (c:Cl5) (K:Frag) (r:Nat):Sp:=fun vs H Q _=>∃ (tl a z:Addr) (x:V) (sa:List Addr) (T:List Shp) (s:Shp) (fn:Str) (kd:Kd),vs=[.ref tl,x,.ref a]/\H tl=some (.lst ((sa++[z]).map V.ref))/\SW c K H (sa++[z]) (T++[s])/\SqL K H a ((fn::kd.words (kN T)).map V.str)/\kd.Fit T.length/\NOk (kN T) T.length/\(T.map (·.1)).Nodup/\T.length<=100/\2 * T.length + 2<=r/\8 * r<=200/\s.2.length<=50/\Good (T++[(s.1,s.2++[(fn,kd)])])/\Smal (T++[(s.1,s.2++[(fn,kd)])]) T.length ∧
 ∀ y H',jI H H'->SO c K H' sa y (s.1,s.2++[(fn,kd)])->Q (.ref y) H'
def txt (S:List Shp):Str:=Str.join nlS ((iG S).map (Str.join spS))
def spRd (c:Cl5) (CS:Addr) (K:Frag) (r:Nat):Sp:=fun vs H Q _=>∃ S:List Shp,vs=[.str (txt S)]/\Wel S/\S ≠ []/\12<=r/\8 * r<=200/\∀ (a dx t:Addr) (sa:List Addr) H',jI H H'->H' a=some (.ins CS dx [("shapes",.ref t)])->SqT K H' t (sa.map V.ref)->SW c K H' sa S->Q (.ref a) H'
theorem lW {x:Str} (h:kU x=true):Pln x:=by
 unfold kU at h
 simp only [Bool.and_eq_true] at h
 have ha:x.cps.toList.all (fun c=>decide (c ∈ zZ.cps.toList))=true:=h.1.2
 have hc:∀ c ∈ x.cps.toList,97<=c/\c<=122:=fun c hc=>(tM c).mp (of_decide_eq_true (List.all_eq_true.mp ha c hc))
 exact⟨fun z=>by have:=hc _ z;omega,fun z=>by have:=hc _ z;omega⟩
theorem aAj {S:List Shp} (hW:Wel S):∀ it ∈ vN S,(∀ w ∈ it.line (kN S),Pln w/\w.length<=6)/\(it.line (kN S)).length<=6/\it.line (kN S) ≠ []:=by
 intro it hit
 obtain⟨s,hs,hit⟩:=List.mem_flatMap.mp hit
 have hn:=aDi hW.nm
 unfold lL at hit
 rcases List.mem_cons.mp hit with rfl|hit
 ·refine⟨fun w hw=>?_,(by show 2<=6;decide),(by simp [Itm.line])⟩
  simp only [Itm.line,List.mem_cons,List.not_mem_nil,or_false] at hw
  rcases hw with rfl|rfl
  ·exact⟨by unfold Pln;decide +kernel,by decide⟩
  ·exact⟨lW (hW.nm s hs),(xO (hW.nm s hs)).2⟩
 ·obtain⟨f,hf,rfl⟩:=List.mem_map.mp hit
  obtain⟨i,hi⟩:=List.mem_iff_getElem?.mp hs
  have hfit:f.2.Fit S.length:=(hW.good.fit i s hi f hf).1.mono (Nat.le_of_lt (List.getElem?_eq_some_iff.mp hi).1)
  have hnm:=hW.fnm s hs f hf
  obtain⟨w6,w5⟩:=oF hn hfit
  refine⟨fun w hw=>?_,(by show (f.2.words (kN S)).length + 1<=6;omega),(by simp [Itm.line])⟩
  rcases List.mem_cons.mp (show w ∈ f.1::f.2.words (kN S) from hw) with rfl|hw
  ·exact⟨lW hnm,(xO hnm).2⟩
  ·exact⟨hfit.plain (fun j hj=>lW (hn j hj)) w hw,w6 w hw⟩
theorem aKi {S:List Shp} (hW:Wel S) (hne:S ≠ []):(vN S).length<=30/\(∀ it ∈ vN S,(Str.join spS (it.line (kN S))).length<=100/\Txt.split (Str.join spS (it.line (kN S))) spS=it.line (kN S))/\(txt S).length<=4000/\Txt.split (txt S) nlS=(vN S).map fun it=>Str.join spS (it.line (kN S)):=by
 have hl:=aAj hW
 have h30:(vN S).length<=30:=by
  unfold vN
  rw [List.length_flatMap]
  have h1:(S.map fun s=>(lL s).length).sum<=S.length * 6:=oR fun s hs=>by
   obtain⟨i,hi⟩:=List.mem_iff_getElem?.mp hs
   have:=(hW.bd i s hi).2.2.2
   unfold lL
   rw [List.length_cons,List.length_map];omega
  have:=hW.len
  omega
 have hrow:∀ it ∈ vN S,(Str.join spS (it.line (kN S))).length<=100:=fun it hit=>by
  obtain⟨h1,h2,_⟩:=hl it hit
  have h3:(Str.join spS (it.line (kN S))).length<=_:=mE (c:=32) (m:=6) fun w hw=>(h1 w hw).2
  omega
 have e:(iG S).map (Str.join spS)=(vN S).map fun it=>Str.join spS (it.line (kN S)):=by rw [dI,List.map_map];rfl
 refine⟨h30,fun it hit=>⟨hrow it hit,wM (hl it hit).2.2 fun w hw=>((hl it hit).1 w hw).1⟩,?_,?_⟩
 ·unfold txt
  rw [e]
  have h3:(Str.join nlS ((vN S).map fun it=>Str.join spS (it.line (kN S)))).length<=_:=mE (c:=10) (m:=100) (ws:=(vN S).map fun it=>Str.join spS (it.line (kN S))) fun w hw=>by
   obtain⟨it,hit,rfl⟩:=List.mem_map.mp hw
   exact hrow it hit
  rw [List.length_map] at h3
  omega
 ·unfold txt
  rw [rP,e]
  ·rw [dI]
   intro z
   have h0:=pR hne
   rw [List.map_eq_nil_iff] at z
   rw [z] at h0
   exact absurd h0 (by decide)
  ·intro l hl' w hw
   rw [dI] at hl'
   obtain⟨it,hit,rfl⟩:=List.mem_map.mp hl'
   exact ((hl it hit).1 w hw).1
theorem aAw {sa:List Addr} {T:List Shp} {s:Shp} (h:sa.length=(T++[s]).length):∃ sa0 z,sa=sa0++[z]:=by
 rcases List.eq_nil_or_concat sa with rfl|⟨sa0,z,rfl⟩
 ·rw [List.length_append] at h;exact absurd h (by simp)
 ·exact⟨sa0,z,List.concat_eq_append ..⟩
theorem Al.drawn {xs:List Addr} {p:Addr} {H H':Hp} (h:Al xs H) (d:Drawn p H H'):Al xs H':=fun b hb=>by
 by_cases e:b=p
 ·obtain⟨x,y,z,q⟩:=d.1
  exact⟨_,by rw [e];exact q⟩
 ·obtain⟨o,ho⟩:=h b hb
  exact⟨o,d.2 b o e ho⟩
theorem Drawn.offs {xs:List Addr} {p:Addr} {H H':Hp} (d:Drawn p H H') (hp:p ∈ xs):jI (offs xs H) (offs xs H'):=sP fun b o n q=>d.2 b o (fun z=>n (by rw [z];exact hp)) q
def c1L:Str:=Str.ofString "bfgjkqvxyzwh"
def c1 (a k:Nat):Nat:=c1L.cps.toList.getD ((a + k) % 12) 0
def nm1 (tl:Str) (a:Nat):List Str:=(List.range 12).map fun k=>(⟨#[c1 a k]⟩ : Str)++tl++Str.ofString "x"
def nm2 (a:Nat):List Str:=((List.range 6).map fun k=>Txt.slice (Str.ofString "zyxwvu") none (some (1 + (((a + k) % 6:Nat):Int))))++(["yz","yyyyyy","y","yx","numz","tagszz"]:List Str)
theorem Drawn.free {p l:Addr} {H H1:Hp} (d:Drawn p H H1) (h:H1 l=none):H l=none:=by
 cases e:H l with
 | none=>rfl
 | some o =>
  by_cases z:l=p
  ·obtain⟨x,y,w,q⟩:=d.1
   rw [z,q] at h;cases h
  ·rw [d.2 l o z e] at h;cases h
theorem Wel.nil:Wel []:=⟨⟨fun i s h=>by simp at h,fun i s h=>by simp at h,fun i s h=>by simp at h,fun i=>by show (([]:List Nat).getD i 0)<=1000;simp⟩,fun s h=>by simp at h,fun s h=>by simp at h,List.Pairwise.nil,fun s h=>by simp at h,Nat.zero_le _,fun i s h=>by simp at h⟩
theorem Wel.snoc {S:List Shp} {nm:Str} {fs:List (Str × Kd)} (h:Wel S) (h1:kU nm=true) (h2:nm ∉ S.map (·.1)) (h3:S.length<=4) (h4:fs ≠ []) (h5:fs.length<=5) (h6:∀ f ∈ fs,f.2.Fit S.length/\kU f.1=true) (h7:(fs.map (·.1)).Nodup) (h8:Smal (S++[(nm,fs)]) S.length):Wel (S++[(nm,fs)]):=by
 have hz:=h8.1
 rw [(eL S (nm,fs) []).1] at hz
 refine⟨Good.snoc h.good h4 (by show fs.length<=6;omega) (fun f hf=>⟨(h6 f hf).1,xO (h6 f hf).2⟩) (by show (fs.map _).sum<=1000;exact Nat.le_trans hz (by decide)),fun s hs=>?_,fun s hs=>?_,?_,fun s hs=>?_,by rw [List.length_append,List.length_singleton];omega,fun i s e=>?_⟩
 ·rcases List.mem_append.mp hs with hs|hs
  ·exact h.nm s hs
  ·rw [List.mem_singleton.mp hs];exact h1
 ·rcases List.mem_append.mp hs with hs|hs
  ·exact h.fnm s hs
  ·rw [List.mem_singleton.mp hs];exact fun f hf=>(h6 f hf).2
 ·rw [List.map_append,List.nodup_append]
  refine⟨h.nd,List.pairwise_singleton _ _,fun a ha b hb e=>h2 ?_⟩
  rw [← show b=nm from List.mem_singleton.mp hb,← e];exact ha
 ·rcases List.mem_append.mp hs with hs|hs
  ·exact h.fnd s hs
  ·rw [List.mem_singleton.mp hs];exact h7
 ·rcases yN e with e|⟨rfl,rfl⟩
  ·have hi:i < S.length:=(List.getElem?_eq_some_iff.mp e).1
   obtain⟨t1,t2,t3⟩:=iH (R:=[(nm,fs)]) hi
   obtain⟨b1,b2,b3,b4⟩:=h.bd i s e
   refine⟨by rw [t1];exact b1,?_,by rw [t2];exact b3,b4⟩
   have e1:un (.nest i) (S++[(nm,fs)]) Str.empty=un (.nest i) S Str.empty:=by
    show ((tabs (S++[(nm,fs)])).ut.getD i fun _=>[]) Str.empty=((tabs S).ut.getD i fun _=>[]) Str.empty
    rw [t3]
   rw [e1];exact b2
  ·exact⟨h8.1,h8.2.1,h8.2.2,h5⟩
theorem aDy {X:Cx} {K:Frag} {o:Expr} {f:Str} {pos:Pos} {ta:TE} (hK:X.K=K) (he:PE X o ta) (hb:attributeBase o f X.env (eval o X.env)=eval o X.env):PE X (.Attribute o f pos) (aIj K ta f):=hK ▸ aGv he hb
def NLx (CN:Addr) (H:Hp) (e:Addr) (v:V):Prop:=∃ dx,H e=some (ExF e CN (some dx))/\H dx=some (XD dx [("line",v)])
theorem aDk {CN e dx:Addr} {v:V} {H H':Hp} (g:jI H H') (he:H' e=none) (hd:upd H' e (Ex0 e CN none) dx=none) :
  jI H (upd (upd (upd (upd H' e (Ex0 e CN none)) dx (XD dx [("line",v)])) e (Ex0 e CN (some dx))) e (ExF e CN (some dx)))/\NLx CN (upd (upd (upd (upd H' e (Ex0 e CN none)) dx (XD dx [("line",v)])) e (Ex0 e CN (some dx))) e (ExF e CN (some dx))) e v:=by
 have ne:dx ≠ e:=fun z=>by rw [z,jH] at hd;cases hd
 have hd':H' dx=none:=by rw [jS ne] at hd;exact hd
 refine⟨fun b o q=>?_,dx,jH,?_⟩
 ·have q':=g b o q
  have n1:b ≠ e:=jL q' he
  have n2:b ≠ dx:=jL q' hd'
  rw [jS n1,jS n1,jS n2,jS n1];exact q'
 ·rw [jS ne,jS ne,jH]
def spRE (K:Frag):Sp:=fun vs H Q _=>∃ (e:Addr) (v:V) (C R fI:Addr) (dx:Option Addr),vs=[.ref e,v]/\H e=some (Ex0 e C dx)/\cR K C R fI/\Q .non H
def aBi (CN:Addr):Sp:=fun vs H Q _=>∃ (e:Addr) (v:V),vs=[.ref e,v]/\H e=some (Ex0 e CN none)/\∀ dx,H dx=none->Q .non (upd (upd H dx (XD dx [("line",v)])) e (Ex0 e CN (some dx)))
theorem iS {xs:List Addr} {H H1:Hp} {l:Addr} (hl:H l=none) (g:jI H H1):jI (offs xs H) (offs (l::xs) H1):=fun b o e=>by
 have hb:b ∉ xs:=fun z=>by unfold offs at e;rw [if_pos z] at e;cases e
 have e':H b=some o:=jN _ _ e
 refine kZ (fun z=>?_) (g _ _ e')
 rcases List.mem_cons.mp z with z|z
 ·exact jL e' hl z
 ·exact hb z
theorem xQ {H:Hp} : offs [] H=H:=by
 funext b
 unfold offs
 rw [if_neg (by simp)]
def RO (c:Cl5) (CS:Addr) (K:Frag) (H:Hp) (ra:Addr) (sa:List Addr) (S:List Shp):Prop:=∃ dx t,H ra=some (.ins CS dx [("shapes",.ref t)])/\SqT K H t (sa.map V.ref)/\SW c K H sa S
theorem iE {c:Cl5} {CS:Addr} {K:Frag} {H H':Hp} {ra:Addr} {sa:List Addr} {S:List Shp} (h:RO c CS K H ra sa S) (g:jI H H'):RO c CS K H' ra sa S:=by
 obtain⟨dx,t,a,b,w⟩:=h
 exact⟨dx,t,g _ _ a,g.tp b,w.same g⟩
def spMn (c:Cl5) (CS:Addr) (K:Frag):Sp:=fun vs H Q _=>∃ (ra z:Addr) (sa:List Addr) (S:List Shp),vs=[.ref ra]/\RO c CS K H ra (sa++[z]) S/\Q (.ref z) H
structure Ln where
 x:Str
 d:Str
 ws:List Str
 ps:List Str
 rs:List Str
def qS:List Ln:=[⟨"out a","out",["out","a"],["out","A"],["a"]⟩,⟨"b = a","name",["b","=","a"],["A","=","B"],["a"]⟩,⟨"each a","each",["each","a"],["each","I"],["a"]⟩,⟨"span b a c","span",["span","b","a","c"],["span","I","B","C"],["b","a","c"]⟩,⟨"if a","if",["if","a"],["if","A"],["a"]⟩,⟨"if b","if",["if","b"],["if","A"],["b"]⟩,⟨"else","else",["else"],["else"],[]⟩,⟨"end","end",["end"],["end"],[]⟩,⟨"out c","out",["out","c"],["out","A"],["c"]⟩,⟨"each b","each",["each","b"],["each","I"],["b"]⟩,⟨"span a b b","span",["span","a","b","b"],["span","I","B","C"],["a","b","b"]⟩]
def oU:List Str:=["a","b","c"]
def rH (p w:Str):Bool:=if p ∈ dA then kU w else if p = "NUMBER" then (zD (lG w) 0 4294967295).isSome else if p = "OP" then decide (w ∈ sigL) else if p = "PATH" then !decide (w = "") else decide (w=p)
def nB (ws:List Str) (f:Str × List Str):Bool:=decide (f.2.length=ws.length) && (List.zipWith rH f.2 ws).all id
def rdF (goal:Str):List (Str × Str)->List Str
 | []=>[]
 | p::r=>if p.1 ∈ dA/\(p.1 ≠ "A" ∨ goal = "") then p.2::rdF goal r else rdF goal r
def nmF:List (Str × Str)->List Str
 | []=>[]
 | p::r=>if p.1 ∈ dA then p.2::nmF r else nmF r
def xE (l:Ln):Str:=if l.d = "name" then "b" else ""
def lnOk (l:Ln):Bool:=decide (lnS l.x=l.d) && decide (Str.join spS l.ws=l.x) && l.ws.all (fun w=>decide (w.length<=6) && decide (32 ∉ w.cps.toList)) && decide (fN.find? (nB l.ws)=some (l.d,l.ps)) && decide (l.ps.Nodup) && decide (l.ps.length=l.ws.length) && decide (l.ws.length<=4) && decide (l.ws ≠ []) &&
 decide (("=" : Str) ∈ l.ps ↔ l.d = "name") && decide (("PATH" : Str) ∉ l.ps) && decide (("NUMBER" : Str) ∉ l.ps) && decide (("OP" : Str) ∉ l.ps) && decide (rdF (xE l) (l.ps.zip l.ws)=l.rs) && (nmF (l.ps.zip l.ws)).all (fun x=>decide (x ∈ oU)) && decide (l.ws.head?=some (lnW l.x)) && decide (10 ∉ l.x.cps.toList) && decide (l.x.length<=10) && decide (l.x.length ≠ 0) &&
 (decide (lnD l.x=.loop) == decide (l.d = "each" ∨ l.d = "span")) && (decide (lnD l.x=.cond) == decide (l.d = "if")) && (decide (lnD l.x=.els) == decide (l.d = "else")) && (decide (lnD l.x=.fin) == decide (l.d = "end")) && (decide (lnD l.x=.loop->l.rs ≠ [])) && (decide (l.d = "name") == decide (l.x = "b = a")) && decide ((l.ps.zip l.ws).lookup ("A" : Str)=some ("b" : Str)\/l.d ≠ "name")
theorem aKd:qS.all lnOk=true:=by decide +kernel
structure LnF (l:Ln):Prop where
 sd:lnS l.x=l.d
 jn:Str.join spS l.ws=l.x
 w6:∀ w ∈ l.ws,w.length<=6/\32 ∉ w.cps.toList
 fd:fN.find? (nB l.ws)=some (l.d,l.ps)
 nd:l.ps.Nodup
 pl:l.ps.length=l.ws.length
 w4:l.ws.length<=4
 ne:l.ws ≠ []
 eq:("=" : Str) ∈ l.ps ↔ l.d = "name"
 pa:("PATH" : Str) ∉ l.ps
 nu:("NUMBER" : Str) ∉ l.ps
 op:("OP" : Str) ∉ l.ps
 rd:rdF (xE l) (l.ps.zip l.ws)=l.rs
 nm:∀ x ∈ nmF (l.ps.zip l.ws),x ∈ oU
 hd:l.ws.head?=some (lnW l.x)
 nl : 10 ∉ l.x.cps.toList
 x10:l.x.length<=10
 x0:l.x.length ≠ 0
 dl:lnD l.x=.loop ↔ l.d = "each" ∨ l.d = "span"
 dc:lnD l.x=.cond ↔ l.d = "if"
 de:lnD l.x=.els ↔ l.d = "else"
 df:lnD l.x=.fin ↔ l.d = "end"
 rl:lnD l.x=.loop->l.rs ≠ []
 nb:l.d = "name" ↔ l.x = "b = a"
 ga:(l.ps.zip l.ws).lookup ("A" : Str)=some ("b" : Str)\/l.d ≠ "name"
theorem zS {l:Ln} (h:l ∈ qS):LnF l:=by
 have:=List.all_eq_true.mp aKd l h
 unfold lnOk at this
 simp only [Bool.and_eq_true,decide_eq_true_eq,beq_iff_eq,decide_eq_decide,List.all_eq_true] at this
 obtain⟨⟨⟨⟨⟨⟨⟨⟨⟨⟨⟨⟨⟨⟨⟨⟨⟨⟨⟨⟨⟨⟨⟨⟨a1,a2⟩,a3⟩,a4⟩,a5⟩,a6⟩,a7⟩,a8⟩,a9⟩,b1⟩,b2⟩,b3⟩,b4⟩,b5⟩,b6⟩,b7⟩,b8⟩,b9⟩,c1⟩,c2⟩,c3⟩,c4⟩,c5⟩,c6⟩,c7⟩:=this
 exact⟨a1,a2,a3,a4,a5,a6,a7,a8,a9,b1,b2,b3,b4,b5,b6,b7,b8,b9,c1,c2,c3,c4,c5,c6,c7⟩
theorem len_app {x y:Str} : (x++y).length=x.length + y.length:=by
 show (x++y).cps.size=x.cps.size + y.cps.size
 rw [Str.cps_append,Array.size_append]
theorem join_one {x sep:Str} : Str.join sep [x]=x:=rfl
def spLi:Sp:=fun vs H Q _=>∃ xs:List Str,vs=[.str (Str.join nlS xs)]/\xs ≠ []/\(∀ x ∈ xs,10 ∉ x.cps.toList/\x.length<=10/\x.length ≠ 0)/\xs.length<=60/\∀ p,H p=none->Q (.ref p) (upd H p (.lst (xs.map V.str)))
def spBo:Sp:=fun vs H Q _=>vs=[.int 4]/\Q (.int 4294967296) H
def spFi:Sp:=fun vs H Q _=>∃ p w:Str,vs=[.str p,.str w]/\w.length<=1000/\∀ H',jI H H'->Q (.bl (rH p w)) H'
def spFm (K:Frag):Sp:=fun vs H Q _=>∃ (i:V) (a:Addr) (l:Ln),vs=[i,.ref a]/\l ∈ qS/\SqL K H a (l.ws.map V.str)/\∀ t g H',jI H H'->SqT K H' t [.str l.d,.ref g]->SqT K H' g (l.ps.map V.str)->Q (.ref t) H'
def stB (st:List Str) (d:Str):Bool:=!((decide (d = "else") && !decide (st.getLast?=some "if")) || (decide (d = "end") && decide (st=[])) || (decide (d ∈ bE) && decide (st.length=3)))
def spNs (CN:Addr) (K:Frag):Sp:=fun vs H Q E=>∃ (a:Addr) (i d:V) (st:List Str) (s:Str),vs=[.ref a,i,d]/\d=.str s/\SqL K H a (st.map V.str)/\st.length<=3/\(stB st s=true->∀ H',jI H H'->Q .non H')/\(stB st s=false->∀ e H',jI H H'->H e=none->NLx CN H' e i->E (.ref e) none H')
def bgS (st:List Str) (d:Str):List Str:=if d ∈ bE then st++[d] else if d = "else" then st.dropLast++[d] else if d = "end" then st.dropLast else st
def spBg (K:Frag):Sp:=fun vs H Q _=>∃ (a:Addr) (st:List Str) (d:Str) (xs:List Addr),vs=[.ref a,.str d]/\Al xs H/\SqL K (offs xs H) a (st.map V.str)/\st.length<=3/\∀ b H',jI H H'->SqL K (offs xs H') b ((bgS st d).map V.str)->Q (.ref b) H'
def spNi (K:Frag):Sp:=fun vs H Q _=>∃ (g a:Addr) (x:V) (l:Ln),vs=[.ref g,.ref a,x]/\l ∈ qS/\SqT K H g (l.ps.map V.str)/\SqL K H a (l.ws.map V.str)/\∀ p H',jI H H'->H' p=some (.lst ((nmF (l.ps.zip l.ws)).map V.str))->Q (.ref p) H'
def spUn (K:Frag):Sp:=fun vs H Q _=>∃ (a b:Addr) (xs ys:List Str),vs=[.ref a,.ref b]/\SqL K H a (xs.map V.str)/\SqL K H b (ys.map V.str)/\ys.Nodup/\(∀ x ∈ xs,x ∈ oU)/\(∀ y ∈ ys,y ∈ oU)/\∀ l zs H',jI H H'->H' l=some (.lst (zs.map V.str))->(ys++zs).Nodup->(∀ y ∈ ys++zs,y ∈ oU)->Q (.ref l) H'
def spI4 (C:Addr) (n1 n2 n3 n4:Str):Sp:=fun vs H Q _=>∃ (a dx:Addr) (v1 v2 v3 v4:V) (H1:Hp),vs=[.ref a,v1,v2,v3,v4]/\H a=some (.ins C dx [])/\jI H1 H/\H1 a=none/\∀ H',jI H1 H'->H' a=some (.ins C dx [(n1,v1),(n2,v2),(n3,v3),(n4,v4)])->Q .non H'
def aCb (C:Addr) (n1 n2 n3 n4 n5 n6:Str):Sp:=fun vs H Q _=>∃ (a dx:Addr) (v1 v2 v3 v4 v5 v6:V) (H1:Hp),vs=[.ref a,v1,v2,v3,v4,v5,v6]/\H a=some (.ins C dx [])/\jI H1 H/\H1 a=none/\∀ H',jI H1 H'->H' a=some (.ins C dx [(n1,v1),(n2,v2),(n3,v3),(n4,v4),(n5,v5),(n6,v6)])->Q .non H'
theorem lI:∀ {a b:List Str},a.Nodup->(∀ x ∈ a,x ∈ b)->a.length<=b.length
 | [],_,_,_=>Nat.zero_le _
 | x::xs,b,h,hs=>by
  obtain⟨h1,h2⟩:=List.nodup_cons.mp h
  have hx:=hs x (List.mem_cons_self ..)
  have:=lI (b:=b.erase x) h2 fun y hy=>(List.mem_erase_of_ne (a:=y) (b:=x) (fun z=>h1 (by rw [← z];exact hy))).mpr (hs y (List.mem_cons_of_mem _ hy))
  rw [List.length_erase_of_mem hx] at this
  have:=List.length_pos_of_mem hx
  rw [List.length_cons];omega
theorem aBb {xs:List Str} (hd:xs.Nodup) (h:∀ x ∈ xs,x ∈ oU):xs.length<=3:=lI (b:=oU) hd h
def gJ (CR:Addr) (K:Frag) (H:Hp) (a:Addr) (i:Nat) (l:Ln):Prop:=∃ dx ra sa,H a=some (.ins CR dx [("line",.int i),("deed",.str l.d),("goal",.str (xE l)),("reads",.ref ra),("steps",.ref sa),("number",.int 0)])/\SqL K H ra (l.rs.map V.str)
theorem gJ.same {CR:Addr} {K:Frag} {H H':Hp} {a:Addr} {i:Nat} {l:Ln} (h:gJ CR K H a i l) (g:jI H H'):gJ CR K H' a i l:=by
 obtain⟨dx,ra,sa,h1,h2⟩:=h
 exact⟨dx,ra,sa,g _ _ h1,g.seq h2⟩
def gP (l:Ln):List (Key × V):=List.zipWith (fun x y=>((.inr x:Key),V.str y)) l.ps l.ws
def spRo (CR:Addr) (K:Frag):Sp:=fun vs H Q _=>∃ (x:V) (i:Nat) (d:Addr) (l:Ln) (xs:List Addr),vs=[x,.int i,.str l.d,.ref d]/\l ∈ qS/\H d=some (.dK (gP l))/\Al xs H/\∀ r H',But d H H'->gJ CR K (offs xs H') r i l->Q (.ref r) H'
theorem aFy (st:List Str):xJ (st.map V.str) none (some (-1))=st.dropLast.map V.str:=by
 unfold xJ
 rw [show HT.sIx (st.map V.str).length 0 none=0 from rfl,List.drop_zero,Nat.sub_zero,List.dropLast_eq_take,List.map_take,List.length_map]
 congr 1
 show (if (-1:Int) < 0 then ((-1:Int) + st.length).toNat else min (-1:Int).toNat st.length)=st.length - 1
 rw [if_pos (by decide)]
 omega
theorem cutL (st:List Str):xJ (st.map V.str) (some (-1)) none=st.getLast?.toList.map V.str:=by
 rcases List.eq_nil_or_concat st with rfl|⟨ys,y,rfl⟩
 ·rfl
 ·rw [List.concat_eq_append]
  unfold xJ
  have e1:HT.sIx ((ys++[y]).map V.str).length 0 (some (-1))=ys.length:=by
   show (if (-1:Int) < 0 then ((-1:Int) + (((ys++[y]).map V.str).length:Nat)).toNat else min (-1:Int).toNat ((ys++[y]).map V.str).length)=ys.length
   rw [if_pos (by decide),List.length_map,List.length_append,List.length_singleton]
   omega
  rw [e1,show HT.sIx ((ys++[y]).map V.str).length ((ys++[y]).map V.str).length none=((ys++[y]).map V.str).length from rfl,List.length_map,List.length_append,List.length_singleton,List.map_append,List.drop_left' (by rw [List.length_map]),Nat.add_sub_cancel_left,List.getLast?_concat]
  rfl
theorem aHb {f:Str × List Str->Bool} {j:Nat} {x:Str × List Str} (hj:fN[j]?=some x) (hx:f x=true) (h:∀ m y,m < j->fN[m]?=some y->f y=false):fN.find? f=some x:=by
 rw [List.find?_eq_some_iff_getElem]
 obtain⟨hl,e⟩:=List.getElem?_eq_some_iff.mp hj
 exact⟨hx,j,hl,e,fun m hm=>by rw [h m _ hm (List.getElem?_eq_getElem (by omega))];rfl⟩
theorem aAx {f:Str × List Str->Bool} {j:Nat} {x:Str × List Str} (hj:fN[j]?=some x) (hx:f x=false) (h:∀ m y,m < j->fN[m]?=some y->f y=false):∀ m y,m < j + 1->fN[m]?=some y->f y=false:=fun m y hm hy=>by
 by_cases z:m=j
 ·subst z;rw [hj] at hy;cases hy;exact hx
 ·exact h m y (by omega) hy
theorem aAq (a b:List (Str × Str)):nmF (a++b)=nmF a++nmF b:=by
 induction a with
 | nil=>rfl
 | cons p r ih =>
  show (if p.1 ∈ dA then p.2::nmF (r++b) else nmF (r++b))=(if p.1 ∈ dA then p.2::nmF r else nmF r)++nmF b
  split
  ·rw [ih];rfl
  ·exact ih
theorem aHp {g:Str} (a b:List (Str × Str)):rdF g (a++b)=rdF g a++rdF g b:=by
 induction a with
 | nil=>rfl
 | cons p r ih =>
  show (if p.1 ∈ dA/\(p.1 ≠ "A" ∨ g = "") then p.2::rdF g (r++b) else rdF g (r++b))=(if p.1 ∈ dA/\(p.1 ≠ "A" ∨ g = "") then p.2::rdF g r else rdF g r)++rdF g b
  split
  ·rw [ih];rfl
  ·exact ih
theorem cB {a b:List Str} {j:Nat} {u v:Str} (hu:a[j]?=some u) (hv:b[j]?=some v):(a.zip b).take (j + 1)=(a.zip b).take j++[(u,v)]:=by
 rw [List.take_add_one]
 congr 1
 show (List.zipWith Prod.mk a b)[j]?.toList=_
 rw [List.getElem?_zipWith,hu,hv];rfl
theorem aEl:∀ (a b:List Str) (k:Str),yF (List.zipWith (fun x y=>((.inr x:Key),V.str y)) a b) (.inr k)=((a.zip b).lookup k).map V.str
 | [],_,_=>rfl
 | _::_,[],_=>rfl
 | x::a,y::b,k=>by
  show yF (((.inr x:Key),V.str y)::List.zipWith _ a b) (.inr k)=(((x,y)::a.zip b).lookup k).map V.str
  by_cases e:x=k
  ·subst e
   rw [eB rfl,List.lookup_cons_self];rfl
  ·rw [eW (fun z=>e (Sum.inr.inj z)),List.lookup_cons,show (k == x)=false from beq_false_of_ne (Ne.symm e),aEl a b k]
theorem aBc:∀ {a b:List Str} {k:Str},k ∉ a->(a.zip b).lookup k=none
 | [],_,_,_=>rfl
 | _::_,[],_,_=>rfl
 | x::a,y::b,k,h=>by
  rw [List.zip_cons_cons,List.lookup_cons,show (k == x)=false from beq_false_of_ne (fun z=>h (by rw [z];exact List.mem_cons_self ..))]
  exact aBc fun z=>h (List.mem_cons_of_mem _ z)
theorem oZ:∀ {a b:List Str} {j:Nat} {u v:Str},a.Nodup->a[j]?=some u->b[j]?=some v->(a.zip b).lookup u=some v
 | [],_,_,_,_,_,h,_=>by simp at h
 | _::_,[],_,_,_,_,_,h=>by simp at h
 | x::a,y::b,0,u,v,_,hu,hv=>by
  cases hu;cases hv
  rw [List.zip_cons_cons,List.lookup_cons_self]
 | x::a,y::b,j + 1,u,v,hd,hu,hv=>by
  obtain⟨h1,h2⟩:=List.nodup_cons.mp hd
  have hu':a[j]?=some u:=hu
  rw [List.zip_cons_cons,List.lookup_cons,show (u == x)=false from beq_false_of_ne (fun z=>h1 (by rw [← z];exact List.mem_of_getElem? hu'))]
  exact oZ h2 hu' hv
theorem gF:∀ (a b:List Str) (acc:List (Key × V)),a.Nodup->(∀ x ∈ a,∀ kv ∈ acc,kv.1 ≠ .inr x)->yY acc (List.zipWith (fun x y=>((.inr x:Key),V.str y)) a b)=acc++List.zipWith (fun x y=>((.inr x:Key),V.str y)) a b
 | [],_,acc,_,_=>by simp [yY]
 | _::_,[],acc,_,_=>by simp [yY]
 | x::a,y::b,acc,hd,hn=>by
  obtain⟨h1,h2⟩:=List.nodup_cons.mp hd
  have e:putK acc (.inr x) (V.str y)=acc++[(.inr x,V.str y)]:=by
   unfold putK
   rw [if_neg]
   rw [List.any_eq_true]
   rintro ⟨kv,hkv,z⟩
   exact hn x (List.mem_cons_self ..) kv hkv (of_decide_eq_true z)
  have:=gF a b (acc++[(.inr x,V.str y)]) h2 (fun z hz kv hkv=>by
   rcases List.mem_append.mp hkv with hkv|hkv
   ·exact hn z (List.mem_cons_of_mem _ hz) kv hkv
   ·rw [List.mem_singleton.mp hkv]
    intro q
    rw [Sum.inr.inj q] at h1
    exact h1 hz)
  show yY (putK acc (.inr x) (V.str y)) _=_
  rw [e,this,List.append_assoc];rfl
structure PrC (K:Frag) (CR CLp CC:Addr):Prop where
 i1:aFs K CR
 i2:aFs K CLp
 i3:aFs K CC
 rr:PySem.W.kitOne K (.ref CR) (.ref CR)=some true
 lr:PySem.W.kitOne K (.ref CLp) (.ref CR)=some false
 cr:PySem.W.kitOne K (.ref CC) (.ref CR)=some false
 ll:PySem.W.kitOne K (.ref CLp) (.ref CLp)=some true
 cl:PySem.W.kitOne K (.ref CC) (.ref CLp)=some false
 cc:PySem.W.kitOne K (.ref CC) (.ref CC)=some true
def mV:Option Nat->V
 | none=>.non
 | some n=>.int (n:Int)
inductive TAs (CR CLp CC:Addr) (K:Frag) (H:Hp):List Addr->List Tr->Prop
 | nil:TAs CR CLp CC K H [] []
 | row {a:Addr} {as:List Addr} {i:Nat} {l:Ln} {ts:List Tr} : gJ CR K H a i l->TAs CR CLp CC K H as ts->TAs CR CLp CC K H (a::as) (.row i::ts)
 | loop {a dx ra:Addr} {d g rd:V} {as bs:List Addr} {i j:Nat} {rs ts:List Tr} : H a=some (.ins CLp dx [("line",.int i),("last",.int j),("deed",d),("goal",g),("reads",rd),("rows",.ref ra)])->SqL K H ra (bs.map V.ref)->TAs CR CLp CC K H bs rs->TAs CR CLp CC K H as ts->TAs CR CLp CC K H (a::as) (.loop i j rs::ts)
 | ch {a dx ra rb:Addr} {rd:V} {as bs cs:List Addr} {i j:Nat} {m:Option Nat} {rs os ts:List Tr} : H a=some (.ins CC dx [("line",.int i),("last",.int j),("middle",mV m),("reads",rd),("rows",.ref ra),("others",.ref rb)])->SqL K H ra (bs.map V.ref)->SqL K H rb (cs.map V.ref)->TAs CR CLp CC K H bs rs->TAs CR CLp CC K H cs os->TAs CR CLp CC K H as ts->TAs CR CLp CC K H (a::as) (.ch i j m rs os::ts)
theorem TAs.same {CR CLp CC:Addr} {K:Frag} {H H':Hp} {as:List Addr} {ts:List Tr} (h:TAs CR CLp CC K H as ts) (g:jI H H'):TAs CR CLp CC K H' as ts:=by
 induction h with
 | nil=>exact .nil
 | row h _ ih=>exact .row (h.same g) ih
 | loop h1 h2 _ _ ih1 ih2=>exact .loop (g _ _ h1) (g.seq h2) ih1 ih2
 | ch h1 h2 h3 _ _ _ ih1 ih2 ih3=>exact .ch (g _ _ h1) (g.seq h2) (g.seq h3) ih1 ih2 ih3
theorem TAs.app {CR CLp CC:Addr} {K:Frag} {H:Hp} {as bs:List Addr} {ts us:List Tr} (h:TAs CR CLp CC K H as ts) (h2:TAs CR CLp CC K H bs us):TAs CR CLp CC K H (as++bs) (ts++us):=by
 induction h with
 | nil=>exact h2
 | row h _ ih=>exact .row h ih
 | loop h1 h2 h3 _ _ ih2=>exact .loop h1 h2 h3 ih2
 | ch h1 h2 h3 h4 h5 _ _ _ ih3=>exact .ch h1 h2 h3 h4 h5 ih3
theorem TAs.len {CR CLp CC:Addr} {K:Frag} {H:Hp} {as:List Addr} {ts:List Tr} (h:TAs CR CLp CC K H as ts):as.length=ts.length:=by
 induction h with
 | nil=>rfl
 | row _ _ ih=>rw [List.length_cons,List.length_cons,ih]
 | loop _ _ _ _ _ ih=>rw [List.length_cons,List.length_cons,ih]
 | ch _ _ _ _ _ _ _ _ ih=>rw [List.length_cons,List.length_cons,ih]
def nxt:Tr->Nat
 | .row i=>i + 1
 | .loop _ j _=>j + 1
 | .ch _ j _ _ _=>j + 1
theorem bR {ds:List Str} {n e:Nat} {ts:List Tr} (h:Prs ds n ts e):n<=e:=by
 induction h with
 | stop _=>exact Nat.le_refl _
 | row _ _ _ ih=>omega
 | loop _ _ _ _ _ _ ih1 ih2=>omega
 | if1 _ _ _ _ _ _ ih1 ih2=>omega
 | if2 _ _ _ _ _ _ _ _ _ ih1 ih2 ih3=>omega
theorem aCx {ds:List Str} {n e:Nat} {t:Tr} {ts:List Tr} (h:Prs ds n (t::ts) e):Prs ds (nxt t) ts e/\n < nxt t:=by
 cases h with
 | row _ _ h=>exact⟨h,Nat.lt_succ_self _⟩
 | loop _ _ h1 _ _ h2=>exact⟨h2,by have:=bR h1;show n < _ + 1;omega⟩
 | if1 _ _ h1 _ _ h2=>exact⟨h2,by have:=bR h1;show n < _ + 1;omega⟩
 | if2 _ _ h1 _ _ h2 _ _ h3=>exact⟨h3,by have:=bR h1;have:=bR h2;show n < _ + 1;omega⟩
theorem eM {d:Nat} {t:Tr} {ts:List Tr} (h:Dp d (t::ts)):Dp d ts:=by
 cases h with
 | row h=>exact h
 | loop _ h=>exact h
 | ch _ _ h=>exact h
structure TD (CR:Addr) (K:Frag) (H:Hp) (tl:Addr) (rs:List Addr) (ls:List Ln):Prop where
 l:SqL K H tl (rs.map V.ref)
 n:rs.length=ls.length
 m:∀ x ∈ ls,x ∈ qS
 r:∀ (i:Nat) (a:Addr) (x:Ln),rs[i]?=some a->ls[i]?=some x->gJ CR K H a i x
theorem TD.same {CR:Addr} {K:Frag} {H H':Hp} {tl:Addr} {rs:List Addr} {ls:List Ln} (h:TD CR K H tl rs ls) (g:jI H H'):TD CR K H' tl rs ls:=⟨g.seq h.l,h.n,h.m,fun i a x ha hx=>(h.r i a x ha hx).same g⟩
def spLb (CR CLp CC:Addr) (K:Frag):Sp:=fun vs H Q _=>∃ (a:Addr) (t:Tr),vs=[.ref a]/\TAs CR CLp CC K H [a] [t]/\Q (.int (nxt t:Nat)) H
def spRF (CR CLp CC:Addr) (K:Frag) (r:Nat):Sp:=fun vs H Q _=>∃ (tl:Addr) (n e d:Nat) (rs:List Addr) (ls:List Ln) (ts:List Tr) (xs:List Addr),vs=[.ref tl,.int (n:Int)]/\r=d + 1/\Dp d ts/\Prs (ls.map (·.x)) n ts e/\Al xs H/\TD CR K (offs xs H) tl rs ls/\ls.length<=60/\∀ (p ra:Addr) (as:List Addr) (H':Hp),jI H H'->SqT K H' p [.ref ra,.int (e:Int)]->SqL K (offs xs H') ra (as.map V.ref)->TAs CR CLp CC K (offs xs H') as ts->Q (.ref p) H'
def spWR (CR CLp CC:Addr) (K:Frag) (r:Nat):Sp:=fun vs H Q _=>∃ (tl:Addr) (n e d:Nat) (rs:List Addr) (ls:List Ln) (t:Tr) (ts:List Tr) (xs:List Addr),vs=[.ref tl,.int (n:Int)]/\r=d + 1/\Dp d (t::ts)/\Prs (ls.map (·.x)) n (t::ts) e/\Al xs H/\TD CR K (offs xs H) tl rs ls/\ls.length<=60/\∀ (a:Addr) (H':Hp),jI H H'->TAs CR CLp CC K (offs xs H') [a] [t]->Q (.ref a) H'
def spNo:Sp:=fun _ _ _ _=>False
theorem pM {f:Expr} {as:List Expr} {ks p} {es:List Expr} {env:Env} : starEach (.Call f as ks p::es) env=(false,eval (.Call f as ks p) env)::starEach es env:=rfl
theorem ifJ {t:TT} {ta tb:TE} {σ:St} {H:Hp} {Q:VK} (v:V) (hq:Q v H) (h:∀ Q':VK,Q' v H->tIf t ta tb σ H Q'):tIf t ta tb σ H Q:=h Q hq
theorem kv_at {l:Ln} {j:Nat} {kv:Key × V} (h:(gP l)[j]?=some kv):∃ u v,l.ps[j]?=some u/\l.ws[j]?=some v/\kv=(.inr u,.str v):=by
 unfold gP at h
 rw [List.getElem?_zipWith] at h
 cases hu:l.ps[j]? with
 | none=>rw [hu] at h;cases h
 | some u =>
  cases hv:l.ws[j]? with
  | none=>rw [hu,hv] at h;cases h
  | some v=>rw [hu,hv] at h;cases h;exact⟨u,v,rfl,rfl,rfl⟩
theorem aGd {g:Str} {a b:List Str} {j:Nat} {u v:Str} (hu:a[j]?=some u) (hv:b[j]?=some v):rdF g ((a.zip b).take (j + 1))=rdF g ((a.zip b).take j)++(if u ∈ dA/\(u ≠ "A" ∨ g = "") then [v] else []):=by
 rw [cB hu hv,aHp];rfl
theorem uP {H:Hp} {a:Addr} {o:Obj} {kvs:List (Key × V)} {k:Key} (e:H a=some (.frz o (.dK kvs))):zP H a (kV k) (yF kvs k):=.inl ⟨kvs,k,.inr ⟨o,e⟩,rfl,rfl⟩
theorem mP {xs:List Addr} {H:Hp} {l:Addr} {o:HO} : offs (l::xs) (upd H l o)=offs (l::xs) H:=by
 funext b
 unfold offs
 by_cases z:b ∈ l::xs
 ·rw [if_pos z,if_pos z]
 ·rw [if_neg z,if_neg z,jS (fun e=>z (by rw [e];exact List.mem_cons_self ..))]
theorem pQ {xs:List Addr} {H:Hp} {l:Addr} {o:HO} (h:Al xs H) (hl:H l=some o):Al (l::xs) H:=fun b hb=>by
 rcases List.mem_cons.mp hb with rfl|hb
 ·exact⟨o,hl⟩
 ·exact h b hb
theorem aJv {xs:List Addr} {H:Hp} {l:Addr} {o:HO} (h:Al xs H):Al xs (L2.upd H l o):=fun b hb=>by
 by_cases z:b=l
 ·rw [z,jH];exact⟨_,rfl⟩
 ·rw [jS z];exact h b hb
theorem eC {ds:List Str} {n e:Nat} {ts:List Tr} (h:Prs ds n ts e):(ts=[]/\n=e/\(ds.length<=n\/∃ x,ds[n]?=some x/\(lnD x=.els\/lnD x=.fin)))\/∃ t ts' x,ts=t::ts'/\ds[n]?=some x/\lnD x ≠ .els/\lnD x ≠ .fin:=by
 cases h with
 | stop h=>exact .inl ⟨rfl,rfl,h⟩
 | row h1 h2 _=>exact .inr ⟨_,_,_,rfl,h1,by rw [h2];exact⟨(fun z=>by cases z),(fun z=>by cases z)⟩⟩
 | loop h1 h2 _ _ _ _=>exact .inr ⟨_,_,_,rfl,h1,by rw [h2];exact⟨(fun z=>by cases z),(fun z=>by cases z)⟩⟩
 | if1 h1 h2 _ _ _ _=>exact .inr ⟨_,_,_,rfl,h1,by rw [h2];exact⟨(fun z=>by cases z),(fun z=>by cases z)⟩⟩
 | if2 h1 h2 _ _ _ _ _ _ _=>exact .inr ⟨_,_,_,rfl,h1,by rw [h2];exact⟨(fun z=>by cases z),(fun z=>by cases z)⟩⟩
theorem TD.at {CR:Addr} {K:Frag} {H:Hp} {tl:Addr} {rs:List Addr} {ls:List Ln} (h:TD CR K H tl rs ls) {n:Nat} {x:Str} (hx:(ls.map (·.x))[n]?=some x):∃ a l,rs[n]?=some a/\ls[n]?=some l/\l ∈ qS/\l.x=x/\gJ CR K H a n l:=by
 rw [List.getElem?_map] at hx
 cases hl:ls[n]? with
 | none=>rw [hl] at hx;cases hx
 | some l =>
  rw [hl] at hx
  cases hx
  have hn:=(List.getElem?_eq_some_iff.mp hl).1
  have ha:rs[n]?=some (rs[n]'(by rw [h.n];exact hn)):=List.getElem?_eq_getElem _
  exact⟨_,l,ha,rfl,h.m l (List.mem_of_getElem? hl),rfl,h.r _ _ _ ha hl⟩
theorem aR {as:List Addr} {n:Nat} {a:Addr} (h:as[n]?=some a):atI (as.map V.ref) (n:Int)=some (.ref a):=bA (by rw [List.getElem?_map,h];rfl)
theorem aHg {l:Ln} (hl:l ∈ qS):l.d ∈ bE ↔ lnD l.x=.loop\/lnD l.x=.cond:=by
 have hF:=zS hl
 constructor
 ·intro z
  rcases List.mem_cons.mp z with z|z
  ·exact .inl (hF.dl.mpr (.inl z))
  ·rcases List.mem_cons.mp z with z|z
   ·exact .inl (hF.dl.mpr (.inr z))
   ·exact .inr (hF.dc.mpr (List.mem_singleton.mp z))
 ·rintro (z|z)
  ·rcases hF.dl.mp z with z|z
   ·rw [z];exact List.mem_cons_self ..
   ·rw [z];exact List.mem_cons_of_mem _ (List.mem_cons_self ..)
  ·rw [hF.dc.mp z];exact List.mem_cons_of_mem _ (List.mem_cons_of_mem _ (List.mem_cons_self ..))
theorem aEc {l:Ln} (hl:l ∈ qS) (st:List Str):stp st l.x=if stB st l.d=true then some (bgS st l.d) else none:=by
 have hF:=zS hl
 have hb:=aHg hl
 have hsd:=hF.sd
 unfold stp stB bgS
 cases hd:lnD l.x with
 | row =>
  have n1:l.d ∉ bE:=fun z=>by rcases hb.mp z with z|z <;> rw [hd] at z <;> cases z
  have n2:¬ l.d = "else":=fun z=>by have:=hF.de.mpr z;rw [hd] at this;cases this
  have n3:¬ l.d = "end":=fun z=>by have:=hF.df.mpr z;rw [hd] at this;cases this
  rw [decide_eq_false n1,decide_eq_false n2,decide_eq_false n3,if_neg n1,if_neg n2,if_neg n3];rfl
 | loop =>
  have n1:l.d ∈ bE:=hb.mpr (.inl hd)
  have n2:¬ l.d = "else":=fun z=>by have:=hF.de.mpr z;rw [hd] at this;cases this
  have n3:¬ l.d = "end":=fun z=>by have:=hF.df.mpr z;rw [hd] at this;cases this
  rw [decide_eq_true n1,decide_eq_false n2,decide_eq_false n3,if_pos n1,hsd]
  by_cases h3:st.length=3
  ·simp [h3]
  ·simp [h3]
 | cond =>
  have n1:l.d ∈ bE:=hb.mpr (.inr hd)
  have n2:¬ l.d = "else":=fun z=>by have:=hF.de.mpr z;rw [hd] at this;cases this
  have n3:¬ l.d = "end":=fun z=>by have:=hF.df.mpr z;rw [hd] at this;cases this
  rw [decide_eq_true n1,decide_eq_false n2,decide_eq_false n3,if_pos n1,hsd]
  by_cases h3:st.length=3
  ·simp [h3]
  ·simp [h3]
 | els =>
  have n1:l.d ∉ bE:=fun z=>by rcases hb.mp z with z|z <;> rw [hd] at z <;> cases z
  have n2:l.d = "else":=hF.de.mp hd
  rw [n2] at n1 ⊢
  rw [decide_eq_false n1,if_neg n1]
  by_cases h3:st.getLast?=some "if"
  ·rw [if_pos h3,decide_eq_true h3];rfl
  ·rw [if_neg h3,decide_eq_false h3];rfl
 | fin =>
  have n1:l.d ∉ bE:=fun z=>by rcases hb.mp z with z|z <;> rw [hd] at z <;> cases z
  have n2:l.d = "end":=hF.df.mp hd
  rw [n2] at n1 ⊢
  rw [decide_eq_false n1,if_neg n1]
  by_cases h3:st=[]
  ·subst h3;rfl
  ·rw [if_neg h3,decide_eq_false h3];rfl
theorem rE {st st':List Str} {x:Str} (h:st.length<=3) (e:stp st x=some st'):st'.length<=3:=by
 unfold stp at e
 cases hd:lnD x with
 | row=>rw [hd] at e;cases e;exact h
 | loop =>
  rw [hd] at e
  have e':(if st.length=3 then none else some (st++[lnS x]))=some st':=e
  split at e'
  ·cases e'
  ·cases e';rw [List.length_append,List.length_singleton];omega
 | cond =>
  rw [hd] at e
  have e':(if st.length=3 then none else some (st++[lnS x]))=some st':=e
  split at e'
  ·cases e'
  ·cases e';rw [List.length_append,List.length_singleton];omega
 | els =>
  rw [hd] at e
  have e':(if st.getLast?=some "if" then some (st.dropLast++[("else" : Str)]) else none)=some st':=e
  split at e'
  ·rename_i z
   cases e'
   have:st ≠ []:=fun y=>by rw [y] at z;cases z
   have:=List.length_pos_iff.mpr this
   rw [List.length_append,List.length_singleton,List.length_dropLast];omega
  ·cases e'
 | fin =>
  rw [hd] at e
  have e':(if st=[] then none else some st.dropLast)=some st':=e
  split at e'
  ·cases e'
  ·cases e';rw [List.length_dropLast];omega
theorem tY {ds:List Str} {i:Nat} {x:Str} {st:List Str} (hx:ds[i]?=some x):due (ds.drop i) st i=match stp st x with|none=>some i|some st'=>due (ds.drop (i + 1)) st' (i + 1):=by
 obtain⟨hi,e⟩:=List.getElem?_eq_some_iff.mp hx
 rw [List.drop_eq_getElem_cons hi,e];rfl
theorem wV {ds:List Str} {st:List Str} : due (ds.drop ds.length) st ds.length=if st=[] then none else some ds.length:=by
 rw [List.drop_length];rfl
def spRP (c:Cl5) (CS CN CP CR CLp CC:Addr) (K:Frag):Sp:=fun vs H Q E=>∃ (ra z:Addr) (sa:List Addr) (S:List Shp) (ls:List Ln),vs=[.ref ra,.str (Str.join nlS (ls.map (·.x)))]/\RO c CS K H ra (sa++[z]) S/\(∀ l ∈ ls,l ∈ qS)/\ls ≠ []/\ls.length<=59 ∧
 (due (ls.map (·.x)) [] 0=none->∀ (p dx rp:Addr) (v1 v3 v4:V) (as:List Addr) (ts:List Tr) (e:Nat) (H':Hp),jI H H'->Prs (ls.map (·.x)) 0 ts e->Dp 3 ts->H' p=some (.ins CP dx [("shapes",v1),("rows",.ref rp),("named",v3),("written",v4)])->SqL K H' rp (as.map V.ref)->TAs CR CLp CC K H' as ts->Q (.ref p) H') ∧
 (∀ i,due (ls.map (·.x)) [] 0=some i->∀ e H',jI H H'->H e=none->NLx CN H' e (.int (i:Nat))->E (.ref e) none H')
theorem lH {H G:Hp} {l:Addr} (h:H l=none) (g:jI H G):jI H (offs [l] G):=fun b o e=>kZ (fun z=>by rw [List.mem_singleton.mp z,h] at e;cases e) (g b o e)
theorem mU {l:Ln} (h:l ∈ qS):Txt.split l.x (Str.ofString " ")=l.ws:=by
 have hF:=zS h
 have:=aO (c:=32) hF.ne (fun w hw=>(hF.w6 w hw).2)
 rw [show Str.join ⟨#[32]⟩ l.ws=l.x from hF.jn] at this
 exact this
theorem aEw {X:Cx} {K:Frag} {o e:Expr} {es:List Expr} {name:Str} {T id:String} {apos cpos:Pos} {r:V->List V->Hp->VK->Prop} {to:TE} {t:TA} (hK:X.K=K) (pa:PlainAttrs T) (slot:Slot T name id) (hty:typeOf (.builtin id)=pure (.type "method_descriptor")) (hm:MtR X id r) (ho:PE X o to) (ha:PA X (e::es) t)
  (hbase:attributeBase o name X.env (eval o X.env)=eval o X.env:=by rfl)
  (hfew:((backTo cpos (starEach (e::es) X.env)).all (fun x=>!x.1) && (backToKw cpos (keywordEach [] X.env)).all (fun x=>x.1.isSome)
   && decide ((e::es).length + ([]:List Keyword).length + (if ([]:List Keyword).isEmpty then 0 else 1) < 30))=true:=by rfl)
  (hline:(apos.endLine == cpos.line)=true:=by rfl) (hs:starEach (e::es) X.env=(false,eval e X.env)::starEach es X.env:=by rfl) (hplain:(backTo cpos (starEach es X.env)).any (·.1)=false:=by rfl) :
  PE X (.Call (.Attribute o name apos) (e::es) [] cpos) (tBM K T r to t):=by
 subst hK
 exact vW pa slot hty hm ho ha hbase hfew hline hs hplain
def spLc (K:Frag):Sp:=fun vs H Q _=>∃ (a:Addr) (ns:List Int) (k:Int),vs=[.ref a,.int k]/\SqL K H a (ns.map V.int)/\0<=k/\k<=100/\∀ v H',jI H H'->Q (.int v) H'
def spMx:Sp:=fun vs H Q _=>∃ c k:Int,vs=[.int c,.int k]/\∀ v:Int,Q (.int v) H
theorem oG (sa:List Str) (z:Str):atI ((sa++[z]).map V.str) (-1)=some (.str z):=by
 have l:((sa++[z]).map V.str).length=sa.length + 1:=by rw [List.length_map,List.length_append];rfl
 have e:ixN (sa.length + 1) (-1)=some sa.length:=by
  unfold ixN
  rw [if_neg (by omega),if_pos (by omega)]
  congr 1
  omega
 unfold atI
 rw [l,e]
 show ((sa++[z]).map V.str)[sa.length]?=_
 rw [List.getElem?_map,List.getElem?_append_right (Nat.le_refl _),Nat.sub_self];rfl
def wdL:List Str:=["out a","b = a","each a","span b a c","if a","if b","else","end","end"]
theorem wd_at:∀ i:Fin 9,∃ l ∈ qS,wdL[i.val]?=some l.x:=by
 have:∀ i:Fin 9,(qS.find? fun l=>decide (wdL[i.val]?=some l.x)).isSome=true:=by decide +kernel
 intro i
 obtain⟨l,hl⟩:=Option.isSome_iff_exists.mp (this i)
 exact⟨l,List.mem_of_find?_eq_some hl,by have:=List.find?_some hl;exact of_decide_eq_true this⟩
theorem uS {x:Str} (h:(qS.find? fun l=>decide (l.x=x)).isSome=true):∃ l ∈ qS,l.x=x:=by
 obtain⟨l,hl⟩:=Option.isSome_iff_exists.mp h
 exact⟨l,List.mem_of_find?_eq_some hl,by have:=List.find?_some hl;exact of_decide_eq_true this⟩
def spWd (K:Frag):Sp:=fun vs H Q _=>∃ (p a:Addr) (st:List Str),vs=[.ref p,.ref a]/\St3 H p/\SqL K (offs [p] H) a (st.map V.str)/\∀ (l:Ln) (H':Hp),l ∈ qS->Drawn p H H'->Q (.str l.x) H'
def lnWk (l:Ln):Bool:=(decide (lnW l.x ∈ bE) == decide (lnD l.x=.loop\/lnD l.x=.cond)) && (decide (lnW l.x = "else") == decide (lnD l.x=.els)) && (decide (lnW l.x = "end") == decide (lnD l.x=.fin)) && (decide (lnW l.x=lnS l.x) || decide (lnD l.x=.row)) && (decide (lnW l.x = "if") == decide (lnD l.x=.cond)) && (decide (l.x = "else") == decide (lnD l.x=.els)) && (decide (l.x = "end") == decide (lnD l.x=.fin))
theorem aGp:qS.all lnWk=true:=by decide +kernel
structure LnG (l:Ln):Prop where
 b:lnW l.x ∈ bE ↔ lnD l.x=.loop\/lnD l.x=.cond
 e:lnW l.x = "else" ↔ lnD l.x=.els
 f:lnW l.x = "end" ↔ lnD l.x=.fin
 s:lnW l.x=lnS l.x\/lnD l.x=.row
 i:lnW l.x = "if" ↔ lnD l.x=.cond
 xe:l.x = "else" ↔ lnD l.x=.els
 xf:l.x = "end" ↔ lnD l.x=.fin
theorem aFt {l:Ln} (h:l ∈ qS):LnG l:=by
 have:=List.all_eq_true.mp aGp l h
 unfold lnWk at this
 simp only [Bool.and_eq_true,Bool.or_eq_true,decide_eq_true_eq,beq_iff_eq,decide_eq_decide] at this
 obtain⟨⟨⟨⟨⟨⟨a1,a2⟩,a3⟩,a4⟩,a5⟩,a6⟩,a7⟩:=this
 exact⟨a1,a2,a3,a4,a5,a6,a7⟩
theorem aAg {l:Ln} (h:l ∈ qS):∃ r:List Str,l.ws=lnW l.x::r:=by
 have:=(zS h).hd
 cases e:l.ws with
 | nil=>rw [e] at this;cases this
 | cons a r=>rw [e] at this;cases this;exact⟨r,rfl⟩
def spMv (K:Frag):Sp:=fun vs H Q _=>∃ (a:Addr) (st:List Str) (l:Ln) (xs:List Addr),vs=[.ref a,.str l.x]/\l ∈ qS/\Al xs H/\SqL K (offs xs H) a (st.map V.str)/\st.length<=3/\(stp st l.x=none->∀ H',jI H H'->Q .non H')/\(∀ st',stp st l.x=some st'->∀ b H',jI H H'->SqL K (offs xs H') b (st'.map V.str)->Q (.ref b) H')
def spDu (K:Frag):Sp:=fun vs H Q _=>∃ (a:Addr) (ls:List Ln),vs=[.ref a]/\SqL K H a ((ls.map (·.x)).map V.str)/\(∀ l ∈ ls,l ∈ qS)/\ls.length<=59/\∀ H',jI H H'->Q (mV (due (ls.map (·.x)) [] 0)) H'
inductive LTs (K:Frag) (H:Hp):List Addr->List Tr->Prop
 | nil:LTs K H [] []
 | row {a:Addr} {as:List Addr} {i:Nat} {ts:List Tr} : SqT K H a [.int i]->LTs K H as ts->LTs K H (a::as) (.row i::ts)
 | loop {a ra:Addr} {as bs:List Addr} {i j:Nat} {rs ts:List Tr} : SqT K H a [.int i,.int j,.ref ra]->SqL K H ra (bs.map V.ref)->LTs K H bs rs->LTs K H as ts->LTs K H (a::as) (.loop i j rs::ts)
 | ch {a ra rb:Addr} {as bs cs:List Addr} {i j:Nat} {m:Option Nat} {rs os ts:List Tr} : SqT K H a [.int i,.int j,mV m,.ref ra,.ref rb]->SqL K H ra (bs.map V.ref)->SqL K H rb (cs.map V.ref)->LTs K H bs rs->LTs K H cs os->LTs K H as ts->LTs K H (a::as) (.ch i j m rs os::ts)
theorem LTs.same {K:Frag} {H H':Hp} {as:List Addr} {ts:List Tr} (h:LTs K H as ts) (g:jI H H'):LTs K H' as ts:=by
 induction h with
 | nil=>exact .nil
 | row h _ ih=>exact .row (g.tp h) ih
 | loop h1 h2 _ _ ih1 ih2=>exact .loop (g.tp h1) (g.seq h2) ih1 ih2
 | ch h1 h2 h3 _ _ _ ih1 ih2 ih3=>exact .ch (g.tp h1) (g.seq h2) (g.seq h3) ih1 ih2 ih3
theorem LTs.app {K:Frag} {H:Hp} {as bs:List Addr} {ts us:List Tr} (h:LTs K H as ts) (h2:LTs K H bs us):LTs K H (as++bs) (ts++us):=by
 induction h with
 | nil=>exact h2
 | row h _ ih=>exact .row h ih
 | loop h1 h2 h3 _ _ ih2=>exact .loop h1 h2 h3 ih2
 | ch h1 h2 h3 h4 h5 _ _ _ ih3=>exact .ch h1 h2 h3 h4 h5 ih3
theorem LTs.len {K:Frag} {H:Hp} {as:List Addr} {ts:List Tr} (h:LTs K H as ts):as.length=ts.length:=by
 induction h with
 | nil=>rfl
 | row _ _ ih=>rw [List.length_cons,List.length_cons,ih]
 | loop _ _ _ _ _ ih=>rw [List.length_cons,List.length_cons,ih]
 | ch _ _ _ _ _ _ _ _ ih=>rw [List.length_cons,List.length_cons,ih]
inductive Bd:List Tr->Prop
 | nil:Bd []
 | row {i:Nat} {ts:List Tr} : Bd ts->Bd (.row i::ts)
 | loop {i j:Nat} {rs ts:List Tr} : rs.length<=60->Bd rs->Bd ts->Bd (.loop i j rs::ts)
 | ch {i j:Nat} {m:Option Nat} {rs os ts:List Tr} : rs.length<=60->os.length<=60->Bd rs->Bd os->Bd ts->Bd (.ch i j m rs os::ts)
theorem aKr {ds:List Str} {n e:Nat} {ts:List Tr} (h:Prs ds n ts e) (hl:ds.length<=60):Bd ts/\ts.length + n<=e:=by
 induction h with
 | stop _=>exact⟨.nil,by simp⟩
 | row _ _ _ ih=>exact⟨.row ih.1,by have:=ih.2;rw [List.length_cons];omega⟩
 | @loop n b e x y rs ts _ _ _ hy _ _ ih1 ih2 =>
  have hb:=(List.getElem?_eq_some_iff.mp hy).1
  have:=ih1.2
  have:=ih2.2
  exact⟨.loop (by omega) ih1.1 ih2.1,by rw [List.length_cons];omega⟩
 | @if1 n b e x y rs ts _ _ _ hy _ _ ih1 ih2 =>
  have hb:=(List.getElem?_eq_some_iff.mp hy).1
  have:=ih1.2
  have:=ih2.2
  exact⟨.ch (by omega) (Nat.zero_le _) ih1.1 .nil ih2.1,by rw [List.length_cons];omega⟩
 | @if2 n b c e x y z rs os ts _ _ _ hy _ _ hz _ _ ih1 ih2 ih3 =>
  have hb:=(List.getElem?_eq_some_iff.mp hy).1
  have hc:=(List.getElem?_eq_some_iff.mp hz).1
  have:=ih1.2
  have:=ih2.2
  have:=ih3.2
  exact⟨.ch (by omega) (by omega) ih1.1 ih2.1 ih3.1,by rw [List.length_cons];omega⟩
theorem bd_at {ts:List Tr} (h:Bd ts):∀ {j:Nat} {t:Tr},ts[j]?=some t->Bd [t]:=by
 induction h with
 | nil=>intro j t h;simp at h
 | row _ ih =>
  intro j t ht
  cases j with
  | zero=>cases ht;exact .row .nil
  | succ j=>exact ih ht
 | loop h0 h1 _ _ ih =>
  intro j t ht
  cases j with
  | zero=>cases ht;exact .loop h0 h1 .nil
  | succ j=>exact ih ht
 | ch h0 h1 h2 h3 _ _ _ ih =>
  intro j t ht
  cases j with
  | zero=>cases ht;exact .ch h0 h1 h2 h3 .nil
  | succ j=>exact ih ht
theorem aL {K:Frag} {l v:Addr} {xs bs:List Addr} {H1 H' H2:Hp} {t1:List Tr} {t:Tr} (g:But l H1 H') (g2:jI H' H2) (go:jI (offs (l::xs) H1) (offs (l::xs) H')) (hb:LTs K (offs (l::xs) H') bs t1) (hv:LTs K (offs (l::xs) H2) [v] [t]) :
  But l H1 (upd H2 l (.lst (bs.map V.ref++[.ref v])))/\upd H2 l (.lst (bs.map V.ref++[.ref v])) l=some (.lst ((bs++[v]).map V.ref))/\jI (offs (l::xs) H1) (offs (l::xs) (upd H2 l (.lst (bs.map V.ref++[.ref v]))))/\LTs K (offs (l::xs) (upd H2 l (.lst (bs.map V.ref++[.ref v])))) (bs++[v]) (t1++[t]):=by
 have eo:offs (l::xs) (upd H2 l (.lst (bs.map V.ref++[.ref v])))=offs (l::xs) H2:=by
  funext b
  unfold offs
  by_cases z:b ∈ l::xs
  ·rw [if_pos z,if_pos z]
  ·rw [if_neg z,if_neg z,jS (fun e=>z (by rw [e];exact List.mem_cons_self ..))]
 refine⟨(g.trans (But.of g2)).trans But.upd,by rw [List.map_append];exact jH,?_,?_⟩
 ·rw [eo];exact go.trans (jJ g2)
 ·rw [eo];exact (hb.same (jJ g2)).app hv
theorem aY {K:Frag} {xs:List Addr} {H:Hp} {a:Addr} {ys:List V} (n:a ∉ xs) (h:H a=some (.tup ys)):SqT K (offs xs H) a ys:=SqT.of (kZ n h)
def spTo (CR CLp CC:Addr) (K:Frag) (r:Nat):Sp:=fun vs H Q _=>∃ (a:Addr) (as:List Addr) (ts:List Tr) (d:Nat) (xs:List Addr),vs=[.ref a]/\r=d + 1/\Dp d ts/\Bd ts/\ts.length<=60/\Al xs H/\SqL K (offs xs H) a (as.map V.ref)/\TAs CR CLp CC K (offs xs H) as ts/\∀ l bs H',jI H H'->SqL K (offs xs H') l (bs.map V.ref)->LTs K (offs xs H') bs ts->Q (.ref l) H'
def aFv (K:Frag) (r:Nat):Sp:=fun vs H Q _=>∃ (a:Addr) (n e d:Nat) (ls:List Ln) (ts:List Tr) (xs:List Addr),vs=[.ref a,.int (n:Int)]/\r=d + 1/\Dp d ts/\Prs (ls.map (·.x)) n ts e/\(∀ l ∈ ls,l ∈ qS)/\ls.length<=59/\Al xs H/\SqL K (offs xs H) a ((ls.map (·.x)).map V.str)/\∀ (p ra:Addr) (as:List Addr) (H':Hp),jI H H'->SqT K H' p [.ref ra,.int (e:Int)]->SqL K (offs xs H') ra (as.map V.ref)->LTs K (offs xs H') as ts->Q (.ref p) H'
theorem aIv {CR CLp CC:Addr} {K:Frag} {H:Hp} {as:List Addr} {ts:List Tr} (h:TAs CR CLp CC K H as ts):∀ {j:Nat} {a:Addr} {t:Tr},as[j]?=some a->ts[j]?=some t->TAs CR CLp CC K H [a] [t]:=by
 induction h with
 | nil=>intro j a t h;simp at h
 | row h1 _ ih =>
  intro j a t ha ht
  cases j with
  | zero=>cases ha;cases ht;exact .row h1 .nil
  | succ j=>exact ih ha ht
 | loop h1 h2 h3 _ _ ih =>
  intro j a t ha ht
  cases j with
  | zero=>cases ha;cases ht;exact .loop h1 h2 h3 .nil
  | succ j=>exact ih ha ht
 | ch h1 h2 h3 h4 h5 _ _ _ ih =>
  intro j a t ha ht
  cases j with
  | zero=>cases ha;cases ht;exact .ch h1 h2 h3 h4 h5 .nil
  | succ j=>exact ih ha ht
theorem dp_at {d:Nat} {ts:List Tr} (h:Dp d ts):∀ {j:Nat} {t:Tr},ts[j]?=some t->Dp d [t]:=by
 induction h with
 | nil=>intro j t h;simp at h
 | row _ ih =>
  intro j t ht
  cases j with
  | zero=>cases ht;exact .row .nil
  | succ j=>exact ih ht
 | loop h1 _ _ ih =>
  intro j t ht
  cases j with
  | zero=>cases ht;exact .loop h1 .nil
  | succ j=>exact ih ht
 | ch h1 h2 _ _ _ ih =>
  intro j t ht
  cases j with
  | zero=>cases ht;exact .ch h1 h2 .nil
  | succ j=>exact ih ht
theorem aDc {xs:List Addr} {H H':Hp} {l:Addr} (h:Al xs H) (n:l ∉ xs) (g:But l H H'):Al xs H':=fun b hb=>by
 obtain⟨o,e⟩:=h b hb
 exact⟨o,g b o (fun z=>n (by rw [← z];exact hb)) e⟩
theorem aAa {ls:List Ln} (hls:∀ l ∈ ls,l ∈ qS) {n:Nat} {x:Str} (h:(ls.map (·.x))[n]?=some x):∃ l,ls[n]?=some l/\l ∈ qS/\l.x=x:=by
 rw [List.getElem?_map] at h
 cases e:ls[n]? with
 | none=>rw [e] at h;cases h
 | some l=>rw [e] at h;cases h;exact⟨l,rfl,hls l (List.mem_of_getElem? e),rfl⟩
theorem eH {xs:List Str} {n:Nat} {x:Str} (h:xs[n]?=some x):atI (xs.map V.str) (n:Int)=some (.str x):=bA (by rw [List.getElem?_map,h];rfl)
theorem aEh {ns:List Int} {lo hi:Option Int} {x:V} (h:x ∈ xJ (ns.map V.int) lo hi):∃ c,x=.int c:=by
 unfold xJ at h
 have:=List.mem_of_mem_drop (List.mem_of_mem_take h)
 obtain⟨c,_,rfl⟩:=List.mem_map.mp this
 exact⟨c,rfl⟩
theorem aKw (xs:List V):(xJ xs (some 2) (some 25)).length<=23:=by
 unfold xJ
 rw [List.length_take]
 refine Nat.le_trans (Nat.min_le_left _ _) ?_
 show (if (25:Int) < 0 then ((25:Int) + xs.length).toNat else min (25:Int).toNat xs.length) - (if (2:Int) < 0 then ((2:Int) + xs.length).toNat else min (2:Int).toNat xs.length)<=23
 rw [if_neg (by decide),if_neg (by decide)]
 show min 25 xs.length - min 2 xs.length<=23
 omega
theorem aHd (v:Int):∃ w:Int,-1<=w/\w<=1/\atI [V.int 0,.int 0,.int 0,.int (-1),.int 1] (v % 5)=some (.int w):=by
 have h0:=Int.emod_nonneg v (show (5:Int) ≠ 0 by decide)
 have h1:=Int.emod_lt_of_pos v (show (0:Int) < 5 by decide)
 generalize v % 5=u at h0 h1
 obtain⟨n,rfl⟩:=Int.eq_ofNat_of_zero_le h0
 have hn:n < 5:=by omega
 match n,hn with
 | 0,_=>exact⟨0,by decide,by decide,rfl⟩
 | 1,_=>exact⟨0,by decide,by decide,rfl⟩
 | 2,_=>exact⟨0,by decide,by decide,rfl⟩
 | 3,_=>exact⟨-1,by decide,by decide,rfl⟩
 | 4,_=>exact⟨1,by decide,by decide,rfl⟩
theorem mD {p:Addr} {H H':Hp} (d:Drawn p H H') (h:H p=none):jI H H':=fun b o e=>d.2 b o (jL e h) e
def tI:Ln:=⟨"end","end",["end"],["end"],[]⟩
theorem aBg:tI ∈ qS:=by
 unfold tI qS
 simp
theorem aBz (k:Nat):(List.replicate k [V.str (Str.ofString "end")]).flatten=((List.replicate k tI).map (·.x)).map V.str:=by
 induction k with
 | zero=>rfl
 | succ k ih=>rw [List.replicate_succ,List.flatten_cons,ih,List.replicate_succ];rfl
def spBu (K:Frag):Sp:=fun vs H Q _=>∃ (a:Addr) (ns:List Int),vs=[.ref a]/\SqL K H a (ns.map V.int)/\∀ l ls H',jI H H'->(∀ x ∈ ls,x ∈ qS)->ls.length<=40->ls ≠ []->H' l=some (.lst ((ls.map (fun x:Ln=>x.x)).map V.str))->Q (.ref l) H'
def spGd (c:Cl5) (CS:Addr) (K:Frag):Sp:=fun vs H Q _=>∃ (ra a z:Addr) (sa:List Addr) (S:List Shp) (ls:List Ln),vs=[.ref ra,.ref a]/\RO c CS K H ra (sa++[z]) S/\SqL K H a ((ls.map (·.x)).map V.str)/\(∀ l ∈ ls,l ∈ qS)/\ls ≠ []/\ls.length<=59/\∀ H',jI H H'->Q (.bl true) H'
theorem aLf {K:Frag} {H:Hp} {as:List Addr} {ts:List Tr} {d:Nat} (hd:Dp d ts):∀ {bs:List Addr},LTs K H as ts->LTs K H bs ts->∀ (i:Nat) x y,(as.map V.ref)[i]?=some x->(bs.map V.ref)[i]?=some y->EqS K H (2 * d + 2) x y:=by
 have cons:∀ {a b:Addr} {as bs:List Addr} {n:Nat},EqS K H n (.ref a) (.ref b)->(∀ (i:Nat) x y,(as.map V.ref)[i]?=some x->(bs.map V.ref)[i]?=some y->EqS K H n x y)->∀ (i:Nat) x y,((a::as).map V.ref)[i]?=some x->((b::bs).map V.ref)[i]?=some y->EqS K H n x y:=fun h1 h2 i x y hx hy=>by
  cases i with
  | zero=>cases hx;cases hy;exact h1
  | succ i=>exact h2 i x y hx hy
 have int:∀ (n:Nat) (i:Int),EqS K H n (.int i) (.int i):=fun n i=>.same (by first|exact rfl|exact .inl rfl|exact .inr rfl)
 have opt:∀ (n:Nat) (m:Option Nat),EqS K H n (mV m) (mV m):=fun n m=>by cases m <;> exact .same (by first|exact rfl|exact .inl rfl|exact .inr rfl)
 induction hd generalizing as with
 | nil =>
  intro bs ha hb i x y hx
  cases ha
  simp at hx
 | @row d i ts _ ih =>
  intro bs ha hb
  cases ha with
  | row a1 a2 =>
   cases hb with
   | row b1 b2 =>
    refine cons (.tup a1 b1 rfl fun j x y hx hy=>?_) (ih a2 b2)
    cases j with
    | zero=>cases hx;cases hy;exact int _ _
    | succ j=>simp at hx
 | @loop d i j rs ts _ _ ih1 ih2 =>
  intro bs ha hb
  cases ha with
  | loop a1 a2 a3 a4 =>
   cases hb with
   | loop b1 b2 b3 b4 =>
    refine cons (.tup a1 b1 rfl fun j x y hx hy=>?_) (ih2 a4 b4)
    match j,hx,hy with
    | 0,hx,hy=>cases hx;cases hy;exact int _ _
    | 1,hx,hy=>cases hx;cases hy;exact int _ _
    | 2,hx,hy =>
     cases hx;cases hy
     exact .lst a2 b2 (by rw [List.length_map,List.length_map,a3.len,b3.len]) (ih1 a3 b3)
    | j + 3,hx,hy=>simp at hx
 | @ch d i j m rs os ts _ _ _ ih1 ih2 ih3 =>
  intro bs ha hb
  cases ha with
  | ch a1 a2 a3 a4 a5 a6 =>
   cases hb with
   | ch b1 b2 b3 b4 b5 b6 =>
    refine cons (.tup a1 b1 rfl fun j x y hx hy=>?_) (ih3 a6 b6)
    match j,hx,hy with
    | 0,hx,hy=>cases hx;cases hy;exact int _ _
    | 1,hx,hy=>cases hx;cases hy;exact int _ _
    | 2,hx,hy=>cases hx;cases hy;exact opt _ _
    | 3,hx,hy =>
     cases hx;cases hy
     exact .lst a2 b2 (by rw [List.length_map,List.length_map,a4.len,b4.len]) (ih1 a4 b4)
    | 4,hx,hy =>
     cases hx;cases hy
     exact .lst a3 b3 (by rw [List.length_map,List.length_map,a5.len,b5.len]) (ih2 a5 b5)
    | j + 5,hx,hy=>simp at hx
theorem aCf {X:Cx} {K:Frag} (hK:X.K=K):MtR X "str.join" (fun x vs H Q=>∃ (sep:Str) (a:Addr) (ys:List Str),x=.str sep/\vs=[.ref a]/\SqL K H a (ys.map V.str)/\(ys.map (·.length)).sum + ys.length * sep.length<=16777216/\Q (.str (Str.join sep ys)) H):=hK ▸ aFn
def shS:List Shp:=[(Str.ofString "s",[(Str.ofString "x",Kd.num 1)])]
theorem aKj : [V.str (Str.ofString "shape s\nx num 1")]=[V.str (txt shS)]:=by
 have:txt shS=Str.ofString "shape s\nx num 1":=by decide +kernel
 rw [this]
theorem pS {i:Nat} {s:Shp} (h:shS[i]?=some s):i=0/\s=(Str.ofString "s",[(Str.ofString "x",Kd.num 1)]):=by
 match i,h with
 | 0,h=>cases h;exact⟨rfl,rfl⟩
 | i + 1,h=>simp [shS] at h
theorem uI {s:Shp} (h:s ∈ shS):s=(Str.ofString "s",[(Str.ofString "x",Kd.num 1)]):=List.mem_singleton.mp h
theorem aIy:Wel shS where
 good:={
  ne:=fun i s h=>by rw [(pS h).2];simp
  few:=fun i s h=>by rw [(pS h).2];show 1<=6;decide
  fit:=fun i s h f hf=>by
   obtain⟨rfl,rfl⟩:=pS h
   rw [List.mem_singleton.mp hf]
   exact⟨⟨by decide,by decide⟩,by decide +kernel,by decide +kernel⟩
  sz:=fun i=>by
   have e:(tabs shS).sz=[1]:=by decide +kernel
   rw [e]
   match i with
   | 0=>decide
   | i + 1=>simp }
 nm:=fun s h=>by rw [uI h];decide +kernel
 fnm:=fun s h f hf=>by
  rw [uI h] at hf
  rw [List.mem_singleton.mp hf];decide +kernel
 nd:=by decide +kernel
 fnd:=fun s h=>by rw [uI h];decide +kernel
 len:=by decide
 bd:=fun i s h=>by
  obtain⟨rfl,rfl⟩:=pS h
  exact⟨by decide +kernel,by decide +kernel,by decide +kernel,by decide⟩
def eG (i:Nat):Ln:=qS.getD i tI
theorem tb_mem (i:Nat):eG i ∈ qS:=by
 unfold eG
 rw [List.getD_eq_getElem?_getD]
 cases h:qS[i]? with
 | none=>exact aBg
 | some l=>exact List.mem_of_getElem? h
def aAu:List Ln:=[eG 4,eG 6,eG 7,eG 9,eG 7,eG 10,eG 7]
theorem aEy:∀ l ∈ aAu,l ∈ qS:=fun l h=>by
 unfold aAu at h
 simp only [List.mem_cons,List.not_mem_nil,or_false] at h
 rcases h with rfl|rfl|rfl|rfl|rfl|rfl|rfl <;> exact tb_mem _
def aAn (K:Frag) (H:Hp) (x:V):Prop:=∃ (b:Addr) (ls:List Ln),x=.ref b/\SqL K H b ((ls.map (fun x:Ln=>x.x)).map V.str)/\(∀ l ∈ ls,l ∈ qS)/\ls.length<=59
theorem aAn.same {K:Frag} {H H':Hp} {x:V} (h:aAn K H x) (g:jI H H'):aAn K H' x:=by
 obtain⟨b,ls,e,s,m,n⟩:=h
 exact⟨b,ls,e,g.seq s,m,n⟩
theorem aHe {ds:List Str} {n e:Nat} {ts:List Tr} (h:Prs ds n ts e) (hn:n<=ds.length):e<=ds.length:=by
 induction h with
 | stop _=>exact hn
 | row hx _ _ ih=>exact ih (List.getElem?_eq_some_iff.mp hx).1
 | loop _ _ _ hy _ _ _ ih2=>exact ih2 (List.getElem?_eq_some_iff.mp hy).1
 | if1 _ _ _ hy _ _ _ ih2=>exact ih2 (List.getElem?_eq_some_iff.mp hy).1
 | if2 _ _ _ _ _ _ hz _ _ _ _ ih3=>exact ih3 (List.getElem?_eq_some_iff.mp hz).1
theorem aBj {K:Frag} {H:Hp} : iL K H [] []:=⟨rfl,fun i fa f h=>by simp at h⟩
theorem kM {K:Frag} {H:Hp} {fa:Addr} {fas:List Addr} {f:Str × List Str} {fs:List (Str × List Str)} (h:∃ ga,SqT K H fa [.str f.1,.ref ga]/\SqT K H ga (f.2.map V.str)) (r:iL K H fas fs):iL K H (fa::fas) (f::fs):=by
 refine⟨congrArg (· + 1) r.1,fun i fa' f' h1 h2=>?_⟩
 cases i with
 | zero=>cases h1;cases h2;exact h
 | succ i=>exact r.2 i fa' f' (by simpa using h1) (by simpa using h2)
end K31
namespace K31
open PySem L2 PyProof.Rows
set_option hygiene false in
local macro_rules | `(tactic| walk_at "sc") => `(tactic| exact ⟨rfl, rfl, rfl, by decide +kernel, rfl, by decide +kernel, by decide +kernel⟩)
set_option hygiene false in
local macro_rules | `(tactic| walk_at "hr") => `(tactic| have hr := hr0.mono (Nat.le_succ _))
set_option hygiene false in
local macro_rules | `(tactic| walk_at "b1") => `(tactic| exact fun _ _ _ _ _ _ us hl => by obtain ⟨a0, rfl⟩ := ls1 hl; rfl)
set_option hygiene false in
local macro_rules | `(tactic| walk_at "b2") => `(tactic| exact fun _ _ _ _ _ _ us hl => by obtain ⟨a0, a1, rfl⟩ := ls2 hl; rfl)
set_option hygiene false in
local macro_rules | `(tactic| walk_at "b3") => `(tactic| exact fun _ _ _ _ _ _ us hl => by obtain ⟨a0, a1, a2, rfl⟩ := ls3 hl; rfl)
set_option hygiene false in
local macro_rules | `(tactic| walk_at "b4") => `(tactic| exact fun _ _ _ _ _ _ us hl => by obtain ⟨a0, a1, a2, a3, rfl⟩ := ls4 hl; rfl)
set_option hygiene false in
local macro_rules | `(tactic| walk_at "b5") => `(tactic| exact fun _ _ _ _ _ _ us hl => by obtain ⟨a0, a1, a2, a3, a4, rfl⟩ := ls5 hl; rfl)
set_option hygiene false in
local macro_rules | `(tactic| walk_at "b7") => `(tactic| exact fun _ _ _ _ _ _ us hl => by obtain ⟨a0, a1, a2, a3, a4, a5, a6, rfl⟩ := ls7 hl; rfl)
set_option hygiene false in
local macro_rules | `(tactic| walk_at "o") => `(tactic| first | exact Or.inl rfl | exact Or.inr rfl)
set_option hygiene false in
local macro_rules | `(tactic| w_cond $s:ident) => `(tactic| (obtain ⟨M, C, Ua, Ub, Uc, Ud, Ue, Uf, T_Row, T_Loop, T_Choice, T_Program, tRE, VI, T_NoProgram, T_TooMuch⟩ := Z; first | refine F.ok $s (fun vs H Q E h => ?_) (fun cdv A outer s0 H vs Q E hr0 h => ?_) | refine F.okE $s (fun vs H Q E h => ?_) (fun cdv A outer s0 H vs Q E hr0 h => ?_)))
theorem xL : 0<=sizeLine:=by decide
theorem dC : 1<=sizeLine:=by decide
theorem vQ : 2<=sizeLine:=by decide
theorem dQ : 3<=sizeLine:=by decide
theorem szL4 : 4<=sizeLine:=by decide
theorem sQ : 5<=sizeLine:=by decide
abbrev aX:Stmt:=top 18
theorem nG:jM ["thing","signs","most"] ["thing","signs","most"] (jG aX):=by walk_at "sc"
abbrev eZ:Stmt:=top 17
theorem wO:jM ["thing"] ["thing"] (jG eZ):=by walk_at "sc"
abbrev bP:Stmt:=top 19
theorem dZ:jM ["text","low","high","number"] ["text","low","high"] (jG bP):=by walk_at "sc"
abbrev iW:Stmt:=top 22
theorem aBo:jM ["path","step"] ["path","step"] (jG iW):=by walk_at "sc"
abbrev xY:Stmt:=top 68
theorem fA:jM ["words"] ["words"] (jG xY):=by walk_at "sc"
abbrev dF:Stmt:=inClass (top 24) 3
theorem tO:jM ["self"] ["self"] (jG dF):=by walk_at "sc"
abbrev zW:Stmt:=inClass (top 25) 3
theorem lM:jM ["self"] ["self"] (jG zW):=by walk_at "sc"
abbrev aK:Stmt:=inClass (top 28) 1
theorem nN:jM ["self"] ["self"] (jG aK):=by walk_at "sc"
abbrev cF:Stmt:=inClass (top 24) 4
theorem oQ:jM ["self"] ["self"] (jG cF):=by walk_at "sc"
abbrev yW:Stmt:=inClass (top 25) 4
theorem gO:jM ["self"] ["self"] (jG yW):=by walk_at "sc"
abbrev zV:Stmt:=inClass (top 28) 2
theorem mJ:jM ["self"] ["self"] (jG zV):=by walk_at "sc"
abbrev cH:Stmt:=inClass (top 26) 3
theorem pU:jM ["self"] ["self"] (jG cH):=by walk_at "sc"
abbrev aQ:Stmt:=inClass (top 26) 4
theorem nM:jM ["self"] ["self"] (jG aQ):=by walk_at "sc"
abbrev xW:Stmt:=inClass (top 27) 4
theorem fG:jM ["self"] ["self"] (jG xW):=by walk_at "sc"
abbrev aN:Stmt:=inClass (top 27) 5
theorem nF:jM ["self"] ["self"] (jG aN):=by walk_at "sc"
abbrev bU:Stmt:=inClass (top 27) 3
theorem pN:jM ["self"] ["self"] (jG bU):=by walk_at "sc"
abbrev cY:Stmt:=inClass (top 24) 0
theorem rQ:jM ["self","width"] ["self","width"] (jG cY):=by walk_at "sc"
abbrev zR:Stmt:=inClass (top 25) 0
theorem mC:jM ["self","shape"] ["self","shape"] (jG zR):=by walk_at "sc"
abbrev bI:Stmt:=inClass (top 26) 0
theorem rA:jM ["self","count","kind"] ["self","count","kind"] (jG bI):=by walk_at "sc"
abbrev bL:Stmt:=inClass (top 27) 0
theorem pV:jM ["self","shapes"] ["self","shapes"] (jG bL):=by walk_at "sc"
abbrev zJ:Stmt:=inClass (top 29) 0
theorem mI:jM ["self","shapes"] ["self","shapes"] (jG zJ):=by walk_at "sc"
abbrev yU:Stmt:=inClass (top 24) 6
theorem iD:jM ["self","path"] ["self","path"] (jG yU):=by walk_at "sc"
abbrev xR:Stmt:=inClass (top 27) 7
theorem fB:jM ["self","path"] ["self","path"] (jG xR):=by walk_at "sc"
abbrev xZ:Stmt:=inClass (top 25) 5
theorem fC:jM ["self"] ["self"] (jG xZ):=by walk_at "sc"
abbrev zQ:Stmt:=inClass (top 26) 5
theorem lX:jM ["self"] ["self"] (jG zQ):=by walk_at "sc"
abbrev xS:Stmt:=inClass (top 23) 2
theorem vM:jM ["self","path","rows","step","kind"] ["self","path"] (jG xS):=by walk_at "sc"
abbrev zU:Stmt:=inClass (top 28) 3
theorem mW:jM ["self"] ["self"] (jG zU):=by walk_at "sc"
abbrev aT:Stmt:=inClass (top 28) 0
theorem mX:jM ["self","name","fields"] ["self","name","fields"] (jG aT):=by walk_at "sc"
abbrev bQ:Stmt:=top 71
theorem pP:jM ["words"] ["words"] (jG bQ):=by walk_at "sc"
abbrev gB:Stmt:=top 70
theorem uN:jM ["words"] ["words"] (jG gB):=by walk_at "sc"
abbrev xT:Stmt:=top 69
theorem fW:jM ["words"] ["words"] (jG xT):=by walk_at "sc"
abbrev zA:Stmt:=top 74
theorem hV:jM ["words"] ["words"] (jG zA):=by walk_at "sc"
abbrev xH:Stmt:=top 72
theorem eQ:jM ["told","line","name"] ["told","line","name"] (jG xH):=by walk_at "sc"
abbrev yK:Stmt:=top 75
theorem gQ:jM ["told"] ["told"] (jG yK):=by walk_at "sc"
abbrev aU:Stmt:=top 73
theorem vR:jM ["told","line","words","named","at","name"] ["told","line","words"] (jG aU):=by walk_at "sc"
abbrev fE:Stmt:=top 77
theorem wR:jM ["words","shapes"] ["words","shapes"] (jG fE):=by walk_at "sc"
abbrev zK:Stmt:=top 78
theorem lU:jM ["shape"] ["shape"] (jG zK):=by walk_at "sc"
abbrev aP:Stmt:=top 76
theorem zO:jM ["told","line","words","kind","shape"] ["told","line","words"] (jG aP):=by walk_at "sc"
abbrev zI:Stmt:=top 67
theorem qV:jM ["text","lines","told","line","row","words"] ["text"] (jG zI):=by walk_at "sc"
abbrev fK:Stmt:=top 82
theorem wL:jM ["_law_cell_here"] ["_law_cell_here"] (jG fK):=by walk_at "sc"
abbrev xK:Stmt:=inClass (top 2) 0
theorem eV:jM ["self","words"] ["self","words"] (jG xK):=by walk_at "sc"
abbrev xI:Stmt:=inClass (top 7) 0
theorem dY:jM ["self","line"] ["self","line"] (jG xI):=by walk_at "sc"
abbrev yP:Stmt:=inClass (top 6) 0
theorem iC:jM ["self","line"] ["self","line"] (jG yP):=by walk_at "sc"
abbrev dH:Stmt:=inClass (top 39) 0
theorem tZ:jM ["self","line","deed","goal","reads","steps","number"] ["self","line","deed","goal","reads","steps","number"] (jG dH):=by walk_at "sc"
abbrev bY:Stmt:=inClass (top 40) 0
theorem rB:jM ["self","line","last","deed","goal","reads","rows"] ["self","line","last","deed","goal","reads","rows"] (jG bY):=by walk_at "sc"
abbrev zT:Stmt:=inClass (top 41) 0
theorem mK:jM ["self","line","last","middle","reads","rows","others"] ["self","line","last","middle","reads","rows","others"] (jG zT):=by walk_at "sc"
abbrev yX:Stmt:=inClass (top 42) 0
theorem gZ:jM ["self","shapes","rows","named","written"] ["self","shapes","rows","named","written"] (jG yX):=by walk_at "sc"
abbrev cV:Stmt:=top 44
theorem sH:jM ["text"] ["text"] (jG cV):=by walk_at "sc"
abbrev dB:Stmt:=top 20
theorem rS:jM ["width"] ["width"] (jG dB):=by walk_at "sc"
abbrev uH:Stmt:=top 46
theorem aGo:jM ["part","word"] ["part","word"] (jG uH):=by walk_at "sc"
abbrev lY:Stmt:=top 53
theorem fJ:jM ["names","ahead","found","name"] ["names","ahead"] (jG lY):=by walk_at "sc"
abbrev fU:Stmt:=top 45
theorem dG:jM ["line","words","deed","form"] ["line","words"] (jG fU):=by walk_at "sc"
abbrev yS:Stmt:=top 48
theorem hZ:jM ["begun","deed"] ["begun","deed"] (jG yS):=by walk_at "sc"
abbrev yA:Stmt:=top 47
theorem fH:jM ["begun","line","deed"] ["begun","line","deed"] (jG yA):=by walk_at "sc"
abbrev lF:Stmt:=top 50
abbrev zL:Stmt:=inClass (top 29) 2
theorem iZ:jM ["self"] ["self"] (jG zL):=by walk_at "sc"
abbrev dM:Stmt:=top 52
theorem zH:jM ["form","words","steps","names","part","word"] ["form","words","steps"] (jG dM):=by walk_at "sc"
abbrev zM:Stmt:=top 55
theorem mB:jM ["row"] ["row"] (jG zM):=by walk_at "sc"
abbrev lB:Stmt:=top 49
theorem aH:jM ["shape","line","deed","filled","goal","reads","steps","number"] ["shape","line","deed","filled"] (jG lB):=by walk_at "sc"
abbrev bX:Stmt:=top 54
theorem xA:jM ["told","first","rows","at","row"] ["told","first"] (jG bX):=by walk_at "sc"
abbrev bZ:Stmt:=top 56
theorem vJ:jM ["told","at","row","rows","behind","others","last"] ["told","at"] (jG bZ):=by walk_at "sc"
abbrev yQ:Stmt:=top 43
theorem kE:jM ["shapes","text","lines","told","begun","named","line","words","deed","form","row","rows","behind"] ["shapes","text"] (jG yQ):=by walk_at "sc"
abbrev dN:Stmt:=top 80
theorem tV:jM ["_law_script","_law_k"] ["_law_script","_law_k"] (jG dN):=by walk_at "sc"
abbrev cA:Stmt:=top 81
theorem aV:jM ["_law_cell_here","_law_k","_law_number"] ["_law_cell_here","_law_k"] (jG cA):=by walk_at "sc"
abbrev dD:Stmt:=top 83
theorem bH:jM ["_law_box_here","_law_many","_law_digit","_law_number"] ["_law_box_here","_law_many"] (jG dD):=by walk_at "sc"
abbrev cZ:Stmt:=top 84
theorem bM:jM ["_law_box_here","_law_pile","_law_some","_law_way"] ["_law_box_here","_law_pile"] (jG cZ):=by walk_at "sc"
abbrev bS:Stmt:=top 85
theorem eU:jM ["_law_pile","_law_word_here","_law_sort"] ["_law_pile","_law_word_here"] (jG bS):=by walk_at "sc"
abbrev fP:Stmt:=top 87
theorem zB:jM ["_law_lines","_law_pile","_law_line","_law_word_here"] ["_law_lines"] (jG fP):=by walk_at "sc"
abbrev dL:Stmt:=top 89
theorem bJ:jM ["_law_rows","_law_found","_law_row"] ["_law_rows"] (jG dL):=by walk_at "sc"
abbrev bO:Stmt:=top 88
theorem kO:jM ["_law_lines","_law_start","_law_found","_law_at","_law_sort","_law_rows","_law_behind","_law_middle","_law_others"] ["_law_lines","_law_start"] (jG bO):=by walk_at "sc"
abbrev bV:Stmt:=top 86
theorem qN:jM ["_law_script","_law_pile","_law_lines","_law_cell_here","_law_word_here","_law_moved_here","_law_many"] ["_law_script"] (jG bV):=by walk_at "sc"
abbrev cW:Stmt:=top 90
theorem zG:jM ["_law_shapes","_law_lines","_law_due_here","_law_program","e"] ["_law_shapes","_law_lines"] (jG cW):=by walk_at "sc"
abbrev aEv:Stmt:=top 91
theorem oS:jM ["_law_script","_law_shapes","_law_lines","_law_some"] ["_law_script"] (jG aEv):=by walk_at "sc"
structure ZZ (K:Frag) (mg:Str->Option Value) (t1 t2 t3 t4 t5 t6 t7 t8 t9 t10 t11 t12 t13 t14 t15 t16 t17:Tok) (ts tNa tSi tBe tFo:Addr) (Va cIu:Addr) (Vb cIv:Addr) (Vc cIx:Addr) (Vd cIy:Addr) (Ve cIz:Addr) (Vf cIw:Addr) (C_Row f_Row_init:Addr) (C_Loop f_Loop_init:Addr) (C_Choice f_Choice_init:Addr) (C_Program f_Program_init:Addr) (cRE fRE:Addr) (C_NoProgram f_NoProgram_init:Addr) (C_TooMuch f_TooMuch_init:Addr):Prop where
 M:Blt mg
 C:Cst K mg t1 t2 t3 t4 t5 t6 t7 t8 t9 t10 t11 t12 t13 t14 t15 t16 t17 ts tNa tSi tBe tFo
 Ua:lJ K mg "Num" Va cIu ["width"]
 Ub:lJ K mg "Nested" Vb cIv ["shape"]
 Uc:lJ K mg "Many" Vc cIx ["count","kind"]
 Ud:lJ K mg "Pick" Vd cIy ["shapes"]
 Ue:lJ K mg "Shape" Ve cIz ["name","fields"]
 Uf:lJ K mg "Shapes" Vf cIw ["shapes"]
 T_Row:lJ K mg "Row" C_Row f_Row_init ["line","deed","goal","reads","steps","number"]
 T_Loop:lJ K mg "Loop" C_Loop f_Loop_init ["line","last","deed","goal","reads","rows"]
 T_Choice:lJ K mg "Choice" C_Choice f_Choice_init ["line","last","middle","reads","rows","others"]
 T_Program:lJ K mg "Program" C_Program f_Program_init ["shapes","rows","named","written"]
 tRE:TXB K mg cRE fRE
 VI:aDd K
 T_NoProgram:TX K mg "NoProgram" C_NoProgram cRE f_NoProgram_init ["line"]
 T_TooMuch:TX K mg "TooMuch" C_TooMuch cRE f_TooMuch_init ["line"]
section
variable (P:Program) (w:World) {K:Frag} {mg:Str->Option Value} (base:Heap) {t1 t2 t3 t4 t5 t6 t7 t8 t9 t10 t11 t12 t13 t14 t15 t16 t17:Tok} {ts tNa tSi tBe tFo:Addr} {Va cIu:Addr} {Vb cIv:Addr} {Vc cIx:Addr} {Vd cIy:Addr} {Ve cIz:Addr} {Vf cIw:Addr} {C_Row f_Row_init:Addr} {C_Loop f_Loop_init:Addr} {C_Choice f_Choice_init:Addr} {C_Program f_Program_init:Addr} {cRE fRE:Addr} {C_NoProgram f_NoProgram_init:Addr} {C_TooMuch f_TooMuch_init:Addr} (Z:ZZ K mg t1 t2 t3 t4 t5 t6 t7 t8 t9 t10 t11 t12 t13 t14 t15 t16 t17 ts tNa tSi tBe tFo Va cIu Vb cIv Vc cIx Vd cIy Ve cIz Vf cIw C_Row f_Row_init C_Loop f_Loop_init C_Choice f_Choice_init C_Program f_Program_init cRE fRE C_NoProgram f_NoProgram_init C_TooMuch f_TooMuch_init)
variable {f:Addr} {fd:FuncData}
include Z
theorem nH {k:Nat} (F:Fun K "is_text_of" "is_text_of" aX f fd):jK P w K mg base CX0 (k + 2) f fd ["thing","signs","most"] (iT K):=by
 w_cond nG
 ·obtain⟨x,signs,most,rfl,_⟩:=h;rfl
 obtain⟨x,signs,most,rfl,h⟩:=h
 walk_at "hr"
 refine⟨_,(jD (kI (PW.pt (sZ (yI (vU (jY (vP.or iY nP) rfl M.isinstance boot_isinstance (jA (pv 0) (jA (dU (v:=.ty "str") rfl M.str boot_str rfl) jB))))) (mL (yI (sL oM oM jF (jY sM rfl M.len PySem.boot_len (jA (pv 0) jB)) (pv 2)))))) (jE (jP aDz)) jU)
   (jE (jP (jY (lZ rfl) rfl M.all boot_all (jA (qY ["sign"] ["signs"] [1] rfl (aJl (pv 0)) rfl ⟨rfl,trivial⟩ ⟨⟨rfl,rfl,rfl,_,rfl⟩,trivial⟩ (fun _ _ _ _=>(jV (i:=0) (show List.Nodup (["sign","signs"]:List Str) from by decide +kernel) rfl (Or.inl rfl))) (fun _ _ _ _=>vD) (fun _ _ _ _=>(qE aCd (pv 0) (pv 1) (by with_unfolding_all rfl)))) jB))))),?_⟩
 rcases h with⟨z,rfl,hz,q⟩|⟨t,ht,hns,q⟩
 ·have hl:=len_list z
  refine⟨_,rfl,.inl ⟨_,_,"str",rfl,by decide,rfl,_,rfl,kQ (by decide) ?_⟩⟩
  refine⟨_,rfl,.str z,z.length,rfl,⟨small hz,rfl⟩,_,_,rfl,rfl,_,rfl,qG (fun c1=>?_) (fun c1=>?_)⟩
  ·refine⟨_,rfl,_,_,rfl,rfl,_,rfl,qG (fun c2=>?_) (fun c2=>?_)⟩
   ·have e:within z most=false:=by
     unfold within
     have:decide ((z.length:Int)<=most)=false:=by simpa using c2
     rw [this,Bool.and_false]
    have:=q H (jI.refl H)
    rw [e,Bool.false_and] at this
    exact this
   ·have e:within z most=true:=by
     unfold within
     have c2':decide ((z.length:Int)<=most)=true:=by simpa using c2
     rw [c2',c1];rfl
    refine⟨_,rfl,z,rfl,aDm (fun i ys H'=>H'=H/\ys=((z.cps.toList.take i).map fun c=>decide (c ∈ signs.cps.toList)).map V.bl) ⟨rfl,rfl⟩ (fun i ys H' _ w=>by rw [w.2,List.length_map,List.length_map];exact List.length_take_le ..) (qB hz) (fun i c ys H' hc w=>?_) (fun ys H' w p hp=>?_)⟩
    ·obtain⟨rfl,rfl⟩:=w
     refine⟨_,rfl,_,rfl,⟨#[c]⟩,signs,rfl,rfl,⟨rfl,?_⟩,_,rfl⟩
     rw [aEx (fun c=>decide (c ∈ signs.cps.toList)) _ i hc,List.map_append,aKb];rfl
    ·obtain⟨rfl,rfl⟩:=w
     refine⟨p,(z.cps.toList.map fun c=>decide (c ∈ signs.cps.toList)),rfl,SqL.of ?_,?_⟩
     ·rw [jH,← hl,List.take_length]
     ·have:=q _ (vX hp (.lst (((z.cps.toList.take z.length).map fun c=>decide (c ∈ signs.cps.toList)).map V.bl)))
      rw [e,Bool.true_and] at this
      rw [all_map]
      exact this
  ·refine⟨_,rfl,?_⟩
   have e:within z most=false:=by
    unfold within
    have:decide (1<=(z.length:Int))=false:=by simpa using c1
    rw [this,Bool.false_and]
   have:=q H (jI.refl H)
   rw [e,Bool.false_and] at this
   exact qQ (by decide) this
 ·rcases ht with ht|⟨rfl,p,kvs,rfl,hp⟩
  ·exact⟨_,rfl,.inl ⟨x,_,t,rfl,by decide,ht,_,rfl,qQ (by rw [isa3 hns];rfl) (iteT q)⟩⟩
  ·exact⟨_,rfl,.inr ⟨p,_,kvs,rfl,by decide,hp,_,rfl,qQ (by decide) (iteT q)⟩⟩
theorem wS {k:Nat} (F:Fun K "is_name" "is_name" eZ f fd) {f_is_text_of:Addr} {fd_is_text_of:FuncData} (D_is_text_of:Df K mg "is_text_of" f_is_text_of fd_is_text_of ["thing","signs","most"]) (G_is_text_of:jK P w K mg base CX0 k f_is_text_of fd_is_text_of ["thing","signs","most"] (iT K)):jK P w K mg base CX0 (k + 2) f fd ["thing"] (zC K):=by
 w_cond wO
 ·obtain⟨x,rfl,_⟩:=h;rfl
 obtain⟨x,rfl,h⟩:=h
 walk_at "hr"
 refine⟨_,(jE (jP (yZ (jQ G_is_text_of hr rfl D_is_text_of.m D_is_text_of.k D_is_text_of.b .nil jT (jA (pv 0) (jA (kJ (v:=.str "abcdefghijklmnopqrstuvwxyz") rfl C.SMALL_LETTERS ⟨_,rfl⟩) (jA (kJ (v:=.int 6) rfl C.MOST_LETTERS ⟨_,rfl⟩) jB)))) (aI (qE qZ (pv 0) (kJ (v:=.ref ts) rfl C.OWN_WORDS rfl) (by with_unfolding_all rfl)))))),?_⟩
 rcases h with⟨z,rfl,hz,q⟩|⟨t,ht,hns,q⟩
 ·refine⟨_,rfl,.str z,zZ,6,rfl,.inl ⟨z,rfl,hz,fun H1 g1=>⟨_,rfl,qG (fun c=>?_) (fun c=>?_)⟩⟩⟩
  ·refine⟨_,rfl,ts,_,rfl,.inr (C.words _),rfl,kW _,?_⟩
   show Q (.bl (!inV (.str z) (ownL.map V.str))) H1
   rw [kR]
   have:=q H1 g1
   unfold kU at this
   rw [c,Bool.true_and] at this
   exact this
  ·have:=q H1 g1
   unfold kU at this
   rw [Bool.eq_false_iff.mpr c,Bool.false_and] at this
   exact this
 ·exact⟨_,rfl,x,zZ,6,rfl,.inr ⟨t,ht,hns,⟨_,rfl,cX (q H (jI.refl H))⟩⟩⟩
theorem pY {k:Nat} (F:Fun K "number_in" "number_in" bP f fd) {f_is_text_of:Addr} {fd_is_text_of:FuncData} (D_is_text_of:Df K mg "is_text_of" f_is_text_of fd_is_text_of ["thing","signs","most"]) (G_is_text_of:jK P w K mg base CX0 k f_is_text_of fd_is_text_of ["thing","signs","most"] (iT K)):jK P w K mg base CX0 (k + 2) f fd ["text","low","high"] (aJ K):=by
 w_cond dZ
 ·obtain⟨x,lo,hi,rfl,_⟩:=h;rfl
 obtain⟨x,lo,hi,rfl,h⟩:=h
 walk_at "hr"
 refine⟨_,(jD (kI (yI (vU (jQ G_is_text_of hr rfl D_is_text_of.m D_is_text_of.k D_is_text_of.b .nil jT (jA (pv 0) (jA (kJ (v:=.str "0123456789") rfl C.FIGURES ⟨_,rfl⟩) (jA (kJ (v:=.int 10) rfl C.MOST_FIGURES ⟨_,rfl⟩) jB)))))) (jE (jP vT)) jU)
   (jD (kI (PW.pt (xG (jR qF (kK aKa (pv 0) jF (fun _ _=>rfl)) jO (jW _)) (vK (jR eI (jY sM rfl M.len PySem.boot_len (jA (pv 0) jB)) jF (jW _))))) (jE (jP vT)) jU)
   (jD (kB (i:=3) dZ.nd rfl (by walk_at "o") (vH yE rfl M.int boot_int (jA (pv 0) jB)))
   (jE (jP (vF (sL oM oM (pv 1) (pv 3) (pv 2)) (pv 3) vT)))))),?_⟩
 rcases h with⟨z,rfl,hz,q⟩|⟨t,ht,hns,q⟩
 ·have hl:=len_list z
  refine⟨_,rfl,.str z,aC,10,rfl,.inl ⟨z,rfl,hz,fun H1 g1=>⟨_,rfl,qG (fun c=>?_) (fun c=>?_)⟩⟩⟩
  ·have e:lG z=none:=by
    unfold lG
    rw [if_neg]
    intro w
    rw [Bool.and_eq_true] at w
    rw [w.1] at c
    exact absurd c (by decide)
   have:=q H1 g1
   rw [e] at this
   exact this
  ·have c':(within z 10 && aAp z aC)=true:=by simpa using c
   have hw : 1<=(z.length:Int):=by
    rw [Bool.and_eq_true] at c'
    unfold within at c'
    have:=c'.1
    rw [Bool.and_eq_true] at this
    exact of_decide_eq_true this.1
   have hw2:(z.length:Int)<=10:=by
    rw [Bool.and_eq_true] at c'
    unfold within at c'
    have:=c'.1
    rw [Bool.and_eq_true] at this
    exact of_decide_eq_true this.2
   have hd:PySem.NumText.AllDigits z.cps.toList:=fun d hd=>by
    rw [Bool.and_eq_true] at c'
    have:=List.all_eq_true.mp c'.2 d hd
    exact (tR d).mp (of_decide_eq_true this)
   obtain⟨c0,hc0⟩ : ∃ c0,z.cps.toList[0]?=some c0:=⟨_,List.getElem?_eq_getElem (by omega)⟩
   have at0:atI z.cps.toList 0=some c0:=by
    have:=bA (j:=0) hc0
    simpa using this
   have lead:sC z=(decide (c0=48) && decide (1 < (z.length:Int))):=by
    unfold sC
    rw [hc0]
    congr 1
    rw [Bool.eq_iff_iff];simp
   have no:sC z=true->Q .non H1:=fun w=>by
    have e:lG z=none:=by
     unfold lG
     rw [if_neg]
     intro v
     rw [Bool.and_eq_true,w] at v
     exact absurd v.2 (by decide)
    have:=q H1 g1
    rw [e] at this
    exact this
   have yes:sC z=false->lG z=some ((PySem.NumText.digitsVal z.cps.toList:Nat):Int):=fun w=>by
    unfold lG
    rw [if_pos]
    rw [c',w];rfl
   have hnum:=PySem.intText_digits (x:=z) hd (by intro w;rw [w] at hc0;cases hc0) (by omega)
   refine⟨_,rfl,z,_,c0,rfl,rfl,small hz,at0,rfl,_,rfl,?_⟩
   rw [is_0]
   refine qG (fun c1=>?_) (fun c1=>?_)
   ·refine⟨_,rfl,.str z,z.length,rfl,⟨small hz,rfl⟩,_,_,rfl,rfl,_,rfl,qG (fun c2=>?_) (fun c2=>?_)⟩
    ·exact no (by rw [lead,c1];simpa using c2)
    ·have ey:=yes (by rw [lead,Bool.eq_false_iff.mpr c2,Bool.and_false])
     refine⟨_,rfl,z,_,rfl,hnum,by omega,?_⟩
     refine⟨_,rfl,_,rfl,_,_,rfl,rfl,_,rfl,qG (fun d1=>⟨_,rfl,_,_,rfl,rfl,_,rfl,qG (fun d2=>⟨_,rfl,?_⟩) (fun d2=>?_)⟩) (fun d1=>⟨_,rfl,cX ?_⟩)⟩
     ·have:=q H1 g1
      rw [ey,zD,if_pos ⟨of_decide_eq_true d1,of_decide_eq_true d2⟩] at this
      exact this
     ·have:=q H1 g1
      rw [ey,zD,if_neg (fun w=>d2 (decide_eq_true w.2))] at this
      exact this
     ·have:=q H1 g1
      rw [ey,zD,if_neg (fun w=>d1 (decide_eq_true w.1))] at this
      exact this
   ·have ey:=yes (by rw [lead,Bool.eq_false_iff.mpr c1,Bool.false_and])
    refine cX ⟨_,rfl,z,_,rfl,hnum,by omega,?_⟩
    refine⟨_,rfl,_,rfl,_,_,rfl,rfl,_,rfl,qG (fun d1=>⟨_,rfl,_,_,rfl,rfl,_,rfl,qG (fun d2=>⟨_,rfl,?_⟩) (fun d2=>?_)⟩) (fun d1=>⟨_,rfl,cX ?_⟩)⟩
    ·have:=q H1 g1
     rw [ey,zD,if_pos ⟨of_decide_eq_true d1,of_decide_eq_true d2⟩] at this
     exact this
    ·have:=q H1 g1
     rw [ey,zD,if_neg (fun w=>d2 (decide_eq_true w.2))] at this
     exact this
    ·have:=q H1 g1
     rw [ey,zD,if_neg (fun w=>d1 (decide_eq_true w.1))] at this
     exact this
 ·exact⟨_,rfl,x,aC,10,rfl,.inr ⟨t,ht,hns,⟨_,rfl,qQ (by decide) (q H (jI.refl H))⟩⟩⟩
theorem aCa {k:Nat} (F:Fun K "joined" "joined" iW f fd):jK P w K mg base CX0 (k + 2) f fd ["path","step"] lP:=by
 w_cond aBo
 ·obtain⟨p,x,y,rfl,_⟩:=h;rfl
 obtain⟨p,x,y,rfl,hy,hp,hl,q⟩:=h
 walk_at "hr"
 refine⟨_,(jE (jP (vF (xM (pv 0) (fun _=>rfl)) (aHu (aEp (pv 0) (aJe (aEp (pv 1) aJu)))) (aFo (pv 1))))),?_⟩
 refine⟨_,rfl,_,⟨small hp,rfl⟩,qG (fun c=>?_) (fun c=>?_)⟩
 ·have hne:¬ p.length=0:=fun z=>by rw [z] at c;exact absurd c (by decide)
  have l1:(Str.empty++p).length<=sizeLine:=by rw [iK];exact small hp
  have l2:(Str.empty++p++Str.ofString ".").length<=sizeLine:=by rw [iK,strLen_append];exact aFd (by have:(Str.ofString ".").length=1:=rfl;omega)
  have l3:(Str.empty++p++Str.ofString "." ++ y).length<=sizeLine:=by rw [iK,strLen_append,strLen_append];exact aFd (by have:(Str.ofString ".").length=1:=rfl;omega)
  refine⟨_,rfl,p,rfl,small hp,l1,l2,_,rfl,y,hy,small hl,l3,l3,?_⟩
  rw [iK]
  unfold pj at q
  rw [if_neg hne] at q
  exact q
 ·have hne:p.length=0:=by
   by_cases z:p.length=0
   ·exact z
   ·exact absurd (show ((p.length:Int) != 0)=true from bne_iff_ne.mpr (by omega)) c
  unfold pj at q
  rw [if_pos hne] at q
  exact⟨_,rfl,y,hy,small hl,q⟩
theorem fL {k:Nat} (F:Fun K "is_shape_line" "is_shape_line" xY f fd) {f_is_name:Addr} {fd_is_name:FuncData} (D_is_name:Df K mg "is_name" f_is_name fd_is_name ["thing"]) (G_is_name:jK P w K mg base CX0 k f_is_name fd_is_name ["thing"] (zC K)):jK P w K mg base CX0 (k + 2) f fd ["words"] (aIo K):=by
 w_cond fA
 ·obtain⟨a,ws,rfl,_⟩:=h;rfl
 obtain⟨a,ws,rfl,hw,q⟩:=h
 walk_at "hr"
 refine⟨_,(jE (jP (yZ (qE qF (jY kA rfl M.len PySem.boot_len (jA (pv 0) jB)) jF (jW _)) (yZ (qE qF (kK jX (pv 0) jF (fun _ _=>rfl)) jO (jW _)) (aI (jQ G_is_name hr rfl D_is_name.m D_is_name.k D_is_name.b .nil jT (jA (kK jX (pv 0) jF (fun _ _=>rfl)) jB))))))),?_⟩
 refine⟨_,rfl,a,_,rfl,.inl hw.l,rfl,_,rfl,?_⟩
 match ws,hw,q with
 | [],hw,q=>exact kQ (by decide) (q _ (jI.refl _))
 | [x],hw,q=>exact kQ (by simp) (q _ (jI.refl _))
 | x::y::z::r,hw,q=>exact kQ (by simp;omega) (q _ (jI.refl _))
 | [x,y],hw,q =>
  refine qQ (by simp) ⟨_,rfl,a,_,_,_,rfl,rfl,hw.l,rfl,rfl,_,rfl,qG (fun c=>?_) (fun c=>?_)⟩
  ·refine⟨_,rfl,a,_,_,_,rfl,rfl,hw.l,rfl,.str y,rfl,.inl ⟨y,rfl,hw.s y (by simp),fun H1 g1=>?_⟩⟩
   have e:uC [x,y]=kU y:=by
    show (decide (x=Str.ofString "shape") && kU y)=_
    rw [decide_eq_true (show x=Str.ofString "shape" from by simpa using c),Bool.true_and]
   have:=q H1 g1
   rw [e] at this
   exact this
  ·have e:uC [x,y]=false:=by
    show (decide (x=Str.ofString "shape") && kU y)=_
    rw [decide_eq_false (show ¬ x=Str.ofString "shape" from by simpa using c),Bool.false_and]
   have:=q _ (jI.refl _)
   rw [e] at this
   exact this
theorem gC {k r:Nat} (F:Fun K "size" "Num.size" dF f fd):jK P w K mg base CX0 (k + 2) f fd ["self"] (spV (Cl5.mk Va Vb Vc Vd Ve) K r Kd.isNum vSz):=by
 w_cond tO
 ·obtain⟨a,kd,sa,S,rfl,_⟩:=h;rfl
 obtain⟨a,kd,sa,S,rfl,hF,hk,hf,ho,hw,hg,q⟩:=h
 walk_at "hr"
 refine⟨_,(jE (jP (kH (pv 0) rfl))),?_⟩
 cases id ho with
 | num h1 =>
  exact⟨_,rfl,a,Va,_,_,_,rfl,h1,Ua.cl,Ua.na _ (by decide),rfl,q _ (jI.refl _)⟩
 | _=>cases hF
theorem lO {k r:Nat} (F:Fun K "size" "Nested.size" zW f fd) {f_Shape_size:Addr} {fd_Shape_size:FuncData} (D_Shape_size:DfM K Ve "size" f_Shape_size fd_Shape_size ["self"]) (G_Shape_size:jK P w K mg base CX0 k f_Shape_size fd_Shape_size ["self"] (gL (Cl5.mk Va Vb Vc Vd Ve) K r sSz)):jK P w K mg base CX0 (k + 2) f fd ["self"] (spV (Cl5.mk Va Vb Vc Vd Ve) K (r + 1) Kd.isNest vSz):=by
 w_cond lM
 ·obtain⟨a,kd,sa,S,rfl,_⟩:=h;rfl
 obtain⟨a,kd,sa,S,rfl,hF,hk,hf,ho,hw,hg,q⟩:=h
 walk_at "hr"
 refine⟨_,(jE (jP (vS (kH (pv 0) rfl) Ue.cl D_Shape_size.me G_Shape_size hr D_Shape_size.b .nil jT))),?_⟩
 cases id ho with
 | @nest a dx s i e h1 =>
  obtain⟨sh,hs,dx2,t,ps,h2,_⟩:=hw.at e
  exact⟨_,rfl,a,Vb,_,_,_,rfl,h1,Ub.cl,Ub.na _ (by decide),rfl,s,dx2,_,rfl,h2,rfl,s,i,sa,S,rfl,e,(by have : 2 * i + 2<=r + 1:=hk;omega),hw,hg,q⟩
 | _=>cases hF
theorem cT {k r:Nat} (F:Fun K "size" "Shape.size" aK f fd) (VT_size:∀ C sp,TV (Cl5.mk Va Vb Vc Vd Ve) K r vSz C sp->bF P w K mg base CX0 k "size" C sp):jK P w K mg base CX0 (k + 2) f fd ["self"] (gL (Cl5.mk Va Vb Vc Vd Ve) K r sSz):=by
 w_cond nN
 ·obtain⟨a,i,sa,S,rfl,_⟩:=h;rfl
 obtain⟨a,i,sa,S,rfl,e,hi,hw,hg,q⟩:=h
 walk_at "hr"
 refine⟨_,(jE (jP (jY (aFa rfl) rfl M.sum (show bootBuiltins "sum" = some (.builtin "sum") from by decide +kernel) (jA (qY ["name","kind"] [] [] rfl (fQ (kH (pv 0) rfl)) rfl trivial trivial (fun _ _ _ _=>(eR (K:=K) (n:=2) rfl rfl (jZ (jV (i:=0) (show List.Nodup (["name","kind"]:List Str) from by decide +kernel) rfl (Or.inl rfl)) (jZ (jV (i:=1) (show List.Nodup (["name","kind"]:List Str) from by decide +kernel) rfl (Or.inl rfl)) qK)))) (fun _ _ _ _=>vD) (fun _ _ _ _=>(aE (pv 1) VT_size hr jT))) jB)))),?_⟩
 obtain⟨s,hS,so⟩:=hw.at e
 obtain⟨dx,t,ps,k1,k2,k3⟩:=so.fields
 have zl:(ps.map V.ref).length=s.2.length:=by rw [List.length_map];exact k3.len
 have hfit:=hg.fit i s hS
 have htab:=oW hS fun f hf=>(hfit f hf).1.below
 have hil:i < S.length:=(List.getElem?_eq_some_iff.mp hS).1
 refine⟨_,rfl,a,Ve,_,_,_,rfl,k1,Ue.cl,Ue.na _ (by decide),rfl,t,rfl,⟨_,k2⟩,cP (xs:=ps.map V.ref) (fun j ys H'=>jI H H'/\ys=((s.2.take j).map fun f=>V.int (vSz f.2 (tabs S)))) ⟨jI.refl _,rfl⟩ (fun j ys H' _ z=>⟨z.1.tp k2,by rw [z.2,List.length_map,List.length_take];exact Nat.min_le_left _ _⟩) (qB (by have:=hg.few i s hS;omega)) (fun j x ys H' os ho hx z=>?_) (fun ys H' z p hp=>?_)⟩
 ·obtain⟨g,rfl⟩:=z
  obtain⟨o1,o2,rfl⟩:=aCj ho
  obtain⟨u,hu,rfl⟩:=vA hx
  obtain⟨x,y,kd,k,hf,ht,_,hko⟩:=k3.get hu
  have hm:=hfit _ (List.mem_of_getElem? hf)
  exact⟨u,_,rfl,g.tp ht,rfl,_,_,rfl,_,_,rfl,rfl,_,rfl,aAc (uO (by simp)) (hm.1.rk.mono hi) (hm.1.mono (Nat.le_of_lt hil)) (hko.same g) (hw.same g) hg fun H2 g2=>⟨⟨g.trans g2,(yJ hf).symm⟩,[_,_],rfl,rfl⟩⟩
 ·obtain⟨g,rfl⟩:=z
  have g2:=vX hp (.lst ((s.2.take (ps.map V.ref).length).map fun f=>V.int (vSz f.2 (tabs S))))
  have kp:upd H' p (.lst ((s.2.take (ps.map V.ref).length).map fun f=>V.int (vSz f.2 (tabs S)))) p=some (.lst (((s.2.map fun f=>vSz f.2 (tabs S)).map fun n:Nat=>(n:Int)).map V.int)):=by
   rw [jH,zl,qU,List.map_map,List.map_map];rfl
  have q':=q _ (g.trans g2)
  refine⟨p,(s.2.map fun f=>vSz f.2 (tabs S)).map fun n:Nat=>(n:Int),rfl,SqL.of kp,?_⟩
  rw [sumI]
  rw [show sSz i (tabs S)=(s.2.map fun f=>vSz f.2 (tabs S)).sum from htab.1] at q'
  exact q'
theorem eA {k r:Nat} (F:Fun K "depth" "Num.depth" cF f fd):jK P w K mg base CX0 (k + 2) f fd ["self"] (spV (Cl5.mk Va Vb Vc Vd Ve) K r Kd.isNum vDp):=by
 w_cond oQ
 ·obtain⟨a,kd,sa,S,rfl,_⟩:=h;rfl
 obtain⟨a,kd,sa,S,rfl,hF,hk,hf,ho,hw,hg,q⟩:=h
 walk_at "hr"
 refine⟨_,(jE (jP jF)),?_⟩
 cases id ho with
 | num h1 =>
  exact q _ (jI.refl _)
 | _=>cases hF
theorem gN {k r:Nat} (F:Fun K "depth" "Nested.depth" yW f fd) {f_Shape_depth:Addr} {fd_Shape_depth:FuncData} (D_Shape_depth:DfM K Ve "depth" f_Shape_depth fd_Shape_depth ["self"]) (G_Shape_depth:jK P w K mg base CX0 k f_Shape_depth fd_Shape_depth ["self"] (gL (Cl5.mk Va Vb Vc Vd Ve) K r sDp)):jK P w K mg base CX0 (k + 2) f fd ["self"] (spV (Cl5.mk Va Vb Vc Vd Ve) K (r + 1) Kd.isNest vDp):=by
 w_cond gO
 ·obtain⟨a,kd,sa,S,rfl,_⟩:=h;rfl
 obtain⟨a,kd,sa,S,rfl,hF,hk,hf,ho,hw,hg,q⟩:=h
 walk_at "hr"
 refine⟨_,(jE (jP (vS (kH (pv 0) rfl) Ue.cl D_Shape_depth.me G_Shape_depth hr D_Shape_depth.b .nil jT))),?_⟩
 cases id ho with
 | @nest a dx s i e h1 =>
  obtain⟨sh,hs,dx2,t,ps,h2,_⟩:=hw.at e
  exact⟨_,rfl,a,Vb,_,_,_,rfl,h1,Ub.cl,Ub.na _ (by decide),rfl,s,dx2,_,rfl,h2,rfl,s,i,sa,S,rfl,e,(by have : 2 * i + 2<=r + 1:=hk;omega),hw,hg,q⟩
 | _=>cases hF
theorem bK {k r:Nat} (F:Fun K "depth" "Shape.depth" zV f fd) (VT_depth:∀ C sp,TV (Cl5.mk Va Vb Vc Vd Ve) K r vDp C sp->bF P w K mg base CX0 k "depth" C sp):jK P w K mg base CX0 (k + 2) f fd ["self"] (gL (Cl5.mk Va Vb Vc Vd Ve) K r sDp):=by
 w_cond mJ
 ·obtain⟨a,i,sa,S,rfl,_⟩:=h;rfl
 obtain⟨a,i,sa,S,rfl,e,hi,hw,hg,q⟩:=h
 walk_at "hr"
 refine⟨_,(jE (jP (kF qL jF (jY (fZ rfl) rfl M.max boot_max (jA (qY ["name","kind"] [] [] rfl (fQ (kH (pv 0) rfl)) rfl trivial trivial (fun _ _ _ _=>(eR (K:=K) (n:=2) rfl rfl (jZ (jV (i:=0) (show List.Nodup (["name","kind"]:List Str) from by decide +kernel) rfl (Or.inl rfl)) (jZ (jV (i:=1) (show List.Nodup (["name","kind"]:List Str) from by decide +kernel) rfl (Or.inl rfl)) qK)))) (fun _ _ _ _=>vD) (fun _ _ _ _=>(aE (pv 1) VT_depth hr jT))) jB))))),?_⟩
 obtain⟨s,hS,so⟩:=hw.at e
 obtain⟨dx,t,ps,k1,k2,k3⟩:=so.fields
 have zl:(ps.map V.ref).length=s.2.length:=by rw [List.length_map];exact k3.len
 have hfit:=hg.fit i s hS
 have htab:=oW hS fun f hf=>(hfit f hf).1.below
 have hil:i < S.length:=(List.getElem?_eq_some_iff.mp hS).1
 refine⟨_,rfl,a,Ve,_,_,_,rfl,k1,Ue.cl,Ue.na _ (by decide),rfl,t,rfl,⟨_,k2⟩,cP (xs:=ps.map V.ref) (fun j ys H'=>jI H H'/\ys=((s.2.take j).map fun f=>V.int (vDp f.2 (tabs S)))) ⟨jI.refl _,rfl⟩ (fun j ys H' _ z=>⟨z.1.tp k2,by rw [z.2,List.length_map,List.length_take];exact Nat.min_le_left _ _⟩) (qB (by have:=hg.few i s hS;omega)) (fun j x ys H' os ho hx z=>?_) (fun ys H' z p hp=>?_)⟩
 ·obtain⟨g,rfl⟩:=z
  obtain⟨o1,o2,rfl⟩:=aCj ho
  obtain⟨u,hu,rfl⟩:=vA hx
  obtain⟨x,y,kd,k,hf,ht,_,hko⟩:=k3.get hu
  have hm:=hfit _ (List.mem_of_getElem? hf)
  exact⟨u,_,rfl,g.tp ht,rfl,_,_,rfl,_,_,rfl,rfl,_,rfl,aAc (uO (by simp)) (hm.1.rk.mono hi) (hm.1.mono (Nat.le_of_lt hil)) (hko.same g) (hw.same g) hg fun H2 g2=>⟨⟨g.trans g2,(yJ hf).symm⟩,[_,_],rfl,rfl⟩⟩
 ·obtain⟨g,rfl⟩:=z
  have g2:=vX hp (.lst ((s.2.take (ps.map V.ref).length).map fun f=>V.int (vDp f.2 (tabs S))))
  have kp:upd H' p (.lst ((s.2.take (ps.map V.ref).length).map fun f=>V.int (vDp f.2 (tabs S)))) p=some (.lst (((s.2.map fun f=>vDp f.2 (tabs S)).map fun n:Nat=>(n:Int)).map V.int)):=by
   rw [jH,zl,qU,List.map_map,List.map_map];rfl
  have q':=q _ (g.trans g2)
  refine⟨p,(s.2.map fun f=>vDp f.2 (tabs S)).map fun n:Nat=>(n:Int),rfl,SqL.of kp,(by simpa using hg.ne i s hS),fun m h1 h2=>?_⟩
  rw [maxI h1 h2]
  refine⟨_,_,rfl,rfl,?_⟩
  rw [show sDp i (tabs S)=1 + xD (s.2.map fun f=>vDp f.2 (tabs S)) from htab.2.1,Int.natCast_add] at q'
  exact q'
theorem pK {k r:Nat} (F:Fun K "size" "Many.size" cH f fd) (VT_size:∀ C sp,TV (Cl5.mk Va Vb Vc Vd Ve) K r vSz C sp->bF P w K mg base CX0 k "size" C sp):jK P w K mg base CX0 (k + 2) f fd ["self"] (spV (Cl5.mk Va Vb Vc Vd Ve) K (r + 1) Kd.isMany vSz):=by
 w_cond pU
 ·obtain⟨a,kd,sa,S,rfl,_⟩:=h;rfl
 obtain⟨a,kd,sa,S,rfl,hF,hk,hf,ho,hw,hg,q⟩:=h
 walk_at "hr"
 refine⟨_,(jE (jP (kF xU (kH (pv 0) rfl) (aE (kH (pv 0) rfl) VT_size hr jT)))),?_⟩
 cases id ho with
 | @many a dx b n k h1 h2 =>
  refine⟨_,rfl,a,Vc,_,_,_,rfl,h1,Uc.cl,Uc.na _ (by decide),rfl,_,rfl,a,Vc,_,_,_,rfl,h1,Uc.cl,Uc.na _ (by decide),rfl,aAc (uO (by simp)) hk.sub hf.sub h2 hw hg fun H' g=>⟨_,_,rfl,rfl,.inl ⟨by have:=hf.2.1;omega,by have:=hf.2.1;omega⟩,?_⟩⟩
  have q':=q H' g
  rw [show vSz (Kd.many n k) (tabs S)=n * vSz k (tabs S) from rfl,Int.natCast_mul] at q'
  exact q'
 | _=>cases hF
theorem mY {k r:Nat} (F:Fun K "depth" "Many.depth" aQ f fd) (VT_depth:∀ C sp,TV (Cl5.mk Va Vb Vc Vd Ve) K r vDp C sp->bF P w K mg base CX0 k "depth" C sp):jK P w K mg base CX0 (k + 2) f fd ["self"] (spV (Cl5.mk Va Vb Vc Vd Ve) K (r + 1) Kd.isMany vDp):=by
 w_cond nM
 ·obtain⟨a,kd,sa,S,rfl,_⟩:=h;rfl
 obtain⟨a,kd,sa,S,rfl,hF,hk,hf,ho,hw,hg,q⟩:=h
 walk_at "hr"
 refine⟨_,(jE (jP (aE (kH (pv 0) rfl) VT_depth hr jT))),?_⟩
 cases id ho with
 | @many a dx b n k h1 h2 =>
  exact⟨_,rfl,a,Vc,_,_,_,rfl,h1,Uc.cl,Uc.na _ (by decide),rfl,aAc (uO (by simp)) hk.sub hf.sub h2 hw hg q⟩
 | _=>cases hF
theorem zY {k r:Nat} (F:Fun K "greatest" "Pick.greatest" xW f fd) {f_Shape_size:Addr} {fd_Shape_size:FuncData} (D_Shape_size:DfM K Ve "size" f_Shape_size fd_Shape_size ["self"]) (G_Shape_size:jK P w K mg base CX0 k f_Shape_size fd_Shape_size ["self"] (gL (Cl5.mk Va Vb Vc Vd Ve) K r sSz)):jK P w K mg base CX0 (k + 2) f fd ["self"] (spGr (Cl5.mk Va Vb Vc Vd Ve) K (r + 1)):=by
 w_cond fG
 ·obtain⟨a,is,sa,S,rfl,_⟩:=h;rfl
 obtain⟨a,is,sa,S,rfl,hk,hf,ho,hw,hg,q⟩:=h
 walk_at "hr"
 refine⟨_,(jE (jP (jY (fZ rfl) rfl M.max boot_max (jA (qY ["shape"] [] [] rfl (fQ (kH (pv 0) rfl)) rfl trivial trivial (fun _ _ _ _=>(jV (i:=0) (show List.Nodup (["shape"]:List Str) from by decide +kernel) rfl (Or.inl rfl))) (fun _ _ _ _=>vD) (fun _ _ _ _=>(vS (pv 0) Ue.cl D_Shape_size.me G_Shape_size hr D_Shape_size.b .nil jT))) jB)))),?_⟩
 obtain⟨dx,t,ss,h1,h2,h3,h4⟩ : ∃ (dx t:Addr) (ss:List Addr),H a=some (.ins Vd dx [("shapes",.ref t)])/\SqT K H t (ss.map V.ref)/\ss.length=is.length/\∀ (j i:Nat) (s:Addr),is[j]?=some i->ss[j]?=some s->sa[i]?=some s:=by
  cases ho with
  | pick h1 h2 h3 h4=>exact⟨_,_,_,h1,h2,h3,h4⟩
 have zl:(ss.map V.ref).length=is.length:=by rw [List.length_map];exact h3
 refine⟨_,rfl,a,Vd,_,_,_,rfl,h1,Ud.cl,Ud.na _ (by decide),rfl,t,rfl,⟨_,h2⟩,sO (xs:=ss.map V.ref) (fun j ys H'=>jI H H'/\ys=((is.take j).map fun i=>V.int (sSz i (tabs S)))) ⟨jI.refl _,rfl⟩ (fun j ys H' _ z=>⟨z.1.tp h2,by rw [z.2,List.length_map,List.length_take];exact Nat.min_le_left _ _⟩) (qB (by have:=hf.2.1;omega)) (fun j x ys H' hx z=>?_) (fun ys H' z p hp=>?_)⟩
 ·obtain⟨g,rfl⟩:=z
  obtain⟨s,hs,rfl⟩:=vA hx
  have hj:j < is.length:=by rw [← h3];exact (List.getElem?_eq_some_iff.mp hs).1
  have hi:is[j]?=some is[j]:=List.getElem?_eq_getElem hj
  have e:=h4 j _ s hi hs
  obtain⟨sh,hS,dx2,t2,ps,k2,_⟩:=hw.at e
  exact⟨_,rfl,s,dx2,_,rfl,g _ _ k2,rfl,s,is[j],sa,S,rfl,e,(by have:=hk _ (List.getElem_mem hj);omega),hw.same g,hg,fun H2 g2=>⟨⟨g.trans g2,(yJ hi).symm⟩,_,rfl⟩⟩
 ·obtain⟨g,rfl⟩:=z
  have g2:=vX hp (.lst ((is.take (ss.map V.ref).length).map fun i=>V.int (sSz i (tabs S))))
  have kp:upd H' p (.lst ((is.take (ss.map V.ref).length).map fun i=>V.int (sSz i (tabs S)))) p=some (.lst (((is.map fun i=>sSz i (tabs S)).map fun n:Nat=>(n:Int)).map V.int)):=by
   rw [jH,zl,qU,List.map_map,List.map_map];rfl
  have q':=q _ (g.trans g2)
  refine⟨p,(is.map fun i=>sSz i (tabs S)).map fun n:Nat=>(n:Int),rfl,SqL.of kp,(by have:=hf.1;intro z;rw [List.map_map,List.map_eq_nil_iff] at z;rw [z] at this;exact absurd this (by decide)),fun m h5 h6=>?_⟩
  rw [maxI h5 h6]
  exact q'
theorem mZ {k r:Nat} (F:Fun K "depth" "Pick.depth" aN f fd) {f_Shape_depth:Addr} {fd_Shape_depth:FuncData} (D_Shape_depth:DfM K Ve "depth" f_Shape_depth fd_Shape_depth ["self"]) (G_Shape_depth:jK P w K mg base CX0 k f_Shape_depth fd_Shape_depth ["self"] (gL (Cl5.mk Va Vb Vc Vd Ve) K r sDp)):jK P w K mg base CX0 (k + 2) f fd ["self"] (spV (Cl5.mk Va Vb Vc Vd Ve) K (r + 1) Kd.isPick vDp):=by
 w_cond nF
 ·obtain⟨a,kd,sa,S,rfl,_⟩:=h;rfl
 obtain⟨a,kd,sa,S,rfl,hF,hk,hf,ho,hw,hg,q⟩:=h
 walk_at "hr"
 refine⟨_,(jE (jP (jY (fZ rfl) rfl M.max boot_max (jA (qY ["shape"] [] [] rfl (fQ (kH (pv 0) rfl)) rfl trivial trivial (fun _ _ _ _=>(jV (i:=0) (show List.Nodup (["shape"]:List Str) from by decide +kernel) rfl (Or.inl rfl))) (fun _ _ _ _=>vD) (fun _ _ _ _=>(vS (pv 0) Ue.cl D_Shape_depth.me G_Shape_depth hr D_Shape_depth.b .nil jT))) jB)))),?_⟩
 obtain⟨is,dx,t,ss,rfl,h1,h2,h3,h4⟩ : ∃ (is:List Nat) (dx t:Addr) (ss:List Addr),kd=.pick is/\H a=some (.ins Vd dx [("shapes",.ref t)])/\SqT K H t (ss.map V.ref)/\ss.length=is.length/\∀ (j i:Nat) (s:Addr),is[j]?=some i->ss[j]?=some s->sa[i]?=some s:=by
  cases ho with
  | pick h1 h2 h3 h4=>exact⟨_,_,_,_,rfl,h1,h2,h3,h4⟩
  | _=>cases hF
 have zl:(ss.map V.ref).length=is.length:=by rw [List.length_map];exact h3
 refine⟨_,rfl,a,Vd,_,_,_,rfl,h1,Ud.cl,Ud.na _ (by decide),rfl,t,rfl,⟨_,h2⟩,sO (xs:=ss.map V.ref) (fun j ys H'=>jI H H'/\ys=((is.take j).map fun i=>V.int (sDp i (tabs S)))) ⟨jI.refl _,rfl⟩ (fun j ys H' _ z=>⟨z.1.tp h2,by rw [z.2,List.length_map,List.length_take];exact Nat.min_le_left _ _⟩) (qB (by have:=hf.2.1;omega)) (fun j x ys H' hx z=>?_) (fun ys H' z p hp=>?_)⟩
 ·obtain⟨g,rfl⟩:=z
  obtain⟨s,hs,rfl⟩:=vA hx
  have hj:j < is.length:=by rw [← h3];exact (List.getElem?_eq_some_iff.mp hs).1
  have hi:is[j]?=some is[j]:=List.getElem?_eq_getElem hj
  have e:=h4 j _ s hi hs
  obtain⟨sh,hS,dx2,t2,ps,k2,_⟩:=hw.at e
  exact⟨_,rfl,s,dx2,_,rfl,g _ _ k2,rfl,s,is[j],sa,S,rfl,e,(by have:=hk _ (List.getElem_mem hj);omega),hw.same g,hg,fun H2 g2=>⟨⟨g.trans g2,(yJ hi).symm⟩,_,rfl⟩⟩
 ·obtain⟨g,rfl⟩:=z
  have g2:=vX hp (.lst ((is.take (ss.map V.ref).length).map fun i=>V.int (sDp i (tabs S))))
  have kp:upd H' p (.lst ((is.take (ss.map V.ref).length).map fun i=>V.int (sDp i (tabs S)))) p=some (.lst (((is.map fun i=>sDp i (tabs S)).map fun n:Nat=>(n:Int)).map V.int)):=by
   rw [jH,zl,qU,List.map_map,List.map_map];rfl
  have q':=q _ (g.trans g2)
  refine⟨p,(is.map fun i=>sDp i (tabs S)).map fun n:Nat=>(n:Int),rfl,SqL.of kp,(by have:=hf.1;intro z;rw [List.map_map,List.map_eq_nil_iff] at z;rw [z] at this;exact absurd this (by decide)),fun m h5 h6=>?_⟩
  rw [maxI h5 h6]
  exact q'
theorem pA {k r:Nat} (F:Fun K "size" "Pick.size" bU f fd) {f_Pick_greatest:Addr} {fd_Pick_greatest:FuncData} (D_Pick_greatest:DfM K Vd "greatest" f_Pick_greatest fd_Pick_greatest ["self"]) (G_Pick_greatest:jK P w K mg base CX0 k f_Pick_greatest fd_Pick_greatest ["self"] (spGr (Cl5.mk Va Vb Vc Vd Ve) K (r + 1))):jK P w K mg base CX0 (k + 2) f fd ["self"] (spV (Cl5.mk Va Vb Vc Vd Ve) K (r + 1) Kd.isPick vSz):=by
 w_cond pN
 ·obtain⟨a,kd,sa,S,rfl,_⟩:=h;rfl
 obtain⟨a,kd,sa,S,rfl,hF,hk,hf,ho,hw,hg,q⟩:=h
 walk_at "hr"
 refine⟨_,(jE (jP (kF qL jF (vS (pv 0) Ud.cl D_Pick_greatest.me G_Pick_greatest hr D_Pick_greatest.b .nil jT)))),?_⟩
 cases id ho with
 | @pick a dx t is ss h1 h2 h3 h4 =>
  refine⟨_,rfl,a,dx,_,rfl,h1,rfl,a,is,sa,S,rfl,hk,hf,ho,hw,hg,fun H' g=>⟨_,_,rfl,rfl,?_⟩⟩
  have q':=q H' g
  rw [show vSz (Kd.pick is) (tabs S)=1 + xD (is.map fun i=>(tabs S).sz.getD i 0) from rfl,Int.natCast_add] at q'
  exact q'
 | _=>cases hF
theorem tU {k:Nat} (F:Fun K "__init__" "Num.__init__" cY f fd):jK P w K mg base CX0 (k + 2) f fd ["self","width"] (aEe Va "width"):=by
 w_cond rQ
 ·obtain⟨a,dx,v,H1,rfl,_⟩:=h;rfl
 obtain⟨a,dx,v,H1,rfl,hA,g,h0,q⟩:=h
 walk_at "hr"
 refine⟨_,(jE (kT (pv 0) (pv 1) rfl)),?_⟩
 exact⟨_,rfl,_,rfl,a,Va,dx,[],rfl,hA,Ua.cl,Ua.na _ (by decide),by decide,q _ (g.putn h0) jH⟩
theorem iQ {k:Nat} (F:Fun K "__init__" "Nested.__init__" zR f fd):jK P w K mg base CX0 (k + 2) f fd ["self","shape"] (aEe Vb "shape"):=by
 w_cond mC
 ·obtain⟨a,dx,v,H1,rfl,_⟩:=h;rfl
 obtain⟨a,dx,v,H1,rfl,hA,g,h0,q⟩:=h
 walk_at "hr"
 refine⟨_,(jE (kT (pv 0) (pv 1) rfl)),?_⟩
 exact⟨_,rfl,_,rfl,a,Vb,dx,[],rfl,hA,Ub.cl,Ub.na _ (by decide),by decide,q _ (g.putn h0) jH⟩
theorem pL {k:Nat} (F:Fun K "__init__" "Many.__init__" bI f fd):jK P w K mg base CX0 (k + 2) f fd ["self","count","kind"] (spI2 Vc "count" "kind"):=by
 w_cond rA
 ·obtain⟨a,dx,v,u,H1,rfl,_⟩:=h;rfl
 obtain⟨a,dx,v,u,H1,rfl,hA,g,h0,q⟩:=h
 walk_at "hr"
 refine⟨_,(jD (kT (pv 0) (pv 1) rfl)
   (jE (kT (pv 0) (pv 2) rfl))),?_⟩
 exact⟨_,rfl,_,rfl,a,Vc,dx,[],rfl,hA,Uc.cl,Uc.na _ (by decide),by decide,_,rfl,_,rfl,a,Vc,dx,_,rfl,jH,Uc.cl,Uc.na _ (by decide),(by show 1 < 1000;decide),q _ ((g.putn h0).putn h0) jH⟩
theorem oV {k:Nat} (F:Fun K "__init__" "Pick.__init__" bL f fd):jK P w K mg base CX0 (k + 2) f fd ["self","shapes"] (spIT K Vd "shapes"):=by
 w_cond pV
 ·obtain⟨a,dx,l,ys,H1,rfl,_⟩:=h;rfl
 obtain⟨a,dx,l,ys,H1,rfl,hA,g,h0,hl,q⟩:=h
 walk_at "hr"
 refine⟨_,(jE (kT (pv 0) (vH zN rfl M.tuple boot_tuple (jA (pv 1) jB)) rfl)),?_⟩
 refine⟨_,rfl,l,ys,rfl,.inl ⟨g.seq hl,fun t ht=>?_⟩⟩
 generalize e_k2:upd H t _=H2
 obtain⟨g2,k2⟩:=jC e_k2 ht
 exact⟨_,rfl,a,Vd,dx,[],rfl,g2 _ _ hA,Ud.cl,Ud.na _ (by decide),by decide,q t _ ((g.trans g2).putn h0) jH (SqT.of (by rw [jS (Ne.symm (jL hA ht))];exact k2))⟩
theorem lA {k:Nat} (F:Fun K "__init__" "Shapes.__init__" zJ f fd):jK P w K mg base CX0 (k + 2) f fd ["self","shapes"] (spIT K Vf "shapes"):=by
 w_cond mI
 ·obtain⟨a,dx,l,ys,H1,rfl,_⟩:=h;rfl
 obtain⟨a,dx,l,ys,H1,rfl,hA,g,h0,hl,q⟩:=h
 walk_at "hr"
 refine⟨_,(jE (kT (pv 0) (vH zN rfl M.tuple boot_tuple (jA (pv 1) jB)) rfl)),?_⟩
 refine⟨_,rfl,l,ys,rfl,.inl ⟨g.seq hl,fun t ht=>?_⟩⟩
 generalize e_k2:upd H t _=H2
 obtain⟨g2,k2⟩:=jC e_k2 ht
 exact⟨_,rfl,a,Vf,dx,[],rfl,g2 _ _ hA,Uf.cl,Uf.na _ (by decide),by decide,q t _ ((g.trans g2).putn h0) jH (SqT.of (by rw [jS (Ne.symm (jL hA ht))];exact k2))⟩
theorem bB {k r:Nat} (F:Fun K "units_at" "Num.units_at" yU f fd):jK P w K mg base CX0 (k + 2) f fd ["self","path"] (spU (Cl5.mk Va Vb Vc Vd Ve) K r Kd.isNum):=by
 w_cond iD
 ·obtain⟨a,p,kd,sa,S,rfl,_⟩:=h;rfl
 obtain⟨a,p,kd,sa,S,rfl,hp,hF,hk,hf,ho,hw,hg,q⟩:=h
 walk_at "hr"
 refine⟨_,(jE (jP (kG (jA (qT (jA (pv 1) (jA (kH (pv 0) rfl) (jA jO jB)))) jB)))),?_⟩
 cases id ho with
 | num h1 =>
  refine⟨_,rfl,_,rfl,a,Va,_,_,_,rfl,h1,Ua.cl,Ua.na _ (by decide),rfl,dQ,fun t ht=>?_⟩
  generalize e1:upd H t _=H1
  obtain⟨g1,k1⟩:=jC e1 ht
  refine⟨dC,fun l hl=>?_⟩
  generalize e2:upd H1 l _=H2
  obtain⟨g2,k2⟩:=jC e2 hl
  exact q l H2 (g1.trans g2) (g1.free hl) ⟨[t],k2,.cons (g2.tp (SqT.of k1)) .nil⟩
 | _=>cases hF
theorem fD {k r:Nat} (F:Fun K "units_at" "Pick.units_at" xR f fd) {f_joined:Addr} {fd_joined:FuncData} (D_joined:Df K mg "joined" f_joined fd_joined ["path","step"]) (G_joined:jK P w K mg base CX0 k f_joined fd_joined ["path","step"] lP) {f_Pick_greatest:Addr} {fd_Pick_greatest:FuncData} (D_Pick_greatest:DfM K Vd "greatest" f_Pick_greatest fd_Pick_greatest ["self"]) (G_Pick_greatest:jK P w K mg base CX0 k f_Pick_greatest fd_Pick_greatest ["self"] (spGr (Cl5.mk Va Vb Vc Vd Ve) K (r + 1))):jK P w K mg base CX0 (k + 2) f fd ["self","path"] (spU (Cl5.mk Va Vb Vc Vd Ve) K (r + 1) Kd.isPick):=by
 w_cond fB
 ·obtain⟨a,p,kd,sa,S,rfl,_⟩:=h;rfl
 obtain⟨a,p,kd,sa,S,rfl,hp,hF,hk,hf,ho,hw,hg,q⟩:=h
 walk_at "hr"
 refine⟨_,(jE (jP (kG (jA (qT (jA (jQ G_joined hr rfl D_joined.m D_joined.k D_joined.b .nil jT (jA (pv 1) (jA jO jB))) (jA jF (jA jO jB)))) (jA (qT (jA (pv 1) (jA (vS (pv 0) Ud.cl D_Pick_greatest.me G_Pick_greatest hr D_Pick_greatest.b .nil jT) (jA jO jB)))) jB))))),?_⟩
 cases id ho with
 | @pick a dx t is ss h1 h2 h3 h4 =>
  refine⟨_,rfl,p,_,_,rfl,rfl,(by omega),(by decide),dQ,fun t1 ht1=>?_⟩
  generalize e1:upd H t1 _=H1
  obtain⟨g1,k1⟩:=jC e1 ht1
  refine⟨_,rfl,_,rfl,a,dx,_,rfl,g1 _ _ h1,rfl,a,is,sa,S,rfl,hk,hf,ho.same g1,hw.same g1,hg,fun H2 g2=>⟨dQ,fun t2 ht2=>?_⟩⟩
  generalize e3:upd H2 t2 _=H3
  obtain⟨g3,k3⟩:=jC e3 ht2
  refine⟨vQ,fun l hl=>?_⟩
  generalize e4:upd H3 l _=H4
  obtain⟨g4,k4⟩:=jC e4 hl
  exact q l H4 (((g1.trans g2).trans g3).trans g4) (((g1.trans g2).trans g3).free hl) ⟨[t1,t2],k4,.cons (((g2.trans g3).trans g4).tp (SqT.of k1)) (.cons (g4.tp (SqT.of k3)) .nil)⟩
 | _=>cases hF
theorem fM {k:Nat} (F:Fun K "parted" "Nested.parted" xZ f fd):jK P w K mg base CX0 (k + 2) f fd ["self"] (spP (Cl5.mk Va Vb Vc Vd Ve) K Kd.isNest):=by
 w_cond fC
 ·obtain⟨a,kd,sa,S,rfl,_⟩:=h;rfl
 obtain⟨a,kd,sa,S,rfl,hF,hf,ho,hw,hg,q⟩:=h
 walk_at "hr"
 refine⟨_,(jE (jP (vH oY rfl M.list boot_list (jA (kH (kH (pv 0) rfl) rfl) jB)))),?_⟩
 cases id ho with
 | @nest a dx s i e h1 =>
  obtain⟨sh,hs,so⟩:=hw.at e
  obtain⟨dx2,t,ps,k1,k2,k3⟩:=so.fields
  refine⟨_,rfl,a,Vb,_,_,_,rfl,h1,Ub.cl,Ub.na _ (by decide),rfl,s,Ve,_,_,_,rfl,k1,Ue.cl,Ue.na _ (by decide),rfl,t,_,rfl,.inr k2,fun l hl=>?_⟩
  generalize e1:upd H l _=H1
  obtain⟨g1,kl⟩:=jC e1 hl
  refine q l H1 g1 hl ⟨ps,kl,?_⟩
  rw [show (Kd.nest i).parts S=sh.2 by show (S.getD i _).2=_;rw [List.getD_eq_getElem?_getD,hs];rfl]
  exact k3.same g1
 | _=>cases hF
theorem iX {k:Nat} (F:Fun K "parted" "Many.parted" zQ f fd):jK P w K mg base CX0 (k + 2) f fd ["self"] (spP (Cl5.mk Va Vb Vc Vd Ve) K Kd.isMany):=by
 w_cond lX
 ·obtain⟨a,kd,sa,S,rfl,_⟩:=h;rfl
 obtain⟨a,kd,sa,S,rfl,hF,hf,ho,hw,hg,q⟩:=h
 walk_at "hr"
 refine⟨_,(jE (jP (qY ["number"] ["self"] [0] rfl (aCo rfl M.range (jA (kH (pv 0) rfl) jB)) rfl ⟨rfl,trivial⟩ ⟨⟨rfl,rfl,rfl,_,rfl⟩,trivial⟩ (fun _ _ _ _=>(jV (i:=0) (show List.Nodup (["number","self"]:List Str) from by decide +kernel) rfl (Or.inl rfl))) (fun _ _ _ _=>vD) (fun _ _ _ _=>(qT (jA (pv 0) (jA (pI (K:=K) rfl (pv 1) rfl) jB))))))),?_⟩
 cases id ho with
 | @many a dx b n k h1 h2 =>
  have hn:n<=6:=hf.2.1
  refine⟨_,rfl,a,Vc,_,_,_,rfl,h1,Uc.cl,Uc.na _ (by decide),rfl,n,rfl,by omega,by omega,wH (n:=n) (fun j ys H'=>jI H H'/\∃ tt:List Addr,ys=tt.map V.ref/\tt.length=j/\PR (Cl5.mk Va Vb Vc Vd Ve) K H' sa tt ((List.range j).map fun j=>(Str.ofString (toString j),k))) ⟨jI.refl _,[],rfl,rfl,.nil⟩ (fun j ys H' _ z=>?_) (qB (by omega)) (fun j ys H' hj z=>?_) (fun ys H' z p hp=>?_)⟩
  ·obtain⟨_,tt,rfl,hl,_⟩:=z
   rw [List.length_map];omega
  ·obtain⟨g,tt,rfl,hl,hP⟩:=z
   refine⟨_,rfl,_,rfl,a,Vc,_,_,_,rfl,g _ _ h1,Uc.cl,Uc.na _ (by decide),rfl,vQ,fun t ht=>?_⟩
   generalize e1:upd H' t _=H1
   obtain⟨g1,k1⟩:=jC e1 ht
   refine⟨⟨g.trans g1,tt++[t],by rw [List.map_append];rfl,by rw [List.length_append,hl];rfl,?_⟩,_,rfl⟩
   rw [List.range_succ,List.map_append]
   refine (hP.same g1).snoc (x:=.int ((0:Int) + (j:Nat))) (SqT.of k1) ?_ (h2.same (g.trans g1))
   rw [Int.zero_add]
   exact if_pos (by show (j:Nat) < 2 ^ 100;exact Nat.lt_of_lt_of_le hj (by omega))
  ·obtain⟨g,tt,rfl,hl,hP⟩:=z
   generalize e1:upd H' p _=H1
   obtain⟨g1,k1⟩:=jC e1 hp
   exact q p H1 (g.trans g1) (g.free hp) ⟨tt,k1,hP.same g1⟩
 | _=>cases hF
theorem aB {k r:Nat} {FF:Kd->Bool} (hFF:∀ k,FF k=true->(∃ i,k=.nest i)\/∃ n q,k=.many n q) (F:Fun K "units_at" "Kind.units_at" xS f fd) (VT_parted:∀ C sp,TPt (Cl5.mk Va Vb Vc Vd Ve) K C sp->bF P w K mg base CX0 k "parted" C sp) (VT_units_at:∀ C sp,TU (Cl5.mk Va Vb Vc Vd Ve) K r C sp->bF P w K mg base CX0 k "units_at" C sp) {f_joined:Addr} {fd_joined:FuncData} (D_joined:Df K mg "joined" f_joined fd_joined ["path","step"]) (G_joined:jK P w K mg base CX0 k f_joined fd_joined ["path","step"] lP):jK P w K mg base CX0 (k + 2) f fd ["self","path"] (spU (Cl5.mk Va Vb Vc Vd Ve) K (r + 1) FF):=by
 w_cond vM
 ·obtain⟨a,p,kd,sa,S,rfl,_⟩:=h;rfl
 obtain⟨a,p,kd,sa,S,rfl,hp,hF,hk,hf,ho,hw,hg,q⟩:=h
 walk_at "hr"
 refine⟨_,(jD (kB (i:=2) vM.nd rfl (by walk_at "o") (kG jB))
   (jD (xX PassesOwn.never rfl (vI (aE (pv 0) VT_parted hr jT)) (xC rfl (jZ (jV (i:=3) vM.nd rfl (Or.inl rfl)) (jZ (jV (i:=4) vM.nd rfl (Or.inl rfl)) qK))) (jE (qD (vW PySem.F.plainAttrs_list PySem.F.slot_list_extend PySem.F.type_list_extend oE (pv 2) (jA (sB (pv 4) VT_units_at hr jT (jA (jQ G_joined hr rfl D_joined.m D_joined.k D_joined.b .nil jT (jA (pv 1) (jA (pv 3) jB))) jB)) jB)))))
   (jE (jP (pv 2))))),?_⟩
 refine⟨xL,fun l hl=>?_⟩
 generalize e1:upd H l _=H1
 obtain⟨g1,k1⟩:=jC e1 hl
 refine⟨_,rfl,callP (uO (by simp)) (hFF kd hF) hf (ho.same g1) (hw.same g1) hg fun l2 H2 g2 hl2 zq=>?_⟩
 obtain⟨tt,k2,pr⟩:=zq
 have kl2:=g2 _ _ k1
 have n2:l2 ≠ l:=Ne.symm (jL k1 hl2)
 have hw2:=hw.same (g1.trans g2)
 have zl:tt.length=(kd.parts S).length:=pr.len
 have bd:=Kd.size_bd hg.sz (by decide) hf
 have lens:∀ j,(((kd.parts S).take j).flatMap fun f=>un f.2 S (pj p f.1)).length<=6000:=fun j=>by
  have h1:(un kd S p).length<=_:=(hg.kd hf).2 p
  rw [Kd.parts_un hg hf (hFF kd hF)] at h1
  conv at h1=>lhs;rw [← List.take_append_drop j (kd.parts S)]
  rw [List.flatMap_append,List.length_append] at h1
  omega
 refine⟨l2,rfl,⟨_,SqL.of k2⟩,aD (xs:=tt.map V.ref) (fun j σ H'=>∃ o3 o4,σ = [some (.ref a),some (.str p),some (.ref l),o3,o4]/\But l H2 H'/\UL K H' l (((kd.parts S).take j).flatMap fun f=>un f.2 S (pj p f.1))) ⟨_,_,rfl,But.refl,[],kl2,.nil⟩ (fun j σ H' _ z=>?_) (fun j x σ H' hx z=>?_) (fun σ H' z=>?_)⟩
 ·obtain⟨o3,o4,rfl,g,_⟩:=z
  exact SqL.of (g _ _ n2 k2)
 ·obtain⟨o3,o4,rfl,g,us,ku,ur⟩:=z
  obtain⟨t,ht,rfl⟩:=vA hx
  obtain⟨x,y,kd',kk,hps,hq,hx',hko⟩:=pr.get ht
  obtain⟨p1,p2,p3,p4⟩:=Kd.parts_ok hg hf hk (List.mem_of_getElem? hps)
  obtain⟨C',dx',fs',sp',m1,m2,m3,m4⟩:=kdU (uO (m:="units_at") (by simp)) p1 p2 (hko.but g kl2) (hw2.but g kl2) hg
  have hyl:(pj p y).length<=p.length + 7:=by
   have e1:(Str.ofString ".").length=1:=rfl
   have p4':y.length<=6:=p4
   unfold pj
   split
   ·omega
   ·rw [strLen_append,strLen_append];omega
  refine⟨t,_,rfl,g.tup kl2 hq,rfl,_,_,rfl,_,_,rfl,rfl,_,rfl,.inl ⟨rfl,_,SqL.of ku⟩,_,rfl,kk,C',dx',fs',sp',rfl,m1,m2,m3,_,rfl,_,rfl,p,x,y,rfl,hx',(by omega),(by have p4':y.length<=6:=p4;omega),m4 _ _ _ (by omega) fun l3 H3 g3 hl3 zq=>?_⟩
  obtain⟨us3,k3,ur3⟩:=zq
  have ku3:=g3 _ _ ku
  have h6:=lens (j + 1)
  rw [wU hps,List.length_append,← ur.len,← ur3.len] at h6
  refine⟨l,l3,_,_,rfl,rfl,ku3,k3,(by rw [sizeLine_eq,List.length_map,List.length_map];omega),?_⟩
  generalize e4:upd H3 l _=H4
  obtain⟨g4,k4⟩:=vB e4
  refine⟨_,_,rfl,(g.trans (But.of g3)).trans g4,us++us3,by rw [List.map_append];exact k4,?_⟩
  rw [wU hps]
  exact ((ur.same g3).but g4 ku3).app (ur3.but g4 ku3)
 ·obtain⟨o3,o4,rfl,g,u⟩:=z
  rw [List.length_map,zl,qU] at u
  refine⟨_,rfl,q l H' (But.from (g1.trans g2) hl g) hl ?_⟩
  rw [Kd.parts_un hg hf (hFF kd hF)]
  exact u
theorem lR {k r:Nat} (F:Fun K "units" "Shape.units" zU f fd) {fd_Nested_init:FuncData} (D_Nested_init:DfI K fd_Nested_init ["self","shape"]) (G_Nested_init:jK P w K mg base CX0 k cIv fd_Nested_init ["self","shape"] (aEe Vb "shape")) (VT_units_at:∀ C sp,TU (Cl5.mk Va Vb Vc Vd Ve) K r C sp->bF P w K mg base CX0 k "units_at" C sp):jK P w K mg base CX0 (k + 2) f fd ["self"] (aIl (Cl5.mk Va Vb Vc Vd Ve) K r):=by
 w_cond mW
 ·obtain⟨a,i,sa,S,rfl,_⟩:=h;rfl
 obtain⟨a,i,sa,S,rfl,e,hi,h8,hw,hg,q⟩:=h
 walk_at "hr"
 refine⟨_,(jE (jP (sB (vL Ub.ma G_Nested_init hr0 rfl Ub.m D_Nested_init.b .nil jT (jA (pv 0) jB)) VT_units_at hr jT (jA jO jB)))),?_⟩
 refine⟨_,rfl,fun x dx hx hdx _=>⟨x,dx,.ref a,H,rfl,jH,aG hx hdx,hx,fun H1 g1 k1=>⟨rfl,?_⟩⟩⟩
 have hil:i < S.length:=by rw [← hw.1];exact (List.getElem?_eq_some_iff.mp e).1
 obtain⟨C',dx',fs',sp',m1,m2,m3,m4⟩:=kdU (kd:=.nest i) (r:=r) (uO (m:="units_at") (by simp)) hi hil (.nest e k1) (hw.same g1) hg
 exact⟨x,C',dx',fs',sp',rfl,m1,m2,m3,m4 _ _ _ (by show 0 + 8 * r<=200;omega) fun l H2 g2 hl u=>q l H2 (g1.trans g2) (g1.free hl) u⟩
theorem nI {k:Nat} (F:Fun K "__init__" "Shape.__init__" aT f fd):jK P w K mg base CX0 (k + 2) f fd ["self","name","fields"] (aCw (Cl5.mk Va Vb Vc Vd Ve) K):=by
 w_cond mX
 ·obtain⟨a,dx,fl,nm,ps,fs,sa,H1,rfl,_⟩:=h;rfl
 obtain⟨a,dx,fl,nm,ps,fs,sa,H1,rfl,hA,g,h0,hl,hP,hn,q⟩:=h
 walk_at "hr"
 refine⟨_,(jD (kT (pv 0) (pv 1) rfl)
   (jE (kT (pv 0) (vH zN rfl M.tuple boot_tuple (jA (qY ["field","kind"] [] [] rfl (aJd (pv 2)) rfl trivial trivial (fun _ _ _ _=>(eR (K:=K) (n:=2) rfl rfl (jZ (jV (i:=0) (show List.Nodup (["field","kind"]:List Str) from by decide +kernel) rfl (Or.inl rfl)) (jZ (jV (i:=1) (show List.Nodup (["field","kind"]:List Str) from by decide +kernel) rfl (Or.inl rfl)) qK)))) (fun _ _ _ _=>vD) (fun _ _ _ _=>(qT (jA (pv 0) (jA (pv 1) jB))))) jB)) rfl))),?_⟩
 refine⟨_,rfl,_,rfl,a,Ve,dx,[],rfl,hA,Ue.cl,Ue.na _ (by decide),by decide,?_⟩
 have ga:jI H1 (upd H a (.ins Ve dx (yR "name" (.str nm) []))):=g.putn h0
 have ka:upd H a (.ins Ve dx (yR "name" (.str nm) [])) a=some (.ins Ve dx [("name",.str nm)]):=jH
 generalize upd H a (.ins Ve dx (yR "name" (.str nm) []))=H2 at ga ka
 have zl:(ps.map V.ref).length=fs.length:=by rw [List.length_map];exact hP.len
 have turn:∀ (j:Nat) (x:V) (ys:List V) (H':Hp) (Pv:Nat->List V->Hp->Prop),Pv=(fun j ys H'=>jI H2 H'/\∃ tt:List Addr,ys=tt.map V.ref/\tt.length=j/\FO (Cl5.mk Va Vb Vc Vd Ve) K H' sa tt (fs.take j))->(ps.map V.ref)[j]?=some x->Pv j ys H'->∃ t nm kk,x=.ref t/\SqT K H' t [.str nm,.ref kk]/\∀ u,H' u=none->Pv (j + 1) (ys++[.ref u]) (upd H' u (.tup [.str nm,.ref kk])):=by
  intro j x ys H' Pv eP hx z
  subst eP
  obtain⟨g2,tt,rfl,htl,hF⟩:=z
  obtain⟨t,ht,rfl⟩:=vA hx
  obtain⟨nm',kd,kk,hfs,hq,hko⟩:=hP.get ht
  refine⟨t,nm',kk,rfl,g2.tp (ga.tp hq),fun u hu=>?_⟩
  generalize e3:upd H' u _=H3
  obtain⟨g3,k3⟩:=jC e3 hu
  refine⟨g2.trans g3,tt++[u],by rw [List.map_append];rfl,by rw [List.length_append,htl];rfl,?_⟩
  have:=(hF.same g3).snoc (SqT.of k3) (hko.same ((ga.trans g2).trans g3))
  rw [List.take_add_one,hfs]
  exact this
 have fin:∀ (ys:List V) (H':Hp),(jI H2 H'/\∃ tt:List Addr,ys=tt.map V.ref/\tt.length=(ps.map V.ref).length/\FO (Cl5.mk Va Vb Vc Vd Ve) K H' sa tt (fs.take (ps.map V.ref).length))->∀ p,H' p=none->∀ t,upd H' p (.lst ys) t=none->Q .non (upd (upd (upd H' p (.lst ys)) t (.tup ys)) a (.ins Ve dx [("name",.str nm),("fields",.ref t)])):=by
  intro ys H' z p hp t ht
  obtain⟨g2,tt,rfl,htl,hF⟩:=z
  generalize e3:upd H' p _=H3 at ht
  obtain⟨g3,k3⟩:=jC e3 hp
  generalize e4:upd H3 t _=H4
  obtain⟨g4,k4⟩:=jC e4 ht
  have ka4:H4 a=_:=(g2.trans g3 |>.trans g4) _ _ ka
  rw [zl,qU] at hF
  have G:jI H1 (upd H4 a (.ins Ve dx [("name",.str nm),("fields",.ref t)])):=(((ga.trans g2).trans g3).trans g4).putn h0
  have nta:t ≠ a:=Ne.symm (jL ((g2.trans g3) _ _ ka) ht)
  refine q t tt _ G jH (SqT.of (by rw [jS nta];exact k4)) ?_
  exact FO.insD (hF.same (g3.trans g4)) ka4
 have st:jI H2 H2/\∃ tt:List Addr,([]:List V)=tt.map V.ref/\tt.length=0/\FO (Cl5.mk Va Vb Vc Vd Ve) K H2 sa tt (fs.take 0):=⟨jI.refl _,[],rfl,rfl,by rw [List.take_zero];exact .nil⟩
 have lst:∀ (H':Hp) (p t:Addr) (ys:List V),(jI H2 H'/\∃ tt:List Addr,ys=tt.map V.ref/\tt.length=(ps.map V.ref).length/\FO (Cl5.mk Va Vb Vc Vd Ve) K H' sa tt (fs.take (ps.map V.ref).length))->H' p=none->upd H' p (.lst ys) t=none->upd (upd H' p (.lst ys)) t (.tup ys) a=some (.ins Ve dx [("name",.str nm)]):=fun H' p t ys z hp ht=>(vX ht _) _ _ ((vX hp _) _ _ (z.1 _ _ ka))
 refine⟨_,rfl,fl,rfl,?_⟩
 rcases hl with hl|hl
 ·refine .inl ⟨⟨_,ga.seq hl⟩,wI (xs:=ps.map V.ref) (fun j ys H'=>jI H2 H'/\∃ tt:List Addr,ys=tt.map V.ref/\tt.length=j/\FO (Cl5.mk Va Vb Vc Vd Ve) K H' sa tt (fs.take j)) st (fun j ys H' _ z=>⟨z.1.seq (ga.seq hl),by obtain⟨_,tt,rfl,hl,_⟩:=z;rw [List.length_map];omega⟩) (qB (by omega)) (fun j x ys H' os ho hx z=>?_) (fun ys H' z p hp=>⟨p,ys,rfl,.inl ⟨SqL.of jH,fun t ht=>⟨_,rfl,a,Ve,dx,_,rfl,lst H' p t ys z hp ht,Ue.cl,Ue.na _ (by decide),(by show 1 < 1000;decide),fin ys H' z p hp t ht⟩⟩⟩)⟩
  obtain⟨o1,o2,rfl⟩:=aCj ho
  obtain⟨t,nm',kk,rfl,hq,nxt⟩:=turn j x ys H' _ rfl hx z
  exact⟨t,_,rfl,hq,rfl,_,_,rfl,_,_,rfl,rfl,_,rfl,_,rfl,vQ,fun u hu=>⟨nxt u hu,[_,_],rfl,rfl⟩⟩
 ·refine .inr ⟨⟨_,ga.tp hl⟩,cP (xs:=ps.map V.ref) (fun j ys H'=>jI H2 H'/\∃ tt:List Addr,ys=tt.map V.ref/\tt.length=j/\FO (Cl5.mk Va Vb Vc Vd Ve) K H' sa tt (fs.take j)) st (fun j ys H' _ z=>⟨z.1.tp (ga.tp hl),by obtain⟨_,tt,rfl,hl,_⟩:=z;rw [List.length_map];omega⟩) (qB (by omega)) (fun j x ys H' os ho hx z=>?_) (fun ys H' z p hp=>⟨p,ys,rfl,.inl ⟨SqL.of jH,fun t ht=>⟨_,rfl,a,Ve,dx,_,rfl,lst H' p t ys z hp ht,Ue.cl,Ue.na _ (by decide),(by show 1 < 1000;decide),fin ys H' z p hp t ht⟩⟩⟩)⟩
  obtain⟨o1,o2,rfl⟩:=aCj ho
  obtain⟨t,nm',kk,rfl,hq,nxt⟩:=turn j x ys H' _ rfl hx z
  exact⟨t,_,rfl,hq,rfl,_,_,rfl,_,_,rfl,rfl,_,rfl,_,rfl,vQ,fun u hu=>⟨nxt u hu,[_,_],rfl,rfl⟩⟩
theorem pF {k:Nat} (F:Fun K "is_single" "is_single" bQ f fd) {f_number_in:Addr} {fd_number_in:FuncData} (D_number_in:Df K mg "number_in" f_number_in fd_number_in ["text","low","high"]) (G_number_in:jK P w K mg base CX0 k f_number_in fd_number_in ["text","low","high"] (aJ K)) {f_is_name:Addr} {fd_is_name:FuncData} (D_is_name:Df K mg "is_name" f_is_name fd_is_name ["thing"]) (G_is_name:jK P w K mg base CX0 k f_is_name fd_is_name ["thing"] (zC K)):jK P w K mg base CX0 (k + 2) f fd ["words"] (spSg K):=by
 w_cond pP
 ·obtain⟨a,ws,rfl,_⟩:=h;rfl
 obtain⟨a,ws,rfl,hl,hs,q⟩:=h
 walk_at "hr"
 refine⟨_,(jD (kI (jR qF (kK jX (pv 0) jF (fun _ _=>rfl)) jO (jW _)) (jE (jP (yZ (qE qF (jY kA rfl M.len PySem.boot_len (jA (pv 0) jB)) jF (jW _)) (aI (qE iF (jQ G_number_in hr rfl D_number_in.m D_number_in.k D_number_in.b .nil jT (jA (kK jX (pv 0) jF (fun _ _=>rfl)) (jA jF (jA (kJ (v:=.int 4) rfl C.MOST_WIDTH ⟨_,rfl⟩) jB)))) vT (jW _)))))) jU)
   (jE (jP (yZ (qE qF (jY kA rfl M.len PySem.boot_len (jA (pv 0) jB)) jF (jW _)) (aI (jQ G_is_name hr rfl D_is_name.m D_is_name.k D_is_name.b .nil jT (jA (kK jX (pv 0) jF (fun _ _=>rfl)) jB))))))),?_⟩
 rcases hs with⟨w,w1,w4,rfl⟩|⟨x,hx,rfl⟩
 ·obtain⟨d1,d2,d3,_⟩:=dig (w:=w) (by omega)
  refine⟨_,rfl,a,_,_,_,rfl,rfl,hl,rfl,rfl,_,rfl,qQ (by decide) ⟨_,rfl,a,_,rfl,.inl hl,rfl,_,rfl,qQ (by simp) ⟨_,rfl,a,_,_,_,rfl,rfl,hl,rfl,.str _,1,4,rfl,.inl ⟨_,rfl,by omega,fun H1 g1=>⟨rfl,?_⟩⟩⟩⟩⟩
  rw [d1,show zD (some (w:Int)) 1 4=some (w:Int) from if_pos ⟨by omega,by omega⟩]
  exact q H1 g1
 ·have hne:=aM hx (y:="num") (by decide)
  refine⟨_,rfl,a,_,_,_,rfl,rfl,hl,rfl,rfl,_,rfl,kQ (by simpa using hne) ⟨_,rfl,a,_,rfl,.inl hl,rfl,_,rfl,qQ (by simp) ⟨_,rfl,a,_,_,_,rfl,rfl,hl,rfl,.str x,rfl,.inl ⟨x,rfl,by have:=(xO hx).2;omega,fun H1 g1=>?_⟩⟩⟩⟩
  rw [hx]
  exact q H1 g1
theorem wJ {k:Nat} (F:Fun K "is_kind" "is_kind" gB f fd) {f_number_in:Addr} {fd_number_in:FuncData} (D_number_in:Df K mg "number_in" f_number_in fd_number_in ["text","low","high"]) (G_number_in:jK P w K mg base CX0 k f_number_in fd_number_in ["text","low","high"] (aJ K)) {f_is_single:Addr} {fd_is_single:FuncData} (D_is_single:Df K mg "is_single" f_is_single fd_is_single ["words"]) (G_is_single:jK P w K mg base CX0 k f_is_single fd_is_single ["words"] (spSg K)) {f_is_name:Addr} {fd_is_name:FuncData} (D_is_name:Df K mg "is_name" f_is_name fd_is_name ["thing"]) (G_is_name:jK P w K mg base CX0 k f_is_name fd_is_name ["thing"] (zC K)):jK P w K mg base CX0 (k + 2) f fd ["words"] (spKd K):=by
 w_cond uN
 ·obtain⟨a,nm,n,kd,rfl,_⟩:=h;rfl
 obtain⟨a,nm,n,kd,rfl,hl,hf,hn,q⟩:=h
 walk_at "hr"
 refine⟨_,(jD (kI (jR qF (kK jX (pv 0) jF (fun _ _=>rfl)) jO (jW _)) (jE (jP (yZ (qE eI (jY kA rfl M.len PySem.boot_len (jA (pv 0) jB)) jF (jW _)) (yZ (qE iF (jQ G_number_in hr rfl D_number_in.m D_number_in.k D_number_in.b .nil jT (jA (kK jX (pv 0) jF (fun _ _=>rfl)) (jA jF (jA (kJ (v:=.int 6) rfl C.MOST_COUNT ⟨_,rfl⟩) jB)))) vT (jW _)) (aI (jQ G_is_single hr rfl D_is_single.m D_is_single.k D_is_single.b .nil jT (jA (qA qJ (pv 0) (qH jF) qO) jB))))))) jU)
   (jD (kI (jR qF (kK jX (pv 0) jF (fun _ _=>rfl)) jO (jW _)) (jE (jP (yZ (aEi oM oM (kJ (v:=.int 2) rfl C.LEAST_PICKED ⟨_,rfl⟩) (kF uU (jY kA rfl M.len PySem.boot_len (jA (pv 0) jB)) jF) (kJ (v:=.int 4) rfl C.MOST_PICKED ⟨_,rfl⟩)) (aI (jY (lZ rfl) rfl M.all boot_all (jA (qY ["word"] [] [] rfl (vI (qA qJ (pv 0) (qH jF) qO)) rfl trivial trivial (fun _ _ _ _=>(jV (i:=0) (show List.Nodup (["word"]:List Str) from by decide +kernel) rfl (Or.inl rfl))) (fun _ _ _ _=>vD) (fun _ _ _ _=>(jQ G_is_name hr rfl D_is_name.m D_is_name.k D_is_name.b .nil jT (jA (pv 0) jB)))) jB)))))) jU)
   (jE (jP (jQ G_is_single hr rfl D_is_single.m D_is_single.k D_is_single.b .nil jT (jA (pv 0) jB)))))),?_⟩
 cases kd with
 | num w=>exact⟨_,rfl,a,_,_,_,rfl,rfl,hl,rfl,rfl,_,rfl,kQ (by decide) ⟨_,rfl,a,_,_,_,rfl,rfl,hl,rfl,rfl,_,rfl,kQ (by decide) ⟨_,rfl,a,_,rfl,hl,.inl ⟨w,hf.1,hf.2,rfl⟩,q⟩⟩⟩
 | nest i =>
  have hx:=hn i hf
  have h1:=aM hx (y:="row") (by decide)
  have h2:=aM hx (y:="pick") (by decide)
  exact⟨_,rfl,a,_,_,_,rfl,rfl,hl,rfl,rfl,_,rfl,kQ (by simpa using h1) ⟨_,rfl,a,_,_,_,rfl,rfl,hl,rfl,rfl,_,rfl,kQ (by simpa using h2) ⟨_,rfl,a,_,rfl,hl,.inr ⟨_,hx,rfl⟩,q⟩⟩⟩
 | many m k =>
  have hm:=hf.2.1
  have hm1:=hf.1
  obtain⟨d1,d2,d3,_⟩:=dig (w:=m) (by omega)
  have hne:=Kd.words_ne nm k
  have h0 : 0 < (k.words nm).length:=List.length_pos_iff.mpr hne
  have hl':SqL K H a (V.str (Str.ofString "row")::V.str (Str.ofString (toString (m:Int)))::(k.words nm).map V.str):=hl
  refine⟨_,rfl,a,_,_,_,rfl,rfl,hl',at0,rfl,_,rfl,qQ (by decide) ⟨_,rfl,a,_,rfl,.inl hl',_,_,rfl,rfl,_,rfl,qQ (by simp;omega) ⟨_,rfl,a,_,_,_,rfl,rfl,hl',at1,.str _,1,6,rfl,.inl ⟨_,rfl,by omega,fun H1 g1=>⟨rfl,_,rfl,?_⟩⟩⟩⟩⟩
  rw [d1,show zD (some (m:Int)) 1 6=some (m:Int) from if_pos ⟨by omega,by omega⟩]
  refine qQ (by rfl) ⟨_,rfl,_,rfl,a,_,rfl,g1.seq hl,fun p hp=>?_⟩
  rw [show xJ ((Kd.words nm (.many m k)).map V.str) (some 2) none=(k.words nm).map V.str from aIm _ _ _]
  generalize e2:upd H1 p _=H2
  obtain⟨g2,k2⟩:=jC e2 hp
  refine⟨p,k.words nm,rfl,SqL.of k2,?_,fun H3 g3=>q H3 ((g1.trans g2).trans g3)⟩
  rcases hf.2.2 with⟨w,rfl,hw⟩|⟨i,rfl,hi⟩
  ·exact .inl ⟨w,hw.1,hw.2,rfl⟩
  ·exact .inr ⟨_,hn i hi,rfl⟩
 | pick is =>
  have h1:=hf.1
  have h2:=hf.2.1
  have hl':SqL K H a (V.str (Str.ofString "pick")::(is.map nm).map V.str):=hl
  have zl:((is.map nm).map V.str).length=is.length:=by rw [List.length_map,List.length_map]
  refine⟨_,rfl,a,_,_,_,rfl,rfl,hl',at0,rfl,_,rfl,kQ (by decide) ⟨_,rfl,a,_,_,_,rfl,rfl,hl',at0,rfl,_,rfl,qQ (by decide) ⟨_,rfl,a,_,rfl,.inl hl',_,_,rfl,rfl,_,_,rfl,rfl,_,rfl,qQ (by simp;omega) ⟨_,_,rfl,rfl,_,rfl,qQ (by simp;omega) ⟨_,rfl,_,rfl,a,_,rfl,hl',fun p hp=>?_⟩⟩⟩⟩⟩
  rw [tN]
  generalize e2:upd H p _=H2
  obtain⟨g2,k2⟩:=jC e2 hp
  refine⟨p,rfl,⟨_,SqL.of k2⟩,aA (xs:=(is.map nm).map V.str) (fun j ys H'=>jI H2 H'/\ys=((is.take j).map fun _=>true).map V.bl) ⟨jI.refl _,rfl⟩ (fun j ys H' _ z=>⟨z.1.seq (SqL.of k2),by rw [z.2,List.length_map,List.length_map,List.length_take];exact Nat.min_le_left _ _⟩) (qB (by omega)) (fun j x ys H' hx z=>?_) (fun ys H' z p hp=>?_)⟩
  ·obtain⟨g,rfl⟩:=z
   obtain⟨y,hy,rfl⟩:=qR hx
   rw [List.getElem?_map] at hy
   cases e:is[j]? with
   | none=>rw [e] at hy;cases hy
   | some i =>
    rw [e] at hy
    cases hy
    have hx:=hn i (hf.2.2.2 i (List.mem_of_getElem? e))
    refine⟨_,rfl,.str (nm i),rfl,.inl ⟨_,rfl,by have:=(xO hx).2;omega,fun H3 g3=>⟨⟨g.trans g3,?_⟩,_,rfl⟩⟩⟩
    rw [yJ e,hx,List.map_append];rfl
  ·obtain⟨g,rfl⟩:=z
   have g3:=vX hp (.lst (((is.take ((is.map nm).map V.str).length).map fun _=>true).map V.bl))
   refine⟨p,_,rfl,SqL.of jH,?_⟩
   rw [show ((is.take ((is.map nm).map V.str).length).map fun _=>true).all id=true from List.all_eq_true.mpr fun b hb=>by obtain⟨_,_,rfl⟩:=List.mem_map.mp hb;rfl]
   exact q _ ((g2.trans g).trans g3)
theorem fF {k:Nat} (F:Fun K "is_field_line" "is_field_line" xT f fd) {f_is_name:Addr} {fd_is_name:FuncData} (D_is_name:Df K mg "is_name" f_is_name fd_is_name ["thing"]) (G_is_name:jK P w K mg base CX0 k f_is_name fd_is_name ["thing"] (zC K)) {f_is_kind:Addr} {fd_is_kind:FuncData} (D_is_kind:Df K mg "is_kind" f_is_kind fd_is_kind ["words"]) (G_is_kind:jK P w K mg base CX0 k f_is_kind fd_is_kind ["words"] (spKd K)):jK P w K mg base CX0 (k + 2) f fd ["words"] (spFl K):=by
 w_cond fW
 ·obtain⟨a,nm,n,kd,f,rfl,_⟩:=h;rfl
 obtain⟨a,nm,n,kd,fn,rfl,hl,hfn,hf,hn,q⟩:=h
 walk_at "hr"
 refine⟨_,(jE (jP (yZ (qE eI (jY kA rfl M.len PySem.boot_len (jA (pv 0) jB)) jF (jW _)) (yZ (jQ G_is_name hr rfl D_is_name.m D_is_name.k D_is_name.b .nil jT (jA (kK jX (pv 0) jF (fun _ _=>rfl)) jB)) (aI (jQ G_is_kind hr rfl D_is_kind.m D_is_kind.k D_is_kind.b .nil jT (jA (qA qJ (pv 0) (qH jF) qO) jB))))))),?_⟩
 have h0 : 0 < (kd.words nm).length:=List.length_pos_iff.mpr (Kd.words_ne nm kd)
 refine⟨_,rfl,a,_,rfl,.inl hl,_,_,rfl,rfl,_,rfl,qQ (by simp;omega) ⟨_,rfl,a,_,_,_,rfl,rfl,hl,at0,.str fn,rfl,.inl ⟨fn,rfl,by have:=(xO hfn).2;omega,fun H1 g1=>⟨_,rfl,qQ hfn ⟨_,rfl,_,rfl,a,_,rfl,g1.seq hl,fun p hp=>?_⟩⟩⟩⟩⟩
 rw [show xJ ((fn::kd.words nm).map V.str) (some 1) none=(kd.words nm).map V.str from tN _ _]
 generalize e2:upd H1 p _=H2
 obtain⟨g2,k2⟩:=jC e2 hp
 exact⟨p,nm,n,kd,rfl,SqL.of k2,hf,hn,fun H3 g3=>q H3 ((g1.trans g2).trans g3)⟩
theorem gU {k:Nat} (F:Fun K "shapes_named" "shapes_named" zA f fd) {f_is_name:Addr} {fd_is_name:FuncData} (D_is_name:Df K mg "is_name" f_is_name fd_is_name ["thing"]) (G_is_name:jK P w K mg base CX0 k f_is_name fd_is_name ["thing"] (zC K)):jK P w K mg base CX0 (k + 2) f fd ["words"] (aAo K):=by
 w_cond hV
 ·obtain⟨a,nm,n,kd,f,rfl,_⟩:=h;rfl
 obtain⟨a,nm,n,kd,fn,rfl,hl,hf,hn,q⟩:=h
 walk_at "hr"
 refine⟨_,(jE (jP (qY ["word"] [] [] rfl (vI (qA qJ (pv 0) (qH jF) qO)) rfl trivial trivial (fun _ _ _ _=>(jV (i:=0) (show List.Nodup (["word"]:List Str) from by decide +kernel) rfl (Or.inl rfl))) (fun _ _ _ _=>(rO (vU (jQ G_is_name hr rfl D_is_name.m D_is_name.k D_is_name.b .nil jT (jA (pv 0) jB))))) (fun _ _ _ _=>(pv 0))))),?_⟩
 obtain⟨w6,w5⟩:=oF hn hf
 refine⟨_,rfl,_,rfl,a,_,rfl,hl,fun p hp=>?_⟩
 rw [show xJ ((fn::kd.words nm).map V.str) (some 1) none=(kd.words nm).map V.str from tN _ _]
 generalize e2:upd H p _=H2
 obtain⟨g2,k2⟩:=jC e2 hp
 refine⟨p,rfl,⟨_,SqL.of k2⟩,aA (xs:=(kd.words nm).map V.str) (fun j ys H'=>jI H2 H'/\ys=(((kd.words nm).take j).filter kU).map V.str) ⟨jI.refl _,rfl⟩ (fun j ys H' hj z=>⟨z.1.seq (SqL.of k2),?_⟩) (qB (by rw [List.length_map];omega)) (fun j x ys H' hx z=>?_) (fun ys H' z l hl=>?_)⟩
 ·rw [z.2,List.length_map]
  refine Nat.le_trans (List.length_filter_le ..) ?_
  rw [List.length_take];exact Nat.min_le_left _ _
 ·obtain⟨g,rfl⟩:=z
  obtain⟨y,hy,rfl⟩:=qR hx
  have hy6:=w6 y (List.mem_of_getElem? hy)
  refine⟨_,rfl,.str y,rfl,.inl ⟨_,rfl,by omega,fun H3 g3=>⟨_,rfl,qG (fun c=>⟨_,rfl,⟨g.trans g3,?_⟩,_,rfl⟩) (fun c=>⟨⟨g.trans g3,?_⟩,_,rfl⟩)⟩⟩⟩
  ·rw [oH hy,if_pos c,List.map_append];rfl
  ·rw [oH hy,if_neg c,List.append_nil]
 ·obtain⟨g,rfl⟩:=z
  generalize e3:upd H' l _=H3
  obtain⟨g3,k3⟩:=jC e3 hl
  rw [List.length_map,qU,pO hn hf] at k3
  exact q l H3 ((g2.trans g).trans g3) ((g2.trans g).free hl) k3
theorem eO {k:Nat} (F:Fun K "need_new_shape" "need_new_shape" xH f fd):jK P w K mg base CX0 (k + 2) f fd ["told","line","name"] (aIp (Cl5.mk Va Vb Vc Vd Ve) K):=by
 w_cond eQ
 ·obtain⟨tl,x,nm,sa,T,rfl,_⟩:=h;rfl
 obtain⟨tl,x,nm,sa,T,rfl,hl,hw,hne,hnm,hlen,q⟩:=h
 walk_at "hr"
 refine⟨_,(jD (kI (PW.pt (xG (xM (pv 0) (fun _=>rfl)) (vK (yI (xM (kH (kK jX (pv 0) (xN vE jF) (fun _ _=>rfl)) rfl) (fun _=>rfl)))))) (jE vO) jU)
   (jD (kI (jR vC (pv 2) (qY ["shape"] [] [] rfl (vI (pv 0)) rfl trivial trivial (fun _ _ _ _=>(jV (i:=0) (show List.Nodup (["shape"]:List Str) from by decide +kernel) rfl (Or.inl rfl))) (fun _ _ _ _=>vD) (fun _ _ _ _=>(pI (K:=K) rfl (pv 0) rfl))) (by with_unfolding_all rfl)) (jE vO) jU)
   (jE (kI (jR qF (jY kA rfl M.len PySem.boot_len (jA (pv 0) jB)) (kJ (v:=.int 8) rfl C.MOST_SHAPES ⟨_,rfl⟩) (jW _)) (jE vO) jU)))),?_⟩
 have zl:(sa.map V.ref).length=T.length:=by rw [List.length_map];exact hw.1
 refine tW (fun σ' H'=>σ'=[some (.ref tl),some x,some (.str nm)]/\H'=H) (fun σ' H' z=>?_) (fun nx hnx=>?_)
 ·obtain⟨rfl,rfl⟩:=z
  refine⟨_,rfl,_,rfl,tl,rfl,⟨_,SqL.of hl⟩,aA (xs:=sa.map V.ref) (fun j ys H2=>H2=H'/\ys=((T.take j).map (·.1)).map V.str) ⟨rfl,rfl⟩ (fun j ys H2 _ z=>⟨by rw [z.1];exact SqL.of hl,by rw [z.2,List.length_map,List.length_map,List.length_take];exact Nat.min_le_left _ _⟩) (qB (by omega)) (fun j x ys H2 hx z=>?_) (fun ys H2 z p hp=>?_)⟩
  ·obtain⟨rfl,rfl⟩:=z
   obtain⟨s,hs,rfl⟩:=vA hx
   obtain⟨sh,hS,dx,t,ps,k1,_⟩:=hw.at hs
   refine⟨_,rfl,s,Ve,_,_,_,rfl,k1,Ue.cl,Ue.na _ (by decide),rfl,⟨rfl,?_⟩,_,rfl⟩
   rw [yJ hS,List.map_append];rfl
  ·obtain⟨rfl,rfl⟩:=z
   generalize e3:upd H2 p _=H3
   obtain⟨g3,k3⟩:=jC e3 hp
   refine⟨p,_,rfl,.inl (SqL.of k3),rfl,kW _,_,rfl,?_⟩
   rw [if_neg (by decide),kR,zl,qU]
   refine kQ (by rw [decide_eq_false hnm];decide) ⟨_,rfl,tl,_,rfl,.inl (SqL.of (g3 _ _ hl)),rfl,_,rfl,kQ (by rw [zl];simp;omega) (q H3 g3)⟩
 ·rcases List.eq_nil_or_concat sa with rfl|⟨sa0,z,rfl⟩
  ·exact⟨_,rfl,false,.inl ⟨_,SqL.of hl,rfl⟩,kQ (by decide) (kQ (by decide) (hnx _ _ ⟨rfl,rfl⟩))⟩
  ·rw [List.concat_eq_append] at *
   obtain⟨s,hS,so⟩:=hw.at (i:=sa0.length) (a:=z) (by rw [List.getElem?_append_right (Nat.le_refl _),Nat.sub_self];rfl)
   obtain⟨dx,t,ps,k1,k2,k3⟩:=so
   have hp:ps ≠ []:=fun e=>hne s (List.mem_of_getElem? hS) (List.length_eq_zero_iff.mp (by rw [← k3.len,e];rfl))
   exact⟨_,rfl,true,.inl ⟨_,SqL.of hl,by simp⟩,qQ rfl ⟨_,rfl,_,rfl,tl,_,_,_,rfl,rfl,SqL.of hl,yG _ _,z,Ve,_,_,_,rfl,k1,Ue.cl,Ue.na _ (by decide),rfl,true,.inr (.inl ⟨_,k2,by cases ps with|nil=>exact absurd rfl hp|cons _ _=>rfl⟩),kQ (by decide) (hnx _ _ ⟨rfl,rfl⟩)⟩⟩
theorem gW {k:Nat} (F:Fun K "whole_shapes" "whole_shapes" yK f fd):jK P w K mg base CX0 (k + 2) f fd ["told"] (spWh (Cl5.mk Va Vb Vc Vd Ve) K):=by
 w_cond gQ
 ·obtain⟨tl,z,sa,T,s,rfl,_⟩:=h;rfl
 obtain⟨tl,z,sa,T,s,rfl,hl,hw,hnd,hlen,q⟩:=h
 walk_at "hr"
 refine⟨_,(jE (jP (aEn ["shape"] [] [] rfl (vI (qA qJ (pv 0) qO (qH (xN vE jF)))) rfl trivial trivial (fun _ _ _ _=>(jV (i:=0) (show List.Nodup (["shape"]:List Str) from by decide +kernel) rfl (Or.inl rfl))) (fun _ _ _ _=>vD) (fun _ _ _ _=>(pI (K:=K) rfl (pv 0) rfl)) (fun _ _ _ _=>(pv 0))))),?_⟩
 obtain⟨hw0,_⟩:=hw.init
 have zl:(sa.map V.ref).length=T.length:=by rw [List.length_map];exact hw0.1
 refine⟨_,rfl,_,rfl,_,rfl,tl,_,rfl,SqL.of hl,fun p hp=>?_⟩
 rw [cutC]
 generalize e2:upd H p _=H2
 obtain⟨g2,k2⟩:=jC e2 hp
 refine⟨p,rfl,⟨_,SqL.of k2⟩,uK (xs:=sa.map V.ref) (fun D j ys H'=>jI H2 H'/\H2 D=none/\H' D=some (.dK ys)/\ys=dk (T.take j) (sa.take j)) (fun D hD=>⟨(jI.refl H2).putn hD,hD,jH,rfl⟩) (fun D j ys H' _ z=>z.1.seq (SqL.of k2)) (fun D j x ys H' hx z=>?_) (fun D ys H' z=>?_)⟩
 ·obtain⟨g,hD,kD,rfl⟩:=z
  obtain⟨a,ha,rfl⟩:=vA hx
  obtain⟨sh,hS,dx,t,ps,k1,_⟩:=hw0.at ha
  have hj:=(List.getElem?_eq_some_iff.mp hS).1
  have hnk:∀ x ∈ dk (T.take j) (sa.take j),x.1 ≠ (.inr sh.1:Key):=fun x hx e=>by
   obtain⟨u,hu,eu⟩:=aHz x hx
   obtain⟨i,hi⟩:=List.mem_iff_getElem?.mp hu
   have hij:i < j:=by have:=(List.getElem?_eq_some_iff.mp hi).1;rw [List.length_take] at this;omega
   rw [List.getElem?_take_of_lt hij] at hi
   have e2:kN T i=kN T j:=by rw [vZ hi,vZ hS];exact Sum.inr.inj (eu.symm.trans e)
   have:=aFz hnd (List.getElem?_eq_some_iff.mp hi).1 hj e2
   omega
  refine⟨_,rfl,a,Ve,_,_,_,rfl,g _ _ (g2 _ _ k1),Ue.cl,Ue.na _ (by decide),rfl,_,rfl,.inr sh.1,rfl,kD,?_,?_⟩
  ·have:(dk (T.take j) (sa.take j)).length<=100:=by unfold dk;rw [List.length_zipWith,List.length_take];omega
   exact Nat.lt_of_le_of_lt this (by decide)
  ·rw [aBr hnk]
   exact⟨⟨g.putn hD,hD,jH,(aGf hS ha).symm⟩,_,rfl⟩
 ·obtain⟨g,hD,kD,rfl⟩:=z
  rw [zl,qU,← hw0.1,qU] at kD
  exact q D H' (g2.trans g) (g2.free hD) kD
theorem nA {k:Nat} (F:Fun K "need_field" "need_field" aU f fd) {f_is_field_line:Addr} {fd_is_field_line:FuncData} (D_is_field_line:Df K mg "is_field_line" f_is_field_line fd_is_field_line ["words"]) (G_is_field_line:jK P w K mg base CX0 k f_is_field_line fd_is_field_line ["words"] (spFl K)) {f_shapes_named:Addr} {fd_shapes_named:FuncData} (D_shapes_named:Df K mg "shapes_named" f_shapes_named fd_shapes_named ["words"]) (G_shapes_named:jK P w K mg base CX0 k f_shapes_named fd_shapes_named ["words"] (aAo K)) {f_whole_shapes:Addr} {fd_whole_shapes:FuncData} (D_whole_shapes:Df K mg "whole_shapes" f_whole_shapes fd_whole_shapes ["told"]) (G_whole_shapes:jK P w K mg base CX0 k f_whole_shapes fd_whole_shapes ["told"] (spWh (Cl5.mk Va Vb Vc Vd Ve) K)):jK P w K mg base CX0 (k + 2) f fd ["told","line","words"] (spNF (Cl5.mk Va Vb Vc Vd Ve) K):=by
 w_cond vR
 ·obtain⟨tl,a,z,x,sa,T,s,fn,kd,rfl,_⟩:=h;rfl
 obtain⟨tl,a,z,x,sa,T,s,fn,kd,rfl,hl,hw,hws,hfn,hnew,hs100,hf,hn,hnd,hlen,q⟩:=h
 walk_at "hr"
 refine⟨_,(jD (kI (PW.pt (sZ (yI (xM (pv 0) (fun _=>rfl))) (mL (yI (vU (jQ G_is_field_line hr rfl D_is_field_line.m D_is_field_line.k D_is_field_line.b .nil jT (jA (pv 2) jB))))))) (jE vO) jU)
   (jD (kI (jR vC (kK jX (pv 2) jF (fun _ _=>rfl)) (qY ["name","kind"] [] [] rfl (fQ (kH (kK jX (pv 0) (xN vE jF) (fun _ _=>rfl)) rfl)) rfl trivial trivial (fun _ _ _ _=>(eR (K:=K) (n:=2) rfl rfl (jZ (jV (i:=0) (show List.Nodup (["name","kind"]:List Str) from by decide +kernel) rfl (Or.inl rfl)) (jZ (jV (i:=1) (show List.Nodup (["name","kind"]:List Str) from by decide +kernel) rfl (Or.inl rfl)) qK)))) (fun _ _ _ _=>vD) (fun _ _ _ _=>(pv 0))) (by with_unfolding_all rfl)) (jE vO) jU)
   (jD (kB (i:=3) vR.nd rfl (by walk_at "o") (jQ G_shapes_named hr rfl D_shapes_named.m D_shapes_named.k D_shapes_named.b .nil jT (jA (pv 2) jB)))
   (jD (xX PassesOwn.never rfl (iI rfl M.enumerate (jA (pv 3) jB)) (xC rfl (jZ (jV (i:=4) vR.nd rfl (Or.inl rfl)) (jZ (jV (i:=5) vR.nd rfl (Or.inl rfl)) qK))) (jE (kI (jR vC (pv 5) (qA qJ (pv 3) qO (qH (pv 4))) (by with_unfolding_all rfl)) (jE vO) jU)))
   (jE (xX PassesOwn.never rfl (vI (pv 3)) (jV (i:=5) vR.nd rfl (Or.inl rfl)) (jE (kI (oX (aCu hr.units1 (pv 5) (jQ G_whole_shapes hr rfl D_whole_shapes.m D_whole_shapes.k D_whole_shapes.b .nil jT (jA (pv 0) jB)))) (jE vO) jU)))))))),?_⟩
 obtain⟨hw0,dx,t,ps,k1,k2,k3⟩:=hw.init
 obtain⟨n1,n4,n2⟩:=tD hnd hf
 have zl:(ps.map V.ref).length=s.2.length:=by rw [List.length_map];exact k3.len
 refine⟨_,rfl,true,.inl ⟨_,SqL.of hl,by simp⟩,kQ (by decide) ⟨_,rfl,a,kN T,T.length,kd,fn,rfl,hws,hfn,hf,hn,fun H1 g1=>⟨_,rfl,kQ (by decide) ?_⟩⟩⟩
 refine⟨_,rfl,a,_,_,_,rfl,rfl,g1.seq hws,at0,_,rfl,_,rfl,tl,_,_,_,rfl,rfl,SqL.of (g1 _ _ hl),yG _ _,z,Ve,_,_,_,rfl,(g1 _ _ k1),Ue.cl,Ue.na _ (by decide),rfl,t,rfl,⟨_,g1.tp k2⟩,cP (xs:=ps.map V.ref) (fun j ys H2=>H2=H1/\ys=((s.2.take j).map (·.1)).map V.str) ⟨rfl,rfl⟩ (fun j ys H2 _ z=>⟨by rw [z.1];exact g1.tp k2,by rw [z.2,List.length_map,List.length_map,List.length_take];exact Nat.min_le_left _ _⟩) (qB (by omega)) (fun j x ys H2 os ho hx z=>?_) (fun ys H2 z p hp=>?_)⟩
 ·obtain⟨rfl,rfl⟩:=z
  obtain⟨o1,o2,rfl⟩:=aCj ho
  obtain⟨u,hu,rfl⟩:=vA hx
  obtain⟨nm',kd',kk,hfs,hq,hko⟩:=k3.get hu
  refine⟨u,_,rfl,g1.tp hq,rfl,_,_,rfl,_,_,rfl,rfl,_,rfl,⟨rfl,?_⟩,[_,_],rfl,rfl⟩
  rw [yJ hfs,List.map_append];rfl
 ·obtain⟨rfl,rfl⟩:=z
  generalize e3:upd H2 p _=H3
  obtain⟨g3,k4⟩:=jC e3 hp
  refine⟨p,_,rfl,.inl (SqL.of k4),rfl,kW _,_,rfl,?_⟩
  rw [if_neg (by decide),kR,zl,qU]
  refine kQ (by rw [decide_eq_false hnew];decide) ⟨_,rfl,a,kN T,T.length,kd,fn,rfl,g3.seq (g1.seq hws),hf,hn,fun l H4 g4 hl4 k5=>?_⟩
  have g14:=(g1.trans g3).trans g4
  have zn:((Kd.named (kN T) kd).map V.str).length=(Kd.named (kN T) kd).length:=List.length_map _
  refine⟨_,rfl,l,_,rfl,SqL.of k5,dS (xs:=(Kd.named (kN T) kd).map V.str) (fun i σ H'=>∃ o4 o5,σ = [some (.ref tl),some x,some (.ref a),some (.ref l),o4,o5]/\jI H4 H') ⟨_,_,rfl,jI.refl _⟩ (fun i σ H' _ z=>?_) (fun i x σ H' p hx z hp=>?_) (fun σ H' z=>?_)⟩
  ·obtain⟨o4,o5,rfl,g⟩:=z
   exact g.seq (SqL.of k5)
  ·obtain⟨o4,o5,rfl,g⟩:=z
   obtain⟨y,hy,rfl⟩:=qR hx
   have g5:=vX hp (.tup [.int (i:Int),.str y])
   have k6:upd H' p (.tup [.int (i:Int),.str y]) p=_:=jH
   generalize upd H' p (.tup [.int (i:Int),.str y])=H5 at g5 k6
   refine⟨p,_,rfl,SqT.of k6,rfl,_,_,rfl,_,_,rfl,rfl,_,rfl,_,rfl,_,rfl,_,rfl,l,_,rfl,(g.trans g5).seq (SqL.of k5),fun p2 hp2=>?_⟩
   rw [cutB]
   generalize e6:upd H5 p2 _=H6
   obtain⟨g6,k7⟩:=jC e6 hp2
   rw [← List.map_take] at k7
   refine⟨p2,_,rfl,.inl (SqL.of k7),rfl,kW _,_,rfl,?_⟩
   rw [if_neg (by decide),kR]
   refine kQ (fun z=>?_) ⟨_,_,rfl,(g.trans g5).trans g6⟩
   have hm:y ∈ (Kd.named (kN T) kd).take i:=of_decide_eq_true z
   obtain⟨j,hj⟩:=List.mem_iff_getElem?.mp hm
   have hji:j < i:=by have:=(List.getElem?_eq_some_iff.mp hj).1;rw [List.length_take] at this;omega
   rw [List.getElem?_take_of_lt hji] at hj
   obtain⟨a1,b1⟩:=List.getElem?_eq_some_iff.mp hj
   obtain⟨a2,b2⟩:=List.getElem?_eq_some_iff.mp hy
   exact List.pairwise_iff_getElem.mp n1 j i a1 a2 hji (b1.trans b2.symm)
  ·obtain⟨o4,o5,rfl,g⟩:=z
   refine⟨_,rfl,l,rfl,⟨_,g.seq (SqL.of k5)⟩,aD (xs:=(Kd.named (kN T) kd).map V.str) (fun i σ H'=>∃ o4 o5,σ = [some (.ref tl),some x,some (.ref a),some (.ref l),o4,o5]/\jI H4 H') ⟨_,_,rfl,g⟩ (fun i σ H' _ z=>?_) (fun i x σ H' hx z=>?_) (fun σ H' z=>?_)⟩
   ·obtain⟨o4,o5,rfl,g⟩:=z
    exact g.seq (SqL.of k5)
   ·obtain⟨o4,o5,rfl,g⟩:=z
    obtain⟨y,hy,rfl⟩:=qR hx
    obtain⟨j,hj,rfl⟩:=n2 y (List.mem_of_getElem? hy)
    have hT:T[j]?=some T[j]:=List.getElem?_eq_getElem hj
    have hsa:sa[j]?=some (sa[j]'(by rw [hw0.1];exact hj)):=List.getElem?_eq_getElem _
    have hv:=aDv hnd hT hsa
    rw [← vZ hT] at hv
    refine⟨_,rfl,_,rfl,tl,z,sa,T,s,rfl,(g14.trans g) _ _ hl,hw.same (g14.trans g),hnd,hlen,fun d H5 g5 hd k6=>⟨d,_,rfl,zP.k (k:=Sum.inr (kN T j)) k6,_,rfl,?_⟩⟩
    rw [hv]
    exact kQ (by simp) ⟨_,_,rfl,g.trans g5⟩
   ·obtain⟨o4,o5,rfl,g⟩:=z
    exact q H' (g14.trans g)
theorem uJ {k r:Nat} (F:Fun K "kind_in" "kind_in" fE f fd) {f_kind_in:Addr} {fd_kind_in:FuncData} (D_kind_in:Df K mg "kind_in" f_kind_in fd_kind_in ["words","shapes"]) (G_kind_in:jK P w K mg base CX0 k f_kind_in fd_kind_in ["words","shapes"] (aAf (Cl5.mk Va Vb Vc Vd Ve) K r)) {fd_Num_init:FuncData} (D_Num_init:DfI K fd_Num_init ["self","width"]) (G_Num_init:jK P w K mg base CX0 k cIu fd_Num_init ["self","width"] (aEe Va "width")) {fd_Nested_init:FuncData} (D_Nested_init:DfI K fd_Nested_init ["self","shape"]) (G_Nested_init:jK P w K mg base CX0 k cIv fd_Nested_init ["self","shape"] (aEe Vb "shape")) {fd_Many_init:FuncData} (D_Many_init:DfI K fd_Many_init ["self","count","kind"]) (G_Many_init:jK P w K mg base CX0 k cIx fd_Many_init ["self","count","kind"] (spI2 Vc "count" "kind")) {fd_Pick_init:FuncData} (D_Pick_init:DfI K fd_Pick_init ["self","shapes"]) (G_Pick_init:jK P w K mg base CX0 k cIy fd_Pick_init ["self","shapes"] (spIT K Vd "shapes")):jK P w K mg base CX0 (k + 2) f fd ["words","shapes"] (aAf (Cl5.mk Va Vb Vc Vd Ve) K (r + 1)):=by
 w_cond wR
 ·obtain⟨a,d,kd,sa,T,rfl,_⟩:=h;rfl
 obtain⟨a,d,kd,sa,T,rfl,hlv,hl,hd,hf,hn,hnd,hsl,q⟩:=h
 walk_at "hr"
 refine⟨_,(jD (kI (jR qF (kK jX (pv 0) jF (fun _ _=>rfl)) jO (jW _)) (jE (jP (vL Ua.ma G_Num_init hr0 rfl Ua.m D_Num_init.b .nil jT (jA (vH yE rfl M.int boot_int (jA (kK jX (pv 0) jF (fun _ _=>rfl)) jB)) jB)))) jU)
   (jD (kI (jR qF (kK jX (pv 0) jF (fun _ _=>rfl)) jO (jW _)) (jE (jP (vL Uc.ma G_Many_init hr0 rfl Uc.m D_Many_init.b .nil jT (jA (vH yE rfl M.int boot_int (jA (kK jX (pv 0) jF (fun _ _=>rfl)) jB)) (jA (jQ G_kind_in hr rfl D_kind_in.m D_kind_in.k D_kind_in.b .nil jT (jA (qA qJ (pv 0) (qH jF) qO) (jA (pv 1) jB))) jB))))) jU)
   (jD (kI (jR qF (kK jX (pv 0) jF (fun _ _=>rfl)) jO (jW _)) (jE (jP (vL Ud.ma G_Pick_init hr0 rfl Ud.m D_Pick_init.b .nil jT (jA (qY ["name"] ["shapes"] [1] rfl (vI (qA qJ (pv 0) (qH jF) qO)) rfl ⟨rfl,trivial⟩ ⟨⟨rfl,rfl,rfl,_,rfl⟩,trivial⟩ (fun _ _ _ _=>(jV (i:=0) (show List.Nodup (["name","shapes"]:List Str) from by decide +kernel) rfl (Or.inl rfl))) (fun _ _ _ _=>vD) (fun _ _ _ _=>(cL hr.units1 (pv 1) (pv 0) (fun _ _=>rfl)))) jB)))) jU)
   (jE (jP (vL Ub.ma G_Nested_init hr0 rfl Ub.m D_Nested_init.b .nil jT (jA (cL hr.units1 (pv 1) (kK jX (pv 0) jF (fun _ _=>rfl)) (fun _ _=>rfl)) jB))))))),?_⟩
 have look:∀ i,i < T.length->∃ s,sa[i]?=some s/\yF (dk T sa) (.inr (kN T i))=some (.ref s):=fun i hi=>by
  have hT:T[i]?=some T[i]:=List.getElem?_eq_getElem hi
  have hs:sa[i]?=some (sa[i]'(by omega)):=List.getElem?_eq_getElem _
  exact⟨_,hs,by rw [vZ hT];exact aDv hnd hT hs⟩
 cases kd with
 | num w =>
  obtain⟨_,d2,_,d4⟩:=dig (w:=w) (by have:=hf.2;omega)
  exact⟨_,rfl,a,_,_,_,rfl,rfl,hl,rfl,rfl,_,rfl,qQ (by decide) ⟨_,rfl,a,_,_,_,rfl,rfl,hl,rfl,_,_,rfl,d4,by omega,fun x dx hx hdx _=>⟨x,dx,.int w,H,rfl,jH,aG hx hdx,hx,fun H1 g1 k1=>⟨rfl,q x H1 g1 (.num k1)⟩⟩⟩⟩
 | nest i =>
  have hx:=hn i hf
  obtain⟨s,hs,hv⟩:=look i hf
  exact⟨_,rfl,a,_,_,_,rfl,rfl,hl,rfl,rfl,_,rfl,kQ (by simpa using aM hx (y:="num") (by decide)) ⟨_,rfl,a,_,_,_,rfl,rfl,hl,rfl,rfl,_,rfl,kQ (by simpa using aM hx (y:="row") (by decide)) ⟨_,rfl,a,_,_,_,rfl,rfl,hl,rfl,rfl,_,rfl,kQ (by simpa using aM hx (y:="pick") (by decide)) ⟨_,rfl,_,rfl,a,_,_,_,rfl,rfl,hl,rfl,d,.ref s,rfl,(by rw [← hv];exact zP.k (k:=Sum.inr (kN T i)) hd),fun x dx hx hdx _=>⟨x,dx,.ref s,H,rfl,jH,aG hx hdx,hx,fun H1 g1 k1=>⟨rfl,q x H1 g1 (.nest hs k1)⟩⟩⟩⟩⟩⟩
 | many m k =>
  obtain⟨_,d2,_,d4⟩:=dig (w:=m) (by have:=hf.2.1;omega)
  have hl':SqL K H a (V.str (Str.ofString "row")::V.str (Str.ofString (toString (m:Int)))::(k.words (kN T)).map V.str):=hl
  refine⟨_,rfl,a,_,_,_,rfl,rfl,hl',at0,rfl,_,rfl,kQ (by decide) ⟨_,rfl,a,_,_,_,rfl,rfl,hl',at0,rfl,_,rfl,qQ (by decide) ⟨_,rfl,a,_,_,_,rfl,rfl,hl',at1,_,_,rfl,d4,by omega,_,rfl,_,rfl,a,_,rfl,hl',fun p hp=>?_⟩⟩⟩
  rw [aIm]
  generalize e1:upd H p _=H1
  obtain⟨g1,k1⟩:=jC e1 hp
  have hlk:k.lv=0:=by rcases hf.2.2 with⟨w,rfl,_⟩|⟨i,rfl,_⟩ <;> rfl
  refine⟨_,rfl,p,d,k,sa,T,rfl,(by rw [hlk];have : 1 < r + 1:=hlv;omega),SqL.of k1,g1 _ _ hd,hf.sub,hn,hnd,hsl,fun b H2 g2 ko=>?_⟩
  exact fun x dx hx hdx _=>⟨x,dx,.int m,.ref b,H2,rfl,jH,aG hx hdx,hx,fun H3 g3 k3=>⟨rfl,q x H3 ((g1.trans g2).trans g3) (.many k3 (ko.same g3))⟩⟩
 | pick is =>
  have hl':SqL K H a (V.str (Str.ofString "pick")::(is.map (kN T)).map V.str):=hl
  have h2:=hf.2.1
  have zl:((is.map (kN T)).map V.str).length=is.length:=by rw [List.length_map,List.length_map]
  refine⟨_,rfl,a,_,_,_,rfl,rfl,hl',at0,rfl,_,rfl,kQ (by decide) ⟨_,rfl,a,_,_,_,rfl,rfl,hl',at0,rfl,_,rfl,kQ (by decide) ⟨_,rfl,a,_,_,_,rfl,rfl,hl',at0,rfl,_,rfl,qQ (by decide) ⟨_,rfl,_,rfl,a,_,rfl,hl',fun p hp=>?_⟩⟩⟩⟩
  rw [tN]
  generalize e1:upd H p _=H1
  obtain⟨g1,k1⟩:=jC e1 hp
  refine⟨p,rfl,⟨_,SqL.of k1⟩,aA (xs:=(is.map (kN T)).map V.str) (fun j ys H'=>H'=H1/\∃ ss:List Addr,ys=ss.map V.ref/\ss.length=j/\∀ (b i:Nat) (s:Addr),is[b]?=some i->ss[b]?=some s->sa[i]?=some s) ⟨rfl,[],rfl,rfl,fun b i s _ z=>by simp at z⟩ (fun j ys H' _ z=>?_) (qB (by omega)) (fun j x ys H' hx z=>?_) (fun ys H' z p2 hp2=>?_)⟩
  ·obtain⟨rfl,ss,rfl,hss,_⟩:=z
   exact⟨SqL.of k1,by rw [List.length_map];omega⟩
  ·obtain⟨rfl,ss,rfl,hss,hall⟩:=z
   obtain⟨y,hy,rfl⟩:=qR hx
   rw [List.getElem?_map] at hy
   cases e:is[j]? with
   | none=>rw [e] at hy;cases hy
   | some i =>
    rw [e] at hy
    cases hy
    obtain⟨s,hs,hv⟩:=look i (hf.2.2.2 i (List.mem_of_getElem? e))
    refine⟨_,rfl,_,rfl,d,.ref s,rfl,(by rw [← hv];exact zP.k (k:=Sum.inr (kN T i)) (g1 _ _ hd)),⟨rfl,ss++[s],by rw [List.map_append];rfl,by rw [List.length_append,hss];rfl,fun b i' s' hb1 hb2=>?_⟩,_,rfl⟩
    rcases yN hb2 with hb2|⟨eb,es⟩
    ·exact hall b i' s' hb1 hb2
    ·rw [eb,hss,e] at hb1
     cases hb1
     rw [es];exact hs
  ·obtain⟨rfl,ss,rfl,hss,hall⟩:=z
   generalize e2:upd H' p2 _=H2
   obtain⟨g2,k2⟩:=jC e2 hp2
   exact fun x dx hx hdx _=>⟨x,dx,p2,_,H2,rfl,jH,aG hx hdx,hx,SqL.of k2,fun t H3 g3 k3 k4=>⟨rfl,q x H3 ((g1.trans g2).trans g3) (.pick k3 k4 (by rw [hss,zl]) hall)⟩⟩
theorem mQ {k r:Nat} (F:Fun K "is_too_much" "is_too_much" zK f fd) {f_Shape_size:Addr} {fd_Shape_size:FuncData} (D_Shape_size:DfM K Ve "size" f_Shape_size fd_Shape_size ["self"]) (G_Shape_size:jK P w K mg base CX0 k f_Shape_size fd_Shape_size ["self"] (gL (Cl5.mk Va Vb Vc Vd Ve) K r sSz)) {f_Shape_units:Addr} {fd_Shape_units:FuncData} (D_Shape_units:DfM K Ve "units" f_Shape_units fd_Shape_units ["self"]) (G_Shape_units:jK P w K mg base CX0 k f_Shape_units fd_Shape_units ["self"] (aIl (Cl5.mk Va Vb Vc Vd Ve) K r)) {f_Shape_depth:Addr} {fd_Shape_depth:FuncData} (D_Shape_depth:DfM K Ve "depth" f_Shape_depth fd_Shape_depth ["self"]) (G_Shape_depth:jK P w K mg base CX0 k f_Shape_depth fd_Shape_depth ["self"] (gL (Cl5.mk Va Vb Vc Vd Ve) K r sDp)):jK P w K mg base CX0 (k + 2) f fd ["shape"] (spTM (Cl5.mk Va Vb Vc Vd Ve) K r):=by
 w_cond lU
 ·obtain⟨a,i,sa,S,rfl,_⟩:=h;rfl
 obtain⟨a,i,sa,S,rfl,e,hi,h8,hw,hg,⟨b1,b2,b3⟩,q⟩:=h
 walk_at "hr"
 refine⟨_,(jD (kI (PW.pt (sZ (jR eI (jY kA rfl M.len PySem.boot_len (jA (kH (pv 0) rfl) jB)) (kJ (v:=.int 6) rfl C.MOST_FIELDS ⟨_,rfl⟩) (jW _)) (mL (jR eI (vS (pv 0) Ue.cl D_Shape_size.me G_Shape_size hr D_Shape_size.b .nil jT) (kJ (v:=.int 64) rfl C.MOST_CELLS ⟨_,rfl⟩) (jW _))))) (jE (jP aDz)) jU)
   (jE (jP (pe_or (qE eI (jY kA rfl M.len PySem.boot_len (jA (vS (pv 0) Ue.cl D_Shape_units.me G_Shape_units hr D_Shape_units.b .nil jT) jB)) (kJ (v:=.int 40) rfl C.MOST_UNITS ⟨_,rfl⟩) (jW _)) (aI (qE eI (vS (pv 0) Ue.cl D_Shape_depth.me G_Shape_depth hr D_Shape_depth.b .nil jT) (kJ (v:=.int 4) rfl C.MOST_DEPTH ⟨_,rfl⟩) (jW _))))))),?_⟩
 obtain⟨s,hS,dx,t,ps,k1,k2,k3⟩:=hw.at e
 have h6:=hg.few i s hS
 have zl:(ps.map V.ref).length=s.2.length:=by rw [List.length_map];exact k3.len
 refine⟨_,rfl,a,Ve,_,_,_,rfl,k1,Ue.cl,Ue.na _ (by decide),rfl,t,_,rfl,.inr k2,_,_,rfl,rfl,_,rfl,kQ (by rw [zl];simp;omega) ⟨_,rfl,a,dx,_,rfl,k1,rfl,a,i,sa,S,rfl,e,(by omega),hw,hg,fun H1 g1=>⟨_,_,rfl,rfl,_,rfl,kQ (by have:sSz i (tabs S)<=64:=b1;simp;omega) ?_⟩⟩⟩
 refine⟨_,rfl,a,dx,_,rfl,g1 _ _ k1,rfl,a,i,sa,S,rfl,e,hi,h8,hw.same g1,hg,fun l H2 g2 hl ⟨us,ku,ur⟩=>⟨l,_,rfl,.inl (SqL.of ku),_,_,rfl,rfl,_,rfl,kQ (by rw [List.length_map,ur.len];simp;omega) ?_⟩⟩
 refine⟨_,rfl,a,dx,_,rfl,g2 _ _ (g1 _ _ k1),rfl,a,i,sa,S,rfl,e,(by omega),hw.same (g1.trans g2),hg,fun H3 g3=>⟨_,_,rfl,rfl,?_⟩⟩
 dsimp only
 rw [decide_eq_false (by have:sDp i (tabs S)<=4:=b3;omega)]
 exact q H3 ((g1.trans g2).trans g3)
theorem nJ {k r:Nat} (F:Fun K "with_field" "with_field" aP f fd) {f_kind_in:Addr} {fd_kind_in:FuncData} (D_kind_in:Df K mg "kind_in" f_kind_in fd_kind_in ["words","shapes"]) (G_kind_in:jK P w K mg base CX0 k f_kind_in fd_kind_in ["words","shapes"] (aAf (Cl5.mk Va Vb Vc Vd Ve) K 2)) {f_whole_shapes:Addr} {fd_whole_shapes:FuncData} (D_whole_shapes:Df K mg "whole_shapes" f_whole_shapes fd_whole_shapes ["told"]) (G_whole_shapes:jK P w K mg base CX0 k f_whole_shapes fd_whole_shapes ["told"] (spWh (Cl5.mk Va Vb Vc Vd Ve) K)) {fd_Shape_init:FuncData} (D_Shape_init:DfI K fd_Shape_init ["self","name","fields"]) (G_Shape_init:jK P w K mg base CX0 k cIz fd_Shape_init ["self","name","fields"] (aCw (Cl5.mk Va Vb Vc Vd Ve) K)) {f_is_too_much:Addr} {fd_is_too_much:FuncData} (D_is_too_much:Df K mg "is_too_much" f_is_too_much fd_is_too_much ["shape"]) (G_is_too_much:jK P w K mg base CX0 k f_is_too_much fd_is_too_much ["shape"] (spTM (Cl5.mk Va Vb Vc Vd Ve) K r)):jK P w K mg base CX0 (k + 2) f fd ["told","line","words"] (spWF (Cl5.mk Va Vb Vc Vd Ve) K r):=by
 w_cond zO
 ·obtain⟨tl,a,z,x,sa,T,s,fn,kd,rfl,_⟩:=h;rfl
 obtain⟨tl,a,z,x,sa,T,s,fn,kd,rfl,hl,hw,hws,hf,hn,hnd,hlen,hr1,h8,hs50,hg,hb,q⟩:=h
 walk_at "hr"
 refine⟨_,(jD (kB (i:=3) zO.nd rfl (by walk_at "o") (jQ G_kind_in hr rfl D_kind_in.m D_kind_in.k D_kind_in.b .nil jT (jA (qA qJ (pv 2) (qH jF) qO) (jA (jQ G_whole_shapes hr rfl D_whole_shapes.m D_whole_shapes.k D_whole_shapes.b .nil jT (jA (pv 0) jB)) jB))))
   (jD (kB (i:=4) zO.nd rfl (by walk_at "o") (vL Ue.ma G_Shape_init hr0 rfl Ue.m D_Shape_init.b .nil jT (jA (kH (kK jX (pv 0) (xN vE jF) (fun _ _=>rfl)) rfl) (jA (kF aCv (kH (kK jX (pv 0) (xN vE jF) (fun _ _=>rfl)) rfl) (qT (jA (qT (jA (kK jX (pv 2) jF (fun _ _=>rfl)) (jA (pv 3) jB))) jB))) jB))))
   (jD (kI (vU (jQ G_is_too_much hr rfl D_is_too_much.m D_is_too_much.k D_is_too_much.b .nil jT (jA (pv 4) jB))) (jE vO) jU)
   (jE (jP (pv 4)))))),?_⟩
 obtain⟨hw0,dx,t,ps,k1,k2,k3⟩:=hw.init
 refine⟨_,rfl,_,rfl,a,_,rfl,hws,fun p hp=>?_⟩
 rw [show xJ ((fn::kd.words (kN T)).map V.str) (some 1) none=(kd.words (kN T)).map V.str from tN _ _]
 generalize e1:upd H p _=H1
 obtain⟨g1,kp⟩:=jC e1 hp
 refine⟨_,rfl,tl,z,sa,T,s,rfl,g1 _ _ hl,hw.same g1,hnd,hlen,fun d H2 g2 hd kd2=>?_⟩
 refine⟨p,d,kd,sa,T,rfl,(by cases kd <;> simp [Kd.lv]),g2.seq (SqL.of kp),kd2,hf,hn,hnd,hw0.1,fun k H3 g3 ko=>?_⟩
 have g13:=(g1.trans g2).trans g3
 refine⟨_,rfl,_,rfl,tl,_,_,_,rfl,rfl,SqL.of (g13 _ _ hl),yG _ _,z,Ve,_,_,_,rfl,(g13 _ _ k1),Ue.cl,Ue.na _ (by decide),rfl,_,rfl,_,rfl,tl,_,_,_,rfl,rfl,SqL.of (g13 _ _ hl),yG _ _,z,Ve,_,_,_,rfl,(g13 _ _ k1),Ue.cl,Ue.na _ (by decide),rfl,_,rfl,a,_,_,_,rfl,rfl,g13.seq hws,at0,_,rfl,vQ,fun u hu=>?_⟩
 generalize e4:upd H3 u _=H4
 obtain⟨g4,k4⟩:=jC e4 hu
 refine⟨dC,fun v hv=>?_⟩
 generalize e5:upd H4 v _=H5
 obtain⟨g5,k5⟩:=jC e5 hv
 have hps:ps.length=s.2.length:=k3.len
 refine⟨t,v,ps.map V.ref,[.ref u],rfl,rfl,(g4.trans g5).tp (g13.tp k2),SqT.of k5,(by simp),(by rw [sizeLine_eq,List.length_map];simp;omega),fun fl H6 g6 hfl=>?_⟩
 have g36:=(g4.trans g5).trans g6
 refine fun y dy hy hdy _=>⟨y,dy,fl,s.1,ps++[u],s.2++[(fn,kd)],sa,H6,rfl,jH,aG hy hdy,hy,.inr (by rw [List.map_append];exact hfl),(k3.same (g13.trans g36)).snoc ((g5.trans g6).tp (SqT.of k4)) (ko.same g36),(by rw [List.length_append];show s.2.length + 1<=100;omega),fun t' ps' H7 g7 k7 st fo=>⟨rfl,?_⟩⟩
 have gA:=(g13.trans g36).trans g7
 have so:SO (Cl5.mk Va Vb Vc Vd Ve) K H7 sa y (s.1,s.2++[(fn,kd)]):=⟨dy,t',ps',k7,st,fo⟩
 have hsw:=(hw0.same gA).snoc so
 have hsl:sa.length=T.length:=hw0.1
 exact⟨_,rfl,y,T.length,sa++[y],_,rfl,(by rw [← hsl,List.getElem?_append_right (Nat.le_refl _),Nat.sub_self];rfl),hr1,h8,hsw,hg,hb,fun H8 g8=>⟨_,rfl,kQ (by decide) ⟨_,rfl,q y H8 (gA.trans g8) (so.same g8)⟩⟩⟩
theorem lN {k r:Nat} (F:Fun K "read_shapes" "read_shapes" zI f fd) {f_is_shape_line:Addr} {fd_is_shape_line:FuncData} (D_is_shape_line:Df K mg "is_shape_line" f_is_shape_line fd_is_shape_line ["words"]) (G_is_shape_line:jK P w K mg base CX0 k f_is_shape_line fd_is_shape_line ["words"] (aIo K)) {f_need_new_shape:Addr} {fd_need_new_shape:FuncData} (D_need_new_shape:Df K mg "need_new_shape" f_need_new_shape fd_need_new_shape ["told","line","name"]) (G_need_new_shape:jK P w K mg base CX0 k f_need_new_shape fd_need_new_shape ["told","line","name"] (aIp (Cl5.mk Va Vb Vc Vd Ve) K)) {fd_Shape_init:FuncData} (D_Shape_init:DfI K fd_Shape_init ["self","name","fields"]) (G_Shape_init:jK P w K mg base CX0 k cIz fd_Shape_init ["self","name","fields"] (aCw (Cl5.mk Va Vb Vc Vd Ve) K)) {f_need_field:Addr} {fd_need_field:FuncData} (D_need_field:Df K mg "need_field" f_need_field fd_need_field ["told","line","words"]) (G_need_field:jK P w K mg base CX0 k f_need_field fd_need_field ["told","line","words"] (spNF (Cl5.mk Va Vb Vc Vd Ve) K)) {f_with_field:Addr} {fd_with_field:FuncData} (D_with_field:Df K mg "with_field" f_with_field fd_with_field ["told","line","words"]) (G_with_field:jK P w K mg base CX0 k f_with_field fd_with_field ["told","line","words"] (spWF (Cl5.mk Va Vb Vc Vd Ve) K r)) {fd_Shapes_init:FuncData} (D_Shapes_init:DfI K fd_Shapes_init ["self","shapes"]) (G_Shapes_init:jK P w K mg base CX0 k cIw fd_Shapes_init ["self","shapes"] (spIT K Vf "shapes")):jK P w K mg base CX0 (k + 2) f fd ["text"] (spRd (Cl5.mk Va Vb Vc Vd Ve) Vf K r):=by
 w_cond qV
 ·obtain⟨S,rfl,_⟩:=h;rfl
 obtain⟨S,rfl,hW,hne,hr12,h8,q⟩:=h
 walk_at "hr"
 refine⟨_,(jD (kI (yI (vU (jY iY rfl M.isinstance boot_isinstance (jA (pv 0) (jA (dU (v:=.ty "str") rfl M.str boot_str rfl) jB))))) (jE vO) jU)
   (jD (kB (i:=1) qV.nd rfl (by walk_at "o") (vW PySem.F.plainAttrs_str PySem.F.slot_str_split PySem.F.type_str_split yH (pv 0) (jA jO jB)))
   (jD (kB (i:=2) qV.nd rfl (by walk_at "o") (kG jB))
   (jD (xX PassesOwn.never rfl (iI rfl M.enumerate (jA (pv 1) jB)) (xC rfl (jZ (jV (i:=3) qV.nd rfl (Or.inl rfl)) (jZ (jV (i:=4) qV.nd rfl (Or.inl rfl)) qK))) (jD (kB (i:=5) qV.nd rfl (by walk_at "o") (vW PySem.F.plainAttrs_str PySem.F.slot_str_split PySem.F.type_str_split yH (pv 4) (jA jO jB)))
   (jE (kI (vU (jQ G_is_shape_line hr rfl D_is_shape_line.m D_is_shape_line.k D_is_shape_line.b .nil jT (jA (pv 5) jB))) (jD (qD (jQ G_need_new_shape hr rfl D_need_new_shape.m D_need_new_shape.k D_need_new_shape.b .nil jT (jA (pv 2) (jA (pv 3) (jA (kK jX (pv 5) jF (fun _ _=>rfl)) jB)))))
   (jE (qD (vW PySem.F.plainAttrs_list PySem.F.slot_list_append PySem.F.type_list_append qM (pv 2) (jA (vL Ue.ma G_Shape_init hr0 rfl Ue.m D_Shape_init.b .nil jT (jA (kK jX (pv 5) jF (fun _ _=>rfl)) (jA (kG jB) jB))) jB))))) (jD (qD (jQ G_need_field hr rfl D_need_field.m D_need_field.k D_need_field.b .nil jT (jA (pv 2) (jA (pv 3) (jA (pv 5) jB)))))
   (jE (aW (jQ G_with_field hr rfl D_with_field.m D_with_field.k D_with_field.b .nil jT (jA (pv 2) (jA (pv 3) (jA (pv 5) jB)))) (uW (pv 2) (xN vE jF) set_list))))))))
   (jD (kI (yI (xM (kH (kK jX (pv 2) (xN vE jF) (fun _ _=>rfl)) rfl) (fun _=>rfl))) (jE vO) jU)
   (jE (jP (vL Uf.ma G_Shapes_init hr0 rfl Uf.m D_Shapes_init.b .nil jT (jA (pv 2) jB))))))))),?_⟩
 obtain⟨h30,hrow,htl,hsp⟩:=aKi hW hne
 have hok:=aAj hW
 refine⟨_,rfl,_,_,"str",rfl,by decide,rfl,_,rfl,kQ (by decide) ⟨_,rfl,rfl,_,_,rfl,rfl,rfl,(by rw [sizeLine_eq];omega),fun p hp=>?_⟩⟩
 rw [show Txt.split (txt S) (Str.ofString "\n")=_ from hsp]
 generalize e1:upd H p _=H1
 obtain⟨g1,k1⟩:=jC e1 hp
 refine⟨xL,fun tl hq=>?_⟩
 generalize e2:upd H1 tl _=H2
 obtain⟨g2,k2⟩:=jC e2 hq
 have hq0:H tl=none:=g1.free hq
 have npt:p ≠ tl:=jL k1 hq
 have k12:=g2 _ _ k1
 have zl:(((vN S).map fun it=>Str.join spS (it.line (kN S))).map V.str).length=(vN S).length:=by rw [List.length_map,List.length_map]
 refine⟨_,rfl,p,_,rfl,SqL.of k12,dS (xs:=((vN S).map fun it=>Str.join spS (it.line (kN S))).map V.str) (fun i σ H'=>∃ (o3 o4 o5:Option V) (sa:List Addr) (T:List Shp),σ = [some (.str (txt S)),some (.ref p),some (.ref tl),o3,o4,o5]/\But tl H2 H'/\H' tl=some (.lst (sa.map V.ref))/\SW (Cl5.mk Va Vb Vc Vd Ve) K H' sa T/\gV S i T) ⟨_,_,_,[],[],rfl,But.refl,k2,SW.nil,gV.start S⟩ (fun i σ H' _ z=>?_) (fun i x σ H' p2 hx z hp2=>?_) (fun σ H' z=>?_)⟩
 ·obtain⟨o3,o4,o5,sa,T,rfl,g,_⟩:=z
  exact SqL.of (g _ _ npt k12)
 ·obtain⟨o3,o4,o5,sa,T,rfl,g,kl,hw,hst⟩:=z
  obtain⟨row,hrw,rfl⟩:=qR hx
  rw [List.getElem?_map] at hrw
  cases eit:(vN S)[i]? with
  | none=>rw [eit] at hrw;cases hrw
  | some it =>
  rw [eit] at hrw
  cases hrw
  have hit:=List.mem_of_getElem? eit
  obtain⟨r100,rsp⟩:=hrow it hit
  obtain⟨ok1,ok2,ok3⟩:=hok it hit
  obtain⟨S1,s,S2,eS,hnx⟩:=hst.next (List.getElem?_eq_some_iff.mp eit).1
  generalize e3:upd H' p2 _=H3
  obtain⟨g3,k3⟩:=jC e3 hp2
  refine⟨p2,_,rfl,SqT.of k3,rfl,_,_,rfl,_,_,rfl,rfl,_,rfl,rfl,_,_,rfl,rfl,rfl,(by rw [sizeLine_eq];show (Str.join L2.spS (it.line (kN S))).length + 2<=_;omega),fun wa hwa=>?_⟩
  rw [show Txt.split (Str.join spS (it.line (kN S))) (Str.ofString " ")=_ from rsp]
  generalize e4:upd H3 wa _=H4
  obtain⟨g4,k4⟩:=jC e4 hwa
  have g34:=g3.trans g4
  refine⟨_,rfl,wa,it.line (kN S),rfl,⟨SqL.of k4,fun w hw=>by have:=(ok1 w hw).2;omega,by omega⟩,fun H5 g5=>⟨_,rfl,?_⟩⟩
  have g35:=g34.trans g5
  have kl5:=g35 _ _ kl
  have hw5:=hw.same g35
  have kw5:=g5 _ _ k4
  have hsS:s ∈ S:=by rw [eS];exact List.mem_append_right _ (List.mem_cons_self ..)
  have hS1:∀ t ∈ S1,t ∈ S:=fun t ht=>by rw [eS];exact List.mem_append_left _ ht
  have hlen:=hW.len
  have hnd1:(S1.map (·.1)).Nodup/\s.1 ∉ S1.map (·.1):=by
   have:=hW.nd
   rw [eS,List.map_append,List.nodup_append] at this
   exact⟨this.1,fun z=>this.2.2 _ z _ (List.mem_cons_self ..) rfl⟩
  have hl1:S1.length < 5:=by rw [eS,List.length_append,List.length_cons] at hlen;omega
  rcases hnx with⟨ei,rfl,hst2⟩|⟨f1,n,kd,f2,ef,ei,rfl,hst2⟩
  ·rw [eit] at ei
   cases ei
   have hnm:=hW.nm s hsS
   have hws:SqL K H5 wa [V.str (Str.ofString "shape"),V.str s.1]:=SqL.of kw5
   refine qQ (by show (decide (Str.ofString "shape" = Str.ofString "shape") && kU s.1)=true;rw [hnm];decide) ⟨_,rfl,_,rfl,_,rfl,wa,_,_,_,rfl,rfl,hws,rfl,tl,_,s.1,sa,T,rfl,kl5,hw5,(fun t ht=>?_),hnd1.2,by omega,fun H6 g6=>?_⟩
   ·obtain⟨j,hj⟩:=List.mem_iff_getElem?.mp ht
    exact hW.good.ne j t (by rw [eS,List.getElem?_append_left (List.getElem?_eq_some_iff.mp hj).1];exact hj)
   have kl6:=g6 _ _ kl5
   refine⟨_,rfl,.inl ⟨rfl,_,SqL.of kl6⟩,_,rfl,wa,_,_,_,rfl,rfl,g6.seq hws,rfl,xL,fun el hel=>?_⟩
   generalize e7:upd H6 el _=H7
   obtain⟨g7,k7⟩:=jC e7 hel
   refine fun y dy hy hdy _=>⟨y,dy,el,s.1,[],[],sa,H7,rfl,jH,aG hy hdy,hy,.inl (SqL.of k7),.nil,by decide,fun t ps' H8 g8 k8 st fo=>⟨rfl,?_⟩⟩
   have g58:=(g6.trans g7).trans g8
   have kl8:=g58 _ _ kl5
   have hsl:=hw.1
   refine⟨tl,_,_,rfl,rfl,kl8,(by rw [List.length_map];exact Nat.lt_of_le_of_lt (show sa.length<=5 by omega) (by decide)),?_⟩
   generalize e9:upd H8 tl _=H9
   obtain⟨g9,k9⟩:=vB e9
   exact⟨_,_,_,sa++[y],_,rfl,(g.trans (But.of (g35.trans g58))).trans g9,by rw [List.map_append];exact k9,((hw5.same g58).snoc (s:=(s.1,[])) ⟨dy,t,ps',k8,st,fo⟩).but g9 kl8,hst2⟩
  ·rw [eit] at ei
   cases ei
   obtain⟨sa0,z,rfl⟩:=aAw hw.1
   have hfm:(n,kd) ∈ s.2:=by rw [ef];exact List.mem_append_right _ (List.mem_cons_self ..)
   have hnm:=hW.fnm s hsS _ hfm
   have hi1:S[S1.length]?=some s:=by rw [eS,List.getElem?_append_right (Nat.le_refl _),Nat.sub_self];rfl
   have hfit:=(hW.good.fit _ _ hi1 _ hfm).1
   have hns:NOk (kN S1) S1.length:=aDi fun t ht=>hW.nm t (hS1 t ht)
   have ew:kd.words (kN S)=kd.words (kN S1):=gE (fun j hj=>by rw [eS];exact aEj hj) hfit.below
   have hws:SqL K H5 wa ((n::kd.words (kN S1)).map V.str):=by rw [← ew];exact SqL.of kw5
   obtain⟨pg,pb,p5⟩:=hW.pre (f1:=f1++[(n,kd)]) (f2:=f2) eS (by rw [ef,List.append_assoc];rfl) (by simp)
   rw [List.length_append,List.length_singleton] at p5
   have hfn:n ∉ f1.map (·.1):=fun z=>by
    have:=hW.fnd s hsS
    rw [ef,List.map_append,List.nodup_append] at this
    exact this.2.2 _ z _ (List.mem_cons_self ..) rfl
   refine kQ (by rw [show uC ((Itm.fd n kd).line (kN S))=false from aId hnm];decide) ⟨_,rfl,_,rfl,_,rfl,tl,wa,z,_,sa0,S1,(s.1,f1),n,kd,rfl,kl5,hw5,hws,hnm,hfn,(by show f1.length<=100;omega),hfit,hns,hnd1.1,by omega,fun H6 g6=>?_⟩
   refine⟨_,rfl,_,rfl,_,rfl,tl,wa,z,_,sa0,S1,(s.1,f1),n,kd,rfl,g6 _ _ kl5,hw5.same g6,g6.seq hws,hfit,hns,hnd1.1,by omega,by omega,h8,(by show f1.length<=50;omega),pg,pb,fun y H7 g7 so=>?_⟩
   have g57:=g6.trans g7
   have kl7:=g57 _ _ kl5
   refine⟨_,rfl,_,rfl,tl,_,_,_,rfl,rfl,kl7,aDj _ _,?_⟩
   rw [aDe]
   generalize e9:upd H7 tl _=H9
   obtain⟨g9,k9⟩:=vB e9
   exact⟨_,_,_,sa0++[y],_,rfl,(g.trans (But.of (g35.trans g57))).trans g9,k9,((hw5.init.1.same g57).snoc so).but g9 kl7,hst2⟩
 ·obtain⟨o3,o4,o5,sa,T,rfl,g,kl,hw,hst⟩:=z
  rw [zl] at hst
  have eT:=hst.done
  subst eT
  have gH:jI H H':=But.from (g1.trans g2) hq0 g
  rcases List.eq_nil_or_concat T with rfl|⟨T0,s,rfl⟩
  ·exact absurd rfl hne
  ·rw [List.concat_eq_append] at *
   obtain⟨sa0,z,rfl⟩:=aAw hw.1
   obtain⟨hw0,dx,t,ps,m1,m2,m3⟩:=hw.init
   have hs:=hW.good.ne T0.length s (by rw [List.getElem?_append_right (Nat.le_refl _),Nat.sub_self];rfl)
   have hps:ps ≠ []:=fun e=>hs (List.length_eq_zero_iff.mp (by rw [← m3.len,e];rfl))
   refine⟨_,rfl,_,rfl,tl,_,_,_,rfl,rfl,SqL.of kl,yG _ _,z,Ve,_,_,_,rfl,m1,Ue.cl,Ue.na _ (by decide),rfl,true,.inr (.inl ⟨_,m2,by cases ps with|nil=>exact absurd rfl hps|cons _ _=>rfl⟩),kQ (by decide) ⟨_,rfl,?_⟩⟩
   exact fun y dy hy hdy _=>⟨y,dy,tl,_,H',rfl,jH,aG hy hdy,hy,SqL.of kl,fun t H3 g3 k3 k4=>⟨rfl,q y dy t _ H3 (gH.trans g3) k3 k4 (hw.same g3)⟩⟩
theorem uG {k:Nat} (F:Fun K "_law_box" "_law_box" fK f fd):jK P w K mg base CX0 (k + 2) f fd ["_law_cell_here"] aIi:=by
 w_cond wL
 ·obtain⟨c,rfl,_⟩:=h;rfl
 obtain⟨c,rfl,q⟩:=h
 walk_at "hr"
 refine⟨_,(jE (jP (kG (jA (jY (nV rfl) rfl M.max boot_max (jA jF (jA (kF uU (pv 0) (kF aJq jF jF)) jB))) (jA (kF bT (pv 0) jF) (jA jF jB)))))),?_⟩
 exact⟨_,rfl,_,_,rfl,rfl,⟨by decide,by decide,by decide⟩,_,_,rfl,rfl,_,_,rfl,_,rfl,_,_,rfl,rfl,(by show (0:Int) < _;decide),dQ,fun p hp=>q p _ hp ⟨⟨_,_,_,jH⟩,fun b o n e=>by rw [jS n];exact e⟩⟩
theorem dP {k:Nat} (F:Fun K "__init__" "RoomError.__init__" xK f fd):jK P w K mg base CX0 (k + 2) f fd ["self","words"] (spRE K):=by
 w_cond eV
 ·obtain⟨e,v,C',R,fI,dx,rfl,_⟩:=h;rfl
 obtain⟨e,v,C',R,fI,dx,rfl,he,cx,q⟩:=h
 walk_at "hr"
 refine⟨_,(jE (qD (aEt VI (dU (v:=.ty "ValueError") rfl M.ValueError (show bootBuiltins "ValueError" = some (.type "ValueError") from by decide +kernel) rfl) (jA (pv 0) (jA (pv 1) jB))))),?_⟩
 exact⟨_,rfl,_,rfl,e,v,C',R,fI,dx,rfl,he,cx,q⟩
theorem eN {k:Nat} (F:Fun K "__init__" "NoProgram.__init__" xI f fd) {fd_RoomError_init:FuncData} (D_RoomError_init:DfI K fd_RoomError_init ["self","words"]) (G_RoomError_init:jK P w K mg base CX0 k fRE fd_RoomError_init ["self","words"] (spRE K)):jK P w K mg base (CXE P w) (k + 2) f fd ["self","line"] (aBi C_NoProgram):=by
 w_cond dY
 ·obtain⟨e,v,rfl,_⟩:=h;rfl
 obtain⟨e,v,rfl,he,q⟩:=h
 walk_at "hr"
 refine⟨_,(jD (qD (sK tRE.i (kJ (v:=.ref cRE) rfl tRE.m rfl) G_RoomError_init hr D_RoomError_init.b .nil jT (jA (pv 0) (jA jO jB))))
   (jE (aAr (pv 0) (pv 1) rfl))),?_⟩
 refine⟨_,rfl,e,_,C_NoProgram,cRE,f_NoProgram_init,none,rfl,he,T_NoProgram.c,?_⟩
 exact⟨_,rfl,_,rfl,e,C_NoProgram,cRE,f_NoProgram_init,rfl,T_NoProgram.c,T_NoProgram.n _ (List.mem_singleton.mpr rfl),.inl ⟨he,fun dx hd=>q dx hd⟩⟩
theorem hJ {k:Nat} (F:Fun K "__init__" "TooMuch.__init__" yP f fd) {fd_RoomError_init:FuncData} (D_RoomError_init:DfI K fd_RoomError_init ["self","words"]) (G_RoomError_init:jK P w K mg base CX0 k fRE fd_RoomError_init ["self","words"] (spRE K)):jK P w K mg base (CXE P w) (k + 2) f fd ["self","line"] (aBi C_TooMuch):=by
 w_cond iC
 ·obtain⟨e,v,rfl,_⟩:=h;rfl
 obtain⟨e,v,rfl,he,q⟩:=h
 walk_at "hr"
 refine⟨_,(jD (qD (sK tRE.i (kJ (v:=.ref cRE) rfl tRE.m rfl) G_RoomError_init hr D_RoomError_init.b .nil jT (jA (pv 0) (jA jO jB))))
   (jE (aAr (pv 0) (pv 1) rfl))),?_⟩
 refine⟨_,rfl,e,_,C_TooMuch,cRE,f_TooMuch_init,none,rfl,he,T_TooMuch.c,?_⟩
 exact⟨_,rfl,_,rfl,e,C_TooMuch,cRE,f_TooMuch_init,rfl,T_TooMuch.c,T_TooMuch.n _ (List.mem_singleton.mpr rfl),.inl ⟨he,fun dx hd=>q dx hd⟩⟩
theorem sA {k:Nat} (F:Fun K "__init__" "Row.__init__" dH f fd):jK P w K mg base CX0 (k + 2) f fd ["self","line","deed","goal","reads","steps","number"] (aCb C_Row "line" "deed" "goal" "reads" "steps" "number"):=by
 w_cond tZ
 ·obtain⟨a,dx,v1,v2,v3,v4,v5,v6,H1,rfl,_⟩:=h;rfl
 obtain⟨a,dx,v1,v2,v3,v4,v5,v6,H1,rfl,hA,g,h0,q⟩:=h
 walk_at "hr"
 refine⟨_,(jD (kT (pv 0) (pv 1) rfl)
   (jD (kT (pv 0) (pv 2) rfl)
   (jD (kT (pv 0) (pv 3) rfl)
   (jD (kT (pv 0) (pv 4) rfl)
   (jD (kT (pv 0) (pv 5) rfl)
   (jE (kT (pv 0) (pv 6) rfl))))))),?_⟩
 exact⟨_,rfl,_,rfl,a,C_Row,dx,[],rfl,hA,T_Row.cl,T_Row.na _ (by decide),by decide,_,rfl,_,rfl,a,C_Row,dx,_,rfl,jH,T_Row.cl,T_Row.na _ (by decide),(by show 1 < 1000;decide),_,rfl,_,rfl,a,C_Row,dx,_,rfl,jH,T_Row.cl,T_Row.na _ (by decide),(by show 2 < 1000;decide),_,rfl,_,rfl,a,C_Row,dx,_,rfl,jH,T_Row.cl,T_Row.na _ (by decide),(by show 3 < 1000;decide),_,rfl,_,rfl,a,C_Row,dx,_,rfl,jH,T_Row.cl,T_Row.na _ (by decide),(by show 4 < 1000;decide),_,rfl,_,rfl,a,C_Row,dx,_,rfl,jH,T_Row.cl,T_Row.na _ (by decide),(by show 5 < 1000;decide),q _ ((((((g.putn h0).putn h0).putn h0).putn h0).putn h0).putn h0) jH⟩
theorem rL {k:Nat} (F:Fun K "__init__" "Loop.__init__" bY f fd):jK P w K mg base CX0 (k + 2) f fd ["self","line","last","deed","goal","reads","rows"] (aCb C_Loop "line" "last" "deed" "goal" "reads" "rows"):=by
 w_cond rB
 ·obtain⟨a,dx,v1,v2,v3,v4,v5,v6,H1,rfl,_⟩:=h;rfl
 obtain⟨a,dx,v1,v2,v3,v4,v5,v6,H1,rfl,hA,g,h0,q⟩:=h
 walk_at "hr"
 refine⟨_,(jD (kT (pv 0) (pv 1) rfl)
   (jD (kT (pv 0) (pv 2) rfl)
   (jD (kT (pv 0) (pv 3) rfl)
   (jD (kT (pv 0) (pv 4) rfl)
   (jD (kT (pv 0) (pv 5) rfl)
   (jE (kT (pv 0) (pv 6) rfl))))))),?_⟩
 exact⟨_,rfl,_,rfl,a,C_Loop,dx,[],rfl,hA,T_Loop.cl,T_Loop.na _ (by decide),by decide,_,rfl,_,rfl,a,C_Loop,dx,_,rfl,jH,T_Loop.cl,T_Loop.na _ (by decide),(by show 1 < 1000;decide),_,rfl,_,rfl,a,C_Loop,dx,_,rfl,jH,T_Loop.cl,T_Loop.na _ (by decide),(by show 2 < 1000;decide),_,rfl,_,rfl,a,C_Loop,dx,_,rfl,jH,T_Loop.cl,T_Loop.na _ (by decide),(by show 3 < 1000;decide),_,rfl,_,rfl,a,C_Loop,dx,_,rfl,jH,T_Loop.cl,T_Loop.na _ (by decide),(by show 4 < 1000;decide),_,rfl,_,rfl,a,C_Loop,dx,_,rfl,jH,T_Loop.cl,T_Loop.na _ (by decide),(by show 5 < 1000;decide),q _ ((((((g.putn h0).putn h0).putn h0).putn h0).putn h0).putn h0) jH⟩
theorem iR {k:Nat} (F:Fun K "__init__" "Choice.__init__" zT f fd):jK P w K mg base CX0 (k + 2) f fd ["self","line","last","middle","reads","rows","others"] (aCb C_Choice "line" "last" "middle" "reads" "rows" "others"):=by
 w_cond mK
 ·obtain⟨a,dx,v1,v2,v3,v4,v5,v6,H1,rfl,_⟩:=h;rfl
 obtain⟨a,dx,v1,v2,v3,v4,v5,v6,H1,rfl,hA,g,h0,q⟩:=h
 walk_at "hr"
 refine⟨_,(jD (kT (pv 0) (pv 1) rfl)
   (jD (kT (pv 0) (pv 2) rfl)
   (jD (kT (pv 0) (pv 3) rfl)
   (jD (kT (pv 0) (pv 4) rfl)
   (jD (kT (pv 0) (pv 5) rfl)
   (jE (kT (pv 0) (pv 6) rfl))))))),?_⟩
 exact⟨_,rfl,_,rfl,a,C_Choice,dx,[],rfl,hA,T_Choice.cl,T_Choice.na _ (by decide),by decide,_,rfl,_,rfl,a,C_Choice,dx,_,rfl,jH,T_Choice.cl,T_Choice.na _ (by decide),(by show 1 < 1000;decide),_,rfl,_,rfl,a,C_Choice,dx,_,rfl,jH,T_Choice.cl,T_Choice.na _ (by decide),(by show 2 < 1000;decide),_,rfl,_,rfl,a,C_Choice,dx,_,rfl,jH,T_Choice.cl,T_Choice.na _ (by decide),(by show 3 < 1000;decide),_,rfl,_,rfl,a,C_Choice,dx,_,rfl,jH,T_Choice.cl,T_Choice.na _ (by decide),(by show 4 < 1000;decide),_,rfl,_,rfl,a,C_Choice,dx,_,rfl,jH,T_Choice.cl,T_Choice.na _ (by decide),(by show 5 < 1000;decide),q _ ((((((g.putn h0).putn h0).putn h0).putn h0).putn h0).putn h0) jH⟩
theorem gT {k:Nat} (F:Fun K "__init__" "Program.__init__" yX f fd):jK P w K mg base CX0 (k + 2) f fd ["self","shapes","rows","named","written"] (spI4 C_Program "shapes" "rows" "named" "written"):=by
 w_cond gZ
 ·obtain⟨a,dx,v1,v2,v3,v4,H1,rfl,_⟩:=h;rfl
 obtain⟨a,dx,v1,v2,v3,v4,H1,rfl,hA,g,h0,q⟩:=h
 walk_at "hr"
 refine⟨_,(jD (kT (pv 0) (pv 1) rfl)
   (jD (kT (pv 0) (pv 2) rfl)
   (jD (kT (pv 0) (pv 3) rfl)
   (jE (kT (pv 0) (pv 4) rfl))))),?_⟩
 exact⟨_,rfl,_,rfl,a,C_Program,dx,[],rfl,hA,T_Program.cl,T_Program.na _ (by decide),by decide,_,rfl,_,rfl,a,C_Program,dx,_,rfl,jH,T_Program.cl,T_Program.na _ (by decide),(by show 1 < 1000;decide),_,rfl,_,rfl,a,C_Program,dx,_,rfl,jH,T_Program.cl,T_Program.na _ (by decide),(by show 2 < 1000;decide),_,rfl,_,rfl,a,C_Program,dx,_,rfl,jH,T_Program.cl,T_Program.na _ (by decide),(by show 3 < 1000;decide),q _ ((((g.putn h0).putn h0).putn h0).putn h0) jH⟩
theorem rR {k:Nat} (F:Fun K "lines_in" "lines_in" cV f fd):jK P w K mg base CX0 (k + 2) f fd ["text"] spLi:=by
 w_cond sH
 ·obtain⟨xs,rfl,_⟩:=h;rfl
 obtain⟨xs,rfl,hne,hx,hl,q⟩:=h
 walk_at "hr"
 refine⟨_,(jE (jP (vF (xM (pv 0) (fun _=>rfl)) (vW PySem.F.plainAttrs_str PySem.F.slot_str_split PySem.F.type_str_split yH (pv 0) (jA jO jB)) (kG jB)))),?_⟩
 have h1:(Str.join nlS xs).length<=xs.length * 11:=mE (c:=10) (m:=10) fun w hw=>(hx w hw).2.1
 have h0:(Str.join nlS xs).length ≠ 0:=by
  cases xs with
  | nil=>exact absurd rfl hne
  | cons x xs =>
   have hx0:=(hx x (List.mem_cons_self ..)).2.2
   by_cases z:xs=[]
   ·subst z
    rw [join_one];exact hx0
   ·rw [aBm z,len_app,len_app];omega
 refine⟨_,rfl,_,⟨small (by omega),rfl⟩,qQ (bne_iff_ne.mpr (by omega)) ⟨_,rfl,rfl,_,_,rfl,rfl,rfl,(by rw [sizeLine_eq];omega),fun p hp=>?_⟩⟩
 rw [show Txt.split (Str.join nlS xs) (Str.ofString "\n")=xs from aO (c:=10) hne fun x hx'=>(hx x hx').1]
 exact q p hp
theorem sN {k:Nat} (F:Fun K "bound_of" "bound_of" dB f fd):jK P w K mg base CX0 (k + 2) f fd ["width"] spBo:=by
 w_cond rS
 ·obtain⟨rfl,_⟩:=h;rfl
 obtain⟨rfl,q⟩:=h
 walk_at "hr"
 refine⟨_,(jE (jP (kF aJa jF (kF xU jF (pv 0))))),?_⟩
 exact⟨_,rfl,_,_,rfl,rfl,(by unfold CMul;decide),_,_,rfl,rfl,⟨by decide,by decide,by decide⟩,q⟩
theorem aGz {k:Nat} (F:Fun K "fits" "fits" uH f fd) {f_is_name:Addr} {fd_is_name:FuncData} (D_is_name:Df K mg "is_name" f_is_name fd_is_name ["thing"]) (G_is_name:jK P w K mg base CX0 k f_is_name fd_is_name ["thing"] (zC K)) {f_number_in:Addr} {fd_number_in:FuncData} (D_number_in:Df K mg "number_in" f_number_in fd_number_in ["text","low","high"]) (G_number_in:jK P w K mg base CX0 k f_number_in fd_number_in ["text","low","high"] (aJ K)) {f_bound_of:Addr} {fd_bound_of:FuncData} (D_bound_of:Df K mg "bound_of" f_bound_of fd_bound_of ["width"]) (G_bound_of:jK P w K mg base CX0 k f_bound_of fd_bound_of ["width"] spBo):jK P w K mg base CX0 (k + 2) f fd ["part","word"] spFi:=by
 w_cond aGo
 ·obtain⟨p,x,rfl,_⟩:=h;rfl
 obtain⟨p,x,rfl,hx,q⟩:=h
 walk_at "hr"
 refine⟨_,(jD (kI (jR vC (pv 0) (kJ (v:=.ref tNa) rfl C.NAMES rfl) (by with_unfolding_all rfl)) (jE (jP (jQ G_is_name hr rfl D_is_name.m D_is_name.k D_is_name.b .nil jT (jA (pv 1) jB)))) jU)
   (jD (kI (jR qF (pv 0) jO (jW _)) (jE (jP (qE iF (jQ G_number_in hr rfl D_number_in.m D_number_in.k D_number_in.b .nil jT (jA (pv 1) (jA jF (jA (kF uU (jQ G_bound_of hr rfl D_bound_of.m D_bound_of.k D_bound_of.b .nil jT (jA (kJ (v:=.int 4) rfl C.WORD_CELLS ⟨_,rfl⟩) jB)) jF) jB)))) vT (jW _)))) jU)
   (jD (kI (jR qF (pv 0) jO (jW _)) (jE (jP (qE vC (pv 1) (kJ (v:=.ref tSi) rfl C.SIGNS rfl) (by with_unfolding_all rfl)))) jU)
   (jD (kI (jR qF (pv 0) jO (jW _)) (jE (jP (qE aFx (pv 1) jO (jW _)))) jU)
   (jE (jP (qE qF (pv 1) (pv 0) (jW _)))))))),?_⟩
 refine⟨_,rfl,tNa,_,rfl,.inr (C.nams H),rfl,kW _,_,rfl,?_⟩
 rw [if_neg (by decide),kR]
 refine qG (fun c=>?_) (fun c=>?_)
 ·have c':=of_decide_eq_true c
  refine⟨_,rfl,.str x,rfl,.inl ⟨x,rfl,hx,fun H1 g1=>?_⟩⟩
  have:=q H1 g1
  unfold rH at this
  rw [if_pos c'] at this
  exact this
 have c':=of_decide_eq_false (Bool.eq_false_iff.mpr c)
 refine⟨_,rfl,rfl,_,rfl,qG (fun d=>?_) (fun d=>?_)⟩
 ·have d':=V.str.inj (of_decide_eq_true d)
  refine⟨_,rfl,rfl,_,_,rfl,rfl,.str x,0,4294967295,rfl,.inl ⟨x,rfl,hx,fun H1 g1=>⟨rfl,?_⟩⟩⟩
  have:=q H1 g1
  unfold rH at this
  rw [if_neg c',if_pos d'] at this
  cases e:zD (lG x) 0 4294967295 with
  | none=>rw [e] at this;exact this
  | some i=>rw [e] at this;exact this
 have d':=fun z=>d (decide_eq_true (congrArg V.str z))
 refine⟨_,rfl,rfl,_,rfl,qG (fun e=>?_) (fun e=>?_)⟩
 ·have e':=V.str.inj (of_decide_eq_true e)
  refine⟨_,rfl,tSi,_,rfl,.inr (C.sgns H),rfl,kW _,?_⟩
  rw [if_neg (by decide),kR]
  have:=q H (jI.refl _)
  unfold rH at this
  rw [if_neg c',if_neg d',if_pos e'] at this
  exact this
 have e':=fun z=>e (decide_eq_true (congrArg V.str z))
 refine⟨_,rfl,rfl,_,rfl,qG (fun f'=>?_) (fun f'=>?_)⟩
 ·have f2:=V.str.inj (of_decide_eq_true f')
  refine⟨_,rfl,rfl,?_⟩
  have:=q H (jI.refl _)
  unfold rH at this
  rw [if_neg c',if_neg d',if_neg e',if_pos f2] at this
  exact (show (!decide (V.str x=V.str (Str.ofString ""))) = !decide (x=Str.ofString "") by simp) ▸ this
 have f2:=fun z=>f' (decide_eq_true (congrArg V.str z))
 refine⟨_,rfl,_,rfl,rfl,?_⟩
 have:=q H (jI.refl _)
 unfold rH at this
 rw [if_neg c',if_neg d',if_neg e',if_neg f2] at this
 exact (show (decide (V.str x=V.str p))=decide (x=p) by simp) ▸ this
theorem aCr {k:Nat} (F:Fun K "unlike" "unlike" lY f fd):jK P w K mg base CX0 (k + 2) f fd ["names","ahead"] (spUn K):=by
 w_cond fJ
 ·obtain⟨a,b,xs,ys,rfl,_⟩:=h;rfl
 obtain⟨a,b,xs,ys,rfl,ha,hb,hnd,hx,hy,q⟩:=h
 walk_at "hr"
 refine⟨_,(jD (kB (i:=2) fJ.nd rfl (by walk_at "o") (kG jB))
   (jD (xX PassesOwn.never rfl (vI (pv 0)) (jV (i:=3) fJ.nd rfl (Or.inl rfl)) (jE (kI (PW.pt (xG (jR qZ (pv 3) (pv 1) (by with_unfolding_all rfl)) (vK (jR qZ (pv 3) (pv 2) (by with_unfolding_all rfl))))) (jE (qD (vW PySem.F.plainAttrs_list PySem.F.slot_list_append PySem.F.type_list_append qM (pv 2) (jA (pv 3) jB)))) jU)))
   (jE (jP (pv 2))))),?_⟩
 refine⟨xL,fun l hl=>?_⟩
 generalize e2:upd H l _=H2
 obtain⟨g2,k2⟩:=jC e2 hl
 refine⟨_,rfl,a,rfl,⟨_,g2.seq ha⟩,aD (xs:=xs.map V.str) (fun j σ H'=>∃ (zs:List Str) (o3:Option V),σ = [some (.ref a),some (.ref b),some (.ref l),o3]/\But l H2 H'/\H' l=some (.lst (zs.map V.str))/\(ys++zs).Nodup/\∀ y ∈ ys++zs,y ∈ oU) ⟨[],_,rfl,But.refl,k2,by simpa using hnd,by simpa using hy⟩ (fun j σ H' _ z=>?_) (fun j x σ H' hxj z=>?_) (fun σ H' z=>?_)⟩
 ·obtain⟨zs,o3,rfl,g,_⟩:=z
  exact (But.from g2 hl g).seq ha
 ·obtain⟨zs,o3,rfl,g,kz,hz,hm⟩:=z
  obtain⟨y,hy',rfl⟩:=qR hxj
  have gH:=But.from g2 hl g
  have hfew:=aBb hz hm
  rw [List.length_append] at hfew
  refine⟨_,rfl,_,rfl,b,_,rfl,.inl (gH.seq hb),rfl,kW _,_,rfl,?_⟩
  rw [if_pos rfl,kR]
  refine qG (fun c=>?_) (fun c=>cX ⟨zs,_,rfl,g,kz,hz,hm⟩)
  refine⟨_,rfl,_,rfl,l,_,rfl,.inl (SqL.of kz),rfl,kW _,_,rfl,?_⟩
  rw [if_pos rfl,kR]
  refine qG (fun d=>?_) (fun d=>⟨zs,_,rfl,g,kz,hz,hm⟩)
  refine⟨_,rfl,.inl ⟨rfl,_,SqL.of kz⟩,_,rfl,l,_,_,rfl,rfl,kz,(by rw [List.length_map];exact Nat.lt_of_le_of_lt (show zs.length<=5 by omega) (by decide)),?_⟩
  generalize e3:upd H' l _=H3
  obtain⟨g3,k3⟩:=vB e3
  refine⟨zs++[y],_,rfl,g.trans g3,by rw [List.map_append];exact k3,?_,fun x hx'=>?_⟩
  ·rw [← List.append_assoc,List.nodup_append]
   refine⟨hz,by simp,fun u hu v hv=>?_⟩
   rw [List.mem_singleton.mp hv]
   rintro rfl
   rcases List.mem_append.mp hu with hu|hu
   ·exact absurd hu (by simpa using c)
   ·exact absurd hu (by simpa using d)
  ·rw [← List.append_assoc] at hx'
   rcases List.mem_append.mp hx' with hx'|hx'
   ·exact hm x hx'
   ·rw [List.mem_singleton.mp hx'];exact hx y (List.mem_of_getElem? hy')
 ·obtain⟨zs,o3,rfl,g,kz,hz,hm⟩:=z
  exact⟨_,rfl,q l zs H' (But.from g2 hl g) kz hz hm⟩
theorem wE {k:Nat} (F:Fun K "form_of" "form_of" fU f fd) {f_fits:Addr} {fd_fits:FuncData} (D_fits:Df K mg "fits" f_fits fd_fits ["part","word"]) (G_fits:jK P w K mg base CX0 k f_fits fd_fits ["part","word"] spFi) {fd_NoProgram_init:FuncData} (D_NoProgram_init:DfI K fd_NoProgram_init ["self","line"]) (G_NoProgram_init:jK P w K mg base (CXE P w) k f_NoProgram_init fd_NoProgram_init ["self","line"] (aBi C_NoProgram)):jK P w K mg base (CXE P w) (k + 2) f fd ["line","words"] (spFm K):=by
 w_cond dG
 ·obtain⟨i,a,l,rfl,_⟩:=h;rfl
 obtain⟨i,a,l,rfl,hl,ha,q⟩:=h
 walk_at "hr"
 refine⟨_,(jD (xX ownE rfl (fQ (kJ (v:=.ref tFo) rfl C.FORMS rfl)) (xC rfl (jZ (jV (i:=2) dG.nd rfl (Or.inl rfl)) (jZ (jV (i:=3) dG.nd rfl (Or.inl rfl)) qK))) (jE (kI (PW.pt (xG (jR qF (jY kA rfl M.len PySem.boot_len (jA (pv 3) jB)) (jY kA rfl M.len PySem.boot_len (jA (pv 1) jB)) (jW _)) (vK (vU (jY (lZ rfl) rfl M.all boot_all (jA (qY ["part","word"] [] [] rfl (aAk rfl M.zip (jA (pv 3) (jA (pv 1) jB))) rfl trivial trivial (fun _ _ _ _=>(eR (K:=K) (n:=2) rfl rfl (jZ (jV (i:=0) (show List.Nodup (["part","word"]:List Str) from by decide +kernel) rfl (Or.inl rfl)) (jZ (jV (i:=1) (show List.Nodup (["part","word"]:List Str) from by decide +kernel) rfl (Or.inl rfl)) qK)))) (fun _ _ _ _=>vD) (fun _ _ _ _=>(jQ G_fits hr rfl D_fits.m D_fits.k D_fits.b .nil jT (jA (pv 0) (jA (pv 1) jB))))) jB)))))) (jE (jP (qT (jA (pv 2) (jA (pv 3) jB))))) jU)))
   (jE (zE T_NoProgram.c G_NoProgram_init hr0 rfl T_NoProgram.m D_NoProgram_init.b .nil aS (jA (pv 0) jB)))),?_⟩
 have hF:=zS hl
 obtain⟨fas,hfo,hfl,hfs⟩:=C.frms H
 have hw1000:∀ w ∈ l.ws,w.length<=1000:=fun w hw=>by have:=(hF.w6 w hw).1;omega
 refine⟨tFo,rfl,⟨_,hfo⟩,aHo (xs:=fas.map V.ref) (fun j σ H'=>(∃ o2 o3,σ = [some i,some (.ref a),o2,o3])/\jI H H'/\∀ m f',m < j->fN[m]?=some f'->nB l.ws f'=false) ⟨⟨_,_,rfl⟩,jI.refl _,fun m f' z=>absurd z (Nat.not_lt_zero _)⟩ (fun j σ H' _ z=>z.2.1.tp hfo) (fun j x σ H' hx z=>?_) (fun σ H' z=>?_)⟩
 ·obtain⟨⟨o2,o3,rfl⟩,g,hno⟩:=z
  obtain⟨fa,hfa,rfl⟩:=vA hx
  have hj:j < fN.length:=by rw [← hfl];exact (List.getElem?_eq_some_iff.mp hfa).1
  obtain⟨f',hf'⟩ : ∃ f',fN[j]?=some f':=⟨_,List.getElem?_eq_getElem hj⟩
  obtain⟨ga,s1,s2⟩:=hfs j fa f' hfa hf'
  have s1':=g.tp s1
  have s2':=g.tp s2
  have ha':=g.seq ha
  refine⟨fa,_,rfl,s1',rfl,_,_,rfl,_,_,rfl,rfl,_,rfl,ga,_,rfl,.inr s2',_,rfl,a,_,rfl,.inl ha',rfl,_,rfl,qG (fun c=>?_) (fun c=>cX ?_)⟩
  ·have c':f'.2.length=l.ws.length:=by have:=V.int.inj (of_decide_eq_true c);rw [List.length_map,List.length_map] at this;omega
   have zl:(f'.2.map V.str).length=f'.2.length:=List.length_map _
   have zz:(List.zipWith rH f'.2 l.ws).length=f'.2.length:=by rw [List.length_zipWith];omega
   have hf5:f'.2.length<=4:=by rw [c'];exact hF.w4
   refine⟨true,false,_,rfl,_,rfl,ga,a,f'.2.map V.str,l.ws.map V.str,rfl,s2',ha',aBs (fun j zs H2=>jI H' H2/\zs=((List.zipWith rH f'.2 l.ws).take j).map V.bl) (by rw [List.length_map,List.length_map];omega) ⟨jI.refl _,rfl⟩ (fun j zs H2 _ z=>⟨z.1.tp s2',z.1.seq ha',by rw [z.2,List.length_map,List.length_take];exact Nat.min_le_left _ _⟩) (qB (by omega)) (fun j x y zs H2 p os ho hx hy z hp=>?_) (fun zs H2 z p hp=>?_)⟩
   ·obtain⟨g2,rfl⟩:=z
    obtain⟨o1,o2,rfl⟩:=aCj ho
    obtain⟨u,hu,rfl⟩:=qR hx
    obtain⟨v,hv,rfl⟩:=qR hy
    generalize e3:upd H2 p _=H3
    obtain⟨g3,k3⟩:=jC e3 hp
    refine⟨p,_,rfl,SqT.of k3,rfl,_,_,rfl,_,_,rfl,rfl,_,rfl,_,rfl,u,v,rfl,hw1000 v (List.mem_of_getElem? hv),fun H4 g4=>⟨⟨g2.trans (g3.trans g4),?_⟩,[_,_],rfl,rfl⟩⟩
    rw [List.take_add_one,List.getElem?_zipWith,hu,hv,List.map_append];rfl
   ·obtain⟨g2,rfl⟩:=z
    generalize e3:upd H2 p _=H3
    obtain⟨g3,k3⟩:=jC e3 hp
    rw [zl,← zz,qU] at k3
    have g4:=g.trans (g2.trans g3)
    refine⟨p,_,rfl,SqL.of k3,_,rfl,qG (fun d=>?_) (fun d=>?_)⟩
    ·have hB:nB l.ws f'=true:=by unfold nB;rw [decide_eq_true c',d];rfl
     have ef:f'=(l.d,l.ps):=by
      have:=aHb hf' hB hno
      rw [hF.fd] at this
      exact (Option.some.inj this).symm
     subst ef
     refine⟨_,rfl,_,rfl,vQ,fun t ht=>?_⟩
     generalize e5:upd H3 t _=H5
     obtain⟨g5,k5⟩:=jC e5 ht
     exact q t ga H5 (g4.trans g5) (SqT.of k5) ((g4.trans g5).tp s2)
    ·have hB:nB l.ws f'=false:=by unfold nB;rw [Bool.eq_false_iff.mpr d,Bool.and_false]
     exact⟨⟨_,_,rfl⟩,g4,aAx hf' hB hno⟩
  ·have c':¬ f'.2.length=l.ws.length:=fun z=>c (decide_eq_true (by rw [List.length_map,List.length_map,z]))
   have hB:nB l.ws f'=false:=by unfold nB;rw [decide_eq_false c',Bool.false_and]
   exact⟨⟨_,_,rfl⟩,g,aAx hf' hB hno⟩
 ·obtain⟨⟨o2,o3,rfl⟩,g,hno⟩:=z
  exfalso
  have hz:fN.find? (nB l.ws)=none:=List.find?_eq_none.mpr fun f' hf'=>by
   obtain⟨j,hj⟩:=List.mem_iff_getElem?.mp hf'
   rw [hno j f' (by rw [List.length_map,hfl];exact (List.getElem?_eq_some_iff.mp hj).1) hj]
   exact Bool.false_ne_true
  rw [hF.fd] at hz
  cases hz
theorem hU {k:Nat} (F:Fun K "begun_behind" "begun_behind" yS f fd):jK P w K mg base CX0 (k + 2) f fd ["begun","deed"] (spBg K):=by
 w_cond hZ
 ·obtain⟨a,st,d,xs,rfl,_⟩:=h;rfl
 obtain⟨a,st,d,xs,rfl,hA,hao,hst,q⟩:=h
 walk_at "hr"
 refine⟨_,(jD (kI (jR vC (pv 1) (kJ (v:=.ref tBe) rfl C.BEGINNINGS rfl) (by with_unfolding_all rfl)) (jE (jP (kF vY (pv 0) (kG (jA (pv 1) jB))))) jU)
   (jD (kI (jR qF (pv 1) jO (jW _)) (jE (jP (kF vY (qA qJ (pv 0) qO (qH (xN vE jF))) (kG (jA (pv 1) jB))))) jU)
   (jE (jP (vF (jR qF (pv 1) jO (jW _)) (qA qJ (pv 0) qO (qH (xN vE jF))) (pv 0)))))),?_⟩
 have ha:=jN.seq hao
 have add:∀ {H1:Hp} {b:Addr} {ys:List Str},jI H H1->SqL K H1 b (ys.map V.str)->ys.length<=3->ys++[d]=bgS st d->((1:Nat)<=sizeLine/\∀ p,H1 p=none->∃ (a' b':Addr) (xs zs:List V),V.ref b=.ref a'/\V.ref p=.ref b'/\SqL K (upd H1 p (.lst [.str d])) a' xs/\SqL K (upd H1 p (.lst [.str d])) b' zs/\xs.length + zs.length<=sizeLine/\∀ l,upd H1 p (.lst [.str d]) l=none->Q (.ref l) (upd (upd H1 p (.lst [.str d])) l (.lst (xs++zs)))):=fun {H1 b ys} g hb hy he=>by
  refine⟨by decide,fun p hp=>?_⟩
  generalize e2:upd H1 p _=H2
  obtain⟨g2,k2⟩:=jC e2 hp
  refine⟨b,p,_,_,rfl,rfl,g2.seq hb,SqL.of k2,(by rw [List.length_map,sizeLine_eq];show ys.length + 1<=_;omega),fun l hl=>?_⟩
  generalize e3:upd H2 l _=H3
  obtain⟨g3,k3⟩:=jC e3 hl
  refine q l H3 (g.trans (g2.trans g3)) ?_
  rw [← he,List.map_append];exact SqL.of (kZ ((hA.same (g.trans g2)).new hl) k3)
 refine⟨_,rfl,tBe,_,rfl,.inr (C.begs H),rfl,kW _,_,rfl,?_⟩
 rw [if_neg (by decide),kR]
 refine qG (fun c=>?_) (fun c=>?_)
 ·have c':=of_decide_eq_true c
  obtain⟨z1,z2⟩:=add (jI.refl H) ha hst (by unfold bgS;rw [if_pos c'])
  exact⟨_,rfl,_,rfl,z1,z2⟩
 have c':=of_decide_eq_false (Bool.eq_false_iff.mpr c)
 refine⟨_,rfl,rfl,_,rfl,qG (fun d'=>?_) (fun d'=>?_)⟩
 ·have d2:=V.str.inj (of_decide_eq_true d')
  refine⟨_,rfl,_,rfl,_,rfl,a,_,rfl,ha,fun p hp=>?_⟩
  rw [aFy]
  generalize e2:upd H p _=H2
  obtain⟨g2,k2⟩:=jC e2 hp
  obtain⟨z1,z2⟩:=add g2 (SqL.of k2) (by rw [List.length_dropLast];omega) (by unfold bgS;rw [if_neg c',if_pos d2])
  exact⟨_,rfl,z1,z2⟩
 have d2:=fun z=>d' (decide_eq_true (congrArg V.str z))
 refine⟨_,rfl,rfl,_,rfl,qG (fun f'=>?_) (fun f'=>?_)⟩
 ·have f2:=V.str.inj (of_decide_eq_true f')
  refine⟨_,rfl,_,rfl,_,rfl,a,_,rfl,ha,fun p hp=>?_⟩
  rw [aFy]
  generalize e2:upd H p _=H2
  obtain⟨g2,k2⟩:=jC e2 hp
  refine q p H2 g2 ?_
  unfold bgS
  rw [if_neg c',if_neg d2,if_pos f2]
  exact SqL.of (kZ (hA.new hp) k2)
 ·have f2:=fun z=>f' (decide_eq_true (congrArg V.str z))
  refine⟨_,rfl,q a H (jI.refl _) ?_⟩
  unfold bgS
  rw [if_neg c',if_neg d2,if_neg f2]
  exact hao
theorem fX {k:Nat} (F:Fun K "need_standing" "need_standing" yA f fd) {fd_NoProgram_init:FuncData} (D_NoProgram_init:DfI K fd_NoProgram_init ["self","line"]) (G_NoProgram_init:jK P w K mg base (CXE P w) k f_NoProgram_init fd_NoProgram_init ["self","line"] (aBi C_NoProgram)):jK P w K mg base (CXE P w) (k + 2) f fd ["begun","line","deed"] (spNs C_NoProgram K):=by
 w_cond fH
 ·obtain⟨a,x,d,st,s,rfl,_⟩:=h;rfl
 obtain⟨a,x,d,st,s,rfl,rfl,ha,hst,q,qx⟩:=h
 walk_at "hr"
 refine⟨_,(jD (kI (PW.pt (xG (jR qF (pv 2) jO (jW _)) (vK (jR (aHk hr.units) (qA qJ (pv 0) (qH (xN vE jF)) qO) (kG (jA jO jB)) (jW _))))) (jE (zE T_NoProgram.c G_NoProgram_init hr0 rfl T_NoProgram.m D_NoProgram_init.b .nil aS (jA (pv 1) jB))) jU)
   (jD (kI (PW.pt (xG (jR qF (pv 2) jO (jW _)) (vK (yI (xM (pv 0) (fun _=>rfl)))))) (jE (zE T_NoProgram.c G_NoProgram_init hr0 rfl T_NoProgram.m D_NoProgram_init.b .nil aS (jA (pv 1) jB))) jU)
   (jE (kI (PW.pt (xG (jR vC (pv 2) (kJ (v:=.ref tBe) rfl C.BEGINNINGS rfl) (by with_unfolding_all rfl)) (vK (jR qF (jY kA rfl M.len PySem.boot_len (jA (pv 0) jB)) (kJ (v:=.int 3) rfl C.MOST_BEGUN ⟨_,rfl⟩) (jW _))))) (jE (zE T_NoProgram.c G_NoProgram_init hr0 rfl T_NoProgram.m D_NoProgram_init.b .nil aS (jA (pv 1) jB))) jU)))),?_⟩
 have fin:∀ {H1:Hp},jI H H1->∀ e,H1 e=none->∀ dx',upd H1 e (Ex0 e C_NoProgram none) dx'=none->(∀ e H',jI H H'->H e=none->NLx C_NoProgram H' e x->E (.ref e) none H')->E (.ref e) none (upd (upd (upd (upd H1 e (Ex0 e C_NoProgram none)) dx' (XD dx' [("line",x)])) e (Ex0 e C_NoProgram (some dx'))) e (ExF e C_NoProgram (some dx'))):=fun {H1} g e he dx' hd qx=>by
  obtain⟨g2,hx⟩:=aDk (v:=x) g he hd
  exact qx e _ g2 (g.free he) hx
 refine tW (fun σ' H'=>σ'=[some (.ref a),some x,some (.str s)]/\jI H H'/\(s = "else"->st.getLast?=some "if")) (fun σ' H' z=>?_) (fun nx hnx=>?_)
 ·obtain⟨rfl,g,h1⟩:=z
  refine tW (fun σ' H2=>σ'=[some (.ref a),some x,some (.str s)]/\jI H H2/\(s = "end"->st ≠ [])) (fun σ' H2 z=>?_) (fun nx hnx=>?_)
  ·obtain⟨rfl,g2,h2⟩:=z
   have ok:(s ∈ bE->st.length ≠ 3)->stB st s=true:=fun h3=>by
    unfold stB
    rw [Bool.not_eq_true',Bool.or_eq_false_iff,Bool.or_eq_false_iff]
    refine⟨⟨?_,?_⟩,?_⟩
    ·by_cases z:s = "else"
     ·rw [decide_eq_true (h1 z)];simp
     ·rw [decide_eq_false z];rfl
    ·by_cases z:s = "end"
     ·rw [decide_eq_false (h2 z)];simp
     ·rw [decide_eq_false z];rfl
    ·by_cases z:s ∈ bE
     ·rw [decide_eq_false (h3 z)];simp
     ·rw [decide_eq_false z];rfl
   refine⟨_,rfl,tBe,_,rfl,.inr (C.begs H2),rfl,kW _,_,rfl,?_⟩
   rw [if_neg (by decide),kR]
   refine qG (fun c=>?_) (fun c=>cX (q (ok fun z=>absurd (decide_eq_true z) c) H2 g2))
   have cx:=of_decide_eq_true c
   refine⟨_,rfl,a,_,rfl,.inl (g2.seq ha),rfl,_,rfl,qG (fun d=>?_) (fun d=>q (ok fun _ z=>d (decide_eq_true (by rw [List.length_map,z];rfl))) H2 g2)⟩
   have dd:st.length=3:=by have:=V.int.inj (of_decide_eq_true d);rw [List.length_map] at this;omega
   exact⟨True.intro,_,rfl,(by show 1<=1000;decide),fun e he=>⟨e,_,rfl,jH,fun dx' hd=>⟨rfl,e,some dx',rfl,jH,fin g2 e he dx' hd (qx (by unfold stB;rw [decide_eq_true cx,decide_eq_true dd];simp))⟩⟩⟩
  ·refine⟨_,rfl,rfl,_,rfl,qG (fun c=>?_) (fun c=>cX (hnx _ _ ⟨rfl,g,fun z=>absurd (decide_eq_true (congrArg V.str z)) c⟩))⟩
   have cx:=V.str.inj (of_decide_eq_true c)
   refine⟨_,rfl,_,.inl ⟨_,g.seq ha,rfl⟩,?_⟩
   cases st with
   | nil=>exact qQ rfl ⟨True.intro,_,rfl,(by show 1<=1000;decide),fun e he=>⟨e,_,rfl,jH,fun dx' hd=>⟨rfl,e,some dx',rfl,jH,fin g e he dx' hd (qx (by unfold stB;rw [decide_eq_true (show s=Str.ofString "end" from cx)];simp))⟩⟩⟩
   | cons y ys=>exact kQ (by simp) (hnx _ _ ⟨rfl,g,fun _=>by simp⟩)
 ·refine⟨_,rfl,rfl,_,rfl,qG (fun c=>?_) (fun c=>cX (hnx _ _ ⟨rfl,jI.refl _,fun z=>absurd (decide_eq_true (congrArg V.str z)) c⟩))⟩
  have cx:=V.str.inj (of_decide_eq_true c)
  refine⟨_,rfl,_,rfl,_,rfl,a,_,rfl,ha,fun p hp=>?_⟩
  rw [cutL]
  generalize e2:upd H p _=H2
  obtain⟨g2,k2⟩:=jC e2 hp
  refine⟨dC,fun p2 hp2=>?_⟩
  generalize e3:upd H2 p2 _=H3
  obtain⟨g3,k3⟩:=jC e3 hp2
  refine⟨p,p2,st.getLast?,"if",rfl,rfl,SqL.of (g3 _ _ k2),SqL.of k3,_,rfl,qG (fun d=>?_) (fun d=>?_)⟩
  ·have dd:st.getLast? ≠ some "if":=by simpa using d
   exact⟨True.intro,_,rfl,(by show 1<=1000;decide),fun e he=>⟨e,_,rfl,jH,fun dx' hd=>⟨rfl,e,some dx',rfl,jH,fin (g2.trans g3) e he dx' hd (qx (by unfold stB;rw [decide_eq_true (show s=Str.ofString "else" from cx),decide_eq_false dd];simp))⟩⟩⟩
  ·exact hnx _ _ ⟨rfl,g2.trans g3,fun _=>by simpa using d⟩
theorem rV {k:Nat} (F:Fun K "steps_in" "steps_in" lF f fd):jK P w K mg base (CXE P w) (k + 2) f fd ["shape","line","deed","path"] spNo:=⟨fun _ _ _ _ h=>h.elim,fun _ _ _ _ _ _ _ _ _ _ _ _ _ h=>h.elim⟩
theorem mF {k:Nat} (F:Fun K "main" "Shapes.main" zL f fd):jK P w K mg base CX0 (k + 2) f fd ["self"] (spMn (Cl5.mk Va Vb Vc Vd Ve) Vf K):=by
 w_cond iZ
 ·obtain⟨ra,z,sa,S,rfl,_⟩:=h;rfl
 obtain⟨ra,z,sa,S,rfl,⟨dx,t,k1,k2,hw⟩,q⟩:=h
 walk_at "hr"
 refine⟨_,(jE (jP (kK aDb (kH (pv 0) rfl) (xN vE jF) (fun _ _=>rfl)))),?_⟩
 exact⟨_,rfl,ra,Vf,_,_,_,rfl,k1,Uf.cl,Uf.na _ (by decide),rfl,_,rfl,t,_,_,_,rfl,rfl,k2,yG _ _,q⟩
theorem tH {k:Nat} (F:Fun K "names_in" "names_in" dM f fd):jK P w K mg base CX0 (k + 2) f fd ["form","words","steps"] (spNi K):=by
 w_cond zH
 ·obtain⟨g,a,x,l,rfl,_⟩:=h;rfl
 obtain⟨ga,a,x,l,rfl,hl,hg,ha,q⟩:=h
 walk_at "hr"
 refine⟨_,(jD (kB (i:=3) zH.nd rfl (by walk_at "o") (kG jB))
   (jD (xX PassesOwn.never rfl (aAk rfl M.zip (jA (pv 0) (jA (pv 1) jB))) (xC rfl (jZ (jV (i:=4) zH.nd rfl (Or.inl rfl)) (jZ (jV (i:=5) zH.nd rfl (Or.inl rfl)) qK))) (jD (kI (jR vC (pv 4) (kJ (v:=.ref tNa) rfl C.NAMES rfl) (by with_unfolding_all rfl)) (jE (qD (vW PySem.F.plainAttrs_list PySem.F.slot_list_append PySem.F.type_list_append qM (pv 3) (jA (pv 5) jB)))) jU)
   (jE (kI (jR qF (pv 4) jO (jW _)) (jE (qD (vW PySem.F.plainAttrs_list PySem.F.slot_list_extend PySem.F.type_list_extend oE (pv 3) (jA (qY ["step"] [] [] rfl (vI (pv 2)) rfl trivial trivial (fun _ _ _ _=>(jV (i:=0) (show List.Nodup (["step"]:List Str) from by decide +kernel) rfl (Or.inl rfl))) (fun _ _ _ _=>(rO (vU (jY (bG (K:=K) rfl) rfl M.isinstance boot_isinstance (jA (pv 0) (jA (dU (v:=.ty "tuple") rfl M.tuple boot_tuple rfl) jB)))))) (fun _ _ _ _=>(kK (aFu K rfl) (pv 0) jF (fun _ _=>rfl)))) jB)))) jU))))
   (jE (jP (pv 3))))),?_⟩
 have hF:=zS hl
 have hw4:=hF.w4
 have hpl:=hF.pl
 refine⟨xL,fun n hn=>?_⟩
 generalize e2:upd H n _=H2
 obtain⟨g2,k2⟩:=jC e2 hn
 refine⟨true,false,_,rfl,_,rfl,ga,a,l.ps.map V.str,l.ws.map V.str,rfl,g2.tp hg,g2.seq ha,aFl (xs:=l.ps.map V.str) (ys:=l.ws.map V.str) (fun j σ H'=>∃ o4 o5,σ = [some (.ref ga),some (.ref a),some x,some (.ref n),o4,o5]/\But n H2 H'/\H' n=some (.lst ((nmF ((l.ps.zip l.ws).take j)).map V.str))/\(nmF ((l.ps.zip l.ws).take j)).length<=j) (by rw [List.length_map,List.length_map];exact hpl.symm) ⟨_,_,rfl,But.refl,k2,Nat.le_refl _⟩ (fun j σ H' _ z=>?_) (fun j u v σ H' p hu0 hv0 z hp=>?_) (fun σ H' z=>?_)⟩
 ·obtain⟨o4,o5,rfl,g,_⟩:=z
  exact⟨(But.from g2 hn g).tp hg,(But.from g2 hn g).seq ha⟩
 ·obtain⟨o4,o5,rfl,g,kn,hj⟩:=z
  obtain⟨u,hu,rfl⟩:=qR hu0
  obtain⟨v,hv,rfl⟩:=qR hv0
  generalize e3:upd H' p _=H3
  obtain⟨g3,k3⟩:=jC e3 hp
  have kn3:=g3 _ _ kn
  have hup:u ≠ "PATH":=fun z=>hF.pa (by rw [← z];exact List.mem_of_getElem? hu)
  have hj4:j < 4:=by have:=(List.getElem?_eq_some_iff.mp hu).1;omega
  have es:=cB hu hv
  refine⟨p,_,rfl,SqT.of k3,rfl,_,_,rfl,_,_,rfl,rfl,tW (fun σ' H4=>σ'=[some (.ref ga),some (.ref a),some x,some (.ref n),some (.str u),some (.str v)]/\But n H2 H4/\H4 n=some (.lst ((nmF ((l.ps.zip l.ws).take (j + 1))).map V.str))/\(nmF ((l.ps.zip l.ws).take (j + 1))).length<=j + 1) (fun σ' H4 z=>?_) (fun nx hnx=>?_)⟩
  ·obtain⟨rfl,g4,k4,h4⟩:=z
   exact⟨_,rfl,rfl,_,rfl,kQ (fun z=>hup (V.str.inj (of_decide_eq_true z))) ⟨_,_,rfl,g4,k4,h4⟩⟩
  ·refine⟨_,rfl,tNa,_,rfl,.inr (C.nams H3),rfl,kW _,_,rfl,?_⟩
   rw [if_neg (by decide),kR]
   refine qG (fun c=>?_) (fun c=>hnx _ _ ⟨rfl,g.trans (But.of g3),?_,?_⟩)
   ·have c':=of_decide_eq_true c
    refine⟨_,rfl,.inl ⟨rfl,_,SqL.of kn3⟩,_,rfl,n,_,_,rfl,rfl,kn3,(by rw [List.length_map];exact Nat.lt_of_le_of_lt (show _<=5 by omega) (by decide)),?_⟩
    generalize e5:upd H3 n _=H5
    obtain⟨g5,k5⟩:=vB e5
    have en:nmF ((l.ps.zip l.ws).take (j + 1))=nmF ((l.ps.zip l.ws).take j)++[v]:=by
     rw [es,aAq]
     congr 1
     show (if u ∈ dA then _ else _)=_
     rw [if_pos c'];rfl
    exact hnx _ _ ⟨rfl,(g.trans (But.of g3)).trans g5,by rw [en,List.map_append];exact k5,by rw [en,List.length_append];exact Nat.succ_le_succ hj⟩
   all_goals
    have c':=of_decide_eq_false (Bool.eq_false_iff.mpr c)
    have en:nmF ((l.ps.zip l.ws).take (j + 1))=nmF ((l.ps.zip l.ws).take j):=by
     rw [es,aAq]
     show _++(if u ∈ dA then _ else _)=_
     rw [if_neg c'];exact List.append_nil _
    rw [en]
   ·exact kn3
   ·omega
 ·obtain⟨o4,o5,rfl,g,kn,_⟩:=z
  rw [List.length_map,List.take_of_length_le (by rw [List.length_zip];omega)] at kn
  exact⟨_,rfl,q n H' (But.from g2 hn g) kn⟩
theorem lT {k:Nat} (F:Fun K "line_behind" "line_behind" zM f fd) (KP:PrC K C_Row C_Loop C_Choice):jK P w K mg base CX0 (k + 2) f fd ["row"] (spLb C_Row C_Loop C_Choice K):=by
 w_cond mB
 ·obtain⟨a,t,rfl,_⟩:=h;rfl
 obtain⟨a,t,rfl,ht,q⟩:=h
 walk_at "hr"
 refine⟨_,(jE (jP (vF (vU (jY (bG (K:=K) rfl) rfl M.isinstance boot_isinstance (jA (pv 0) (jA (kJ (v:=.ref C_Row) rfl T_Row.m rfl) jB)))) (kF qL (kH (pv 0) rfl) jF) (kF qL (kH (pv 0) rfl) jF)))),?_⟩
 cases ht with
 | row h1 _ =>
  obtain⟨dx,ra,sa,h1,_⟩:=h1
  exact⟨_,rfl,.ref a,C_Row,_,_,rfl,KP.i1.ty h1,KP.rr,_,rfl,qQ rfl ⟨_,rfl,a,C_Row,_,_,_,rfl,h1,T_Row.cl,T_Row.na _ (by decide),rfl,_,_,rfl,rfl,q⟩⟩
 | loop h1 _ _ _=>exact⟨_,rfl,.ref a,C_Row,_,_,rfl,KP.i2.ty h1,KP.lr,_,rfl,kQ (by decide) ⟨_,rfl,a,C_Loop,_,_,_,rfl,h1,T_Loop.cl,T_Loop.na _ (by decide),rfl,_,_,rfl,rfl,q⟩⟩
 | ch h1 _ _ _ _ _=>exact⟨_,rfl,.ref a,C_Row,_,_,rfl,KP.i3.ty h1,KP.cr,_,rfl,kQ (by decide) ⟨_,rfl,a,C_Choice,_,_,_,rfl,h1,T_Choice.cl,T_Choice.na _ (by decide),rfl,_,_,rfl,rfl,q⟩⟩
theorem aCg {k:Nat} (F:Fun K "row_in" "row_in" lB f fd) {f_steps_in:Addr} {fd_steps_in:FuncData} (D_steps_in:Df K mg "steps_in" f_steps_in fd_steps_in ["shape","line","deed","path"]) (G_steps_in:jK P w K mg base (CXE P w) k f_steps_in fd_steps_in ["shape","line","deed","path"] spNo) {fd_Row_init:FuncData} (D_Row_init:DfI K fd_Row_init ["self","line","deed","goal","reads","steps","number"]) (G_Row_init:jK P w K mg base CX0 k f_Row_init fd_Row_init ["self","line","deed","goal","reads","steps","number"] (aCb C_Row "line" "deed" "goal" "reads" "steps" "number")):jK P w K mg base (CXE P w) (k + 2) f fd ["shape","line","deed","filled"] (spRo C_Row K):=by
 w_cond aH
 ·obtain⟨x,i,d,l,xs,rfl,_⟩:=h;rfl
 obtain⟨x,i,d,l,xs,rfl,hl,hd,hA,q⟩:=h
 walk_at "hr"
 refine⟨_,(jD (kB (i:=4) aH.nd rfl (by walk_at "o") (vF (oX (uQ hr.units1 jO (pv 3))) (cL hr.units1 (pv 3) jO (fun _ _=>rfl)) jO))
   (jD (aHt (i:=5) ["part"] ["filled","goal"] [3,4] aH.nd rfl rfl rfl (aHw (pv 3)) rfl ⟨rfl,⟨rfl,trivial⟩⟩ ⟨⟨rfl,rfl,rfl,_,rfl⟩,⟨⟨rfl,rfl,rfl,_,rfl⟩,trivial⟩⟩ (fun _ _ _ _=>(jV (i:=0) (show List.Nodup (["part","filled","goal"]:List Str) from by decide +kernel) rfl (Or.inl rfl))) (fun _ _ _ _=>(rO (PW.pt (xG (jR (wT (K:=K) rfl) (pv 0) (kJ (v:=.ref tNa) rfl C.NAMES rfl) (by with_unfolding_all rfl)) (vK (PW.pt (sZ (jR aFx (pv 0) jO (jW _)) (mL (jR qF (pv 2) jO (jW _)))))))))) (fun _ _ _ _=>(cL hr.units1 (pv 1) (pv 0) (fun _ _=>rfl))))
   (jD (kB (i:=6) aH.nd rfl (by walk_at "o") (vF (oX (uQ hr.units1 jO (pv 3))) (jQ G_steps_in hr rfl D_steps_in.m D_steps_in.k D_steps_in.b .nil (aBa fun _ _ _ z=>z) (jA (pv 0) (jA (pv 1) (jA (pv 2) (jA (cL hr.units1 (pv 3) jO (fun _ _=>rfl)) jB))))) (kG jB)))
   (jD (kB (i:=7) aH.nd rfl (by walk_at "o") (vF (oX (uQ hr.units1 jO (pv 3))) (vH yE rfl M.int boot_int (jA (cL hr.units1 (pv 3) jO (fun _ _=>rfl)) jB)) jF))
   (jE (jP (vL T_Row.ma G_Row_init hr0 rfl T_Row.m D_Row_init.b .nil jT (jA (pv 1) (jA (aGc hr.units1 (pv 3) jO (pv 2) ⟨rfl,rfl,rfl,rfl⟩) (jA (pv 4) (jA (pv 5) (jA (pv 6) (jA (pv 7) jB kY) kY) kY) kY) pM) kY)))))))),?_⟩
 have hF:=zS hl
 have hw4:=hF.w4
 have hpl:=hF.pl
 have val:∀ k,yF (gP l) (.inr k)=((l.ps.zip l.ws).lookup k).map V.str:=fun k=>aEl _ _ k
 have no:∀ {k:Str},k ∉ l.ps->yF (gP l) (.inr k)=none:=fun {k} h=>by rw [val,aBc h];rfl
 have kl:(gP l).length=l.ps.length:=by unfold gP;rw [List.length_zipWith];omega
 refine ifJ (.str (xE l)) ?_ (fun Q' hq=>?_)
 case' refine_2 =>
  by_cases hn:l.d = "name"
  ·have e1:xE l = "b":=by unfold xE;rw [if_pos hn]
   have e2:yF (gP l) (.inr "A")=some (.str "b"):=by
    rw [val]
    rcases hF.ga with h|h
    ·rw [h];rfl
    ·exact absurd hn h
   have e3:∃ o,yF (gP l) (.inr "=")=some o:=by
    obtain⟨j,hj⟩:=List.mem_iff_getElem?.mp (hF.eq.mpr hn)
    obtain⟨v,hv⟩ : ∃ v,l.ws[j]?=some v:=⟨_,List.getElem?_eq_getElem (by have:=(List.getElem?_eq_some_iff.mp hj).1;omega)⟩
    exact⟨.str v,by rw [val,oZ hF.nd hj hv];rfl⟩
   obtain⟨o,e3⟩:=e3
   exact⟨_,rfl,d,_,rfl,zP.k (k:=Sum.inr "=") hd,_,rfl,qQ (by rw [e3];rfl) ⟨_,rfl,d,.str "b",rfl,(by rw [← e2];exact zP.k (k:=Sum.inr "A") hd),e1 ▸ hq⟩⟩
  ·have e1:xE l = "":=by unfold xE;rw [if_neg hn]
   exact⟨_,rfl,d,_,rfl,zP.k (k:=Sum.inr "=") hd,_,rfl,kQ (by rw [no (fun z=>hn (hF.eq.mp z))];decide) (e1 ▸ hq)⟩
 refine⟨_,rfl,d,_,rfl,hd,fun o=>?_⟩
 generalize e1:upd H d _=H1
 have hA1:Al xs H1:=by rw [← e1];exact aJv hA
 obtain⟨g1,kd⟩:=vB e1
 have dno:∀ {k:Str} {H':Hp},k ∉ l.ps->H' d=some (.frz o (.dK (gP l)))->zP H' d (.str k) none:=fun {k H'} h hk=>by rw [← no h];exact uP (k:=Sum.inr k) hk
 refine aCt (fun j ys H'=>H'=H1/\ys=(rdF (xE l) ((l.ps.zip l.ws).take j)).map V.str/\(rdF (xE l) ((l.ps.zip l.ws).take j)).length<=j) ⟨rfl,rfl,Nat.le_refl _⟩ (fun j ys H' _ z=>⟨by rw [z.1];exact kd,by rw [z.2.1,List.length_map];exact z.2.2⟩) (by rw [kl,sizeLine_eq];omega) (fun j kv ys H' hkv z=>?_) (fun ys H' z p hp=>?_)
 ·obtain⟨rfl,rfl,hj⟩:=z
  obtain⟨u,v,hu,hv,rfl⟩:=kv_at hkv
  have hvv:yF (gP l) (.inr u)=some (.str v):=by rw [val,oZ hF.nd hu hv];rfl
  have es:=aGd (g:=xE l) hu hv
  have yes:(u ∈ dA/\(u ≠ "A" ∨ xE l = ""))->rdF (xE l) ((l.ps.zip l.ws).take (j + 1))=rdF (xE l) ((l.ps.zip l.ws).take j)++[v]:=fun h=>by rw [es,if_pos h]
  have nay:¬ (u ∈ dA/\(u ≠ "A" ∨ xE l = ""))->rdF (xE l) ((l.ps.zip l.ws).take (j + 1))=rdF (xE l) ((l.ps.zip l.ws).take j):=fun h=>by rw [es,if_neg h,List.append_nil]
  refine⟨_,rfl,tNa,_,rfl,.inr (C.nams H'),rfl,kW _,_,rfl,?_⟩
  have ein:inV (kV ((Sum.inr u:Key),V.str v).fst) (dA.map V.str)=decide (u ∈ dA):=kR ..
  rw [if_neg (by decide),ein]
  refine qG (fun c=>?_) (fun c=>cX ⟨⟨rfl,?_,?_⟩,_,rfl⟩)
  ·have c':=of_decide_eq_true c
   refine⟨_,rfl,rfl,_,rfl,qG (fun c2=>?_) (fun c2=>?_)⟩
   ·have c2':u ≠ "A":=by simpa [kV] using c2
    have en:=yes ⟨c',.inl c2'⟩
    exact iteT ⟨_,rfl,_,rfl,d,.str v,rfl,(by rw [← hvv];exact uP (k:=Sum.inr u) kd),⟨rfl,by rw [en,List.map_append];rfl,by rw [en,List.length_append];exact Nat.succ_le_succ hj⟩,_,rfl⟩
   ·have c2':u = "A":=by simpa [kV] using c2
    refine⟨_,rfl,rfl,_,rfl,qG (fun c3=>?_) (fun c3=>?_)⟩
    ·have en:=yes ⟨c',.inr (V.str.inj (of_decide_eq_true c3))⟩
     exact⟨_,rfl,_,rfl,d,.str v,rfl,(by rw [← hvv];exact uP (k:=Sum.inr u) kd),⟨rfl,by rw [en,List.map_append];rfl,by rw [en,List.length_append];exact Nat.succ_le_succ hj⟩,_,rfl⟩
    ·have en:=nay (fun z=>z.2.elim (fun h=>h c2') (fun h=>c3 (decide_eq_true (congrArg V.str h))))
     exact⟨⟨rfl,by rw [en],by rw [en];omega⟩,_,rfl⟩
  ·rw [nay (fun z=>c (decide_eq_true z.1))]
  ·rw [nay (fun z=>c (decide_eq_true z.1))];omega
 ·obtain⟨e',rfl,_⟩:=z
  subst e'
  rw [kl,List.take_of_length_le (by rw [List.length_zip];omega),hF.rd]
  generalize e2:upd H' p _=H2
  obtain⟨g2,k2⟩:=jC e2 hp
  refine⟨_,rfl,d,_,rfl,dno hF.pa (g2 _ _ kd),_,rfl,kQ (by decide) ⟨xL,fun p2 hp2=>?_⟩⟩
  generalize e3:upd H2 p2 _=H3
  obtain⟨g3,k3⟩:=jC e3 hp2
  have kd3:=g3 _ _ (g2 _ _ kd)
  refine⟨_,rfl,d,_,rfl,dno hF.nu kd3,_,rfl,kQ (by decide) ?_⟩
  refine⟨_,rfl,_,rfl,d,rfl,.inl ⟨_,.inr ⟨o,kd3⟩⟩,_,rfl,none,dno hF.op kd3,_,rfl,_,rfl,_,rfl,_,rfl,fun y dy hy hdy _=>⟨y,dy,_,_,_,_,_,_,H3,rfl,jH,aG hy hdy,hy,fun H4 g4 k4=>⟨rfl,?_⟩⟩⟩
  have hA2:Al xs H2:=hA1.same g2
  exact q y H4 (g1.trans (But.of ((g2.trans g3).trans g4))) ⟨dy,p,p2,kZ ((hA2.same g3).new hy) k4,SqL.of (kZ (hA1.new hp) (g4 _ _ (g3 _ _ k2)))⟩
theorem pZ {k r:Nat} (F:Fun K "rows_from" "rows_from" bX f fd) {f_whole_row:Addr} {fd_whole_row:FuncData} (D_whole_row:Df K mg "whole_row" f_whole_row fd_whole_row ["told","at"]) (G_whole_row:jK P w K mg base CX0 k f_whole_row fd_whole_row ["told","at"] (spWR C_Row C_Loop C_Choice K (r + 1))) {f_line_behind:Addr} {fd_line_behind:FuncData} (D_line_behind:Df K mg "line_behind" f_line_behind fd_line_behind ["row"]) (G_line_behind:jK P w K mg base CX0 k f_line_behind fd_line_behind ["row"] (spLb C_Row C_Loop C_Choice K)):jK P w K mg base CX0 (k + 2) f fd ["told","first"] (spRF C_Row C_Loop C_Choice K (r + 1)):=by
 w_cond xA
 ·obtain⟨tl,n,e,d,rs,ls,ts,xs,rfl,_⟩:=h;rfl
 obtain⟨tl,n,e,d,rs,ls,ts,xs,rfl,hr1,hdp,hps,hA,hT,h60,q⟩:=h
 walk_at "hr"
 refine⟨_,(jD (kB (i:=2) xA.nd rfl (by walk_at "o") (kG jB))
   (jD (kB (i:=3) xA.nd rfl (by walk_at "o") (pv 1))
   (jD (sD PassesOwn.never (PW.pt (xG (jR aAl (pv 3) (jY kA rfl M.len PySem.boot_len (jA (pv 0) jB)) (jW _)) (vK (jR qZ (kH (kK jX (pv 0) (pv 3) (fun _ _=>rfl)) rfl) (qT (jA jO (jA jO jB))) (by with_unfolding_all rfl))))) (jD (kB (i:=4) xA.nd rfl (by walk_at "o") (jQ G_whole_row hr rfl D_whole_row.m D_whole_row.k D_whole_row.b .nil jT (jA (pv 0) (jA (pv 3) jB))))
   (jD (qD (vW PySem.F.plainAttrs_list PySem.F.slot_list_append PySem.F.type_list_append qM (pv 2) (jA (pv 4) jB)))
   (jE (kB (i:=3) xA.nd rfl (by walk_at "o") (jQ G_line_behind hr rfl D_line_behind.m D_line_behind.k D_line_behind.b .nil jT (jA (pv 4) jB)))))))
   (jE (jP (qT (jA (pv 2) (jA (pv 3) jB)))))))),?_⟩
 have hlen:=hT.n
 refine⟨xL,fun l hl=>?_⟩
 generalize e2:upd H l _=H2
 obtain⟨g2,k2⟩:=jC e2 hl
 have hA2:=hA.same g2
 have hTx:TD C_Row K (offs (l::xs) H2) tl rs ls:=hT.same (iS hl g2)
 refine⟨_,rfl,fun m σ H'=>∃ (n':Nat) (as:List Addr) (t1 t2:List Tr) (o4:Option V),m=100 - n'/\σ = [some (.ref tl),some (.int (n:Int)),some (.ref l),some (.int (n':Int)),o4]/\But l H2 H'/\H' l=some (.lst (as.map V.ref))/\jI (offs (l::xs) H2) (offs (l::xs) H')/\TAs C_Row C_Loop C_Choice K (offs (l::xs) H') as t1/\ts=t1++t2/\Prs (ls.map (·.x)) n' t2 e/\Dp d t2/\as.length<=n',⟨_,n,[],[],ts,_,rfl,rfl,But.refl,k2,jI.refl _,.nil,rfl,hps,hdp,Nat.zero_le _⟩,fun m σ H' z=>?_⟩
 obtain⟨n',as,t1,t2,o4,rfl,rfl,g,kl,go,ha,ets,hp2,hd2,han⟩:=z
 have gH:=But.from g2 hl g
 have hTo:=hTx.same go
 have hT':=hTo.same jN
 have hA':=pQ (hA.same gH) kl
 have lx:l ∉ xs:=hA.new hl
 have dl:(ls.map (·.x)).length=ls.length:=List.length_map _
 refine⟨_,rfl,_,rfl,tl,_,rfl,.inl hT'.l,_,_,rfl,rfl,_,rfl,qG (fun c=>?_) (fun c=>?_)⟩
 ·have c':n' < ls.length:=by have:=of_decide_eq_true c;rw [List.length_map] at this;omega
  obtain⟨y,hy⟩ : ∃ y,(ls.map (·.x))[n']?=some y:=⟨_,List.getElem?_eq_getElem (by omega)⟩
  obtain⟨a,ln,har,hln,hlt,hxy,hrow⟩:=hT'.at hy
  obtain⟨dx,ra,sa,h1,h2⟩:=hrow
  have hF:=zS hlt
  refine⟨_,rfl,_,rfl,tl,_,_,_,rfl,rfl,hT'.l,aR har,a,C_Row,_,_,_,rfl,h1,T_Row.cl,T_Row.na _ (by decide),rfl,vQ,fun pt hpt=>?_⟩
  generalize e3:upd H' pt _=H3
  obtain⟨g3,k3⟩:=jC e3 hpt
  have ein:inV (V.str ln.d) [V.str (Str.ofString "else"),V.str (Str.ofString "end")]=decide (ln.d ∈ ([Str.ofString "else",Str.ofString "end"]:List Str)):=kR (x:=ln.d) (ys:=[Str.ofString "else",Str.ofString "end"])
  refine⟨pt,_,rfl,.inr (SqT.of k3),rfl,rfl,_,rfl,?_⟩
  rw [if_pos rfl,ein]
  have g23:=g.trans (But.of g3)
  have kl3:=g3 _ _ kl
  have go3:=go.trans (jJ g3)
  have ha3:=ha.same (jJ (xs:=l::xs) g3)
  rcases eC hp2 with⟨rfl,rfl,hst⟩|⟨t,ts',x,rfl,hx,n1,n2⟩
  ·have hmem:ln.d ∈ ([Str.ofString "else",Str.ofString "end"]:List Str):=by
    rcases hst with hst|⟨x,hx,hxd⟩
    ·omega
    ·rw [hy] at hx
     cases hx
     rw [← hxy] at hxd
     rcases hxd with hxd|hxd
     ·rw [hF.de.mp hxd];exact List.mem_cons_self ..
     ·rw [hF.df.mp hxd];exact List.mem_cons_of_mem _ (List.mem_cons_self ..)
   refine kQ (by rw [decide_eq_true hmem];decide) ⟨_,rfl,_,rfl,vQ,fun p hp=>?_⟩
   generalize e5:upd H3 p _=H5
   obtain⟨g5,k5⟩:=jC e5 hp
   rw [List.append_nil] at ets
   subst ets
   exact q p l as H5 ((gH.trans g3).trans g5) (SqT.of k5) (SqL.of (kZ lx (g5 _ _ kl3))) ((ha3.same (jJ g5)).same (dX fun b hb=>List.mem_cons_of_mem _ hb))
  ·rw [hy] at hx
   cases hx
   rw [← hxy] at n1 n2
   have hmem:ln.d ∉ ([Str.ofString "else",Str.ofString "end"]:List Str):=fun z=>by
    rcases List.mem_cons.mp z with z|z
    ·exact n1 (hF.de.mpr z)
    ·exact n2 (hF.df.mpr (List.mem_singleton.mp z))
   refine qQ (by rw [decide_eq_false hmem];rfl) ⟨_,fun _ _ h=>h,?_⟩
   obtain⟨htl,hlt2⟩:=aCx hp2
   refine⟨_,rfl,_,rfl,tl,n',e,d,rs,ls,t,ts',l::xs,rfl,hr1,hd2,hp2,hA'.same g3,hTo.same (jJ g3),h60,fun a' H4 g4 ta=>?_⟩
   have kl4:=g4 _ _ kl3
   refine⟨_,rfl,.inl ⟨rfl,_,SqL.of kl4⟩,_,rfl,l,_,_,rfl,rfl,kl4,(by rw [List.length_map];exact Nat.lt_of_le_of_lt (show as.length<=60 by omega) (by decide)),?_⟩
   generalize e5:upd H4 l _=H5
   have eo:offs (l::xs) H5=offs (l::xs) H4:=by rw [← e5];exact mP
   obtain⟨g5,k5⟩:=vB e5
   have ta5:TAs C_Row C_Loop C_Choice K (offs (l::xs) H5) [a'] [t]:=by rw [eo];exact ta
   refine⟨_,rfl,a',t,rfl,ta5.same jN,100 - nxt t,?_,nxt t,as++[a'],t1++[t],ts',_,rfl,rfl,(g23.trans (But.of g4)).trans g5,by rw [List.map_append];exact k5,by rw [eo];exact go3.trans (jJ g4),by rw [eo] at ta5 ⊢;exact (ha3.same (jJ g4)).app ta5,by rw [ets,List.append_assoc];rfl,htl,eM hd2,by rw [List.length_append,List.length_singleton];omega⟩
   omega
 ·have c':¬ n' < ls.length:=fun z=>c (decide_eq_true (by rw [List.length_map];omega))
  rcases eC hp2 with⟨rfl,rfl,hst⟩|⟨t,ts',x,rfl,hx,n1,n2⟩
  ·refine cX ⟨_,rfl,_,rfl,vQ,fun p hp=>?_⟩
   generalize e5:upd H' p _=H5
   obtain⟨g5,k5⟩:=jC e5 hp
   rw [List.append_nil] at ets
   subst ets
   exact q p l as H5 (gH.trans g5) (SqT.of k5) (SqL.of (kZ lx (g5 _ _ kl))) ((ha.same (jJ g5)).same (dX fun b hb=>List.mem_cons_of_mem _ hb))
  ·have:=(List.getElem?_eq_some_iff.mp hx).1
   omega
theorem pE {k r:Nat} (F:Fun K "whole_row" "whole_row" bZ f fd) {f_rows_from:Addr} {fd_rows_from:FuncData} (D_rows_from:Df K mg "rows_from" f_rows_from fd_rows_from ["told","first"]) (G_rows_from:jK P w K mg base CX0 k f_rows_from fd_rows_from ["told","first"] (spRF C_Row C_Loop C_Choice K r)) {fd_Loop_init:FuncData} (D_Loop_init:DfI K fd_Loop_init ["self","line","last","deed","goal","reads","rows"]) (G_Loop_init:jK P w K mg base CX0 k f_Loop_init fd_Loop_init ["self","line","last","deed","goal","reads","rows"] (aCb C_Loop "line" "last" "deed" "goal" "reads" "rows")) {fd_Choice_init:FuncData} (D_Choice_init:DfI K fd_Choice_init ["self","line","last","middle","reads","rows","others"]) (G_Choice_init:jK P w K mg base CX0 k f_Choice_init fd_Choice_init ["self","line","last","middle","reads","rows","others"] (aCb C_Choice "line" "last" "middle" "reads" "rows" "others")):jK P w K mg base CX0 (k + 2) f fd ["told","at"] (spWR C_Row C_Loop C_Choice K (r + 1)):=by
 w_cond vJ
 ·obtain⟨tl,n,e,d,rs,ls,t,ts,xs,rfl,_⟩:=h;rfl
 obtain⟨tl,n,e,d,rs,ls,t,ts,xs,rfl,hr1,hdp,hps,hA,hT,h60,q⟩:=h
 walk_at "hr"
 refine⟨_,(jD (kB (i:=2) vJ.nd rfl (by walk_at "o") (kK jX (pv 0) (pv 1) (fun _ _=>rfl)))
   (jD (kI (jR qZ (kH (pv 2) rfl) (kJ (v:=.ref tBe) rfl C.BEGINNINGS rfl) (by with_unfolding_all rfl)) (jE (jP (pv 2))) jU)
   (jD (aW (jQ G_rows_from hr rfl D_rows_from.m D_rows_from.k D_rows_from.b .nil jT (jA (pv 0) (jA (kF qL (pv 1) jF) jB))) (xC rfl (jZ (jV (i:=3) vJ.nd rfl (Or.inl rfl)) (jZ (jV (i:=4) vJ.nd rfl (Or.inl rfl)) qK))))
   (jD (kI (jR aFx (kH (pv 2) rfl) jO (jW _)) (jE (jP (vL T_Loop.ma G_Loop_init hr0 rfl T_Loop.m D_Loop_init.b .nil jT (jA (pv 1) (jA (pv 4) (jA (kH (pv 2) rfl) (jA (kK jX (kH (pv 2) rfl) jF (fun _ _=>rfl)) (jA (qA qJ (kH (pv 2) rfl) (qH jF) qO) (jA (pv 3) jB kY) oP) oP)) kY) kY)))) jU)
   (jD (kI (jR qF (kH (kK jX (pv 0) (pv 4) (fun _ _=>rfl)) rfl) jO (jW _)) (jE (jP (vL T_Choice.ma G_Choice_init hr0 rfl T_Choice.m D_Choice_init.b .nil jT (jA (pv 1) (jA (pv 4) (jA vT (jA (kH (pv 2) rfl) (jA (pv 3) (jA (kG jB) jB aHn) kY)) kL) kY) kY)))) jU)
   (jD (aW (jQ G_rows_from hr rfl D_rows_from.m D_rows_from.k D_rows_from.b .nil jT (jA (pv 0) (jA (kF qL (pv 4) jF) jB))) (xC rfl (jZ (jV (i:=5) vJ.nd rfl (Or.inl rfl)) (jZ (jV (i:=6) vJ.nd rfl (Or.inl rfl)) qK))))
   (jE (jP (vL T_Choice.ma G_Choice_init hr0 rfl T_Choice.m D_Choice_init.b .nil jT (jA (pv 1) (jA (pv 6) (jA (pv 4) (jA (kH (pv 2) rfl) (jA (pv 3) (jA (pv 5) jB kY) kY)) kY) kY) kY)))))))))),?_⟩
 have hT':=hT.same jN
 have er:r=d:=Nat.succ.inj hr1
 subst er
 have start:∀ {x:Str},(ls.map (·.x))[n]?=some x->∃ a l dx ra sa,rs[n]?=some a/\l ∈ qS/\l.x=x/\offs xs H a=some (.ins C_Row dx [("line",.int n),("deed",.str l.d),("goal",.str (xE l)),("reads",.ref ra),("steps",.ref sa),("number",.int 0)])/\SqL K (offs xs H) ra (l.rs.map V.str):=fun {x} hx=>by
  obtain⟨a,l,h1,h2,h3,h4,dx,ra,sa,h5,h6⟩:=hT.at hx
  exact⟨a,l,dx,ra,sa,h1,h3,h4,h5,h6⟩
 have beg:∀ {l:Ln},l ∈ qS->(l.d ∈ bE ↔ lnD l.x=.loop\/lnD l.x=.cond):=fun {l} hl=>by
  have hF:=zS hl
  constructor
  ·intro z
   rcases List.mem_cons.mp z with z|z
   ·exact .inl (hF.dl.mpr (.inl z))
   ·rcases List.mem_cons.mp z with z|z
    ·exact .inl (hF.dl.mpr (.inr z))
    ·exact .inr (hF.dc.mpr (List.mem_singleton.mp z))
  ·rintro (z|z)
   ·rcases hF.dl.mp z with z|z
    ·rw [z];exact List.mem_cons_self ..
    ·rw [z];exact List.mem_cons_of_mem _ (List.mem_cons_self ..)
   ·rw [hF.dc.mp z];exact List.mem_cons_of_mem _ (List.mem_cons_of_mem _ (List.mem_cons_self ..))
 cases hps with
 | row hx hd hp =>
  obtain⟨a,l,dx,ra,sa,har,hl,ex,h1,h2⟩:=start hx
  have h1':=jN _ _ h1
  have h2':=jN.seq h2
  have hF:=zS hl
  rw [← ex] at hd
  refine⟨_,rfl,_,rfl,tl,_,_,_,rfl,rfl,hT'.l,aR har,_,rfl,a,C_Row,_,_,_,rfl,h1',T_Row.cl,T_Row.na _ (by decide),rfl,tBe,_,rfl,.inr (C.begs H),rfl,kW _,_,rfl,?_⟩
  rw [if_pos rfl,kR]
  exact qQ (by rw [decide_eq_false (fun z=>by rcases (beg hl).mp z with z|z <;> rw [hd] at z <;> cases z)];rfl) ⟨_,rfl,q a H (jI.refl _) (.row ⟨dx,ra,sa,h1,h2⟩ .nil)⟩
 | @loop _ b _ x y rs' _ hx hd p1 hy hyd p2 =>
  obtain⟨dd,dp1⟩ : ∃ dd,r=dd + 1/\Dp dd rs':=by cases hdp with|loop h _=>exact⟨_,rfl,h⟩
  obtain⟨rfl,dp1⟩:=dp1
  obtain⟨a,l,dx,ra,sa,har,hl,ex,h1,h2⟩:=start hx
  have h1':=jN _ _ h1
  have h2':=jN.seq h2
  have hF:=zS hl
  rw [← ex] at hd
  refine⟨_,rfl,_,rfl,tl,_,_,_,rfl,rfl,hT'.l,aR har,_,rfl,a,C_Row,_,_,_,rfl,h1',T_Row.cl,T_Row.na _ (by decide),rfl,tBe,_,rfl,.inr (C.begs H),rfl,kW _,_,rfl,?_⟩
  rw [if_pos rfl,kR]
  refine kQ (by rw [decide_eq_true ((beg hl).mpr (.inl hd))];decide) ⟨_,rfl,_,rfl,_,_,rfl,rfl,tl,n + 1,b,dd,rs,ls,rs',xs,rfl,rfl,dp1,p1,hA,hT,h60,fun p rp as H2 g2 s2 l2 ta2=>⟨p,_,rfl,s2,rfl,_,_,rfl,_,_,rfl,rfl,?_⟩⟩
  have h12:=g2 _ _ h1'
  have hA2:=hA.same g2
  have hT2:=hT.same (jJ g2)
  have nif:l.d ≠ "if":=fun z=>by have:=hF.dc.mpr z;rw [hd] at this;cases this
  refine⟨_,rfl,a,C_Row,_,_,_,rfl,h12,T_Row.cl,T_Row.na _ (by decide),rfl,rfl,_,rfl,qQ (by simpa using nif) ?_⟩
  obtain⟨r0,rr,er⟩ : ∃ r0 rr,l.rs=r0::rr:=by
   cases e:l.rs with
   | nil=>exact absurd e (hF.rl hd)
   | cons r0 rr=>exact⟨r0,rr,rfl⟩
  have h22:SqL K H2 ra (V.str r0::rr.map V.str):=by have:=g2.seq h2';rw [er] at this;exact this
  refine⟨_,rfl,_,rfl,_,rfl,a,C_Row,_,_,_,rfl,h12,T_Row.cl,T_Row.na _ (by decide),rfl,_,rfl,a,C_Row,_,_,_,rfl,h12,T_Row.cl,T_Row.na _ (by decide),rfl,ra,_,_,_,rfl,rfl,h22,at0,_,rfl,a,C_Row,_,_,_,rfl,h12,T_Row.cl,T_Row.na _ (by decide),rfl,_,rfl,ra,_,rfl,h22,fun pc hpc=>?_⟩
  generalize e3:upd H2 pc _=H3
  obtain⟨g3,k3⟩:=jC e3 hpc
  refine⟨_,rfl,fun z dz hz hdz _=>⟨z,dz,_,_,_,_,_,_,H3,rfl,jH,aG hz hdz,hz,fun H4 g4 k4=>⟨rfl,?_⟩⟩⟩
  have g24:=g3.trans g4
  exact q z H4 (g2.trans g24) (.loop (kZ ((hA2.same g3).new hz) k4) ((jJ g24).seq l2) (ta2.same (jJ g24)) .nil)
 | @if1 _ b _ x y rs' _ hx hd p1 hy hyd p2 =>
  obtain⟨dd,dp1⟩ : ∃ dd,r=dd + 1/\Dp dd rs':=by cases hdp with|ch h _ _=>exact⟨_,rfl,h⟩
  obtain⟨rfl,dp1⟩:=dp1
  obtain⟨a,l,dx,ra,sa,har,hl,ex,h1,h2⟩:=start hx
  have h1':=jN _ _ h1
  have h2':=jN.seq h2
  have hF:=zS hl
  rw [← ex] at hd
  refine⟨_,rfl,_,rfl,tl,_,_,_,rfl,rfl,hT'.l,aR har,_,rfl,a,C_Row,_,_,_,rfl,h1',T_Row.cl,T_Row.na _ (by decide),rfl,tBe,_,rfl,.inr (C.begs H),rfl,kW _,_,rfl,?_⟩
  rw [if_pos rfl,kR]
  refine kQ (by rw [decide_eq_true ((beg hl).mpr (.inr hd))];decide) ⟨_,rfl,_,rfl,_,_,rfl,rfl,tl,n + 1,b,dd,rs,ls,rs',xs,rfl,rfl,dp1,p1,hA,hT,h60,fun p rp as H2 g2 s2 l2 ta2=>⟨p,_,rfl,s2,rfl,_,_,rfl,_,_,rfl,rfl,?_⟩⟩
  have h12:=g2 _ _ h1'
  have hA2:=hA.same g2
  have hT2:=hT.same (jJ g2)
  refine⟨_,rfl,a,C_Row,_,_,_,rfl,h12,T_Row.cl,T_Row.na _ (by decide),rfl,rfl,_,rfl,kQ (by rw [hF.dc.mp hd];decide) ?_⟩
  obtain⟨a2,l2',har2,_,hl2,ex2,dx2,ra2,sa2,h21,_⟩:=hT2.at hy
  have hF2:=zS hl2
  rw [← ex2] at hyd
  refine⟨_,rfl,_,rfl,tl,_,_,_,rfl,rfl,(hT2.same jN).l,aR har2,a2,C_Row,_,_,_,rfl,(jN _ _ h21),T_Row.cl,T_Row.na _ (by decide),rfl,rfl,_,rfl,qQ (by rw [hF2.df.mp hyd];decide) ⟨_,rfl,_,rfl,_,rfl,a,C_Row,_,_,_,rfl,h12,T_Row.cl,T_Row.na _ (by decide),rfl,_,rfl,xL,fun pc hpc=>?_⟩⟩
  generalize e3:upd H2 pc _=H3
  obtain⟨g3,k3⟩:=jC e3 hpc
  refine fun z dz hz hdz _=>⟨z,dz,_,_,_,_,_,_,H3,rfl,jH,aG hz hdz,hz,fun H4 g4 k4=>⟨rfl,?_⟩⟩
  have g24:=g3.trans g4
  exact q z H4 (g2.trans g24) (.ch (m:=none) (cs:=[]) (kZ ((hA2.same g3).new hz) k4) ((jJ g24).seq l2) (SqL.of (kZ (hA2.new hpc) (g4 _ _ k3))) (ta2.same (jJ g24)) .nil .nil)
 | @if2 _ b c _ x y z' rs' os _ hx hd p1 hy hyd p2 hz hzd p3 =>
  obtain⟨dd,dp1⟩ : ∃ dd,r=dd + 1/\Dp dd rs'/\Dp dd os:=by cases hdp with|ch h h' _=>exact⟨_,rfl,h,h'⟩
  obtain⟨rfl,dp1,dp2⟩:=dp1
  obtain⟨a,l,dx,ra,sa,har,hl,ex,h1,h2⟩:=start hx
  have h1':=jN _ _ h1
  have h2':=jN.seq h2
  have hF:=zS hl
  rw [← ex] at hd
  refine⟨_,rfl,_,rfl,tl,_,_,_,rfl,rfl,hT'.l,aR har,_,rfl,a,C_Row,_,_,_,rfl,h1',T_Row.cl,T_Row.na _ (by decide),rfl,tBe,_,rfl,.inr (C.begs H),rfl,kW _,_,rfl,?_⟩
  rw [if_pos rfl,kR]
  refine kQ (by rw [decide_eq_true ((beg hl).mpr (.inr hd))];decide) ⟨_,rfl,_,rfl,_,_,rfl,rfl,tl,n + 1,b,dd,rs,ls,rs',xs,rfl,rfl,dp1,p1,hA,hT,h60,fun p rp as H2 g2 s2 l2 ta2=>⟨p,_,rfl,s2,rfl,_,_,rfl,_,_,rfl,rfl,?_⟩⟩
  have h12:=g2 _ _ h1'
  have hA2:=hA.same g2
  have hT2:=hT.same (jJ g2)
  refine⟨_,rfl,a,C_Row,_,_,_,rfl,h12,T_Row.cl,T_Row.na _ (by decide),rfl,rfl,_,rfl,kQ (by rw [hF.dc.mp hd];decide) ?_⟩
  obtain⟨a2,l2',har2,_,hl2,ex2,dx2,ra2,sa2,h21,_⟩:=hT2.at hy
  have hF2:=zS hl2
  rw [← ex2] at hyd
  refine⟨_,rfl,_,rfl,tl,_,_,_,rfl,rfl,(hT2.same jN).l,aR har2,a2,C_Row,_,_,_,rfl,(jN _ _ h21),T_Row.cl,T_Row.na _ (by decide),rfl,rfl,_,rfl,kQ (by rw [hF2.de.mp hyd];decide) ⟨_,rfl,_,rfl,_,_,rfl,rfl,tl,b + 1,c,dd,rs,ls,os,xs,rfl,rfl,dp2,p2,hA2,hT2,h60,fun p' rp' as' H3 g3 s3 l3 ta3=>⟨p',_,rfl,s3,rfl,_,_,rfl,_,_,rfl,rfl,_,rfl,_,rfl,_,rfl,_,rfl,a,C_Row,_,_,_,rfl,(g3 _ _ h12),T_Row.cl,T_Row.na _ (by decide),rfl,_,rfl,_,rfl,?_⟩⟩⟩
  refine fun z dz hz hdz _=>⟨z,dz,_,_,_,_,_,_,H3,rfl,jH,aG hz hdz,hz,fun H4 g4 k4=>⟨rfl,?_⟩⟩
  have g24:=g3.trans g4
  exact q z H4 (g2.trans g24) (.ch (m:=some b) (kZ ((hA2.same g3).new hz) k4) ((jJ g24).seq l2) ((jJ g4).seq l3) (ta2.same (jJ g24)) (ta3.same (jJ g4)) .nil)
theorem iB {k:Nat} (F:Fun K "read_program" "read_program" yQ f fd) {f_lines_in:Addr} {fd_lines_in:FuncData} (D_lines_in:Df K mg "lines_in" f_lines_in fd_lines_in ["text"]) (G_lines_in:jK P w K mg base CX0 k f_lines_in fd_lines_in ["text"] spLi) {f_form_of:Addr} {fd_form_of:FuncData} (D_form_of:Df K mg "form_of" f_form_of fd_form_of ["line","words"]) (G_form_of:jK P w K mg base (CXE P w) k f_form_of fd_form_of ["line","words"] (spFm K)) {f_need_standing:Addr} {fd_need_standing:FuncData} (D_need_standing:Df K mg "need_standing" f_need_standing fd_need_standing ["begun","line","deed"]) (G_need_standing:jK P w K mg base (CXE P w) k f_need_standing fd_need_standing ["begun","line","deed"] (spNs C_NoProgram K)) {f_Shapes_main:Addr} {fd_Shapes_main:FuncData} (D_Shapes_main:DfM K Vf "main" f_Shapes_main fd_Shapes_main ["self"]) (G_Shapes_main:jK P w K mg base CX0 k f_Shapes_main fd_Shapes_main ["self"] (spMn (Cl5.mk Va Vb Vc Vd Ve) Vf K)) {f_row_in:Addr} {fd_row_in:FuncData} (D_row_in:Df K mg "row_in" f_row_in fd_row_in ["shape","line","deed","filled"]) (G_row_in:jK P w K mg base (CXE P w) k f_row_in fd_row_in ["shape","line","deed","filled"] (spRo C_Row K)) {f_names_in:Addr} {fd_names_in:FuncData} (D_names_in:Df K mg "names_in" f_names_in fd_names_in ["form","words","steps"]) (G_names_in:jK P w K mg base CX0 k f_names_in fd_names_in ["form","words","steps"] (spNi K)) {f_unlike:Addr} {fd_unlike:FuncData} (D_unlike:Df K mg "unlike" f_unlike fd_unlike ["names","ahead"]) (G_unlike:jK P w K mg base CX0 k f_unlike fd_unlike ["names","ahead"] (spUn K)) {f_begun_behind:Addr} {fd_begun_behind:FuncData} (D_begun_behind:Df K mg "begun_behind" f_begun_behind fd_begun_behind ["begun","deed"]) (G_begun_behind:jK P w K mg base CX0 k f_begun_behind fd_begun_behind ["begun","deed"] (spBg K)) {f_rows_from:Addr} {fd_rows_from:FuncData} (D_rows_from:Df K mg "rows_from" f_rows_from fd_rows_from ["told","first"]) (G_rows_from:jK P w K mg base CX0 k f_rows_from fd_rows_from ["told","first"] (spRF C_Row C_Loop C_Choice K 4)) {fd_Program_init:FuncData} (D_Program_init:DfI K fd_Program_init ["self","shapes","rows","named","written"]) (G_Program_init:jK P w K mg base CX0 k f_Program_init fd_Program_init ["self","shapes","rows","named","written"] (spI4 C_Program "shapes" "rows" "named" "written")) {fd_NoProgram_init:FuncData} (D_NoProgram_init:DfI K fd_NoProgram_init ["self","line"]) (G_NoProgram_init:jK P w K mg base (CXE P w) k f_NoProgram_init fd_NoProgram_init ["self","line"] (aBi C_NoProgram)) {fd_TooMuch_init:FuncData} (D_TooMuch_init:DfI K fd_TooMuch_init ["self","line"]) (G_TooMuch_init:jK P w K mg base (CXE P w) k f_TooMuch_init fd_TooMuch_init ["self","line"] (aBi C_TooMuch)):jK P w K mg base (CXE P w) (k + 2) f fd ["shapes","text"] (spRP (Cl5.mk Va Vb Vc Vd Ve) Vf C_NoProgram C_Program C_Row C_Loop C_Choice K):=by
 w_cond kE
 ·obtain⟨ra,z,sa,S,ls,rfl,_⟩:=h;rfl
 obtain⟨ra,z,sa,S,ls,rfl,hro,hls,hne,h59,q,qx⟩:=h
 walk_at "hr"
 refine⟨_,(jD (kI (yI (vU (jY aBt rfl M.isinstance boot_isinstance (jA (pv 1) (jA (dU (v:=.ty "str") rfl M.str boot_str rfl) jB))))) (jE (zE T_NoProgram.c G_NoProgram_init hr0 rfl T_NoProgram.m D_NoProgram_init.b .nil aS (jA jF jB))) jU)
   (jD (kB (i:=2) kE.nd rfl (by walk_at "o") (jQ G_lines_in hr rfl D_lines_in.m D_lines_in.k D_lines_in.b .nil jT (jA (pv 1) jB)))
   (jD (kB (i:=3) kE.nd rfl (by walk_at "o") (kG jB))
   (jD (kB (i:=4) kE.nd rfl (by walk_at "o") (kG jB))
   (jD (kB (i:=5) kE.nd rfl (by walk_at "o") (kG jB))
   (jD (xX ownE rfl (iI rfl M.enumerate (jA (qY ["row"] [] [] rfl (vI (pv 2)) rfl trivial trivial (fun _ _ _ _=>(jV (i:=0) (show List.Nodup (["row"]:List Str) from by decide +kernel) rfl (Or.inl rfl))) (fun _ _ _ _=>vD) (fun _ _ _ _=>(aEw (K:=K) rfl PySem.F.plainAttrs_str PySem.F.slot_str_split PySem.F.type_str_split yH (pv 0) (jA jO jB)))) jB)) (xC rfl (jZ (jV (i:=6) kE.nd rfl (Or.inl rfl)) (jZ (jV (i:=7) kE.nd rfl (Or.inl rfl)) qK))) (jD (aW (jQ G_form_of hr rfl D_form_of.m D_form_of.k D_form_of.b .nil (aBa fun _ _ _ z=>z) (jA (pv 6) (jA (pv 7) jB))) (xC rfl (jZ (jV (i:=8) kE.nd rfl (Or.inl rfl)) (jZ (jV (i:=9) kE.nd rfl (Or.inl rfl)) qK))))
   (jD (qD (jQ G_need_standing hr rfl D_need_standing.m D_need_standing.k D_need_standing.b .nil (aBa fun _ _ _ z=>z) (jA (pv 4) (jA (pv 6) (jA (pv 8) jB)))))
   (jD (kB (i:=10) kE.nd rfl (by walk_at "o") (jQ G_row_in hr rfl D_row_in.m D_row_in.k D_row_in.b .nil (aBa fun _ _ _ z=>z) (jA (vS (pv 0) Uf.cl D_Shapes_main.me G_Shapes_main hr D_Shapes_main.b .nil jT) (jA (pv 6) (jA (pv 8) (jA (aIa rfl M.dict rfl M.zip rfl (jA (pv 9) (jA (pv 7) jB))) jB))))))
   (jD (kB (i:=5) kE.nd rfl (by walk_at "o") (kF vY (pv 5) (jQ G_unlike hr rfl D_unlike.m D_unlike.k D_unlike.b .nil jT (jA (jQ G_names_in hr rfl D_names_in.m D_names_in.k D_names_in.b .nil jT (jA (pv 9) (jA (pv 7) (jA (kH (pv 10) rfl) jB)))) (jA (pv 5) jB)))))
   (jD (kI (PW.pt (sZ (jR op_ge (pv 6) (kJ (v:=.int 60) rfl C.MOST_LINES ⟨_,rfl⟩) (jW _)) (mL (jR eI (jY kA rfl M.len PySem.boot_len (jA (pv 5) jB)) (kJ (v:=.int 12) rfl C.MOST_NAMES ⟨_,rfl⟩) (jW _))))) (jE (zE T_TooMuch.c G_TooMuch_init hr0 rfl T_TooMuch.m D_TooMuch_init.b .nil aS (jA (pv 6) jB))) jU)
   (jD (kB (i:=4) kE.nd rfl (by walk_at "o") (jQ G_begun_behind hr rfl D_begun_behind.m D_begun_behind.k D_begun_behind.b .nil jT (jA (pv 4) (jA (pv 8) jB))))
   (jE (qD (vW PySem.F.plainAttrs_list PySem.F.slot_list_append PySem.F.type_list_append qM (pv 3) (jA (pv 10) jB)))))))))))
   (jD (kI (xM (pv 4) (fun _=>rfl)) (jE (zE T_NoProgram.c G_NoProgram_init hr0 rfl T_NoProgram.m D_NoProgram_init.b .nil aS (jA (jY kA rfl M.len PySem.boot_len (jA (pv 2) jB)) jB))) jU)
   (jD (aW (jQ G_rows_from hr rfl D_rows_from.m D_rows_from.k D_rows_from.b .nil jT (jA (pv 3) (jA jF jB))) (xC rfl (jZ (jV (i:=11) kE.nd rfl (Or.inl rfl)) (jZ (jV (i:=12) kE.nd rfl (Or.inl rfl)) qK))))
   (jE (jP (vL T_Program.ma G_Program_init hr0 rfl T_Program.m D_Program_init.b .nil jT (jA (pv 0) (jA (pv 11) (jA (pv 5) (jA (pv 1) jB))))))))))))))),?_⟩
 have hds:(ls.map (·.x)).length=ls.length:=List.length_map _
 have hpln:∀ x ∈ ls.map (·.x),10 ∉ x.cps.toList/\x.length<=10/\x.length ≠ 0:=fun x hx=>by
  obtain⟨l,hl,rfl⟩:=List.mem_map.mp hx
  have hF:=zS (hls l hl)
  exact⟨hF.nl,hF.x10,hF.x0⟩
 refine⟨_,rfl,_,"str","str",rfl,by decide,.inl rfl,_,rfl,kQ (by decide) ⟨_,rfl,ls.map (·.x),rfl,(by simpa using hne),hpln,(by omega),fun lp hlp=>?_⟩⟩
 generalize e1:upd H lp _=H1
 obtain⟨g1,kp1⟩:=jC e1 hlp
 refine⟨xL,fun tl htl=>?_⟩
 generalize e2:upd H1 tl _=H2
 obtain⟨g2,kt2⟩:=jC e2 htl
 refine⟨xL,fun bg hbg=>?_⟩
 generalize e3:upd H2 bg _=H3
 obtain⟨g3,kb3⟩:=jC e3 hbg
 refine⟨xL,fun nd hnd=>?_⟩
 generalize e4:upd H3 nd _=H4
 obtain⟨g4,kn4⟩:=jC e4 hnd
 have kb4:=g4 _ _ kb3
 have kt4:=g4 _ _ (g3 _ _ kt2)
 have g04:jI H H4:=((g1.trans g2).trans g3).trans g4
 have ht0:H tl=none:=g1.free htl
 have kp4:H4 lp=some (.lst ((ls.map (·.x)).map V.str)):=g4 _ _ (g3 _ _ (g2 _ _ kp1))
 have A4:Al [tl] H4:=fun b hb=>by rw [List.mem_singleton.mp hb];exact⟨_,kt4⟩
 have nbt:bg ≠ tl:=fun z=>by rw [z,kt2] at hbg;cases hbg
 have nnt:nd ≠ tl:=fun z=>by rw [z,g3 _ _ kt2] at hnd;cases hnd
 have hof:∀ {b:Addr} {o:HO} {G:Hp},b ≠ tl->G b=some o->offs [tl] G b=some o:=fun n e=>kZ (fun z=>n (List.mem_singleton.mp z)) e
 refine⟨_,rfl,lp,rfl,⟨_,SqL.of kp4⟩,aA (xs:=(ls.map (·.x)).map V.str) (fun j ys H'=>∃ was:List Addr,ys=was.map V.ref/\was.length=j/\jI H4 H'/\∀ (m:Nat) (wa:Addr) (l:Ln),was[m]?=some wa->ls[m]?=some l->offs [tl] H' wa=some (.lst (l.ws.map V.str))) ⟨[],rfl,rfl,jI.refl _,fun m wa l h=>by simp at h⟩ (fun j ys H' _ z=>?_) (by rw [List.length_map,hds,sizeLine_eq];omega) (fun j x ys H' hx z=>?_) (fun ys H' z wl hwl=>?_)⟩
 ·obtain⟨was,rfl,hj,g,_⟩:=z
  exact⟨SqL.of (g _ _ kp4),by rw [List.length_map,hj];exact Nat.le_refl _⟩
 ·obtain⟨was,rfl,hj,g,hws⟩:=z
  obtain⟨y,hy,rfl⟩:=qR hx
  rw [List.getElem?_map] at hy
  cases hl:ls[j]? with
  | none=>rw [hl] at hy;cases hy
  | some l =>
  rw [hl] at hy
  cases hy
  have hlt:=hls l (List.mem_of_getElem? hl)
  have hx10:=(zS hlt).x10
  refine⟨_,rfl,rfl,_,_,rfl,rfl,rfl,(by rw [sizeLine_eq];show l.x.length + 2<=_;omega),fun wa hwa=>?_⟩
  rw [show Txt.split ((fun x:Ln=>x.x) l) (Str.ofString " ")=l.ws from mU hlt]
  generalize e5:upd H' wa _=H5
  obtain⟨g5,k5⟩:=jC e5 hwa
  refine⟨⟨was++[wa],by rw [List.map_append];rfl,by rw [List.length_append,hj];rfl,g.trans g5,fun m wb l' hm hl'=>?_⟩,_,rfl⟩
  rcases yN hm with hm|⟨rfl,rfl⟩
  ·exact jJ g5 _ _ (hws m wb l' hm hl')
  ·rw [hj,hl] at hl'
   cases hl'
   exact hof (fun z=>by rw [z,g _ _ kt4] at hwa;cases hwa) k5
 obtain⟨was,rfl,hwn,g,hws0⟩:=z
 rw [List.length_map,hds] at hwn
 generalize e5:upd H' wl _=H5
 obtain⟨g5,kwl⟩:=jC e5 hwl
 have nwt:wl ≠ tl:=fun z=>by rw [z,g _ _ kt4] at hwl;cases hwl
 have hws:∀ (m:Nat) (wa:Addr) (l:Ln),was[m]?=some wa->ls[m]?=some l->offs [tl] H5 wa=some (.lst (l.ws.map V.str)):=fun m wa l h1 h2=>jJ g5 _ _ (hws0 m wa l h1 h2)
 have g45:=g.trans g5
 have gH5:jI H (offs [tl] H5):=lH ht0 (g04.trans g45)
 obtain⟨dxr,tS,kra,_,_⟩:=id hro
 refine⟨wl,_,rfl,SqL.of kwl,dS (xs:=was.map V.ref) (fun i σ H'=>∃ (bg nd:Addr) (st nm:List Str) (rs:List Addr) (o6 o7 o8 o9 o10 o11 o12:Option V),σ = [some (.ref ra),some (.str (Str.join nlS (ls.map (·.x)))),some (.ref lp),some (.ref tl),some (.ref bg),some (.ref nd),o6,o7,o8,o9,o10,o11,o12]/\jI (offs [tl] H5) (offs [tl] H')/\H' tl=some (.lst (rs.map V.ref))/\rs.length=i/\(∀ (j:Nat) (a:Addr) (l:Ln),rs[j]?=some a->ls[j]?=some l->gJ C_Row K (offs [tl] H') a j l)/\SqL K (offs [tl] H') bg (st.map V.str)/\SqL K (offs [tl] H') nd (nm.map V.str)/\nm.Nodup/\(∀ x ∈ nm,x ∈ oU)/\st.length<=3/\due ((ls.map (·.x)).drop i) st i=due (ls.map (·.x)) [] 0) ⟨bg,nd,[],[],[],_,_,_,_,_,_,_,rfl,jI.refl _,g45 _ _ kt4,rfl,(fun j a l h=>by simp at h),SqL.of (hof nbt (g45 _ _ kb4)),SqL.of (hof nnt (g45 _ _ kn4)),List.nodup_nil,(fun x h=>by simp at h),Nat.zero_le _,rfl⟩ (fun i σ H' _ z=>?_) (fun i x σ H' p2 hx z hp2=>?_) (fun σ H' z=>?_)⟩
 ·obtain⟨bg,nd,st,nm,rs,o6,o7,o8,o9,o10,o11,o12,rfl,go,_⟩:=z
  exact SqL.of (jN _ _ (go _ _ (hof nwt kwl)))
 ·obtain⟨bg,nd,st,nm,rs,o6,o7,o8,o9,o10,o11,o12,rfl,go,kt,hrs,hrow,sb,sn,hnd,hnm,hst,hdue⟩:=z
  obtain⟨wa,hwa,rfl⟩:=vA hx
  have hi:i < ls.length:=by rw [← hwn];exact (List.getElem?_eq_some_iff.mp hwa).1
  obtain⟨l,hl⟩ : ∃ l,ls[i]?=some l:=⟨_,List.getElem?_eq_getElem hi⟩
  have hlt:=hls l (List.mem_of_getElem? hl)
  have hF:=zS hlt
  have hw4:=hF.w4
  have hpl:=hF.pl
  have kw:offs [tl] H' wa=some (.lst (l.ws.map V.str)):=go _ _ (hws i wa l hwa hl)
  have A':Al [tl] H':=fun b hb=>by rw [List.mem_singleton.mp hb];exact⟨_,kt⟩
  generalize e6:upd H' p2 _=H6
  obtain⟨g6,k6⟩:=jC e6 hp2
  refine⟨p2,_,rfl,SqT.of k6,rfl,_,_,rfl,_,_,rfl,rfl,_,rfl,_,rfl,.int (i:Int),wa,l,rfl,hlt,SqL.of (g6 _ _ (jN _ _ kw)),fun t fg H7 g7 s7 s7'=>⟨t,_,rfl,s7,rfl,_,_,rfl,_,_,rfl,rfl,?_⟩⟩
  have g67:=g6.trans g7
  have gx7:jI (offs [tl] H') (offs [tl] H7):=jJ g67
  have hx1:(ls.map (·.x))[i]?=some l.x:=by rw [List.getElem?_map,hl];rfl
  have hds':=tY (st:=st) hx1
  rw [aEc hlt] at hds'
  have gH7:jI H (offs [tl] H7):=(gH5.trans go).trans gx7
  refine⟨_,rfl,_,rfl,_,rfl,bg,.int (i:Int),.str l.d,st,l.d,rfl,rfl,jN.seq (gx7.seq sb),hst,fun hs H8 g8=>?_,fun hs e H8 g8 he hnl=>?_⟩
  case refine_2 =>
   rw [if_neg (by rw [hs];decide)] at hds'
   exact qx i (hdue.symm.trans hds') e H8 ((gH7.trans jN).trans g8) ((gH7.trans jN).free he) hnl
  rw [if_pos hs] at hds'
  have gx8:=gx7.trans (jJ (xs:=[tl]) g8)
  have gH8:jI H H8:=(gH7.trans (jJ g8)).trans jN
  refine⟨_,rfl,ra,dxr,_,rfl,gH8 _ _ kra,rfl,ra,z,sa,S,rfl,iE hro gH8,_,rfl,_,rfl,_,rfl,_,rfl,true,false,fg,wa,l.ps,l.ws,rfl,g8.tp s7',SqL.of (jN _ _ (gx8 _ _ kw)),hpl,by omega,fun d hd=>?_⟩
  rw [show yY [] _=gP l from (gF l.ps l.ws [] hF.nd (fun _ _ _ h=>by cases h)).trans (List.nil_append _)]
  generalize e9:upd H8 d _=H9
  obtain⟨g9,k9⟩:=jC e9 hd
  have A9:Al [tl] H9:=((A'.same g67).same g8).same g9
  refine⟨_,i,d,l,[tl],rfl,hlt,k9,A9,fun r H10 gb hr10=>?_⟩
  have g8x:jI H8 H10:=But.from g9 hd gb
  have gx10:=gx8.trans (jJ (xs:=[tl]) g8x)
  obtain⟨dx',rra,rsa,hr1,hr2⟩:=id hr10
  refine⟨_,rfl,_,rfl,_,rfl,_,rfl,r,C_Row,_,_,_,rfl,(jN _ _ hr1),T_Row.cl,T_Row.na _ (by decide),rfl,fg,wa,_,l,rfl,hlt,(g8.trans g8x).tp s7',SqL.of (jN _ _ (gx10 _ _ kw)),fun pn H11 g11 kn=>⟨_,rfl,pn,nd,_,nm,rfl,SqL.of kn,jN.seq ((gx10.trans (jJ g11)).seq sn),hnd,hF.nm,hnm,fun pu zs H12 g12 ku hnd' hnm'=>?_⟩⟩
  have few:=aBb hnd' hnm'
  rw [List.length_append] at few
  have gx12:=(gx10.trans (jJ (xs:=[tl]) g11)).trans (jJ (xs:=[tl]) g12)
  refine⟨nd,pu,_,_,rfl,rfl,jN.seq (gx12.seq sn),SqL.of ku,(by rw [List.length_map,List.length_map,sizeLine_eq];omega),fun pq hpq=>?_⟩
  generalize e13:upd H12 pq _=H13
  obtain⟨g13,k13⟩:=jC e13 hpq
  have A12:Al [tl] H12:=(((((A'.same g67).same g8).same g8x).same g11).same g12)
  have gx13:=gx12.trans (jJ (xs:=[tl]) g13)
  refine⟨_,rfl,_,_,rfl,rfl,_,rfl,kQ (by simp;omega) ⟨_,rfl,pq,_,rfl,.inl (SqL.of k13),_,_,rfl,rfl,_,rfl,kQ (by simp;omega) ?_⟩⟩
  refine⟨_,rfl,_,rfl,bg,st,l.d,[tl],rfl,A12.same g13,gx13.seq sb,hst,fun b H14 g14 sb14=>?_⟩
  have g10y:=((g11.trans g12).trans g13).trans g14
  have kt14:H14 tl=some (.lst (rs.map V.ref)):=(((g67.trans g8).trans g8x).trans g10y) _ _ kt
  have gx14:=gx13.trans (jJ (xs:=[tl]) g14)
  refine⟨_,rfl,.inl ⟨rfl,_,SqL.of kt14⟩,_,rfl,tl,_,_,rfl,rfl,kt14,(by rw [List.length_map];exact Nat.lt_of_le_of_lt (show rs.length<=60 by omega) (by decide)),?_⟩
  generalize e15:upd H14 tl _=H15
  have eo:offs [tl] H15=offs [tl] H14:=by rw [← e15];exact mP
  obtain⟨g15,k15⟩:=vB e15
  refine⟨b,pq,bgS st l.d,nm++zs,rs++[r],_,_,_,_,_,_,_,rfl,by rw [eo];exact go.trans gx14,by rw [List.map_append];exact k15,by rw [List.length_append,hrs];rfl,fun j a l' hj hl'=>?_,by rw [eo];exact sb14,?_,hnd',hnm',rE hst (by rw [aEc hlt,if_pos hs]),hds'.symm.trans hdue⟩
  ·rw [eo]
   rcases yN hj with hj|⟨rfl,rfl⟩
   ·exact (hrow j a l' hj hl').same gx14
   ·rw [hrs,hl] at hl'
    cases hl'
    rw [hrs]
    exact hr10.same (jJ g10y)
  ·rw [eo,List.map_append]
   exact SqL.of (jJ g14 _ _ (kZ (A12.new hpq) k13))
 ·obtain⟨bg,nd,st,nm,rs,o6,o7,o8,o9,o10,o11,o12,rfl,go,kt,hrs,hrow,sb,sn,hnd,hnm,hst,hdue⟩:=z
  rw [List.length_map,hwn] at hrs hdue
  have hde:=wV (ds:=ls.map (·.x)) (st:=st)
  rw [hds] at hde
  rw [hde] at hdue
  have gH':jI H H':=(gH5.trans go).trans jN
  refine⟨_,rfl,_,.inl ⟨_,jN.seq sb,rfl⟩,?_⟩
  cases st with
  | cons y ys =>
   have fin:∀ e,H' e=none->∀ dx',upd H' e (Ex0 e C_NoProgram none) dx'=none->E (.ref e) none (upd (upd (upd (upd H' e (Ex0 e C_NoProgram none)) dx' (XD dx' [("line",.int (ls.length:Nat))])) e (Ex0 e C_NoProgram (some dx'))) e (ExF e C_NoProgram (some dx'))):=fun e he dx' hd=>by
    obtain⟨g2,hx⟩:=aDk (v:=.int (ls.length:Nat)) gH' he hd
    exact qx ls.length (hdue.symm.trans (if_neg (by simp))) e _ g2 (gH'.free he) hx
   have kl':SqL K H' lp ((ls.map (·.x)).map V.str):=SqL.of (jN _ _ (go _ _ (hof (fun z=>by rw [← z,kp1] at htl;cases htl) (g45 _ _ kp4))))
   refine qQ (by simp) ⟨True.intro,_,rfl,lp,_,rfl,.inl kl',(by show 1<=1000;decide),fun e he=>?_⟩
   rw [List.length_map,hds]
   exact⟨e,_,rfl,jH,fun dx' hd=>⟨rfl,e,some dx',rfl,jH,fin e he dx' hd⟩⟩
  | nil =>
   rw [if_pos rfl] at hdue
   obtain⟨ts,e,ps,dp⟩:=aGg hdue.symm
   have hT:TD C_Row K (offs [] H') tl rs ls:=by rw [xQ];exact⟨SqL.of kt,hrs,hls,fun j a l h1 h2=>(hrow j a l h1 h2).same jN⟩
   refine kQ (by decide) ⟨_,rfl,tl,0,e,3,rs,ls,ts,[],rfl,rfl,dp,ps,(fun b hb=>by cases hb),hT,(by omega),fun p' rp as H6 g6 s6 l6 ta6=>⟨p',_,rfl,s6,rfl,_,_,rfl,_,_,rfl,rfl,_,rfl,_,rfl,_,rfl,_,rfl,fun y dy hy hdy _=>⟨y,dy,_,_,_,_,H6,rfl,jH,aG hy hdy,hy,fun H7 g7 k7=>⟨rfl,?_⟩⟩⟩⟩
   rw [xQ] at l6 ta6
   exact q hdue.symm y dy rp _ _ _ as ts e H7 ((gH'.trans g6).trans g7) ps dp k7 (g7.seq l6) (ta6.same g7)
theorem sS {k:Nat} (F:Fun K "_law_cell" "_law_cell" dN f fd):jK P w K mg base CX0 (k + 2) f fd ["_law_script","_law_k"] (spLc K):=by
 w_cond tV
 ·obtain⟨a,ns,k,rfl,_⟩:=h;rfl
 obtain⟨a,ns,k,rfl,hS,hk0,hk1,q⟩:=h
 walk_at "hr"
 refine⟨_,(jD (kI (jR (aFq hr.units) (pv 0) (kG jB) (jW _)) (jE (jP (kF qL (kF xU jF (pv 1)) jF))) jU)
   (jD (kI (jR aAl (pv 1) (jY kA rfl M.len PySem.boot_len (jA (pv 0) jB)) (jW _)) (jE (jP (kK jX (pv 0) (pv 1) (fun _ _=>rfl)))) jU)
   (jE (jP (kF qL (kF rN (kK jX (pv 0) (kF bT (pv 1) (jY kA rfl M.len PySem.boot_len (jA (pv 0) jB))) (fun _ _=>rfl)) (kF qL (pv 1) jF)) (kF xU jF (pv 1))))))),?_⟩
 have hl:(ns.map V.int).length=ns.length:=List.length_map _
 refine⟨_,rfl,xL,fun l0 hl0=>?_⟩
 generalize e1:upd H l0 _=H1
 obtain⟨g1,k1⟩:=jC e1 hl0
 have hS1:=g1.seq hS
 refine⟨a,l0,_,rfl,rfl,hS1,SqL.of k1,_,rfl,qG (fun c=>?_) (fun c=>?_)⟩
 ·exact⟨_,rfl,_,_,rfl,rfl,.inl ⟨by omega,by omega⟩,_,_,rfl,rfl,q _ H1 g1⟩
 have hne : 0 < ns.length:=by
  cases ns with
  | nil=>exact absurd rfl c
  | cons _ _=>exact Nat.succ_pos _
 refine⟨_,rfl,_,rfl,a,_,rfl,.inl hS1,_,_,rfl,rfl,_,rfl,?_⟩
 refine qG (fun c=>?_) (fun c=>?_)
 ·have c':k < (((ns.map V.int).length:Nat):Int):=of_decide_eq_true c
  rw [hl] at c'
  obtain⟨v,hv⟩:=tG ns hk0 c'
  exact⟨_,rfl,_,rfl,a,_,_,_,rfl,rfl,hS1,hv,q _ H1 g1⟩
 ·have hp:(0:Int) < (((ns.map V.int).length:Nat):Int):=by rw [hl];omega
  obtain⟨v,hv⟩:=tG ns (i:=k % (((ns.map V.int).length:Nat):Int)) (Int.emod_nonneg _ (by rw [hl];omega)) (by have:=Int.emod_lt_of_pos k hp;rw [hl] at this ⊢;exact this)
  exact⟨_,rfl,_,rfl,_,rfl,a,_,rfl,.inl hS1,_,_,rfl,rfl,hp,a,_,_,_,rfl,rfl,hS1,hv,_,rfl,_,_,rfl,rfl,_,_,rfl,rfl,⟨by omega,by omega⟩,_,rfl,_,_,rfl,rfl,.inl ⟨by omega,by omega⟩,_,_,rfl,rfl,q _ H1 g1⟩
theorem pH {k:Nat} (F:Fun K "_law_mixed" "_law_mixed" cA f fd):jK P w K mg base CX0 (k + 2) f fd ["_law_cell_here","_law_k"] spMx:=by
 w_cond aV
 ·obtain⟨c,k,rfl,_⟩:=h;rfl
 obtain⟨c,k,rfl,q⟩:=h
 walk_at "hr"
 refine⟨_,(jD (kB (i:=2) aV.nd rfl (by walk_at "o") (kF bT (kF qL (kF qL (kF xU (pv 0) jF) (kF xU jF (pv 1))) jF) jF))
   (jD (kB (i:=2) aV.nd rfl (by walk_at "o") (kF bT (kF qL (kF qL (kF xU (pv 2) (pv 2)) (kF xU jF (pv 1))) jF) jF))
   (jE (jP (kF rN (kF bT (kF xU (pv 2) (pv 2)) jF) jF))))),?_⟩
 refine⟨_,rfl,_,_,rfl,rfl,.inr ⟨by omega,by omega⟩,_,rfl,_,_,rfl,rfl,.inl ⟨by omega,by omega⟩,_,_,rfl,rfl,_,_,rfl,rfl,_,_,rfl,rfl,(by show (0:Int) < _;decide),?_⟩
 refine⟨_,rfl,_,rfl,_,_,rfl,rfl,.inl ⟨by omega,by omega⟩,_,rfl,_,_,rfl,rfl,.inl ⟨by omega,by omega⟩,_,_,rfl,rfl,_,_,rfl,rfl,_,_,rfl,rfl,(by show (0:Int) < _;decide),?_⟩
 exact⟨_,rfl,_,rfl,_,_,rfl,rfl,.inl ⟨by omega,by omega⟩,_,_,rfl,rfl,(by show (0:Int) < _;decide),_,_,rfl,rfl,⟨by decide,by decide⟩,q _⟩
theorem tQ {k:Nat} (F:Fun K "_law_take" "_law_take" dD f fd) {f_law_mixed:Addr} {fd_law_mixed:FuncData} (D_law_mixed:Df K mg "_law_mixed" f_law_mixed fd_law_mixed ["_law_cell_here","_law_k"]) (G_law_mixed:jK P w K mg base CX0 k f_law_mixed fd_law_mixed ["_law_cell_here","_law_k"] spMx):jK P w K mg base CX0 (k + 2) f fd ["_law_box_here","_law_many"] aFp:=by
 w_cond bH
 ·obtain⟨p,m,rfl,_⟩:=h;rfl
 obtain⟨p,m,rfl,hm,hm2,⟨a,b,c,h⟩,q⟩:=h
 walk_at "hr"
 refine⟨_,(jD (kI (jR eI (kK jX (pv 0) jF (fun _ _=>rfl)) jF (jW _)) (jD (kB (i:=2) bH.nd rfl (by walk_at "o") (kF bT (kK jX (pv 0) jF (fun _ _=>rfl)) (pv 1)))
   (jD (aW (kF rN (kK jX (pv 0) jF (fun _ _=>rfl)) (pv 1)) (uW (pv 0) jF set_list))
   (jE (jP (pv 2))))) jU)
   (jD (aW (kF qL (kK jX (pv 0) jF (fun _ _=>rfl)) jF) (uW (pv 0) jF set_list))
   (jD (kB (i:=3) bH.nd rfl (by walk_at "o") (kF qL (kF xU (jQ G_law_mixed hr rfl D_law_mixed.m D_law_mixed.k D_law_mixed.b .nil jT (jA (kK jX (pv 0) jF (fun _ _=>rfl)) (jA (kF xU jF (kK jX (pv 0) jF (fun _ _=>rfl))) jB))) jF) (jQ G_law_mixed hr rfl D_law_mixed.m D_law_mixed.k D_law_mixed.b .nil jT (jA (kF qL (kK jX (pv 0) jF (fun _ _=>rfl)) jF) (jA (kF qL (kF xU jF (kK jX (pv 0) jF (fun _ _=>rfl))) jF) jB)))))
   (jE (jP (kF bT (pv 3) (pv 1))))))),?_⟩
 have nat:∀ x:Int,∃ v:Nat,x % m=(v:Int)/\(v:Int) < m:=fun x=>by
  have h0:=Int.emod_nonneg x (show m ≠ 0 by omega)
  have h1:=Int.emod_lt_of_pos x hm
  exact⟨(x % m).toNat,by omega,by omega⟩
 refine⟨_,rfl,p,_,_,_,rfl,rfl,SqL.of h,rfl,_,_,rfl,rfl,_,rfl,qG (fun cc=>?_) (fun cc=>?_)⟩
 ·refine⟨_,rfl,p,_,_,_,rfl,rfl,SqL.of h,rfl,_,rfl,_,_,rfl,rfl,hm,?_⟩
  refine⟨_,rfl,p,_,_,_,rfl,rfl,SqL.of h,rfl,_,rfl,_,_,rfl,rfl,⟨hm,hm2⟩,_,rfl,p,_,_,0,rfl,rfl,h,rfl,?_⟩
  obtain⟨v,hv,hl⟩:=nat a
  refine⟨_,rfl,?_⟩
  show Q (.int (a % m)) _
  rw [hv]
  exact q v _ hl ⟨⟨_,_,_,jH⟩,fun b' o n e=>by rw [jS n];exact e⟩
 ·refine⟨_,rfl,p,_,_,_,rfl,rfl,SqL.of h,rfl,_,_,rfl,rfl,_,rfl,p,_,_,2,rfl,rfl,h,rfl,?_⟩
  have h1:upd H p (.lst [.int a,.int b,.int (c + 1)]) p=some (.lst [.int a,.int b,.int (c + 1)]):=jH
  refine⟨_,rfl,p,_,_,_,rfl,rfl,SqL.of h1,rfl,_,rfl,p,_,_,_,rfl,rfl,SqL.of h1,rfl,_,_,rfl,rfl,.inl ⟨by omega,by omega⟩,_,_,rfl,fun v1=>?_⟩
  refine⟨_,_,rfl,rfl,.inr ⟨by omega,by omega⟩,_,rfl,p,_,_,_,rfl,rfl,SqL.of h1,rfl,_,_,rfl,rfl,_,rfl,p,_,_,_,rfl,rfl,SqL.of h1,rfl,_,_,rfl,rfl,.inl ⟨by omega,by omega⟩,_,_,rfl,rfl,_,_,rfl,fun v2=>?_⟩
  refine⟨_,_,rfl,rfl,_,rfl,_,rfl,_,_,rfl,rfl,hm,?_⟩
  obtain⟨v,hv,hl⟩:=nat (v1 * 268435399 + v2)
  show Q (.int ((v1 * 268435399 + v2) % m)) _
  rw [hv]
  exact q v _ hl ⟨⟨_,_,_,jH⟩,fun b' o n e=>by rw [jS n];exact e⟩
theorem sX {k:Nat} (F:Fun K "_law_word" "_law_word" cZ f fd) {f_law_take:Addr} {fd_law_take:FuncData} (D_law_take:Df K mg "_law_take" f_law_take fd_law_take ["_law_box_here","_law_many"]) (G_law_take:jK P w K mg base CX0 k f_law_take fd_law_take ["_law_box_here","_law_many"] aFp):jK P w K mg base CX0 (k + 2) f fd ["_law_box_here","_law_pile"] (spWd K):=by
 w_cond bM
 ·obtain⟨p,a,st,rfl,_⟩:=h;rfl
 obtain⟨p,a,st,rfl,h3,ha,q⟩:=h
 walk_at "hr"
 refine⟨_,(PSx.h (yL (aEo (i:=2) bM.nd rfl rfl (aHl (vG (vV jO) (vG (vV jO) (vG (vV jO) (vG (vV jO) (vG (vV jO) (vG (vV jO) (vG (vV jO) (vG (vV jO) (vG (vV jO) aAt kL) kL) kL) kL) kL) kL) kL) kL) kL)))
   (yL (iP (kB (i:=3) bM.nd rfl (by walk_at "o") (jQ G_law_take hr rfl D_law_take.m D_law_take.k D_law_take.b .nil jT (jA (pv 0) (jA jF jB)))))
   (yL (wW (jR aAl (pv 3) jF (jW _)) (iM (dR (vV (kK jX (pv 2) (pv 3) (fun _ _=>rfl))))) jU)
   (yL (wW (PW.pt (xG (jR (aF hr.units) (pv 1) (kG jB) (jW _)) (vK (jR qF (kK jX (pv 1) (xN vE jF) (fun _ _=>rfl)) jO (jW _))))) (iM (dR (vV jO))) jU)
   (iM (dR (aFw (vG (vV jO) (vG (vV jO) aAt kL) kL) (vV (vH rX rfl M.int boot_int (jA (qE (aF hr.units) (pv 1) (kG jB) (jW _)) jB))) (fun _ _=>rfl))))))))),?_⟩
 refine⟨(by show 9<=sizeLine;decide),fun l0 hl0=>?_⟩
 generalize e1:upd H l0 _=H1
 obtain⟨g1,k1⟩:=jC e1 hl0
 have k1':H1 l0=some (.lst (wdL.map V.str)):=k1
 have h31:St3 H1 p:=by obtain⟨x,y,z,e⟩:=h3;exact⟨x,y,z,g1 _ _ e⟩
 have nlp:l0 ≠ p:=fun z=>by obtain⟨_,_,_,e⟩:=h3;rw [← z,hl0] at e;cases e
 refine⟨_,rfl,p,12,rfl,by decide,by decide,h31,fun v H2 hv d2=>?_⟩
 have d02:Drawn p H H2:=⟨d2.1,fun b o n e=>d2.2 b o n (g1 _ _ e)⟩
 have ha2:SqL K (offs [p] H2) a (st.map V.str):=(d02.offs (List.mem_singleton.mpr rfl)).seq ha
 refine⟨_,rfl,_,_,rfl,rfl,_,rfl,qG (fun c=>?_) (fun c=>?_)⟩
 ·have c':v < 9:=by have:=of_decide_eq_true c;omega
  obtain⟨l,hl,hw⟩:=wd_at ⟨v,c'⟩
  exact⟨_,rfl,_,rfl,l0,_,_,_,rfl,rfl,SqL.of (d2.2 _ _ nlp k1'),bA (by rw [List.getElem?_map,hw];rfl),q l H2 hl d02⟩
 dsimp only [aIn]
 refine tW (fun σ' H'=>σ'=[some (.ref p),some (.ref a),some (.ref l0),some (.int (v:Int))]/\Drawn p H H') (fun σ' H' z=>?_) (fun nx hnx=>?_)
 ·obtain⟨rfl,d⟩:=z
  have ha':SqL K H' a (st.map V.str):=jN.seq ((d.offs (List.mem_singleton.mpr rfl)).seq ha)
  refine⟨vQ,fun m hm=>?_⟩
  generalize e3:upd H' m _=H3
  obtain⟨g3,k3⟩:=jC e3 hm
  refine⟨_,rfl,xL,fun l1 hl1=>?_⟩
  generalize e4:upd H3 l1 _=H4
  obtain⟨g4,k4⟩:=jC e4 hl1
  have d4:Drawn p H H4:=d.keep (g3.trans g4)
  refine⟨a,l1,_,rfl,rfl,(g3.trans g4).seq ha',SqL.of k4,_,rfl,?_⟩
  cases hb:(st.map V.str).isEmpty with
  | true =>
   obtain⟨l,hl,hx⟩:=uS (x:="out c") (by decide +kernel)
   exact⟨m,_,_,_,rfl,rfl,SqL.of (g4 _ _ k3),rfl,hx ▸ q l H4 hl d4⟩
  | false =>
   obtain⟨l,hl,hx⟩:=uS (x:="end") (by decide +kernel)
   exact⟨m,_,_,_,rfl,rfl,SqL.of (g4 _ _ k3),rfl,hx ▸ q l H4 hl d4⟩
 ·have ha':SqL K H2 a (st.map V.str):=jN.seq ha2
  refine⟨_,rfl,xL,fun l1 hl1=>?_⟩
  generalize e4:upd H2 l1 _=H4
  obtain⟨g4,k4⟩:=jC e4 hl1
  have d4:Drawn p H H4:=d02.keep g4
  refine⟨a,l1,_,rfl,rfl,g4.seq ha',SqL.of k4,_,rfl,qG (fun c2=>?_) (fun c2=>cX (hnx _ _ ⟨rfl,d4⟩))⟩
  rcases List.eq_nil_or_concat st with rfl|⟨ys,y,rfl⟩
  ·exact absurd c2 (by decide)
  ·rw [List.concat_eq_append] at ha'
   refine⟨_,rfl,_,rfl,a,_,_,_,rfl,rfl,g4.seq ha',oG ys y,rfl,_,rfl,qG (fun c3=>?_) (fun c3=>hnx _ _ ⟨rfl,d4⟩)⟩
   obtain⟨l,hl,hx⟩:=uS (x:="else") (by decide +kernel)
   exact hx ▸ q l H4 hl d4
theorem rF {k:Nat} (F:Fun K "_law_moved" "_law_moved" bS f fd):jK P w K mg base CX0 (k + 2) f fd ["_law_pile","_law_word_here"] (spMv K):=by
 w_cond eU
 ·obtain⟨a,st,l,xs,rfl,_⟩:=h;rfl
 obtain⟨a,st,l,xs,rfl,hl,hA,hao,hst,qn,q⟩:=h
 walk_at "hr"
 refine⟨_,(jD (kB (i:=2) eU.nd rfl (by walk_at "o") (kK jX (vW PySem.F.plainAttrs_str PySem.F.slot_str_split PySem.F.type_str_split yH (pv 1) (jA jO jB)) jF (fun _ _=>rfl)))
   (jD (kI (jR vC (pv 2) (qT (jA jO (jA jO (jA jO jB)))) (by with_unfolding_all rfl)) (jE (jP (vF (jR qF (jY kA rfl M.len PySem.boot_len (jA (pv 0) jB)) jF (jW _)) vT (kF vY (pv 0) (kG (jA (pv 2) jB)))))) jU)
   (jD (kI (jR qF (pv 2) jO (jW _)) (jE (jP (vF (PW.pt (xG (jR (aF hr.units) (pv 0) (kG jB) (jW _)) (vK (jR qF (kK jX (pv 0) (xN vE jF) (fun _ _=>rfl)) jO (jW _))))) (kF vY (qA qJ (pv 0) qO (qH (xN vE jF))) (kG (jA jO jB))) vT))) jU)
   (jD (kI (jR qF (pv 2) jO (jW _)) (jE (jP (vF (jR (aF hr.units) (pv 0) (kG jB) (jW _)) (qA qJ (pv 0) qO (qH (xN vE jF))) vT))) jU)
   (jE (jP (pv 0))))))),?_⟩
 have hF:=zS hl
 have hG:=aFt hl
 have hx10:=hF.x10
 obtain⟨wr,ews⟩:=aAg hl
 refine⟨_,rfl,rfl,_,_,rfl,rfl,rfl,(by rw [sizeLine_eq];omega),fun wa hwa=>?_⟩
 rw [mU hl,ews]
 generalize e1:upd H wa _=H1
 obtain⟨g1,k1⟩:=jC e1 hwa
 refine⟨wa,_,_,_,rfl,rfl,SqL.of k1,at0,?_⟩
 refine⟨_,rfl,dQ,fun pt hpt=>?_⟩
 generalize e2:upd H1 pt _=H2
 obtain⟨g2,k2⟩:=jC e2 hpt
 have g02:=g1.trans g2
 have hA2:=hA.same g02
 have ha2:SqL K H2 a (st.map V.str):=jN.seq ((jJ g02).seq hao)
 have ein:inV (V.str (lnW l.x)) [V.str (Str.ofString "each"),V.str (Str.ofString "span"),V.str (Str.ofString "if")]=decide (lnW l.x ∈ bE):=kR (x:=lnW l.x) (ys:=bE)
 refine⟨pt,_,rfl,.inr (SqT.of k2),rfl,rfl,_,rfl,?_⟩
 rw [if_neg (by decide),ein]
 unfold stp at qn q
 refine qG (fun c=>?_) (fun c=>?_)
 ·have c':=of_decide_eq_true c
  have ed:stp st l.x=if st.length=3 then none else some (st++[lnW l.x]):=by
   unfold stp
   rcases hG.s with e|e
   ·rw [e]
    rcases hG.b.mp c' with hd|hd <;> rw [hd]
   ·rcases hG.b.mp c' with hd|hd <;> rw [hd] at e <;> cases e
  unfold stp at ed
  rw [ed] at qn q
  refine⟨_,rfl,a,_,rfl,.inl ha2,rfl,_,rfl,qG (fun d=>?_) (fun d=>?_)⟩
  ·have d':st.length=3:=by have:=V.int.inj (of_decide_eq_true d);rw [List.length_map] at this;omega
   rw [if_pos d'] at qn
   exact qn rfl H2 g02
  ·have d':¬ st.length=3:=fun z=>d (decide_eq_true (by rw [List.length_map,z];rfl))
   rw [if_neg d'] at q
   refine⟨_,rfl,_,rfl,dC,fun l1 hl1=>?_⟩
   generalize e3:upd H2 l1 _=H3
   obtain⟨g3,k3⟩:=jC e3 hl1
   refine⟨a,l1,_,_,rfl,rfl,g3.seq ha2,SqL.of k3,(by rw [List.length_map,sizeLine_eq];show st.length + 1<=_;omega),fun l2 hl2=>?_⟩
   generalize e4:upd H3 l2 _=H4
   obtain⟨g4,k4⟩:=jC e4 hl2
   exact q _ rfl l2 H4 (g02.trans (g3.trans g4)) (by rw [List.map_append];exact SqL.of (kZ ((hA2.same g3).new hl2) k4))
 have c':=of_decide_eq_false (Bool.eq_false_iff.mpr c)
 refine⟨_,rfl,rfl,_,rfl,qG (fun d=>?_) (fun d=>?_)⟩
 ·have hd:=hG.e.mp (V.str.inj (of_decide_eq_true d))
  rw [hd] at qn q
  refine⟨_,rfl,xL,fun l1 hl1=>?_⟩
  generalize e3:upd H2 l1 _=H3
  obtain⟨g3,k3⟩:=jC e3 hl1
  refine⟨a,l1,_,rfl,rfl,g3.seq ha2,SqL.of k3,_,rfl,qG (fun d2=>?_) (fun d2=>?_)⟩
  ·rcases List.eq_nil_or_concat st with rfl|⟨ys,y,rfl⟩
   ·exact absurd d2 (by decide)
   rw [List.concat_eq_append] at *
   refine⟨_,rfl,_,rfl,a,_,_,_,rfl,rfl,g3.seq ha2,oG ys y,rfl,_,rfl,qG (fun d3=>?_) (fun d3=>?_)⟩
   ·have ey:=V.str.inj (of_decide_eq_true d3)
    refine⟨_,rfl,_,rfl,_,rfl,a,_,rfl,g3.seq ha2,fun l2 hl2=>?_⟩
    rw [aFy,List.dropLast_concat]
    generalize e4:upd H3 l2 _=H4
    obtain⟨g4,k4⟩:=jC e4 hl2
    refine⟨dC,fun l3 hl3=>?_⟩
    generalize e5:upd H4 l3 _=H5
    obtain⟨g5,k5⟩:=jC e5 hl3
    have hy3:ys.length<=3:=by rw [List.length_append] at hst;omega
    refine⟨l2,l3,_,_,rfl,rfl,SqL.of (g5 _ _ k4),SqL.of k5,(by rw [List.length_map,sizeLine_eq];show ys.length + 1<=_;omega),fun l4 hl4=>?_⟩
    generalize e6:upd H5 l4 _=H6
    obtain⟨g6,k6⟩:=jC e6 hl4
    have q':=q (ys++[("else" : Str)]) (by show (if (ys++[y]).getLast?=some "if" then some ((ys++[y]).dropLast++[("else" : Str)]) else none)=_;rw [List.getLast?_concat,if_pos (by rw [ey];rfl),List.dropLast_concat])
    exact q' l4 H6 (g02.trans (g3.trans (g4.trans (g5.trans g6)))) (by rw [List.map_append];exact SqL.of (kZ ((hA2.same (g3.trans (g4.trans g5))).new hl4) k6))
   ·exact qn (by show (if (ys++[y]).getLast?=some "if" then some ((ys++[y]).dropLast++[("else" : Str)]) else none)=_;rw [List.getLast?_concat,if_neg (fun z=>d3 (decide_eq_true (by rw [Option.some.inj z])))]) H3 (g02.trans g3)
  ·have es:st=[]:=by
    cases st with
    | nil=>rfl
    | cons _ _=>exact absurd rfl d2
   subst es
   exact cX (qn rfl H3 (g02.trans g3))
 have d':=fun z=>d (decide_eq_true (congrArg V.str z))
 refine⟨_,rfl,rfl,_,rfl,qG (fun f'=>?_) (fun f'=>?_)⟩
 ·have hd:=hG.f.mp (V.str.inj (of_decide_eq_true f'))
  rw [hd] at qn q
  refine⟨_,rfl,xL,fun l1 hl1=>?_⟩
  generalize e3:upd H2 l1 _=H3
  obtain⟨g3,k3⟩:=jC e3 hl1
  refine⟨a,l1,_,rfl,rfl,g3.seq ha2,SqL.of k3,_,rfl,qG (fun d2=>?_) (fun d2=>?_)⟩
  ·refine⟨_,rfl,_,rfl,_,rfl,a,_,rfl,g3.seq ha2,fun l2 hl2=>?_⟩
   rw [aFy]
   generalize e4:upd H3 l2 _=H4
   obtain⟨g4,k4⟩:=jC e4 hl2
   have hne:¬ st=[]:=fun z=>by rw [z] at d2;exact absurd d2 (by decide)
   exact q st.dropLast (by show (if st=[] then none else some st.dropLast)=_;rw [if_neg hne]) l2 H4 (g02.trans (g3.trans g4)) (SqL.of (kZ ((hA2.same g3).new hl2) k4))
  ·have es:st=[]:=by
    cases st with
    | nil=>rfl
    | cons _ _=>exact absurd rfl d2
   subst es
   exact qn rfl H3 (g02.trans g3)
 ·have f2:=fun z=>f' (decide_eq_true (congrArg V.str z))
  have hd:lnD l.x=.row:=by
   cases hd:lnD l.x with
   | row=>rfl
   | loop=>exact absurd (hG.b.mpr (.inl hd)) c'
   | cond=>exact absurd (hG.b.mpr (.inr hd)) c'
   | els=>exact absurd (hG.e.mpr hd) d'
   | fin=>exact absurd (hG.f.mpr hd) f2
  rw [hd] at q
  exact⟨_,rfl,q st rfl a H2 g02 ((jJ g02).seq hao)⟩
theorem uY {k:Nat} (F:Fun K "_law_due" "_law_due" fP f fd) {f_law_moved:Addr} {fd_law_moved:FuncData} (D_law_moved:Df K mg "_law_moved" f_law_moved fd_law_moved ["_law_pile","_law_word_here"]) (G_law_moved:jK P w K mg base CX0 k f_law_moved fd_law_moved ["_law_pile","_law_word_here"] (spMv K)):jK P w K mg base CX0 (k + 2) f fd ["_law_lines"] (spDu K):=by
 w_cond zB
 ·obtain⟨a,ls,rfl,_⟩:=h;rfl
 obtain⟨a,ls,rfl,ha,hls,h59,q⟩:=h
 walk_at "hr"
 refine⟨_,(jD (kB (i:=1) zB.nd rfl (by walk_at "o") (kG jB))
   (jD (xX PassesOwn.never rfl (iI rfl M.enumerate (jA (pv 0) jB)) (xC rfl (jZ (jV (i:=2) zB.nd rfl (Or.inl rfl)) (jZ (jV (i:=3) zB.nd rfl (Or.inl rfl)) qK))) (jD (kB (i:=1) zB.nd rfl (by walk_at "o") (jQ G_law_moved hr rfl D_law_moved.m D_law_moved.k D_law_moved.b .nil jT (jA (pv 1) (jA (pv 3) jB))))
   (jE (kI (jR aCy (pv 1) vT (jW _)) (jE (jP (pv 2))) jU))))
   (jD (kI (jR (aF hr.units) (pv 1) (kG jB) (jW _)) (jE (jP (jY kA rfl M.len PySem.boot_len (jA (pv 0) jB)))) jU)
   (jE (jP vT))))),?_⟩
 have hds:(ls.map (·.x)).length=ls.length:=List.length_map _
 refine⟨xL,fun p hp=>?_⟩
 generalize e1:upd H p _=H1
 obtain⟨g1,k1⟩:=jC e1 hp
 refine⟨_,rfl,a,_,rfl,g1.seq ha,dS (xs:=(ls.map (·.x)).map V.str) (fun i σ H'=>∃ (b:Addr) (st:List Str) (o2 o3:Option V),σ = [some (.ref a),some (.ref b),o2,o3]/\jI H H'/\SqL K H' b (st.map V.str)/\st.length<=3/\due ((ls.map (·.x)).drop i) st i=due (ls.map (·.x)) [] 0) ⟨p,[],_,_,rfl,g1,SqL.of k1,Nat.zero_le _,rfl⟩ (fun i σ H' _ z=>?_) (fun i x σ H' p2 hx z hp2=>?_) (fun σ H' z=>?_)⟩
 ·obtain⟨b,st,o2,o3,rfl,g,_⟩:=z
  exact g.seq ha
 ·obtain⟨b,st,o2,o3,rfl,g,sb,hst,hdue⟩:=z
  obtain⟨y,hy,rfl⟩:=qR hx
  have hy':=hy
  rw [List.getElem?_map] at hy
  cases hl:ls[i]? with
  | none=>rw [hl] at hy;cases hy
  | some l =>
  rw [hl] at hy
  cases hy
  have hlt:=hls l (List.mem_of_getElem? hl)
  generalize e3:upd H' p2 _=H3
  obtain⟨g3,k3⟩:=jC e3 hp2
  have hds':=tY (st:=st) hy'
  refine⟨p2,_,rfl,SqT.of k3,rfl,_,_,rfl,_,_,rfl,rfl,_,rfl,_,rfl,b,st,l,[],rfl,hlt,(fun b hb=>by cases hb),(by rw [xQ];exact g3.seq sb),hst,fun hn H4 g4=>?_,fun st' hs b' H4 g4 sb4=>?_⟩
  ·refine⟨_,rfl,rfl,_,rfl,qQ rfl ⟨_,rfl,?_⟩⟩
   rw [show stp st ((fun x:Ln=>x.x) l)=none from hn] at hds'
   have:=q H4 (g.trans (g3.trans g4))
   rw [← hdue,hds'] at this
   exact this
  ·rw [xQ] at sb4
   rw [show stp st ((fun x:Ln=>x.x) l)=some st' from hs] at hds'
   exact⟨_,rfl,rfl,_,rfl,kQ (by simp) ⟨b',st',_,_,rfl,g.trans (g3.trans g4),sb4,rE hst hs,hds'.symm.trans hdue⟩⟩
 ·obtain⟨b,st,o2,o3,rfl,g,sb,hst,hdue⟩:=z
  rw [List.length_map] at hdue
  rw [wV] at hdue
  refine⟨_,rfl,xL,fun l1 hl1=>?_⟩
  generalize e3:upd H' l1 _=H3
  obtain⟨g3,k3⟩:=jC e3 hl1
  have qq:=q H3 (g.trans g3)
  rw [← hdue] at qq
  refine⟨b,l1,_,rfl,rfl,g3.seq sb,SqL.of k3,_,rfl,?_⟩
  cases st with
  | nil=>exact kQ (by decide) qq
  | cons y ys =>
   refine qQ rfl ⟨_,rfl,a,_,rfl,.inl ((g.trans g3).seq ha),?_⟩
   rw [List.length_map]
   exact qq
theorem tF {k r:Nat} (F:Fun K "_law_told" "_law_told" dL f fd) (KP:PrC K C_Row C_Loop C_Choice) {f_law_told:Addr} {fd_law_told:FuncData} (D_law_told:Df K mg "_law_told" f_law_told fd_law_told ["_law_rows"]) (G_law_told:jK P w K mg base CX0 k f_law_told fd_law_told ["_law_rows"] (spTo C_Row C_Loop C_Choice K r)):jK P w K mg base CX0 (k + 2) f fd ["_law_rows"] (spTo C_Row C_Loop C_Choice K (r + 1)):=by
 w_cond bJ
 ·obtain⟨a,as,ts,d,xs,rfl,_⟩:=h;rfl
 obtain⟨a,as,ts,d,xs,rfl,hr1,hdp,hbd,h60,hA,ha,hT,q⟩:=h
 walk_at "hr"
 refine⟨_,(jD (kB (i:=1) bJ.nd rfl (by walk_at "o") (kG jB))
   (jD (xX PassesOwn.never rfl (vI (pv 0)) (jV (i:=2) bJ.nd rfl (Or.inl rfl)) (jE (kI (vU (jY (bG (K:=K) rfl) rfl M.isinstance boot_isinstance (jA (pv 2) (jA (kJ (v:=.ref C_Row) rfl T_Row.m rfl) jB)))) (jE (qD (vW PySem.F.plainAttrs_list PySem.F.slot_list_append PySem.F.type_list_append qM (pv 1) (jA (qT (jA (kH (pv 2) rfl) jB)) jB)))) (jE (kI (vU (jY (bG (K:=K) rfl) rfl M.isinstance boot_isinstance (jA (pv 2) (jA (kJ (v:=.ref C_Loop) rfl T_Loop.m rfl) jB)))) (jE (qD (vW PySem.F.plainAttrs_list PySem.F.slot_list_append PySem.F.type_list_append qM (pv 1) (jA (qT (jA (kH (pv 2) rfl) (jA (kH (pv 2) rfl) (jA (jQ G_law_told hr rfl D_law_told.m D_law_told.k D_law_told.b .nil jT (jA (kH (pv 2) rfl) jB)) jB)))) jB)))) (jE (kI (vU (jY (bG (K:=K) rfl) rfl M.isinstance boot_isinstance (jA (pv 2) (jA (kJ (v:=.ref C_Choice) rfl T_Choice.m rfl) jB)))) (jE (qD (vW PySem.F.plainAttrs_list PySem.F.slot_list_append PySem.F.type_list_append qM (pv 1) (jA (qT (jA (kH (pv 2) rfl) (jA (kH (pv 2) rfl) (jA (kH (pv 2) rfl) (jA (jQ G_law_told hr rfl D_law_told.m D_law_told.k D_law_told.b .nil jT (jA (kH (pv 2) rfl) jB)) (jA (jQ G_law_told hr rfl D_law_told.m D_law_told.k D_law_told.b .nil jT (jA (kH (pv 2) rfl) jB)) jB pM) pM))))) jB)))) jU)))))))
   (jE (jP (pv 1))))),?_⟩
 have er:r=d:=Nat.succ.inj hr1
 subst er
 have hal:=hT.len
 refine⟨xL,fun l hl=>?_⟩
 generalize e1:upd H l _=H1
 obtain⟨g1,k1⟩:=jC e1 hl
 have go1:jI (offs xs H) (offs (l::xs) H1):=iS hl g1
 have lx:l ∉ xs:=hA.new hl
 refine⟨_,rfl,a,rfl,⟨_,jN.seq (go1.seq ha)⟩,aD (xs:=as.map V.ref) (fun j σ H'=>∃ (bs:List Addr) (o2:Option V),σ = [some (.ref a),some (.ref l),o2]/\But l H1 H'/\H' l=some (.lst (bs.map V.ref))/\jI (offs (l::xs) H1) (offs (l::xs) H')/\LTs K (offs (l::xs) H') bs (ts.take j)) ⟨[],_,rfl,But.refl,k1,jI.refl _,.nil⟩ (fun j σ H' _ z=>?_) (fun j x σ H' hx z=>?_) (fun σ H' z=>?_)⟩
 ·obtain⟨bs,o2,rfl,g,kl,go,_⟩:=z
  exact jN.seq ((go1.trans go).seq ha)
 ·obtain⟨bs,o2,rfl,g,kl,go,hb⟩:=z
  obtain⟨u,hu,rfl⟩:=vA hx
  have hj:j < ts.length:=by rw [← hal];exact (List.getElem?_eq_some_iff.mp hu).1
  obtain⟨t,ht⟩ : ∃ t,ts[j]?=some t:=⟨_,List.getElem?_eq_getElem hj⟩
  have hbl:bs.length=j:=by rw [hb.len,List.length_take];omega
  have hone:=(aIv hT hu ht).same (go1.trans go)
  have hone':=hone.same jN
  have hdo:=dp_at hdp ht
  have hA':=pQ (aDc (hA.same g1) lx g) kl
  have hbo:=bd_at hbd ht
  have htk:ts.take (j + 1)=ts.take j++[t]:=by rw [List.take_add_one,ht];rfl
  cases hone with
  | row h1 _ =>
   obtain⟨dx,ra,sa,h1,_⟩:=h1
   have h1':=jN _ _ h1
   refine⟨_,rfl,.ref u,C_Row,_,_,rfl,KP.i1.ty h1',KP.rr,_,rfl,qQ rfl ⟨_,rfl,.inl ⟨rfl,_,SqL.of kl⟩,_,rfl,u,C_Row,_,_,_,rfl,h1',T_Row.cl,T_Row.na _ (by decide),rfl,dC,fun p hp=>?_⟩⟩
   generalize e2:upd H' p _=H2
   obtain⟨g2,k2⟩:=jC e2 hp
   refine⟨l,_,_,rfl,rfl,g2 _ _ kl,(by rw [List.length_map];exact Nat.lt_of_le_of_lt (show bs.length<=60 by omega) (by decide)),?_⟩
   obtain⟨a1,a2,a3,a4⟩:=aL (v:=p) g g2 go hb (LTs.row (aY (hA'.new hp) k2) .nil)
   exact⟨_,_,rfl,a1,a2,a3,by rw [htk];exact a4⟩
  | @loop _ dx ra d' g' rd _ bs' i' j' rs' _ h1 h2 h3 _ =>
   have h1':=jN _ _ h1
   obtain⟨dd,hdd⟩ : ∃ dd,r=dd + 1/\Dp dd rs':=by cases hdo with|loop h _=>exact⟨_,rfl,h⟩
   obtain⟨rfl,hdd⟩:=hdd
   obtain⟨hb1,hb2⟩ : rs'.length<=60/\Bd rs':=by cases hbo with|loop h h' _=>exact⟨h,h'⟩
   refine⟨_,rfl,.ref u,C_Row,_,_,rfl,KP.i2.ty h1',KP.lr,_,rfl,kQ (by decide) ⟨_,rfl,.ref u,C_Loop,_,_,rfl,KP.i2.ty h1',KP.ll,_,rfl,qQ rfl ⟨_,rfl,.inl ⟨rfl,_,SqL.of kl⟩,_,rfl,u,C_Loop,_,_,_,rfl,h1',T_Loop.cl,T_Loop.na _ (by decide),rfl,_,rfl,u,C_Loop,_,_,_,rfl,h1',T_Loop.cl,T_Loop.na _ (by decide),rfl,_,rfl,u,C_Loop,_,_,_,rfl,h1',T_Loop.cl,T_Loop.na _ (by decide),rfl,ra,bs',rs',dd,l::xs,rfl,rfl,hdd,hb2,hb1,hA',h2,h3,fun l2 cs H2 g2 s2 lt2=>⟨dQ,fun p hp=>?_⟩⟩⟩⟩
   generalize e3:upd H2 p _=H3
   obtain⟨g3,k3⟩:=jC e3 hp
   have g23:=g2.trans g3
   refine⟨l,_,_,rfl,rfl,g23 _ _ kl,(by rw [List.length_map];exact Nat.lt_of_le_of_lt (show bs.length<=60 by omega) (by decide)),?_⟩
   obtain⟨a1,a2,a3,a4⟩:=aL (v:=p) g g23 go hb (LTs.loop (aY ((hA'.same g2).new hp) k3) ((jJ g3).seq s2) (lt2.same (jJ g3)) .nil)
   exact⟨_,_,rfl,a1,a2,a3,by rw [htk];exact a4⟩
  | @ch _ dx ra rb rd _ bs' cs' i' j' m' rs' os' _ h1 h2 h2b h3 h3b _ =>
   have h1':=jN _ _ h1
   obtain⟨dd,hdd⟩ : ∃ dd,r=dd + 1/\Dp dd rs'/\Dp dd os':=by cases hdo with|ch h h' _=>exact⟨_,rfl,h,h'⟩
   obtain⟨rfl,hdd,hdd2⟩:=hdd
   obtain⟨hb1,hb2,hb3,hb4⟩ : rs'.length<=60/\os'.length<=60/\Bd rs'/\Bd os':=by cases hbo with|ch a b c d _=>exact⟨a,b,c,d⟩
   refine⟨_,rfl,.ref u,C_Row,_,_,rfl,KP.i3.ty h1',KP.cr,_,rfl,kQ (by decide) ⟨_,rfl,.ref u,C_Loop,_,_,rfl,KP.i3.ty h1',KP.cl,_,rfl,kQ (by decide) ⟨_,rfl,.ref u,C_Choice,_,_,rfl,KP.i3.ty h1',KP.cc,_,rfl,qQ rfl ⟨_,rfl,.inl ⟨rfl,_,SqL.of kl⟩,_,rfl,u,C_Choice,_,_,_,rfl,h1',T_Choice.cl,T_Choice.na _ (by decide),rfl,_,rfl,u,C_Choice,_,_,_,rfl,h1',T_Choice.cl,T_Choice.na _ (by decide),rfl,_,rfl,u,C_Choice,_,_,_,rfl,h1',T_Choice.cl,T_Choice.na _ (by decide),rfl,_,rfl,u,C_Choice,_,_,_,rfl,h1',T_Choice.cl,T_Choice.na _ (by decide),rfl,ra,bs',rs',dd,l::xs,rfl,rfl,hdd,hb3,hb1,hA',h2,h3,fun l2 cs H2 g2 s2 lt2=>⟨_,rfl,u,C_Choice,_,_,_,rfl,(g2 _ _ h1'),T_Choice.cl,T_Choice.na _ (by decide),rfl,rb,cs',os',dd,l::xs,rfl,rfl,hdd2,hb4,hb2,hA'.same g2,(jJ g2).seq h2b,h3b.same (jJ g2),fun l3 cs3 H3 g3 s3 lt3=>⟨sQ,fun p hp=>?_⟩⟩⟩⟩⟩⟩
   generalize e4:upd H3 p _=H4
   obtain⟨g4,k4⟩:=jC e4 hp
   have g24:=(g2.trans g3).trans g4
   refine⟨l,_,_,rfl,rfl,g24 _ _ kl,(by rw [List.length_map];exact Nat.lt_of_le_of_lt (show bs.length<=60 by omega) (by decide)),?_⟩
   obtain⟨a1,a2,a3,a4⟩:=aL (v:=p) g g24 go hb (LTs.ch (m:=m') (aY ((hA'.same (g2.trans g3)).new hp) k4) ((jJ (g3.trans g4)).seq s2) ((jJ g4).seq s3) (lt2.same (jJ (g3.trans g4))) (lt3.same (jJ g4)) .nil)
   exact⟨_,_,rfl,a1,a2,a3,by rw [htk];exact a4⟩
 ·obtain⟨bs,o2,rfl,g,kl,go,hb⟩:=z
  rw [List.length_map,hal,qU] at hb
  exact⟨_,rfl,q l bs H' (But.from g1 hl g) (SqL.of (kZ lx kl)) (hb.same (dX fun b hb=>List.mem_cons_of_mem _ hb))⟩
theorem rK {k r:Nat} (F:Fun K "_law_inner" "_law_inner" bO f fd) {f_law_inner:Addr} {fd_law_inner:FuncData} (D_law_inner:Df K mg "_law_inner" f_law_inner fd_law_inner ["_law_lines","_law_start"]) (G_law_inner:jK P w K mg base CX0 k f_law_inner fd_law_inner ["_law_lines","_law_start"] (aFv K r)):jK P w K mg base CX0 (k + 2) f fd ["_law_lines","_law_start"] (aFv K (r + 1)):=by
 w_cond kO
 ·obtain⟨a,n,e,d,ls,ts,xs,rfl,_⟩:=h;rfl
 obtain⟨a,n,e,d,ls,ts,xs,rfl,hr1,hdp,hps,hls,h59,hA,ha,q⟩:=h
 walk_at "hr"
 refine⟨_,(jD (kB (i:=2) kO.nd rfl (by walk_at "o") (kG jB))
   (jD (kB (i:=3) kO.nd rfl (by walk_at "o") (pv 1))
   (jD (sD PassesOwn.never (PW.pt (xG (jR aAl (pv 3) (jY kA rfl M.len PySem.boot_len (jA (pv 0) jB)) (jW _)) (vK (jR qZ (kK jX (pv 0) (pv 3) (fun _ _=>rfl)) (qT (jA jO (jA jO jB))) (by with_unfolding_all rfl))))) (jD (kB (i:=4) kO.nd rfl (by walk_at "o") (kK jX (vW PySem.F.plainAttrs_str PySem.F.slot_str_split PySem.F.type_str_split yH (kK jX (pv 0) (pv 3) (fun _ _=>rfl)) (jA jO jB)) jF (fun _ _=>rfl)))
   (jE (kI (jR qZ (pv 4) (qT (jA jO (jA jO (jA jO jB)))) (by with_unfolding_all rfl)) (jD (qD (vW PySem.F.plainAttrs_list PySem.F.slot_list_append PySem.F.type_list_append qM (pv 2) (jA (qT (jA (pv 3) jB)) jB)))
   (jE (kB (i:=3) kO.nd rfl (by walk_at "o") (kF qL (pv 3) jF)))) (jD (aW (jQ G_law_inner hr rfl D_law_inner.m D_law_inner.k D_law_inner.b .nil jT (jA (pv 0) (jA (kF qL (pv 3) jF) jB))) (xC rfl (jZ (jV (i:=5) kO.nd rfl (Or.inl rfl)) (jZ (jV (i:=6) kO.nd rfl (Or.inl rfl)) qK))))
   (jD (kB (i:=7) kO.nd rfl (by walk_at "o") vT)
   (jD (kB (i:=8) kO.nd rfl (by walk_at "o") (kG jB))
   (jD (kI (jR qF (kK jX (pv 0) (pv 6) (fun _ _=>rfl)) jO (jW _)) (jD (kB (i:=7) kO.nd rfl (by walk_at "o") (pv 6))
   (jE (aW (jQ G_law_inner hr rfl D_law_inner.m D_law_inner.k D_law_inner.b .nil jT (jA (pv 0) (jA (kF qL (pv 6) jF) jB))) (xC rfl (jZ (jV (i:=8) kO.nd rfl (Or.inl rfl)) (jZ (jV (i:=6) kO.nd rfl (Or.inl rfl)) qK)))))) jU)
   (jD (kI (jR qF (pv 4) jO (jW _)) (jE (qD (vW PySem.F.plainAttrs_list PySem.F.slot_list_append PySem.F.type_list_append qM (pv 2) (jA (qT (jA (pv 3) (jA (pv 6) (jA (pv 7) (jA (pv 5) (jA (pv 8) jB kY) kY) kY) kY) kY)) jB)))) (jE (qD (vW PySem.F.plainAttrs_list PySem.F.slot_list_append PySem.F.type_list_append qM (pv 2) (jA (qT (jA (pv 3) (jA (pv 6) (jA (pv 5) jB)))) jB)))))
   (jE (kB (i:=3) kO.nd rfl (by walk_at "o") (kF qL (pv 6) jF))))))))))))
   (jE (jP (qT (jA (pv 2) (jA (pv 3) jB)))))))),?_⟩
 have er:r=d:=Nat.succ.inj hr1
 subst er
 have dl:(ls.map (·.x)).length=ls.length:=List.length_map _
 refine⟨xL,fun l hl=>?_⟩
 generalize e1:upd H l _=H1
 obtain⟨g1,k1⟩:=jC e1 hl
 have go1:jI (offs xs H) (offs (l::xs) H1):=iS hl g1
 have lx:l ∉ xs:=hA.new hl
 refine⟨_,rfl,fun m σ H'=>∃ (n':Nat) (bs:List Addr) (t1 t2:List Tr) (o4 o5 o6 o7 o8:Option V),m=100 - n'/\σ = [some (.ref a),some (.int (n:Int)),some (.ref l),some (.int (n':Int)),o4,o5,o6,o7,o8]/\But l H1 H'/\H' l=some (.lst (bs.map V.ref))/\jI (offs (l::xs) H1) (offs (l::xs) H')/\LTs K (offs (l::xs) H') bs t1/\ts=t1++t2/\Prs (ls.map (·.x)) n' t2 e/\Dp r t2/\bs.length<=n',⟨_,n,[],[],ts,_,_,_,_,_,rfl,rfl,But.refl,k1,jI.refl _,.nil,rfl,hps,hdp,Nat.zero_le _⟩,fun m σ H' z=>?_⟩
 obtain⟨n',bs,t1,t2,o4,o5,o6,o7,o8,rfl,rfl,g,kl,go,hb,ets,hp2,hd2,han⟩:=z
 have hA':=pQ (aDc (hA.same g1) lx g) kl
 have hao:=(go1.trans go).seq ha
 have ha':=jN.seq hao
 have gH:=But.from g1 hl g
 have stop:∀ {H2:Hp},jI H' H2->t2=[]->n'=e->(2<=sizeLine/\∀ p,H2 p=none->Q (.ref p) (upd H2 p (.tup [.ref l,.int (n':Int)]))):=fun {H2} g2 e1 e2=>by
  refine⟨by decide,fun p hp=>?_⟩
  subst e1
  subst e2
  generalize e5:upd H2 p _=H5
  obtain⟨g5,k5⟩:=jC e5 hp
  have g25:=g2.trans g5
  rw [List.append_nil] at ets
  subst ets
  exact q p l bs H5 (gH.trans g25) (SqT.of k5) (SqL.of (kZ lx (g25 _ _ kl))) ((hb.same (jJ g25)).same (dX fun b hb=>List.mem_cons_of_mem _ hb))
 refine⟨_,rfl,_,rfl,a,_,rfl,.inl ha',_,_,rfl,rfl,_,rfl,qG (fun c=>?_) (fun c=>?_)⟩
 case refine_2 =>
  have c':¬ n' < ls.length:=fun z=>c (decide_eq_true (by rw [List.length_map,dl];omega))
  rcases eC hp2 with⟨e1,e2,_⟩|⟨t,ts',x,rfl,hx,_,_⟩
  ·obtain⟨z1,z2⟩:=stop (jI.refl _) e1 e2
   exact cX ⟨_,rfl,_,rfl,z1,z2⟩
  ·have:=(List.getElem?_eq_some_iff.mp hx).1
   omega
 have c':n' < ls.length:=by have:=of_decide_eq_true c;rw [List.length_map,dl] at this;omega
 obtain⟨y0,hy0⟩ : ∃ y,(ls.map (·.x))[n']?=some y:=⟨_,List.getElem?_eq_getElem (by omega)⟩
 obtain⟨ln,hln,hlt,hxy⟩:=aAa hls hy0
 subst hxy
 have hF:=zS hlt
 have hG:=aFt hlt
 have hx10:=hF.x10
 refine⟨_,rfl,_,rfl,a,_,_,_,rfl,rfl,ha',eH hy0,vQ,fun pt hpt=>?_⟩
 generalize e2:upd H' pt _=H2
 obtain⟨g2,k2⟩:=jC e2 hpt
 have ein:inV (V.str ln.x) [V.str (Str.ofString "else"),V.str (Str.ofString "end")]=decide (ln.x ∈ ([Str.ofString "else",Str.ofString "end"]:List Str)):=kR (x:=ln.x) (ys:=[Str.ofString "else",Str.ofString "end"])
 refine⟨pt,_,rfl,.inr (SqT.of k2),rfl,rfl,_,rfl,?_⟩
 rw [if_pos rfl,ein]
 rcases eC hp2 with⟨e1,e2,hst⟩|⟨t,ts',x,rfl,hx,n1,n2⟩
 ·have hmem:ln.x ∈ ([Str.ofString "else",Str.ofString "end"]:List Str):=by
   rcases hst with hst|⟨x,hx,hxd⟩
   ·omega
   ·rw [hy0] at hx
    cases hx
    rcases hxd with hxd|hxd
    ·rw [hG.xe.mpr hxd];exact List.mem_cons_self ..
    ·rw [hG.xf.mpr hxd];exact List.mem_cons_of_mem _ (List.mem_cons_self ..)
  obtain⟨z1,z2⟩:=stop g2 e1 e2
  exact kQ (by rw [decide_eq_true hmem];decide) ⟨_,rfl,_,rfl,z1,z2⟩
 rw [hy0] at hx
 cases hx
 have hmem:ln.x ∉ ([Str.ofString "else",Str.ofString "end"]:List Str):=fun z=>by
  rcases List.mem_cons.mp z with z|z
  ·exact n1 (hG.xe.mp z)
  ·exact n2 (hG.xf.mp (List.mem_singleton.mp z))
 refine qQ (by rw [decide_eq_false hmem];rfl) ⟨_,fun _ _ h=>h,?_⟩
 obtain⟨wr,ews⟩:=aAg hlt
 refine⟨_,rfl,_,rfl,a,_,_,_,rfl,rfl,g2.seq ha',eH hy0,rfl,_,_,rfl,rfl,rfl,(by rw [sizeLine_eq];omega),fun wa hwa=>?_⟩
 rw [mU hlt,ews]
 generalize e3:upd H2 wa _=H3
 obtain⟨g3,k3⟩:=jC e3 hwa
 refine⟨wa,_,_,_,rfl,rfl,SqL.of k3,at0,?_⟩
 refine⟨_,rfl,dQ,fun p3 hp3=>?_⟩
 generalize e4:upd H3 p3 _=H4
 obtain⟨g4,k4⟩:=jC e4 hp3
 have g04:jI H' H4:=(g2.trans g3).trans g4
 have hA4:=hA'.same g04
 have ein2:inV (V.str (lnW ln.x)) [V.str (Str.ofString "each"),V.str (Str.ofString "span"),V.str (Str.ofString "if")]=decide (lnW ln.x ∈ bE):=kR (x:=lnW ln.x) (ys:=bE)
 refine⟨p3,_,rfl,.inr (SqT.of k4),rfl,rfl,_,rfl,?_⟩
 rw [if_pos rfl,ein2]
 cases hp2 with
 | row hx hd hp =>
  rw [hy0] at hx
  cases hx
  refine qQ (by rw [decide_eq_false (fun z=>by rcases hG.b.mp z with z|z <;> rw [hd] at z <;> cases z)];rfl) ⟨_,rfl,.inl ⟨rfl,_,SqL.of (g04 _ _ kl)⟩,_,rfl,dC,fun p hp'=>?_⟩
  ·generalize e5:upd H4 p _=H5
   obtain⟨g5,k5⟩:=jC e5 hp'
   have g05:=g04.trans g5
   refine⟨l,_,_,rfl,rfl,g05 _ _ kl,(by rw [List.length_map];exact Nat.lt_of_le_of_lt (show bs.length<=60 by omega) (by decide)),?_⟩
   obtain⟨a1,a2,a3,a4⟩:=aL (v:=p) g g05 go hb (LTs.row (aY (hA4.new hp') k5) .nil)
   refine⟨_,rfl,_,_,rfl,rfl,100 - (n' + 1),?_,(n' + 1),bs++[p],t1++[_],_,_,_,_,_,_,rfl,rfl,a1,a2,a3,a4,by rw [ets,List.append_assoc];rfl,hp,eM hd2,by rw [List.length_append,List.length_singleton];omega⟩
   omega
 | @loop _ b _ x y rs' _ hx hd p1 hy hyd p2 =>
  rw [hy0] at hx
  cases hx
  obtain⟨dd,dp1⟩ : ∃ dd,r=dd + 1/\Dp dd rs':=by cases hd2 with|loop h _=>exact⟨_,rfl,h⟩
  obtain⟨rfl,dp1⟩:=dp1
  refine kQ (by rw [decide_eq_true (hG.b.mpr (.inl hd))];decide) ⟨_,rfl,_,rfl,_,_,rfl,rfl,a,n' + 1,b,dd,ls,rs',l::xs,rfl,rfl,dp1,p1,hls,h59,hA4,(jJ g04).seq hao,fun p1' rp as H5 g5 s5 l5 lt5=>⟨p1',_,rfl,s5,rfl,_,_,rfl,_,_,rfl,rfl,xL,fun po hpo=>?_⟩⟩
  ·skip
   have hy10:=(List.getElem?_eq_some_iff.mp hy).1
   have hle:=bR p1
   generalize e6:upd H5 po _=H6
   obtain⟨g6,k6⟩:=jC e6 hpo
   have g06:=g04.trans (g5.trans g6)
   have ha6:SqL K H6 a ((ls.map (·.x)).map V.str):=jN.seq ((jJ (xs:=l::xs) g06).seq hao)
   obtain⟨ly,_,hly,ey⟩:=aAa hls hy
   have hGy:=aFt hly
   have nif:lnW ln.x ≠ "if":=fun z=>by have:=hG.i.mp z;rw [hd] at this;cases this
   rw [← ey] at hyd
   have nel:¬ y = "else":=fun z=>by rw [← ey] at z;have:=hGy.xe.mp z;rw [hyd] at this;cases this
   refine⟨_,rfl,_,rfl,a,_,_,_,rfl,rfl,ha6,eH hy,rfl,_,rfl,kQ (by simpa using nel) ⟨_,rfl,rfl,_,rfl,kQ (by simpa using nif) ⟨_,rfl,.inl ⟨rfl,_,SqL.of (g06 _ _ kl)⟩,_,rfl,_,rfl,_,rfl,dQ,fun p hp'=>?_⟩⟩⟩
   generalize e7:upd H6 p _=H7
   obtain⟨g7,k7⟩:=jC e7 hp'
   have g07:=g06.trans g7
   refine⟨l,_,_,rfl,rfl,g07 _ _ kl,(by rw [List.length_map];exact Nat.lt_of_le_of_lt (show bs.length<=60 by omega) (by decide)),?_⟩
   obtain⟨a1,a2,a3,a4⟩:=aL (v:=p) g g07 go hb (LTs.loop (aY (((hA4.same g5).same g6).new hp') k7) ((jJ (g6.trans g7)).seq l5) (lt5.same (jJ (g6.trans g7))) .nil)
   refine⟨_,rfl,_,_,rfl,rfl,100 - (b + 1),?_,(b + 1),bs++[p],t1++[_],_,_,_,_,_,_,rfl,rfl,a1,a2,a3,a4,by rw [ets,List.append_assoc];rfl,p2,eM hd2,by rw [List.length_append,List.length_singleton];omega⟩
   omega
 | @if1 _ b _ x y rs' _ hx hd p1 hy hyd p2 =>
  rw [hy0] at hx
  cases hx
  obtain⟨dd,dp1⟩ : ∃ dd,r=dd + 1/\Dp dd rs':=by cases hd2 with|ch h _ _=>exact⟨_,rfl,h⟩
  obtain⟨rfl,dp1⟩:=dp1
  refine kQ (by rw [decide_eq_true (hG.b.mpr (.inr hd))];decide) ⟨_,rfl,_,rfl,_,_,rfl,rfl,a,n' + 1,b,dd,ls,rs',l::xs,rfl,rfl,dp1,p1,hls,h59,hA4,(jJ g04).seq hao,fun p1' rp as H5 g5 s5 l5 lt5=>⟨p1',_,rfl,s5,rfl,_,_,rfl,_,_,rfl,rfl,xL,fun po hpo=>?_⟩⟩
  ·skip
   have hy10:=(List.getElem?_eq_some_iff.mp hy).1
   have hle:=bR p1
   generalize e6:upd H5 po _=H6
   obtain⟨g6,k6⟩:=jC e6 hpo
   have g06:=g04.trans (g5.trans g6)
   have ha6:SqL K H6 a ((ls.map (·.x)).map V.str):=jN.seq ((jJ (xs:=l::xs) g06).seq hao)
   obtain⟨ly,_,hly,ey⟩:=aAa hls hy
   have hGy:=aFt hly
   have yif:lnW ln.x = "if":=hG.i.mpr hd
   rw [← ey] at hyd
   have nel:¬ y = "else":=fun z=>by rw [← ey] at z;have:=hGy.xe.mp z;rw [hyd] at this;cases this
   refine⟨_,rfl,_,rfl,a,_,_,_,rfl,rfl,ha6,eH hy,rfl,_,rfl,kQ (by simpa using nel) ⟨_,rfl,rfl,_,rfl,qQ (by rw [yif];decide) ⟨_,rfl,.inl ⟨rfl,_,SqL.of (g06 _ _ kl)⟩,_,rfl,_,rfl,_,rfl,_,rfl,_,rfl,sQ,fun p hp'=>?_⟩⟩⟩
   generalize e7:upd H6 p _=H7
   obtain⟨g7,k7⟩:=jC e7 hp'
   have g07:=g06.trans g7
   refine⟨l,_,_,rfl,rfl,g07 _ _ kl,(by rw [List.length_map];exact Nat.lt_of_le_of_lt (show bs.length<=60 by omega) (by decide)),?_⟩
   obtain⟨a1,a2,a3,a4⟩:=aL (v:=p) g g07 go hb (LTs.ch (m:=none) (cs:=[]) (aY (((hA4.same g5).same g6).new hp') k7) ((jJ (g6.trans g7)).seq l5) (SqL.of (kZ ((hA4.same g5).new hpo) (g7 _ _ k6))) (lt5.same (jJ (g6.trans g7))) .nil .nil)
   refine⟨_,rfl,_,_,rfl,rfl,100 - (b + 1),?_,(b + 1),bs++[p],t1++[_],_,_,_,_,_,_,rfl,rfl,a1,a2,a3,a4,by rw [ets,List.append_assoc];rfl,p2,eM hd2,by rw [List.length_append,List.length_singleton];omega⟩
   omega
 | @if2 _ b c _ x y z' rs' os _ hx hd p1 hy hyd p2 hz hzd p3' =>
  rw [hy0] at hx
  cases hx
  obtain⟨dd,dp1⟩ : ∃ dd,r=dd + 1/\Dp dd rs'/\Dp dd os:=by cases hd2 with|ch h h' _=>exact⟨_,rfl,h,h'⟩
  obtain⟨rfl,dp1,dp2⟩:=dp1
  refine kQ (by rw [decide_eq_true (hG.b.mpr (.inr hd))];decide) ⟨_,rfl,_,rfl,_,_,rfl,rfl,a,n' + 1,b,dd,ls,rs',l::xs,rfl,rfl,dp1,p1,hls,h59,hA4,(jJ g04).seq hao,fun p1' rp as H5 g5 s5 l5 lt5=>⟨p1',_,rfl,s5,rfl,_,_,rfl,_,_,rfl,rfl,xL,fun po hpo=>?_⟩⟩
  ·skip
   have hy10:=(List.getElem?_eq_some_iff.mp hy).1
   have hle:=bR p1
   generalize e6:upd H5 po _=H6
   obtain⟨g6,k6⟩:=jC e6 hpo
   have g06:=g04.trans (g5.trans g6)
   have ha6:SqL K H6 a ((ls.map (·.x)).map V.str):=jN.seq ((jJ (xs:=l::xs) g06).seq hao)
   obtain⟨ly,_,hly,ey⟩:=aAa hls hy
   have hGy:=aFt hly
   have hz10:=(List.getElem?_eq_some_iff.mp hz).1
   have hle2:=bR p2
   have yif:lnW ln.x = "if":=hG.i.mpr hd
   rw [← ey] at hyd
   have yel:y = "else":=by rw [← ey];exact hGy.xe.mpr hyd
   refine⟨_,rfl,_,rfl,a,_,_,_,rfl,rfl,ha6,eH hy,rfl,_,rfl,qQ (by rw [yel];decide) ⟨_,rfl,_,rfl,_,rfl,_,_,rfl,rfl,a,b + 1,c,dd,ls,os,l::xs,rfl,rfl,dp2,p2,hls,h59,(hA4.same g5).same g6,(jJ g06).seq hao,fun p2' rp2 as2 H7 g7 s7 l7 lt7=>⟨p2',_,rfl,s7,rfl,_,_,rfl,_,_,rfl,rfl,_,rfl,rfl,_,rfl,qQ (by rw [yif];decide) ⟨_,rfl,.inl ⟨rfl,_,SqL.of ((g06.trans g7) _ _ kl)⟩,_,rfl,_,rfl,_,rfl,_,rfl,_,rfl,sQ,fun p hp'=>?_⟩⟩⟩⟩
   generalize e8:upd H7 p _=H8
   obtain⟨g8,k8⟩:=jC e8 hp'
   have g08:=(g06.trans g7).trans g8
   refine⟨l,_,_,rfl,rfl,g08 _ _ kl,(by rw [List.length_map];exact Nat.lt_of_le_of_lt (show bs.length<=60 by omega) (by decide)),?_⟩
   obtain⟨a1,a2,a3,a4⟩:=aL (v:=p) g g08 go hb (LTs.ch (m:=some b) (aY ((((hA4.same g5).same g6).same g7).new hp') k8) ((jJ ((g6.trans g7).trans g8)).seq l5) ((jJ g8).seq l7) (lt5.same (jJ ((g6.trans g7).trans g8))) (lt7.same (jJ g8)) .nil)
   refine⟨_,rfl,_,_,rfl,rfl,100 - (c + 1),?_,(c + 1),bs++[p],t1++[_],_,_,_,_,_,_,rfl,rfl,a1,a2,a3,a4,by rw [ets,List.append_assoc];rfl,p3',eM hd2,by rw [List.length_append,List.length_singleton];omega⟩
   omega
theorem rC {k:Nat} (F:Fun K "_law_built" "_law_built" bV f fd) {f_law_cell:Addr} {fd_law_cell:FuncData} (D_law_cell:Df K mg "_law_cell" f_law_cell fd_law_cell ["_law_script","_law_k"]) (G_law_cell:jK P w K mg base CX0 k f_law_cell fd_law_cell ["_law_script","_law_k"] (spLc K)) {f_law_word:Addr} {fd_law_word:FuncData} (D_law_word:Df K mg "_law_word" f_law_word fd_law_word ["_law_box_here","_law_pile"]) (G_law_word:jK P w K mg base CX0 k f_law_word fd_law_word ["_law_box_here","_law_pile"] (spWd K)) {f_law_box:Addr} {fd_law_box:FuncData} (D_law_box:Df K mg "_law_box" f_law_box fd_law_box ["_law_cell_here"]) (G_law_box:jK P w K mg base CX0 k f_law_box fd_law_box ["_law_cell_here"] aIi) {f_law_moved:Addr} {fd_law_moved:FuncData} (D_law_moved:Df K mg "_law_moved" f_law_moved fd_law_moved ["_law_pile","_law_word_here"]) (G_law_moved:jK P w K mg base CX0 k f_law_moved fd_law_moved ["_law_pile","_law_word_here"] (spMv K)):jK P w K mg base CX0 (k + 2) f fd ["_law_script"] (spBu K):=by
 w_cond qN
 ·obtain⟨a,ns,rfl,_⟩:=h;rfl
 obtain⟨a,ns,rfl,hS,q⟩:=h
 walk_at "hr"
 refine⟨_,(jD (kB (i:=1) qN.nd rfl (by walk_at "o") (kG jB))
   (jD (kB (i:=2) qN.nd rfl (by walk_at "o") (kG jB))
   (jD (xX PassesOwn.never rfl (vI (kF vY (kG (jA (jQ G_law_cell hr rfl D_law_cell.m D_law_cell.k D_law_cell.b .nil jT (jA (pv 0) (jA jF jB))) jB)) (qA qJ (pv 0) (qH jF) (qH jF)))) (jV (i:=3) qN.nd rfl (Or.inl rfl)) (jD (kB (i:=4) qN.nd rfl (by walk_at "o") (jQ G_law_word hr rfl D_law_word.m D_law_word.k D_law_word.b .nil jT (jA (jQ G_law_box hr rfl D_law_box.m D_law_box.k D_law_box.b .nil jT (jA (pv 3) jB)) (jA (pv 1) jB))))
   (jD (qD (vW PySem.F.plainAttrs_list PySem.F.slot_list_append PySem.F.type_list_append qM (pv 2) (jA (pv 4) jB)))
   (jD (kB (i:=5) qN.nd rfl (by walk_at "o") (jQ G_law_moved hr rfl D_law_moved.m D_law_moved.k D_law_moved.b .nil jT (jA (pv 1) (jA (pv 4) jB))))
   (jE (kI (jR iF (pv 5) vT (jW _)) (jE (kB (i:=1) qN.nd rfl (by walk_at "o") (pv 5))) jU))))))
   (jD (kB (i:=6) qN.nd rfl (by walk_at "o") (kF qL (jY kA rfl M.len PySem.boot_len (jA (pv 1) jB)) (kK jX (kG (jA jF (jA jF (jA jF (jA (xN vE jF) (jA jF jB kL) se_un) kL) kL) kL)) (kF bT (jQ G_law_cell hr rfl D_law_cell.m D_law_cell.k D_law_cell.b .nil jT (jA (pv 0) (jA jF jB))) jF) (fun _ _=>rfl))))
   (jE (jP (kF vY (pv 2) (kF aKn (kG (jA jO jB)) (jY (nV rfl) rfl M.max boot_max (jA jF (jA (pv 6) jB))))))))))),?_⟩
 refine⟨xL,fun pl hpl=>?_⟩
 generalize e1:upd H pl _=H1
 obtain⟨g1,k1⟩:=jC e1 hpl
 refine⟨xL,fun ll hll=>?_⟩
 generalize e2:upd H1 ll _=H2
 obtain⟨g2,k2⟩:=jC e2 hll
 have hl0:H ll=none:=g1.free hll
 have npl:pl ≠ ll:=fun z=>by rw [z,hll] at k1;cases k1
 have g02:=g1.trans g2
 refine⟨_,rfl,a,ns,1,rfl,g02.seq hS,by decide,by decide,fun v H3 g3=>⟨dC,fun c1 hc1=>?_⟩⟩
 generalize e4:upd H3 c1 _=H4
 obtain⟨g4,k4⟩:=jC e4 hc1
 have g04:=(g02.trans g3).trans g4
 refine⟨_,rfl,_,rfl,_,rfl,a,_,rfl,g04.seq hS,fun c2 hc2=>?_⟩
 generalize e5:upd H4 c2 _=H5
 obtain⟨g5,k5⟩:=jC e5 hc2
 have hcut:=aKw (ns.map V.int)
 refine⟨c1,c2,_,_,rfl,rfl,SqL.of (g5 _ _ k4),SqL.of k5,(by rw [sizeLine_eq];show 1 + _<=_;omega),fun c3 hc3=>?_⟩
 generalize e6:upd H5 c3 _=H6
 obtain⟨g6,k6⟩:=jC e6 hc3
 have g06:=(g04.trans g5).trans g6
 have g26:=((g3.trans g4).trans g5).trans g6
 have nc3:c3 ≠ ll:=fun z=>by rw [z,((g3.trans g4).trans g5) _ _ k2] at hc3;cases hc3
 have hof:∀ {b:Addr} {o:HO} {G:Hp},b ≠ ll->G b=some o->offs [ll] G b=some o:=fun n e=>kZ (fun z=>n (List.mem_singleton.mp z)) e
 have gHo:jI H (offs [ll] H6):=lH hl0 g06
 have hxs:∀ (i:Nat) (x:V),([V.int v]++xJ (ns.map V.int) (some 2) (some 25))[i]?=some x->∃ c,x=.int c:=fun i x hx=>by
  rcases List.mem_append.mp (List.mem_of_getElem? hx) with h|h
  ·exact⟨v,List.mem_singleton.mp h⟩
  ·exact aEh h
 refine⟨c3,rfl,⟨_,SqL.of k6⟩,aD (xs:=[V.int v]++xJ (ns.map V.int) (some 2) (some 25)) (fun j σ H'=>∃ (p:Addr) (st:List Str) (ls:List Ln) (o3 o4 o5 o6:Option V),σ = [some (.ref a),some (.ref p),some (.ref ll),o3,o4,o5,o6]/\jI (offs [ll] H6) (offs [ll] H')/\H' ll=some (.lst ((ls.map (fun x:Ln=>x.x)).map V.str))/\ls.length=j/\(∀ x ∈ ls,x ∈ qS)/\SqL K (offs [ll] H') p (st.map V.str)/\st.length<=3) ⟨pl,[],[],_,_,_,_,rfl,jI.refl _,g26 _ _ k2,rfl,(fun x h=>by cases h),SqL.of (hof npl (g26 _ _ (g2 _ _ k1))),Nat.zero_le _⟩ (fun j σ H' _ z=>?_) (fun j x σ H' hx z=>?_) (fun σ H' z=>?_)⟩
 ·obtain⟨p,st,ls,o3,o4,o5,o6,rfl,go,_⟩:=z
  exact SqL.of (jN _ _ (go _ _ (hof nc3 k6)))
 ·obtain⟨p,st,ls,o3,o4,o5,o6,rfl,go,kl,hj,hls,sp,hst⟩:=z
  obtain⟨c,rfl⟩:=hxs j x hx
  have hj24:j < 24:=by
   have:=(List.getElem?_eq_some_iff.mp hx).1
   rw [List.length_append,List.length_singleton] at this
   omega
  refine⟨_,rfl,c,rfl,fun pb H7 hpb db=>?_⟩
  have g7:=mD db hpb
  have nbl:pb ≠ ll:=fun z=>by rw [z,kl] at hpb;cases hpb
  refine⟨_,rfl,pb,p,st,rfl,db.1,(lH hpb g7).seq (jN.seq sp),fun l H8 hl d8=>?_⟩
  have g8:jI H' H8:=mD (db.trans d8) hpb
  have kl8:=g8 _ _ kl
  refine⟨_,rfl,.inl ⟨rfl,_,SqL.of kl8⟩,_,rfl,ll,_,_,rfl,rfl,kl8,(by rw [List.length_map,List.length_map];exact Nat.lt_of_le_of_lt (show ls.length<=60 by omega) (by decide)),?_⟩
  generalize e9:upd H8 ll _=H9
  have eo:offs [ll] H9=offs [ll] H8:=by rw [← e9];exact mP
  obtain⟨g9,k9⟩:=vB e9
  have go8:jI (offs [ll] H') (offs [ll] H9):=by rw [eo];exact jJ g8
  have k9':H9 ll=some (.lst (((ls++[l]).map (fun x:Ln=>x.x)).map V.str)):=by rw [k9,List.map_append,List.map_append];rfl
  have hls':∀ x ∈ ls++[l],x ∈ qS:=fun x hx=>by
   rcases List.mem_append.mp hx with hx|hx
   ·exact hls x hx
   ·rw [List.mem_singleton.mp hx];exact hl
  have hj':(ls++[l]).length=j + 1:=by rw [List.length_append,hj];rfl
  refine⟨_,rfl,_,rfl,p,st,l,[ll],rfl,hl,(fun b hb=>by rw [List.mem_singleton.mp hb];exact⟨_,k9⟩),go8.seq sp,hst,fun hn H10 g10=>?_,fun st' hs b H10 g10 sb=>?_⟩
  ·exact⟨_,rfl,rfl,_,rfl,kQ (by decide) ⟨p,st,ls++[l],_,_,_,_,rfl,(go.trans go8).trans (jJ g10),g10 _ _ k9',hj',hls',(go8.trans (jJ g10)).seq sp,hst⟩⟩
  ·exact⟨_,rfl,rfl,_,rfl,qQ (by simp) ⟨_,rfl,b,st',ls++[l],_,_,_,_,rfl,(go.trans go8).trans (jJ g10),g10 _ _ k9',hj',hls',sb,rE hst hs⟩⟩
 ·obtain⟨p,st,ls,o3,o4,o5,o6,rfl,go,kl,hj,hls,sp,hst⟩:=z
  rw [List.length_append,List.length_singleton] at hj
  have gH':jI H H':=(gHo.trans go).trans jN
  have sp':=jN.seq sp
  refine⟨_,rfl,p,_,rfl,.inl sp',_,rfl,sQ,fun m hm=>?_⟩
  generalize e7:upd H' m _=H7
  obtain⟨g7,k7⟩:=jC e7 hm
  refine⟨_,rfl,a,ns,0,rfl,(gH'.trans g7).seq hS,by decide,by decide,fun u H8 g8=>?_⟩
  obtain⟨y,y1,y2,hy⟩:=aHd u
  refine⟨_,_,rfl,rfl,(by show (0:Int) < 5;decide),m,_,_,_,rfl,rfl,SqL.of (g8 _ _ k7),hy,_,_,rfl,rfl,?_⟩
  rw [List.length_map]
  refine⟨_,rfl,dC,fun pe hpe=>?_⟩
  generalize e9:upd H8 pe _=H9
  obtain⟨g9,k9⟩:=jC e9 hpe
  have kb:(if (0:Int) < ((st.length:Nat):Int) + y then ((st.length:Nat):Int) + y else 0).toNat<=4:=by split <;> omega
  generalize hkk:(if (0:Int) < ((st.length:Nat):Int) + y then ((st.length:Nat):Int) + y else 0)=kk at kb
  refine⟨_,rfl,_,_,rfl,pe,kk,_,rfl,(by rw [← hkk]),k9,by omega,by omega,(by rw [sizeLine_eq];show 1 * kk.toNat<=_;omega),fun pr hpr=>?_⟩
  rw [aBz]
  generalize e10:upd H9 pr _=H10
  obtain⟨g10,k10⟩:=jC e10 hpr
  have g7x:=((g7.trans g8).trans g9).trans g10
  refine⟨ll,pr,_,_,rfl,rfl,SqL.of (g7x _ _ kl),SqL.of k10,(by rw [List.length_map,List.length_map,List.length_map,List.length_map,List.length_replicate,sizeLine_eq];omega),fun pq hpq=>?_⟩
  generalize e11:upd H10 pq _=H11
  obtain⟨g11,k11⟩:=jC e11 hpq
  refine q pq (ls++List.replicate kk.toNat tI) H11 (gH'.trans (g7x.trans g11)) (fun x hx=>?_) (by rw [List.length_append,List.length_replicate];omega) (fun z=>?_) (by rw [List.map_append,List.map_append];exact k11)
  ·rcases List.mem_append.mp hx with hx|hx
   ·exact hls x hx
   ·rw [List.eq_of_mem_replicate hx];exact aBg
  ·have:=congrArg List.length z
   rw [List.length_append,List.length_nil] at this
   omega
theorem rZ {k:Nat} (F:Fun K "_law_good" "_law_good" cW f fd) {f_law_due:Addr} {fd_law_due:FuncData} (D_law_due:Df K mg "_law_due" f_law_due fd_law_due ["_law_lines"]) (G_law_due:jK P w K mg base CX0 k f_law_due fd_law_due ["_law_lines"] (spDu K)) {f_read_program:Addr} {fd_read_program:FuncData} (D_read_program:Df K mg "read_program" f_read_program fd_read_program ["shapes","text"]) (G_read_program:jK P w K mg base (CXE P w) k f_read_program fd_read_program ["shapes","text"] (spRP (Cl5.mk Va Vb Vc Vd Ve) Vf C_NoProgram C_Program C_Row C_Loop C_Choice K)) {f_law_told:Addr} {fd_law_told:FuncData} (D_law_told:Df K mg "_law_told" f_law_told fd_law_told ["_law_rows"]) (G_law_told:jK P w K mg base CX0 k f_law_told fd_law_told ["_law_rows"] (spTo C_Row C_Loop C_Choice K 4)) {f_law_inner:Addr} {fd_law_inner:FuncData} (D_law_inner:Df K mg "_law_inner" f_law_inner fd_law_inner ["_law_lines","_law_start"]) (G_law_inner:jK P w K mg base CX0 k f_law_inner fd_law_inner ["_law_lines","_law_start"] (aFv K 4)):jK P w K mg base CX0 (k + 2) f fd ["_law_shapes","_law_lines"] (spGd (Cl5.mk Va Vb Vc Vd Ve) Vf K):=by
 w_cond zG
 ·obtain⟨ra,a,z,sa,S,ls,rfl,_⟩:=h;rfl
 obtain⟨ra,a,z,sa,S,ls,rfl,hro,ha,hls,hne,h59,q⟩:=h
 walk_at "hr"
 refine⟨_,(jD (kB (i:=2) zG.nd rfl (by walk_at "o") (jQ G_law_due hr rfl D_law_due.m D_law_due.k D_law_due.b .nil jT (jA (pv 1) jB)))
   (jD (aJn (i:=4) rfl rfl rfl rfl T_NoProgram.m T_NoProgram.x zG.nd rfl rfl (fun _ _ _=>(jE (kB (i:=3) zG.nd rfl (by walk_at "o") (aEk G_read_program hr rfl D_read_program.m D_read_program.k D_read_program.b .nil passT (jA (pv 0) (jA (aEw (K:=K) rfl PySem.F.plainAttrs_str PySem.F.slot_str_join PySem.F.type_str_join (aCf (K:=K) rfl) jO (jA (pv 1) jB)) jB)))))) (fun _=>(jE (jP (qE qF (aDy (K:=K) rfl (pv 4) rfl) (pv 2) (jW _))))))
   (jE (jP (yZ (qE aCy (pv 2) vT (jW _)) (aI (qE (aJy hr.units) (jQ G_law_told hr rfl D_law_told.m D_law_told.k D_law_told.b .nil jT (jA (kH (pv 3) rfl) jB)) (kK aDb (jQ G_law_inner hr rfl D_law_inner.m D_law_inner.k D_law_inner.b .nil jT (jA (pv 1) (jA jF jB))) jF (fun _ _=>rfl)) (jW _)))))))),?_⟩
 have dl:(ls.map (·.x)).length=ls.length:=List.length_map _
 refine⟨_,rfl,a,ls,rfl,ha,hls,h59,fun H1 g1=>?_⟩
 have hsum:((ls.map (·.x)).map (·.length)).sum<=ls.length * 10:=by
  rw [List.map_map]
  exact oR fun l hl=>(zS (hls l hl)).x10
 refine⟨fun σ=>σ = [some (.ref ra),some (.ref a),some (mV (due (ls.map (·.x)) [] 0)),none,none],fun v _ H'=>∃ (e:Addr) (i:Nat),v=.ref e/\due (ls.map (·.x)) [] 0=some i/\jI H H'/\NLx C_NoProgram H' e (.int (i:Nat)),?_,fun σ' e H' hS hW=>?_⟩
 ·refine⟨_,rfl,rfl,_,rfl,_,a,ls.map (·.x),rfl,rfl,g1.seq ha,(by rw [dl];show _ + ls.length * 1<=_;omega),rfl,ra,z,sa,S,ls,rfl,iE hro g1,hls,hne,h59,fun hd p dx rp v1 v3 v4 as ts e H2 g2 ps dp k2 l2 ta2=>?_,fun i hd e H2 g2 he hnl=>⟨e,i,rfl,hd,g1.trans g2,hnl⟩⟩
  have g02:=g1.trans g2
  obtain⟨hbd,hbl⟩:=aKr ps (by rw [dl];omega)
  have hle:=aHe ps (Nat.zero_le _)
  rw [dl] at hle
  refine⟨_,rfl,?_⟩
  rw [hd]
  refine⟨rfl,_,rfl,qQ rfl ⟨_,rfl,p,C_Program,_,_,_,rfl,k2,T_Program.cl,T_Program.na _ (by decide),rfl,rp,as,ts,3,[],rfl,rfl,dp,hbd,(by omega),(fun b hb=>by cases hb),(by rw [xQ];exact l2),(by rw [xQ];exact ta2),fun l3 bs H3 g3 s3 lt3=>⟨_,rfl,a,0,e,3,ls,ts,[],rfl,rfl,dp,ps,hls,h59,(fun b hb=>by cases hb),(by rw [xQ];exact (g02.trans g3).seq ha),fun p4 r4 as4 H4 g4 s4 l4 lt4=>?_⟩⟩⟩
  rw [xQ] at s3 lt3 l4 lt4
  have lt3':=lt3.same g4
  exact⟨p4,_,_,_,rfl,rfl,s4,rfl,l3,r4,_,_,rfl,rfl,g4.seq s3,l4,(by rw [List.length_map,List.length_map,lt3'.len,lt4.len]),aLf dp lt3' lt4,q H4 ((g02.trans g3).trans g4)⟩
 ·subst hS
  obtain⟨e2,i,ee,hd,g,dx',hE,hX⟩:=hW
  cases ee
  refine⟨C_NoProgram,some dx',_,hE,T_NoProgram.x,(by simp),?_⟩
  refine⟨_,rfl,e,C_NoProgram,cRE,f_NoProgram_init,dx',_,_,rfl,.inl hE,hX,T_NoProgram.c,T_NoProgram.n _ (List.mem_singleton.mpr rfl),rfl,_,rfl,?_⟩
  rw [hd]
  refine⟨rfl,?_⟩
  rw [show (decide (V.int ((i:Nat):Int)=mV (some i)))=true from decide_eq_true rfl]
  exact q H' g
theorem aJf {k r:Nat} (hR : 12<=r/\8 * r<=200) (F:Fun K "law" "law" aEv f fd) {f_read_shapes:Addr} {fd_read_shapes:FuncData} (D_read_shapes:Df K mg "read_shapes" f_read_shapes fd_read_shapes ["text"]) (G_read_shapes:jK P w K mg base CX0 k f_read_shapes fd_read_shapes ["text"] (spRd (Cl5.mk Va Vb Vc Vd Ve) Vf K r)) {f_law_built:Addr} {fd_law_built:FuncData} (D_law_built:Df K mg "_law_built" f_law_built fd_law_built ["_law_script"]) (G_law_built:jK P w K mg base CX0 k f_law_built fd_law_built ["_law_script"] (spBu K)) {f_law_good:Addr} {fd_law_good:FuncData} (D_law_good:Df K mg "_law_good" f_law_good fd_law_good ["_law_shapes","_law_lines"]) (G_law_good:jK P w K mg base CX0 k f_law_good fd_law_good ["_law_shapes","_law_lines"] (spGd (Cl5.mk Va Vb Vc Vd Ve) Vf K)):jK P w K mg base CX0 (k + 2) f fd ["_law_script"] (aAs K):=by
 w_cond oS
 ·obtain⟨a,ns,rfl,_⟩:=h;rfl
 obtain⟨a,ns,rfl,hS,hlen,q⟩:=h
 walk_at "hr"
 refine⟨_,(PSx.h (yL (iP (kB (i:=1) oS.nd rfl (by walk_at "o") (jQ G_read_shapes hr rfl D_read_shapes.m D_read_shapes.k D_read_shapes.b .nil jT (jA jO jB))))
   (yL (iP (kB (i:=2) oS.nd rfl (by walk_at "o") (jQ G_law_built hr rfl D_law_built.m D_law_built.k D_law_built.b .nil jT (jA (pv 0) jB))))
   (yL (iP (xX PassesOwn.never rfl (vI (kG (jA (pv 2) (jA (qA qJ (pv 2) qO (qH (xN vE jF))) (jA (kF vY (kF vY (kG (jA jO jB)) (pv 2)) (kG (jA jO jB))) (jA (kF vY (kG (jA jO jB)) (pv 2)) (jA (kF vY (pv 2) (kG (jA jO jB))) (jA (qA qJ (pv 2) (qH jF) qO) jB oP) wB) wB) wB) oP) kY))) (jV (i:=3) oS.nd rfl (Or.inl rfl)) (jE (kI (PW.pt (xG (jR (aF hr.units) (pv 3) (kG jB) (jW _)) (vK (yI (vU (jQ G_law_good hr rfl D_law_good.m D_law_good.k D_law_good.b .nil jT (jA (pv 1) (jA (pv 3) jB)))))))) (jE (jP aDz)) jU))))
   (iM (dR (vV (jQ G_law_good hr rfl D_law_good.m D_law_good.k D_law_good.b .nil jT (jA (pv 1) (jA (kG (jA jO (jA jO (jA jO (jA jO (jA jO (jA jO (jA jO jB kL) kL) kL) kL) kL) kL) kL)) jB)))))))))),?_⟩
 refine⟨shS,aKj,aIy,(by unfold shS;simp),hR.1,hR.2,fun ra dx t sa H1 g1 kr kt sw=>?_⟩
 obtain⟨sa0,z,rfl⟩ : ∃ sa0 z,sa=sa0++[z]:=by
  rcases List.eq_nil_or_concat sa with rfl|⟨s0,z,e⟩
  ·exact absurd sw.1 (by unfold shS;simp)
  ·exact⟨s0,z,by rw [e,List.concat_eq_append]⟩
 have hro:RO (Cl5.mk Va Vb Vc Vd Ve) Vf K H1 ra (sa0++[z]) shS:=⟨dx,t,kr,kt,sw⟩
 refine⟨_,rfl,a,ns,rfl,g1.seq hS,fun l ls H2 g2 hls h40 hne kl=>?_⟩
 have hap:∀ {xs:List Ln},(∀ x ∈ xs,x ∈ qS)->∀ {ys:List Ln},(∀ x ∈ ys,x ∈ qS)->∀ x ∈ xs++ys,x ∈ qS:=fun h1 _ h2 x hx=>(List.mem_append.mp hx).elim (h1 x) (h2 x)
 have ht1:∀ i:Nat,∀ x ∈ [eG i],x ∈ qS:=fun i x hx=>by rw [List.mem_singleton.mp hx];exact tb_mem i
 refine⟨_,rfl,_,rfl,_,rfl,_,rfl,l,_,rfl,SqL.of kl,fun p1 hp1=>?_⟩
 rw [aFy]
 generalize e3:upd H2 p1 _=H3
 obtain⟨g3,m1⟩:=jC e3 hp1
 have kl3:=g3 _ _ kl
 refine⟨dC,fun q1 hq1=>?_⟩
 generalize e4:upd H3 q1 _=H4
 obtain⟨g4,n1⟩:=jC e4 hq1
 refine⟨_,rfl,q1,l,_,_,rfl,rfl,SqL.of n1,SqL.of (g4 _ _ kl3),(by rw [List.length_map,List.length_map,sizeLine_eq];show 1 + ls.length<=_;omega),fun q2 hq2=>?_⟩
 generalize e5:upd H4 q2 _=H5
 obtain⟨g5,n2⟩:=jC e5 hq2
 refine⟨dC,fun q3 hq3=>?_⟩
 generalize e6:upd H5 q3 _=H6
 obtain⟨g6,n3⟩:=jC e6 hq3
 refine⟨q2,q3,_,_,rfl,rfl,SqL.of (g6 _ _ n2),SqL.of n3,(by rw [List.length_append,List.length_map,List.length_map,sizeLine_eq];show 1 + ls.length + 1<=_;omega),fun p3 hp3=>?_⟩
 generalize e7:upd H6 p3 _=H7
 obtain⟨g7,m3⟩:=jC e7 hp3
 have g37:=((g4.trans g5).trans g6).trans g7
 refine⟨dC,fun q4 hq4=>?_⟩
 generalize e8:upd H7 q4 _=H8
 obtain⟨g8,n4⟩:=jC e8 hq4
 have kl8:=(g37.trans g8) _ _ kl3
 refine⟨_,rfl,q4,l,_,_,rfl,rfl,SqL.of n4,SqL.of kl8,(by rw [List.length_map,List.length_map,sizeLine_eq];show 1 + ls.length<=_;omega),fun p4 hp4=>?_⟩
 generalize e9:upd H8 p4 _=H9
 obtain⟨g9,m4⟩:=jC e9 hp4
 refine⟨_,rfl,dC,fun q5 hq5=>?_⟩
 generalize e10:upd H9 q5 _=H10
 obtain⟨g10,n5⟩:=jC e10 hq5
 have kl10:=(g9.trans g10) _ _ kl8
 refine⟨l,q5,_,_,rfl,rfl,SqL.of kl10,SqL.of n5,(by rw [List.length_map,List.length_map,sizeLine_eq];show ls.length + 1<=_;omega),fun p5 hp5=>?_⟩
 generalize e11:upd H10 p5 _=H11
 obtain⟨g11,m5⟩:=jC e11 hp5
 have kl11:=g11 _ _ kl10
 refine⟨_,rfl,_,rfl,l,_,rfl,SqL.of kl11,fun p6 hp6=>?_⟩
 rw [show xJ ((ls.map (fun x:Ln=>x.x)).map V.str) (some 1) none=((ls.map (fun x:Ln=>x.x)).map V.str).drop 1 from cutA _ 1]
 generalize e12:upd H11 p6 _=H12
 obtain⟨g12,m6⟩:=jC e12 hp6
 refine⟨(by show 6<=sizeLine;decide),fun L hL=>?_⟩
 generalize e13:upd H12 L _=H13
 obtain⟨g13,k13⟩:=jC e13 hL
 have gb:=(g12.trans g13)
 have ga:=(g11.trans gb)
 have g913:=(g10.trans ga)
 have g713:=(g8.trans g9).trans g913
 have g313:=g37.trans g713
 have hall:∀ (i:Nat) (x:V),[V.ref l,.ref p1,.ref p3,.ref p4,.ref p5,.ref p6][i]?=some x->aAn K H13 x:=fun i x hx=>by
  have hm:=List.mem_of_getElem? hx
  simp only [List.mem_cons,List.not_mem_nil,or_false] at hm
  rcases hm with rfl|rfl|rfl|rfl|rfl|rfl
  ·exact⟨l,ls,rfl,SqL.of (gb _ _ kl11),hls,by omega⟩
  ·exact⟨p1,ls.dropLast,rfl,by rw [List.map_dropLast];exact SqL.of (g313 _ _ m1),fun x hx=>hls x (List.dropLast_subset _ hx),by rw [List.length_dropLast];omega⟩
  ·exact⟨p3,[eG 4]++ls++[eG 7],rfl,by rw [List.map_append,List.map_append,List.map_append,List.map_append];exact SqL.of (g713 _ _ m3),hap (hap (ht1 4) hls) (ht1 7),by rw [List.length_append,List.length_append];show 1 + ls.length + 1<=_;omega⟩
  ·exact⟨p4,[eG 2]++ls,rfl,by rw [List.map_append,List.map_append];exact SqL.of (g913 _ _ m4),hap (ht1 2) hls,by rw [List.length_append];show 1 + ls.length<=_;omega⟩
  ·exact⟨p5,ls++[eG 6],rfl,by rw [List.map_append,List.map_append];exact SqL.of (gb _ _ m5),hap hls (ht1 6),by rw [List.length_append];show ls.length + 1<=_;omega⟩
  ·exact⟨p6,ls.drop 1,rfl,by rw [List.map_drop,List.map_drop];exact SqL.of (g13 _ _ m6),fun x hx=>hls x (List.mem_of_mem_drop hx),by rw [List.length_drop];omega⟩
 have g1x:jI H1 H13:=(g2.trans g3).trans g313
 refine⟨L,rfl,⟨_,SqL.of k13⟩,aD (xs:=[V.ref l,.ref p1,.ref p3,.ref p4,.ref p5,.ref p6]) (fun j σ H'=>∃ o3,σ = [some (.ref a),some (.ref ra),some (.ref l),o3]/\jI H13 H') ⟨_,rfl,jI.refl _⟩ (fun j σ H' _ z=>?_) (fun j x σ H' hx z=>?_) (fun σ H' z=>?_)⟩
 ·obtain⟨o3,rfl,g⟩:=z
  exact SqL.of (g _ _ k13)
 ·obtain⟨o3,rfl,g⟩:=z
  obtain⟨b,ls',rfl,sb,hls',h59⟩:=(hall j x hx).same g
  refine⟨_,rfl,xL,fun e he=>?_⟩
  generalize e14:upd H' e _=H14
  obtain⟨g14,k14⟩:=jC e14 he
  refine⟨b,e,_,rfl,rfl,g14.seq sb,SqL.of k14,_,rfl,qG (fun c=>?_) (fun c=>cX ⟨_,rfl,g.trans g14⟩)⟩
  have hne':ls' ≠ []:=fun z=>by rw [z] at c;exact absurd c (by decide)
  exact⟨_,rfl,_,rfl,ra,b,z,sa0,shS,ls',rfl,iE hro (g1x.trans (g.trans g14)),g14.seq sb,hls',hne',h59,fun H15 g15=>⟨_,rfl,kQ (by decide) ⟨_,rfl,g.trans (g14.trans g15)⟩⟩⟩
 ·obtain⟨o3,rfl,g⟩:=z
  refine⟨_,rfl,(by show 7<=sizeLine;decide),fun e he=>?_⟩
  generalize e14:upd H' e _=H14
  obtain⟨g14,k14⟩:=jC e14 he
  exact⟨ra,e,z,sa0,shS,aAu,rfl,iE hro (g1x.trans (g.trans g14)),SqL.of k14,aEy,(by unfold aAu;simp),(by decide),fun H15 g15=>q H15⟩
end
end K31
namespace K31
open PySem L2 PyProof.Rows
set_option hygiene false in
local macro_rules | `(tactic| walk_at "sc") => `(tactic| exact ⟨rfl, rfl, rfl, by decide +kernel, rfl, by decide +kernel, by decide +kernel⟩)
set_option hygiene false in
local macro_rules | `(tactic| walk_at "hr") => `(tactic| have hr := hr0.mono (Nat.le_succ _))
set_option hygiene false in
local macro_rules | `(tactic| walk_at "b1") => `(tactic| exact fun _ _ _ _ _ _ us hl => by obtain ⟨a0, rfl⟩ := ls1 hl; rfl)
set_option hygiene false in
local macro_rules | `(tactic| walk_at "b2") => `(tactic| exact fun _ _ _ _ _ _ us hl => by obtain ⟨a0, a1, rfl⟩ := ls2 hl; rfl)
set_option hygiene false in
local macro_rules | `(tactic| walk_at "b3") => `(tactic| exact fun _ _ _ _ _ _ us hl => by obtain ⟨a0, a1, a2, rfl⟩ := ls3 hl; rfl)
set_option hygiene false in
local macro_rules | `(tactic| walk_at "b4") => `(tactic| exact fun _ _ _ _ _ _ us hl => by obtain ⟨a0, a1, a2, a3, rfl⟩ := ls4 hl; rfl)
set_option hygiene false in
local macro_rules | `(tactic| walk_at "b5") => `(tactic| exact fun _ _ _ _ _ _ us hl => by obtain ⟨a0, a1, a2, a3, a4, rfl⟩ := ls5 hl; rfl)
set_option hygiene false in
local macro_rules | `(tactic| walk_at "b7") => `(tactic| exact fun _ _ _ _ _ _ us hl => by obtain ⟨a0, a1, a2, a3, a4, a5, a6, rfl⟩ := ls7 hl; rfl)
set_option hygiene false in
local macro_rules | `(tactic| walk_at "o") => `(tactic| first | exact Or.inl rfl | exact Or.inr rfl)
set_option hygiene false in
local macro_rules | `(tactic| w_cond $s:ident) => `(tactic| (obtain ⟨M, C, Ua, Ub, Uc, Ud, Ue, Uf, T_Row, T_Loop, T_Choice, T_Program, tRE, VI, T_NoProgram, T_TooMuch⟩ := Z; first | refine F.ok $s (fun vs H Q E h => ?_) (fun cdv A outer s0 H vs Q E hr0 h => ?_) | refine F.okE $s (fun vs H Q E h => ?_) (fun cdv A outer s0 H vs Q E hr0 h => ?_)))
theorem ls1 {us:List Value} (h:us.length=1):∃ a0,us=[a0]:=by
 cases us with
 | nil=>cases h
 | cons a0 us =>
  cases us with
  | nil=>exact⟨a0,rfl⟩
  | cons _ us=>simp only [List.length_cons] at h;omega
theorem ls2 {us:List Value} (h:us.length=2):∃ a0 a1,us=[a0,a1]:=by
 cases us with
 | nil=>cases h
 | cons a0 us =>
  cases us with
  | nil=>cases h
  | cons a1 us =>
   cases us with
   | nil=>exact⟨a0,a1,rfl⟩
   | cons _ us=>simp only [List.length_cons] at h;omega
theorem ls3 {us:List Value} (h:us.length=3):∃ a0 a1 a2,us=[a0,a1,a2]:=by
 cases us with
 | nil=>cases h
 | cons a0 us =>
  cases us with
  | nil=>cases h
  | cons a1 us =>
   cases us with
   | nil=>cases h
   | cons a2 us =>
    cases us with
    | nil=>exact⟨a0,a1,a2,rfl⟩
    | cons _ us=>simp only [List.length_cons] at h;omega
theorem ls4 {us:List Value} (h:us.length=4):∃ a0 a1 a2 a3,us=[a0,a1,a2,a3]:=by
 cases us with
 | nil=>cases h
 | cons a0 us =>
  cases us with
  | nil=>cases h
  | cons a1 us =>
   cases us with
   | nil=>cases h
   | cons a2 us =>
    cases us with
    | nil=>cases h
    | cons a3 us =>
     cases us with
     | nil=>exact⟨a0,a1,a2,a3,rfl⟩
     | cons _ us=>simp only [List.length_cons] at h;omega
theorem ls5 {us:List Value} (h:us.length=5):∃ a0 a1 a2 a3 a4,us=[a0,a1,a2,a3,a4]:=by
 cases us with
 | nil=>cases h
 | cons a0 us =>
  cases us with
  | nil=>cases h
  | cons a1 us =>
   cases us with
   | nil=>cases h
   | cons a2 us =>
    cases us with
    | nil=>cases h
    | cons a3 us =>
     cases us with
     | nil=>cases h
     | cons a4 us =>
      cases us with
      | nil=>exact⟨a0,a1,a2,a3,a4,rfl⟩
      | cons _ us=>simp only [List.length_cons] at h;omega
theorem ls7 {us:List Value} (h:us.length=7):∃ a0 a1 a2 a3 a4 a5 a6,us=[a0,a1,a2,a3,a4,a5,a6]:=by
 cases us with
 | nil=>cases h
 | cons a0 us =>
  cases us with
  | nil=>cases h
  | cons a1 us =>
   cases us with
   | nil=>cases h
   | cons a2 us =>
    cases us with
    | nil=>cases h
    | cons a3 us =>
     cases us with
     | nil=>cases h
     | cons a4 us =>
      cases us with
      | nil=>cases h
      | cons a5 us =>
       cases us with
       | nil=>cases h
       | cons a6 us =>
        cases us with
        | nil=>exact⟨a0,a1,a2,a3,a4,a5,a6,rfl⟩
        | cons _ us=>simp only [List.length_cons] at h;omega
theorem mO {P:Program} {w:World} {K:Frag} {mg:Str->Option Value} {base:Heap} {CX:CXT} {j k:Nat} {f:Addr} {fd:FuncData} {ps:List Str} {sp:Sp} (h:jK P w K mg base CX j f fd ps sp) (hk:j<=k:=by decide):jK P w K mg base CX k f fd ps sp:=jK.mono h hk
structure FG (K:Frag) (n:Str) (s:Stmt) (f:Addr):Prop where
 a:nsIn K mainGlobals n=some (some (.ref f))
 l:∃ fd,Fun K n n s f fd
structure FM (K:Frag) (C:Addr) (n q:Str) (s:Stmt) (f:Addr):Prop where
 a:findIn K (.ref C) n=some (some (.ref f))
 i:isFn K (.ref f)=true
 l:∃ fd,Fun K n q s f fd
structure CK (K:Frag) (n:Str) (C:Addr) (as:List Str):Prop where
 g:nsIn K mainGlobals n=some (some (.ref C))
 c:Cls K C
 m:PySem.W.makesIn K C=true
 k:keepIn K (.ref C)=true
 n:∀ a ∈ as,yV K C a
section
variable {K:Frag} {h:Heap} {mg:Str->Option Value} {n q:Str} {s:Stmt} {f C:Addr} {as:List Str}
theorem FG.o (X:K.In h) (G:h.Ns mainGlobals mg) (A:FG K n s f) (ps:List Str) (b:∀ (kV doc pm:Value) (an:Option Addr) (cdv ct:Value) (us:List Value),us.length=ps.length->bindArgs (fnOf n n (aZ s) (yB s) (jG s) .none kV doc pm an cdv ct) ⟨us,[]⟩=pure (ps.zip us)):∃ fd,Fun K n n s f fd/\Df K mg n f fd ps:=A.l.elim fun fd F=>⟨fd,F,mg_of X G A.a,F.kp,F.binds b⟩
theorem FM.o (A:FM K C n q s f) (ps:List Str) (b:∀ (kV doc pm:Value) (an:Option Addr) (cdv ct:Value) (us:List Value),us.length=ps.length->bindArgs (fnOf n q (aZ s) (yB s) (jG s) .none kV doc pm an cdv ct) ⟨us,[]⟩=pure (ps.zip us)):∃ fd,Fun K n q s f fd/\DfM K C n f fd ps:=A.l.elim fun fd F=>⟨fd,F,⟨A.a,A.i,F.kp⟩,F.binds b⟩
theorem FM.j (A:FM K C n q s f) (ps:List Str) (b:∀ (kV doc pm:Value) (an:Option Addr) (cdv ct:Value) (us:List Value),us.length=ps.length->bindArgs (fnOf n q (aZ s) (yB s) (jG s) .none kV doc pm an cdv ct) ⟨us,[]⟩=pure (ps.zip us)):∃ fd,Fun K n q s f fd/\DfI K fd ps:=A.l.elim fun fd F=>⟨fd,F,⟨F.binds b⟩⟩
theorem CK.o (X:K.In h) (G:h.Ns mainGlobals mg) (A:CK K n C as) (I:FM K C "__init__" q s f):lJ K mg n C f as:=⟨mg_of X G A.g,A.c,⟨A.m,I.a,I.i,A.k⟩,A.n⟩
theorem na0:∀ a ∈ ([]:List Str),yV K C a:=fun _ h=>nomatch h
theorem na1 (h:findIn K (.ref C) n=some none) (r:∀ a ∈ as,yV K C a):∀ a ∈ n::as,yV K C a:=fun a m=>(List.mem_cons.mp m).elim (fun e=>e▸h) (r a)
end
set_option autoImplicit true in
set_option relaxedAutoImplicit true in
theorem all_mk {l:PySem.W.OpenLaw} {w:World} {K:Frag} {h:Heap} {mg:Str->Option Value} {fa Va Vb Vc Vd Ve Vf C_Row C_Loop C_Choice C_Program cRE C_NoProgram C_TooMuch:Addr} (X:K.In h) (G:h.Ns mainGlobals mg) (hfa:mg "law" = some (.ref fa))
   {t1 t2 t3 t4 t5 t6 t7 t8 t9 t10 t11 t12 t13 t14 t15 t16 t17 u0 u1 u2 u3 u4 u5 u6 u7 u8 u9 u10 u11 u12 u13 u14 u15 u16 u17 u18 u19 u20 u21 u22:Tok} {ts tNa tSi tBe tFo:Addr} {odt:Option Addr} {nt:Nat} {slt:Array (Option Value)} {fa0 ga0 fa1 ga1 fa2 ga2 fa3 ga3 fa4 ga4 fa5 ga5 fa6 ga6 fa7 ga7 fa8 ga8 fa9 ga9 fa10 ga10 fa11 ga11 fa12 ga12 fa13 ga13 fa14 ga14 fa15 ga15 fa16 ga16:Addr} {y1_0 y1_1 y1_2 y1_3 y1_4:Tok} {oz1:Option Addr} {nn_1:Nat} {sl_1:Array (Option Value)} {y2_0 y2_1 y2_2 y2_3 y2_4 y2_5:Tok} {oz2:Option Addr} {nn_2:Nat} {sl_2:Array (Option Value)} {y3_0 y3_1 y3_2:Tok} {oz3:Option Addr} {nn_3:Nat} {sl_3:Array (Option Value)} {oz4:Option Addr} {nn_4:Nat} {sl_4:Array (Option Value)} {y5_0:Tok} {oz5:Option Addr} {nn_5:Nat} {sl_5:Array (Option Value)} {y6_0 y6_1 y6_2:Tok} {oz6:Option Addr} {nn_6:Nat} {sl_6:Array (Option Value)} {y7_0:Tok} {oz7:Option Addr} {nn_7:Nat} {sl_7:Array (Option Value)} {y8_0 y8_1 y8_2:Tok} {oz8:Option Addr} {nn_8:Nat} {sl_8:Array (Option Value)} {y9_0:Tok} {oz9:Option Addr} {nn_9:Nat} {sl_9:Array (Option Value)} {y10_0 y10_1 y10_2 y10_3 y10_4:Tok} {oz10:Option Addr} {nn_10:Nat} {sl_10:Array (Option Value)} {y11_0:Tok} {oz11:Option Addr} {nn_11:Nat} {sl_11:Array (Option Value)} {y12_0 y12_1 y12_2 y12_3 y12_4:Tok} {oz12:Option Addr} {nn_12:Nat} {sl_12:Array (Option Value)} {y13_0:Tok} {oz13:Option Addr} {nn_13:Nat} {sl_13:Array (Option Value)} {y14_0 y14_1 y14_2 y14_3:Tok} {oz14:Option Addr} {nn_14:Nat} {sl_14:Array (Option Value)} {y15_0:Tok} {oz15:Option Addr} {nn_15:Nat} {sl_15:Array (Option Value)} {y16_0 y16_1 y16_2 y16_3 y16_4:Tok} {oz16:Option Addr} {nn_16:Nat} {sl_16:Array (Option Value)} {y17_0:Tok} {oz17:Option Addr} {nn_17:Nat} {sl_17:Array (Option Value)} {y18_0 y18_1 y18_2 y18_3:Tok} {oz18:Option Addr} {nn_18:Nat} {sl_18:Array (Option Value)} {y19_0:Tok} {oz19:Option Addr} {nn_19:Nat} {sl_19:Array (Option Value)} {y20_0 y20_1 y20_2:Tok} {oz20:Option Addr} {nn_20:Nat} {sl_20:Array (Option Value)} {y21_0:Tok} {oz21:Option Addr} {nn_21:Nat} {sl_21:Array (Option Value)} {y22_0 y22_1 y22_2:Tok} {oz22:Option Addr} {nn_22:Nat} {sl_22:Array (Option Value)} {y23_0:Tok} {oz23:Option Addr} {nn_23:Nat} {sl_23:Array (Option Value)} {y24_0 y24_1:Tok} {oz24:Option Addr} {nn_24:Nat} {sl_24:Array (Option Value)} {y25_0:Tok} {oz25:Option Addr} {nn_25:Nat} {sl_25:Array (Option Value)} {y26_0 y26_1 y26_2:Tok} {oz26:Option Addr} {nn_26:Nat} {sl_26:Array (Option Value)} {y27_0:Tok} {oz27:Option Addr} {nn_27:Nat} {sl_27:Array (Option Value)} {y28_0 y28_1:Tok} {oz28:Option Addr} {nn_28:Nat} {sl_28:Array (Option Value)} {y29_0:Tok} {oz29:Option Addr} {nn_29:Nat} {sl_29:Array (Option Value)} {y30_0 y30_1:Tok} {oz30:Option Addr} {nn_30:Nat} {sl_30:Array (Option Value)} {y31_0:Tok} {oz31:Option Addr} {nn_31:Nat} {sl_31:Array (Option Value)} {y32_0 y32_1 y32_2 y32_3:Tok} {oz32:Option Addr} {nn_32:Nat} {sl_32:Array (Option Value)} {y33_0:Tok} {oz33:Option Addr} {nn_33:Nat} {sl_33:Array (Option Value)} {y34_0 y34_1:Tok} {oz34:Option Addr} {nn_34:Nat} {sl_34:Array (Option Value)} {y35_0:Tok} {oz35:Option Addr} {nn_35:Nat} {sl_35:Array (Option Value)} {y36_0:Tok} {oz36:Option Addr} {nn_36:Nat} {sl_36:Array (Option Value)} {y37_0:Tok} {oz37:Option Addr} {nn_37:Nat} {sl_37:Array (Option Value)} {y38_0:Tok} {oz38:Option Addr} {nn_38:Nat} {sl_38:Array (Option Value)} {xn0 xq0:Str} {xN0:Addr} {xb0 xs0:List Value} {xl0:List Str} {xa0:Bool} {xc0:Option Bool} {xd0:Option Addr} {x00 x10 x20 x30 x50:Option Value} {xn1 xq1:Str} {xN1:Addr} {xb1 xs1:List Value} {xl1:List Str} {xa1:Bool} {xc1:Option Bool} {xd1:Option Addr} {x01 x11 x21 x31 x51:Option Value} {xn2 xq2:Str} {xN2:Addr} {xb2 xs2:List Value} {xl2:List Str} {xa2:Bool} {xc2:Option Bool} {xd2:Option Addr} {x02 x12 x22 x32 x52:Option Value}
 (cNum:CK K "Num" Va ["width"])
 (cNested:CK K "Nested" Vb ["shape"])
 (cMany:CK K "Many" Vc ["count","kind"])
 (cPick:CK K "Pick" Vd ["shapes"])
 (cShape:CK K "Shape" Ve ["name","fields"])
 (cShapes:CK K "Shapes" Vf ["shapes"])
 (cRow:CK K "Row" C_Row ["line","deed","goal","reads","steps","number"])
 (cLoop:CK K "Loop" C_Loop ["line","last","deed","goal","reads","rows"])
 (cChoice:CK K "Choice" C_Choice ["line","last","middle","reads","rows","others"])
 (cProgram:CK K "Program" C_Program ["shapes","rows","named","written"])
  (g_RoomError:nsIn K mainGlobals "RoomError" = some (some (.ref cRE)))
  (g_NoProgram:nsIn K mainGlobals "NoProgram" = some (some (.ref C_NoProgram)))
  (g_TooMuch:nsIn K mainGlobals "TooMuch" = some (some (.ref C_TooMuch)))
 (a0:FM K cRE "__init__" "RoomError.__init__" xK f0)
 (a1:FM K C_TooMuch "__init__" "TooMuch.__init__" yP f1)
 (a2:FM K C_NoProgram "__init__" "NoProgram.__init__" xI f2)
 (a3:FG K "is_name" eZ f3)
 (a4:FG K "is_text_of" aX f4)
 (a5:FG K "number_in" bP f5)
 (a6:FG K "bound_of" dB f6)
 (a7:FG K "joined" iW f7)
 (a8:FM K Vb "units_at" "Kind.units_at" xS f8)
 (a9:FM K Va "__init__" "Num.__init__" cY f9)
 (a10:FM K Va "size" "Num.size" dF f10)
 (a11:FM K Va "depth" "Num.depth" cF f11)
 (a12:FM K Va "units_at" "Num.units_at" yU f12)
 (a13:FM K Vb "__init__" "Nested.__init__" zR f13)
 (a14:FM K Vb "size" "Nested.size" zW f14)
 (a15:FM K Vb "depth" "Nested.depth" yW f15)
 (a16:FM K Vb "parted" "Nested.parted" xZ f16)
 (a17:FM K Vc "__init__" "Many.__init__" bI f17)
 (a18:FM K Vc "size" "Many.size" cH f18)
 (a19:FM K Vc "depth" "Many.depth" aQ f19)
 (a20:FM K Vc "parted" "Many.parted" zQ f20)
 (a21:FM K Vd "__init__" "Pick.__init__" bL f21)
 (a22:FM K Vd "size" "Pick.size" bU f22)
 (a23:FM K Vd "greatest" "Pick.greatest" xW f23)
 (a24:FM K Vd "depth" "Pick.depth" aN f24)
 (a25:FM K Vd "units_at" "Pick.units_at" xR f25)
 (a26:FM K Ve "__init__" "Shape.__init__" aT f26)
 (a27:FM K Ve "size" "Shape.size" aK f27)
 (a28:FM K Ve "depth" "Shape.depth" zV f28)
 (a29:FM K Ve "units" "Shape.units" zU f29)
 (a30:FM K Vf "__init__" "Shapes.__init__" zJ f30)
 (a31:FM K Vf "main" "Shapes.main" zL f31)
 (a32:FM K C_Row "__init__" "Row.__init__" dH f32)
 (a33:FM K C_Loop "__init__" "Loop.__init__" bY f33)
 (a34:FM K C_Choice "__init__" "Choice.__init__" zT f34)
 (a35:FM K C_Program "__init__" "Program.__init__" yX f35)
 (a36:FG K "read_program" yQ f36)
 (a37:FG K "lines_in" cV f37)
 (a38:FG K "form_of" fU f38)
 (a39:FG K "fits" uH f39)
 (a40:FG K "need_standing" yA f40)
 (a41:FG K "begun_behind" yS f41)
 (a42:FG K "row_in" lB f42)
 (a43:FG K "steps_in" lF f43)
 (a44:FG K "names_in" dM f44)
 (a45:FG K "unlike" lY f45)
 (a46:FG K "rows_from" bX f46)
 (a47:FG K "line_behind" zM f47)
 (a48:FG K "whole_row" bZ f48)
 (a49:FG K "read_shapes" zI f49)
 (a50:FG K "is_shape_line" xY f50)
 (a51:FG K "is_field_line" xT f51)
 (a52:FG K "is_kind" gB f52)
 (a53:FG K "is_single" bQ f53)
 (a54:FG K "need_new_shape" xH f54)
 (a55:FG K "need_field" aU f55)
 (a56:FG K "shapes_named" zA f56)
 (a57:FG K "whole_shapes" yK f57)
 (a58:FG K "with_field" aP f58)
 (a59:FG K "kind_in" fE f59)
 (a60:FG K "is_too_much" zK f60)
 (a61:FG K "_law_cell" dN f61)
 (a62:FG K "_law_mixed" cA f62)
 (a63:FG K "_law_box" fK f63)
 (a64:FG K "_law_take" dD f64)
 (a65:FG K "_law_word" cZ f65)
 (a66:FG K "_law_moved" bS f66)
 (a67:FG K "_law_built" bV f67)
 (a68:FG K "_law_due" fP f68)
 (a69:FG K "_law_inner" bO f69)
 (a70:FG K "_law_told" dL f70)
 (a71:FG K "_law_good" cW f71)
 (a72:FG K "law" aEv f72)
  (xo_RoomError:K.lookup cRE=some (fS xn0 xq0 cRE xN0 xb0 VB true xl0 xs0 xa0 xc0 xd0 x00 x10 x20 x30 x50))
  (xk_RoomError:keepIn K (.ref cRE)=true)
  (xr:PySem.W.readsIn K cRE (.type "type")=true)
  (xf:PySem.W.findCls K (.ref cRE) (.type "type") "__init__" = some (.val (.ref f0)))
  (xp:PySem.W.specialIn K (.ref cRE) "__getattribute__" = some (some (.builtin "type.__getattribute__")))
  (xo_NoProgram:K.lookup C_NoProgram=some (fS xn1 xq1 C_NoProgram xN1 xb1 (.ref cRE::VB) true xl1 xs1 xa1 xc1 xd1 x01 x11 x21 x31 x51))
  (xk_NoProgram:keepIn K (.ref C_NoProgram)=true)
  (xn_NoProgram:PySem.W.nsOkIn K xN1=true)
  (xi_NoProgram:nsIn K xN1 "__init__" = some (some (.ref f2)))
  (xs_NoProgram:findIn K (.ref C_NoProgram) "__setattr__" = some (some (.builtin "object.__setattr__")))
  (xg_NoProgram:findIn K (.ref C_NoProgram) "__getattribute__" = some (some (.builtin "BaseException.__getattribute__")))
  (xh_NoProgram:findIn K (.ref C_NoProgram) "__getattr__" = some none)
  (n_NoProgram_line:findIn K (.ref C_NoProgram) "line" = some none)
  (xo_TooMuch:K.lookup C_TooMuch=some (fS xn2 xq2 C_TooMuch xN2 xb2 (.ref cRE::VB) true xl2 xs2 xa2 xc2 xd2 x02 x12 x22 x32 x52))
  (xk_TooMuch:keepIn K (.ref C_TooMuch)=true)
  (xn_TooMuch:PySem.W.nsOkIn K xN2=true)
  (xi_TooMuch:nsIn K xN2 "__init__" = some (some (.ref f1)))
  (xs_TooMuch:findIn K (.ref C_TooMuch) "__setattr__" = some (some (.builtin "object.__setattr__")))
  (xg_TooMuch:findIn K (.ref C_TooMuch) "__getattribute__" = some (some (.builtin "BaseException.__getattribute__")))
  (xh_TooMuch:findIn K (.ref C_TooMuch) "__getattr__" = some none)
  (n_TooMuch_line:findIn K (.ref C_TooMuch) "line" = some none)
  (vi1:findIn K (.type "type") "__getattribute__" = some (some (.builtin "type.__getattribute__")))
  (vi2:PySem.W.subIn K (.type "type") (.type "type")=some true)
  (vi3:PySem.W.findCls K (.type "ValueError") (.type "type") "__init__" = some (.val (.builtin "ValueError.__init__")))
  (z0:nsIn K mainGlobals "range" = some none)
  (z1:nsIn K mainGlobals "len" = some none)
  (z2:nsIn K mainGlobals "isinstance" = some none)
  (z3:nsIn K mainGlobals "int" = some none)
  (z4:nsIn K mainGlobals "bool" = some none)
  (z5:nsIn K mainGlobals "list" = some none)
  (z6:nsIn K mainGlobals "all" = some none)
  (z7:nsIn K mainGlobals "max" = some none)
  (z8:nsIn K mainGlobals "min" = some none)
  (z9:nsIn K mainGlobals "reversed" = some none)
  (z10:nsIn K mainGlobals "tuple" = some none)
  (z11:nsIn K mainGlobals "divmod" = some none)
  (z12:nsIn K mainGlobals "str" = some none)
  (z13:nsIn K mainGlobals "sum" = some none)
  (z14:nsIn K mainGlobals "zip" = some none)
  (z15:nsIn K mainGlobals "enumerate" = some none)
  (z16:nsIn K mainGlobals "dict" = some none)
  (z17:nsIn K mainGlobals "ValueError" = some none)
  (z18:nsIn K mainGlobals "repr" = some none)
  (v1:nsIn K mainGlobals "SMALL_LETTERS" = some (some (.str "abcdefghijklmnopqrstuvwxyz" t1))) (v2:nsIn K mainGlobals "FIGURES" = some (some (.str "0123456789" t2))) (v3:nsIn K mainGlobals "MOST_LETTERS" = some (some (.int 6 t3))) (v4:nsIn K mainGlobals "MOST_FIGURES" = some (some (.int 10 t4))) (v5:nsIn K mainGlobals "MOST_SHAPES" = some (some (.int 8 t5))) (v6:nsIn K mainGlobals "MOST_FIELDS" = some (some (.int 6 t6))) (v7:nsIn K mainGlobals "MOST_CELLS" = some (some (.int 64 t7))) (v8:nsIn K mainGlobals "MOST_UNITS" = some (some (.int 40 t8))) (v9:nsIn K mainGlobals "MOST_DEPTH" = some (some (.int 4 t9))) (v10:nsIn K mainGlobals "MOST_WIDTH" = some (some (.int 4 t10))) (v11:nsIn K mainGlobals "MOST_COUNT" = some (some (.int 6 t11))) (v12:nsIn K mainGlobals "LEAST_PICKED" = some (some (.int 2 t12))) (v13:nsIn K mainGlobals "MOST_PICKED" = some (some (.int 4 t13))) (v14:nsIn K mainGlobals "WORD_CELLS" = some (some (.int 4 t14))) (v15:nsIn K mainGlobals "MOST_LINES" = some (some (.int 60 t15))) (v16:nsIn K mainGlobals "MOST_NAMES" = some (some (.int 12 t16))) (v17:nsIn K mainGlobals "MOST_BEGUN" = some (some (.int 3 t17)))
  (w1:nsIn K mainGlobals "OWN_WORDS" = some (some (.ref ts))) (w2:K.lookup ts=some ⟨.type "tuple",odt,.seq #[.str "shape" u0,.str "num" u1,.str "row" u2,.str "pick" u3,.str "tag" u4,.str "room" u5,.str "things" u6,.str "part" u7,.str "tags" u8,.str "put" u9,.str "take" u10,.str "many" u11,.str "look" u12,.str "which" u13,.str "store" u14,.str "choose" u15,.str "copy" u16,.str "each" u17,.str "span" u18,.str "if" u19,.str "else" u20,.str "end" u21,.str "out" u22] nt,slt⟩)
  (xN1:nsIn K mainGlobals "NAMES" = some (some (.ref tNa))) (xN2:K.lookup tNa=some ⟨.type "tuple",oz1,.seq #[.str "A" y1_0,.str "B" y1_1,.str "C" y1_2,.str "I" y1_3,.str "J" y1_4] nn_1,sl_1⟩)
  (xS1:nsIn K mainGlobals "SIGNS" = some (some (.ref tSi))) (xS2:K.lookup tSi=some ⟨.type "tuple",oz2,.seq #[.str "+" y2_0,.str "-" y2_1,.str "*" y2_2,.str "<" y2_3,.str "=" y2_4,.str "&" y2_5] nn_2,sl_2⟩)
  (xB1:nsIn K mainGlobals "BEGINNINGS" = some (some (.ref tBe))) (xB2:K.lookup tBe=some ⟨.type "tuple",oz3,.seq #[.str "each" y3_0,.str "span" y3_1,.str "if" y3_2] nn_3,sl_3⟩)
  (xF1:nsIn K mainGlobals "FORMS" = some (some (.ref tFo))) (xF2:K.lookup tFo=some ⟨.type "tuple",oz4,.seq #[.ref fa0,.ref fa1,.ref fa2,.ref fa3,.ref fa4,.ref fa5,.ref fa6,.ref fa7,.ref fa8,.ref fa9,.ref fa10,.ref fa11,.ref fa12,.ref fa13,.ref fa14,.ref fa15,.ref fa16] nn_4,sl_4⟩)
  (ya0:K.lookup fa0=some ⟨.type "tuple",oz5,.seq #[.str "number" y5_0,.ref ga0] nn_5,sl_5⟩) (yb0:K.lookup ga0=some ⟨.type "tuple",oz6,.seq #[.str "A" y6_0,.str "=" y6_1,.str "NUMBER" y6_2] nn_6,sl_6⟩)
  (ya1:K.lookup fa1=some ⟨.type "tuple",oz7,.seq #[.str "name" y7_0,.ref ga1] nn_7,sl_7⟩) (yb1:K.lookup ga1=some ⟨.type "tuple",oz8,.seq #[.str "A" y8_0,.str "=" y8_1,.str "B" y8_2] nn_8,sl_8⟩)
  (ya2:K.lookup fa2=some ⟨.type "tuple",oz9,.seq #[.str "OP" y9_0,.ref ga2] nn_9,sl_9⟩) (yb2:K.lookup ga2=some ⟨.type "tuple",oz10,.seq #[.str "A" y10_0,.str "=" y10_1,.str "B" y10_2,.str "OP" y10_3,.str "C" y10_4] nn_10,sl_10⟩)
  (ya3:K.lookup fa3=some ⟨.type "tuple",oz11,.seq #[.str "look" y11_0,.ref ga3] nn_11,sl_11⟩) (yb3:K.lookup ga3=some ⟨.type "tuple",oz12,.seq #[.str "A" y12_0,.str "=" y12_1,.str "look" y12_2,.str "I" y12_3,.str "PATH" y12_4] nn_12,sl_12⟩)
  (ya4:K.lookup fa4=some ⟨.type "tuple",oz13,.seq #[.str "store" y13_0,.ref ga4] nn_13,sl_13⟩) (yb4:K.lookup ga4=some ⟨.type "tuple",oz14,.seq #[.str "store" y14_0,.str "I" y14_1,.str "PATH" y14_2,.str "B" y14_3] nn_14,sl_14⟩)
  (ya5:K.lookup fa5=some ⟨.type "tuple",oz15,.seq #[.str "which" y15_0,.ref ga5] nn_15,sl_15⟩) (yb5:K.lookup ga5=some ⟨.type "tuple",oz16,.seq #[.str "A" y16_0,.str "=" y16_1,.str "which" y16_2,.str "I" y16_3,.str "PATH" y16_4] nn_16,sl_16⟩)
  (ya6:K.lookup fa6=some ⟨.type "tuple",oz17,.seq #[.str "choose" y17_0,.ref ga6] nn_17,sl_17⟩) (yb6:K.lookup ga6=some ⟨.type "tuple",oz18,.seq #[.str "choose" y18_0,.str "I" y18_1,.str "PATH" y18_2,.str "B" y18_3] nn_18,sl_18⟩)
  (ya7:K.lookup fa7=some ⟨.type "tuple",oz19,.seq #[.str "copy" y19_0,.ref ga7] nn_19,sl_19⟩) (yb7:K.lookup ga7=some ⟨.type "tuple",oz20,.seq #[.str "copy" y20_0,.str "I" y20_1,.str "J" y20_2] nn_20,sl_20⟩)
  (ya8:K.lookup fa8=some ⟨.type "tuple",oz21,.seq #[.str "put" y21_0,.ref ga8] nn_21,sl_21⟩) (yb8:K.lookup ga8=some ⟨.type "tuple",oz22,.seq #[.str "A" y22_0,.str "=" y22_1,.str "put" y22_2] nn_22,sl_22⟩)
  (ya9:K.lookup fa9=some ⟨.type "tuple",oz23,.seq #[.str "take" y23_0,.ref ga9] nn_23,sl_23⟩) (yb9:K.lookup ga9=some ⟨.type "tuple",oz24,.seq #[.str "take" y24_0,.str "I" y24_1] nn_24,sl_24⟩)
  (ya10:K.lookup fa10=some ⟨.type "tuple",oz25,.seq #[.str "many" y25_0,.ref ga10] nn_25,sl_25⟩) (yb10:K.lookup ga10=some ⟨.type "tuple",oz26,.seq #[.str "A" y26_0,.str "=" y26_1,.str "many" y26_2] nn_26,sl_26⟩)
  (ya11:K.lookup fa11=some ⟨.type "tuple",oz27,.seq #[.str "out" y27_0,.ref ga11] nn_27,sl_27⟩) (yb11:K.lookup ga11=some ⟨.type "tuple",oz28,.seq #[.str "out" y28_0,.str "A" y28_1] nn_28,sl_28⟩)
  (ya12:K.lookup fa12=some ⟨.type "tuple",oz29,.seq #[.str "each" y29_0,.ref ga12] nn_29,sl_29⟩) (yb12:K.lookup ga12=some ⟨.type "tuple",oz30,.seq #[.str "each" y30_0,.str "I" y30_1] nn_30,sl_30⟩)
  (ya13:K.lookup fa13=some ⟨.type "tuple",oz31,.seq #[.str "span" y31_0,.ref ga13] nn_31,sl_31⟩) (yb13:K.lookup ga13=some ⟨.type "tuple",oz32,.seq #[.str "span" y32_0,.str "I" y32_1,.str "B" y32_2,.str "C" y32_3] nn_32,sl_32⟩)
  (ya14:K.lookup fa14=some ⟨.type "tuple",oz33,.seq #[.str "if" y33_0,.ref ga14] nn_33,sl_33⟩) (yb14:K.lookup ga14=some ⟨.type "tuple",oz34,.seq #[.str "if" y34_0,.str "A" y34_1] nn_34,sl_34⟩)
  (ya15:K.lookup fa15=some ⟨.type "tuple",oz35,.seq #[.str "else" y35_0,.ref ga15] nn_35,sl_35⟩) (yb15:K.lookup ga15=some ⟨.type "tuple",oz36,.seq #[.str "else" y36_0] nn_36,sl_36⟩)
  (ya16:K.lookup fa16=some ⟨.type "tuple",oz37,.seq #[.str "end" y37_0,.ref ga16] nn_37,sl_37⟩) (yb16:K.lookup ga16=some ⟨.type "tuple",oz38,.seq #[.str "end" y38_0] nn_38,sl_38⟩)
  (w3:findIn K (.ref Vc) "units_at" = some (some (.ref f8)))
  (q1:PySem.W.specialIn K (.builtin "object.__class__") "__get__" = some (some (.builtin "getset_descriptor.__get__"))) (q2:PySem.W.takesIn K (.builtin "object.__class__")=some true)
  (qa0:findIn K (.ref C_Row) "__class__" = some (some (.builtin "object.__class__"))) (qb0:PySem.W.mroIn K C_Row (.type "object")=some true)
  (qa1:findIn K (.ref C_Loop) "__class__" = some (some (.builtin "object.__class__"))) (qb1:PySem.W.mroIn K C_Loop (.type "object")=some true)
  (qa2:findIn K (.ref C_Choice) "__class__" = some (some (.builtin "object.__class__"))) (qb2:PySem.W.mroIn K C_Choice (.type "object")=some true)
  (qc0:PySem.W.kitOne K (.ref C_Row) (.ref C_Row)=some true)
  (qc1:PySem.W.kitOne K (.ref C_Loop) (.ref C_Row)=some false)
  (qc2:PySem.W.kitOne K (.ref C_Choice) (.ref C_Row)=some false)
  (qc3:PySem.W.kitOne K (.ref C_Loop) (.ref C_Loop)=some true)
  (qc4:PySem.W.kitOne K (.ref C_Choice) (.ref C_Loop)=some false)
  (qc5:PySem.W.kitOne K (.ref C_Choice) (.ref C_Choice)=some true) :
  ∃ fd:FuncData,(∀ (s:Shared) (v:Value),BindsTo s fd ⟨[v],[]⟩ [("_law_script",v)])/\∀ base:Heap,K.In base->base.Ns mainGlobals mg->jK l.prog w K mg base CX0 86 fa fd ["_law_script"] (aAs K):=by
 have e:=hfa.symm.trans (mg_of X G a72.a)
 cases e
 obtain⟨d72,F72⟩:=a72.l
 obtain⟨d0,F0,D0⟩:=a0.j ["self","words"] (by walk_at "b2")
 obtain⟨d1,F1,D1⟩:=a1.j ["self","line"] (by walk_at "b2")
 obtain⟨d2,F2,D2⟩:=a2.j ["self","line"] (by walk_at "b2")
 obtain⟨d3,F3,D3⟩:=a3.o X G ["thing"] (by walk_at "b1")
 obtain⟨d4,F4,D4⟩:=a4.o X G ["thing","signs","most"] (by walk_at "b3")
 obtain⟨d5,F5,D5⟩:=a5.o X G ["text","low","high"] (by walk_at "b3")
 obtain⟨d6,F6,D6⟩:=a6.o X G ["width"] (by walk_at "b1")
 obtain⟨d7,F7,D7⟩:=a7.o X G ["path","step"] (by walk_at "b2")
 obtain⟨d8,F8,D8⟩:=a8.o ["self","path"] (by walk_at "b2")
 obtain⟨d9,F9,D9⟩:=a9.j ["self","width"] (by walk_at "b2")
 obtain⟨d10,F10,D10⟩:=a10.o ["self"] (by walk_at "b1")
 obtain⟨d11,F11,D11⟩:=a11.o ["self"] (by walk_at "b1")
 obtain⟨d12,F12,D12⟩:=a12.o ["self","path"] (by walk_at "b2")
 obtain⟨d13,F13,D13⟩:=a13.j ["self","shape"] (by walk_at "b2")
 obtain⟨d14,F14,D14⟩:=a14.o ["self"] (by walk_at "b1")
 obtain⟨d15,F15,D15⟩:=a15.o ["self"] (by walk_at "b1")
 obtain⟨d16,F16,D16⟩:=a16.o ["self"] (by walk_at "b1")
 obtain⟨d17,F17,D17⟩:=a17.j ["self","count","kind"] (by walk_at "b3")
 obtain⟨d18,F18,D18⟩:=a18.o ["self"] (by walk_at "b1")
 obtain⟨d19,F19,D19⟩:=a19.o ["self"] (by walk_at "b1")
 obtain⟨d20,F20,D20⟩:=a20.o ["self"] (by walk_at "b1")
 obtain⟨d21,F21,D21⟩:=a21.j ["self","shapes"] (by walk_at "b2")
 obtain⟨d22,F22,D22⟩:=a22.o ["self"] (by walk_at "b1")
 obtain⟨d23,F23,D23⟩:=a23.o ["self"] (by walk_at "b1")
 obtain⟨d24,F24,D24⟩:=a24.o ["self"] (by walk_at "b1")
 obtain⟨d25,F25,D25⟩:=a25.o ["self","path"] (by walk_at "b2")
 obtain⟨d26,F26,D26⟩:=a26.j ["self","name","fields"] (by walk_at "b3")
 obtain⟨d27,F27,D27⟩:=a27.o ["self"] (by walk_at "b1")
 obtain⟨d28,F28,D28⟩:=a28.o ["self"] (by walk_at "b1")
 obtain⟨d29,F29,D29⟩:=a29.o ["self"] (by walk_at "b1")
 obtain⟨d30,F30,D30⟩:=a30.j ["self","shapes"] (by walk_at "b2")
 obtain⟨d31,F31,D31⟩:=a31.o ["self"] (by walk_at "b1")
 obtain⟨d32,F32,D32⟩:=a32.j ["self","line","deed","goal","reads","steps","number"] (by walk_at "b7")
 obtain⟨d33,F33,D33⟩:=a33.j ["self","line","last","deed","goal","reads","rows"] (by walk_at "b7")
 obtain⟨d34,F34,D34⟩:=a34.j ["self","line","last","middle","reads","rows","others"] (by walk_at "b7")
 obtain⟨d35,F35,D35⟩:=a35.j ["self","shapes","rows","named","written"] (by walk_at "b5")
 obtain⟨d36,F36,D36⟩:=a36.o X G ["shapes","text"] (by walk_at "b2")
 obtain⟨d37,F37,D37⟩:=a37.o X G ["text"] (by walk_at "b1")
 obtain⟨d38,F38,D38⟩:=a38.o X G ["line","words"] (by walk_at "b2")
 obtain⟨d39,F39,D39⟩:=a39.o X G ["part","word"] (by walk_at "b2")
 obtain⟨d40,F40,D40⟩:=a40.o X G ["begun","line","deed"] (by walk_at "b3")
 obtain⟨d41,F41,D41⟩:=a41.o X G ["begun","deed"] (by walk_at "b2")
 obtain⟨d42,F42,D42⟩:=a42.o X G ["shape","line","deed","filled"] (by walk_at "b4")
 obtain⟨d43,F43,D43⟩:=a43.o X G ["shape","line","deed","path"] (by walk_at "b4")
 obtain⟨d44,F44,D44⟩:=a44.o X G ["form","words","steps"] (by walk_at "b3")
 obtain⟨d45,F45,D45⟩:=a45.o X G ["names","ahead"] (by walk_at "b2")
 obtain⟨d46,F46,D46⟩:=a46.o X G ["told","first"] (by walk_at "b2")
 obtain⟨d47,F47,D47⟩:=a47.o X G ["row"] (by walk_at "b1")
 obtain⟨d48,F48,D48⟩:=a48.o X G ["told","at"] (by walk_at "b2")
 obtain⟨d49,F49,D49⟩:=a49.o X G ["text"] (by walk_at "b1")
 obtain⟨d50,F50,D50⟩:=a50.o X G ["words"] (by walk_at "b1")
 obtain⟨d51,F51,D51⟩:=a51.o X G ["words"] (by walk_at "b1")
 obtain⟨d52,F52,D52⟩:=a52.o X G ["words"] (by walk_at "b1")
 obtain⟨d53,F53,D53⟩:=a53.o X G ["words"] (by walk_at "b1")
 obtain⟨d54,F54,D54⟩:=a54.o X G ["told","line","name"] (by walk_at "b3")
 obtain⟨d55,F55,D55⟩:=a55.o X G ["told","line","words"] (by walk_at "b3")
 obtain⟨d56,F56,D56⟩:=a56.o X G ["words"] (by walk_at "b1")
 obtain⟨d57,F57,D57⟩:=a57.o X G ["told"] (by walk_at "b1")
 obtain⟨d58,F58,D58⟩:=a58.o X G ["told","line","words"] (by walk_at "b3")
 obtain⟨d59,F59,D59⟩:=a59.o X G ["words","shapes"] (by walk_at "b2")
 obtain⟨d60,F60,D60⟩:=a60.o X G ["shape"] (by walk_at "b1")
 obtain⟨d61,F61,D61⟩:=a61.o X G ["_law_script","_law_k"] (by walk_at "b2")
 obtain⟨d62,F62,D62⟩:=a62.o X G ["_law_cell_here","_law_k"] (by walk_at "b2")
 obtain⟨d63,F63,D63⟩:=a63.o X G ["_law_cell_here"] (by walk_at "b1")
 obtain⟨d64,F64,D64⟩:=a64.o X G ["_law_box_here","_law_many"] (by walk_at "b2")
 obtain⟨d65,F65,D65⟩:=a65.o X G ["_law_box_here","_law_pile"] (by walk_at "b2")
 obtain⟨d66,F66,D66⟩:=a66.o X G ["_law_pile","_law_word_here"] (by walk_at "b2")
 obtain⟨d67,F67,D67⟩:=a67.o X G ["_law_script"] (by walk_at "b1")
 obtain⟨d68,F68,D68⟩:=a68.o X G ["_law_lines"] (by walk_at "b1")
 obtain⟨d69,F69,D69⟩:=a69.o X G ["_law_lines","_law_start"] (by walk_at "b2")
 obtain⟨d70,F70,D70⟩:=a70.o X G ["_law_rows"] (by walk_at "b1")
 obtain⟨d71,F71,D71⟩:=a71.o X G ["_law_shapes","_law_lines"] (by walk_at "b2")
 have Ua:=cNum.o X G a9
 have Ub:=cNested.o X G a13
 have Uc:=cMany.o X G a17
 have Ud:=cPick.o X G a21
 have Ue:=cShape.o X G a26
 have Uf:=cShapes.o X G a30
 have T_Row:=cRow.o X G a32
 have T_Loop:=cLoop.o X G a33
 have T_Choice:=cChoice.o X G a34
 have T_Program:=cProgram.o X G a35
 have tRE:TXB K mg cRE f0:=⟨mg_of X G g_RoomError,⟨xr,xf,xp,F0.kp⟩,⟨⟨_,_,_,_,_,_,_,_,_,_,_,_,_,_,_,_,xo_RoomError⟩,rfl⟩⟩
 have VI:aDd K:=⟨vi1,vi2,vi3⟩
 have T_NoProgram:TX K mg "NoProgram" C_NoProgram cRE f2 ["line"]:=⟨mg_of X G g_NoProgram,⟨⟨_,_,_,_,_,_,_,_,_,_,_,_,_,_,xo_NoProgram,xn_NoProgram,xi_NoProgram⟩,a2.i,xk_NoProgram,xs_NoProgram,xg_NoProgram,xh_NoProgram⟩,⟨⟨_,_,_,_,_,_,_,_,_,_,_,_,_,_,_,_,xo_NoProgram⟩,rfl⟩,fun a ha=>by
   rw [List.mem_singleton.mp ha];exact n_NoProgram_line⟩
 have T_TooMuch:TX K mg "TooMuch" C_TooMuch cRE f1 ["line"]:=⟨mg_of X G g_TooMuch,⟨⟨_,_,_,_,_,_,_,_,_,_,_,_,_,_,xo_TooMuch,xn_TooMuch,xi_TooMuch⟩,a1.i,xk_TooMuch,xs_TooMuch,xg_TooMuch,xh_TooMuch⟩,⟨⟨_,_,_,_,_,_,_,_,_,_,_,_,_,_,_,_,xo_TooMuch⟩,rfl⟩,fun a ha=>by
   rw [List.mem_singleton.mp ha];exact n_TooMuch_line⟩
 have M:Blt mg:=⟨mg_none_of X G z0,mg_none_of X G z1,mg_none_of X G z2,mg_none_of X G z3,mg_none_of X G z4,mg_none_of X G z5,mg_none_of X G z6,mg_none_of X G z7,mg_none_of X G z8,mg_none_of X G z9,mg_none_of X G z10,mg_none_of X G z11,mg_none_of X G z12,mg_none_of X G z13,mg_none_of X G z14,mg_none_of X G z15,mg_none_of X G z16,mg_none_of X G z17,mg_none_of X G z18⟩
 have C:Cst K mg t1 t2 t3 t4 t5 t6 t7 t8 t9 t10 t11 t12 t13 t14 t15 t16 t17 ts tNa tSi tBe tFo:=⟨mg_of X G v1,mg_of X G v2,mg_of X G v3,mg_of X G v4,mg_of X G v5,mg_of X G v6,mg_of X G v7,mg_of X G v8,mg_of X G v9,mg_of X G v10,mg_of X G v11,mg_of X G v12,mg_of X G v13,mg_of X G v14,mg_of X G v15,mg_of X G v16,mg_of X G v17,mg_of X G xN1,fun H=>.inr ⟨_,_,_,xN2,rfl,rfl,sQ,(.cons ⟨_,rfl⟩ (.cons ⟨_,rfl⟩ (.cons ⟨_,rfl⟩ (.cons ⟨_,rfl⟩ (.cons ⟨_,rfl⟩ .nil)))))⟩,mg_of X G xS1,fun H=>.inr ⟨_,_,_,xS2,rfl,rfl,(by show 6<=sizeLine;decide),(.cons ⟨_,rfl⟩ (.cons ⟨_,rfl⟩ (.cons ⟨_,rfl⟩ (.cons ⟨_,rfl⟩ (.cons ⟨_,rfl⟩ (.cons ⟨_,rfl⟩ .nil))))))⟩,mg_of X G xB1,fun H=>.inr ⟨_,_,_,xB2,rfl,rfl,dQ,(.cons ⟨_,rfl⟩ (.cons ⟨_,rfl⟩ (.cons ⟨_,rfl⟩ .nil)))⟩,mg_of X G xF1,fun H=>⟨[fa0,fa1,fa2,fa3,fa4,fa5,fa6,fa7,fa8,fa9,fa10,fa11,fa12,fa13,fa14,fa15,fa16],.inr ⟨_,_,_,xF2,rfl,rfl,(by show 17<=sizeLine;decide),(.cons rfl (.cons rfl (.cons rfl (.cons rfl (.cons rfl (.cons rfl (.cons rfl (.cons rfl (.cons rfl (.cons rfl (.cons rfl (.cons rfl (.cons rfl (.cons rfl (.cons rfl (.cons rfl (.cons rfl .nil)))))))))))))))))⟩,(kM ⟨ga0,.inr ⟨_,_,_,ya0,rfl,rfl,vQ,(.cons ⟨_,rfl⟩ (.cons rfl .nil))⟩,.inr ⟨_,_,_,yb0,rfl,rfl,dQ,(.cons ⟨_,rfl⟩ (.cons ⟨_,rfl⟩ (.cons ⟨_,rfl⟩ .nil)))⟩⟩ (kM ⟨ga1,.inr ⟨_,_,_,ya1,rfl,rfl,vQ,(.cons ⟨_,rfl⟩ (.cons rfl .nil))⟩,.inr ⟨_,_,_,yb1,rfl,rfl,dQ,(.cons ⟨_,rfl⟩ (.cons ⟨_,rfl⟩ (.cons ⟨_,rfl⟩ .nil)))⟩⟩ (kM ⟨ga2,.inr ⟨_,_,_,ya2,rfl,rfl,vQ,(.cons ⟨_,rfl⟩ (.cons rfl .nil))⟩,.inr ⟨_,_,_,yb2,rfl,rfl,sQ,(.cons ⟨_,rfl⟩ (.cons ⟨_,rfl⟩ (.cons ⟨_,rfl⟩ (.cons ⟨_,rfl⟩ (.cons ⟨_,rfl⟩ .nil)))))⟩⟩ (kM ⟨ga3,.inr ⟨_,_,_,ya3,rfl,rfl,vQ,(.cons ⟨_,rfl⟩ (.cons rfl .nil))⟩,.inr ⟨_,_,_,yb3,rfl,rfl,sQ,(.cons ⟨_,rfl⟩ (.cons ⟨_,rfl⟩ (.cons ⟨_,rfl⟩ (.cons ⟨_,rfl⟩ (.cons ⟨_,rfl⟩ .nil)))))⟩⟩ (kM ⟨ga4,.inr ⟨_,_,_,ya4,rfl,rfl,vQ,(.cons ⟨_,rfl⟩ (.cons rfl .nil))⟩,.inr ⟨_,_,_,yb4,rfl,rfl,szL4,(.cons ⟨_,rfl⟩ (.cons ⟨_,rfl⟩ (.cons ⟨_,rfl⟩ (.cons ⟨_,rfl⟩ .nil))))⟩⟩ (kM ⟨ga5,.inr ⟨_,_,_,ya5,rfl,rfl,vQ,(.cons ⟨_,rfl⟩ (.cons rfl .nil))⟩,.inr ⟨_,_,_,yb5,rfl,rfl,sQ,(.cons ⟨_,rfl⟩ (.cons ⟨_,rfl⟩ (.cons ⟨_,rfl⟩ (.cons ⟨_,rfl⟩ (.cons ⟨_,rfl⟩ .nil)))))⟩⟩ (kM ⟨ga6,.inr ⟨_,_,_,ya6,rfl,rfl,vQ,(.cons ⟨_,rfl⟩ (.cons rfl .nil))⟩,.inr ⟨_,_,_,yb6,rfl,rfl,szL4,(.cons ⟨_,rfl⟩ (.cons ⟨_,rfl⟩ (.cons ⟨_,rfl⟩ (.cons ⟨_,rfl⟩ .nil))))⟩⟩ (kM ⟨ga7,.inr ⟨_,_,_,ya7,rfl,rfl,vQ,(.cons ⟨_,rfl⟩ (.cons rfl .nil))⟩,.inr ⟨_,_,_,yb7,rfl,rfl,dQ,(.cons ⟨_,rfl⟩ (.cons ⟨_,rfl⟩ (.cons ⟨_,rfl⟩ .nil)))⟩⟩ (kM ⟨ga8,.inr ⟨_,_,_,ya8,rfl,rfl,vQ,(.cons ⟨_,rfl⟩ (.cons rfl .nil))⟩,.inr ⟨_,_,_,yb8,rfl,rfl,dQ,(.cons ⟨_,rfl⟩ (.cons ⟨_,rfl⟩ (.cons ⟨_,rfl⟩ .nil)))⟩⟩ (kM ⟨ga9,.inr ⟨_,_,_,ya9,rfl,rfl,vQ,(.cons ⟨_,rfl⟩ (.cons rfl .nil))⟩,.inr ⟨_,_,_,yb9,rfl,rfl,vQ,(.cons ⟨_,rfl⟩ (.cons ⟨_,rfl⟩ .nil))⟩⟩ (kM ⟨ga10,.inr ⟨_,_,_,ya10,rfl,rfl,vQ,(.cons ⟨_,rfl⟩ (.cons rfl .nil))⟩,.inr ⟨_,_,_,yb10,rfl,rfl,dQ,(.cons ⟨_,rfl⟩ (.cons ⟨_,rfl⟩ (.cons ⟨_,rfl⟩ .nil)))⟩⟩ (kM ⟨ga11,.inr ⟨_,_,_,ya11,rfl,rfl,vQ,(.cons ⟨_,rfl⟩ (.cons rfl .nil))⟩,.inr ⟨_,_,_,yb11,rfl,rfl,vQ,(.cons ⟨_,rfl⟩ (.cons ⟨_,rfl⟩ .nil))⟩⟩ (kM ⟨ga12,.inr ⟨_,_,_,ya12,rfl,rfl,vQ,(.cons ⟨_,rfl⟩ (.cons rfl .nil))⟩,.inr ⟨_,_,_,yb12,rfl,rfl,vQ,(.cons ⟨_,rfl⟩ (.cons ⟨_,rfl⟩ .nil))⟩⟩ (kM ⟨ga13,.inr ⟨_,_,_,ya13,rfl,rfl,vQ,(.cons ⟨_,rfl⟩ (.cons rfl .nil))⟩,.inr ⟨_,_,_,yb13,rfl,rfl,szL4,(.cons ⟨_,rfl⟩ (.cons ⟨_,rfl⟩ (.cons ⟨_,rfl⟩ (.cons ⟨_,rfl⟩ .nil))))⟩⟩ (kM ⟨ga14,.inr ⟨_,_,_,ya14,rfl,rfl,vQ,(.cons ⟨_,rfl⟩ (.cons rfl .nil))⟩,.inr ⟨_,_,_,yb14,rfl,rfl,vQ,(.cons ⟨_,rfl⟩ (.cons ⟨_,rfl⟩ .nil))⟩⟩ (kM ⟨ga15,.inr ⟨_,_,_,ya15,rfl,rfl,vQ,(.cons ⟨_,rfl⟩ (.cons rfl .nil))⟩,.inr ⟨_,_,_,yb15,rfl,rfl,dC,(.cons ⟨_,rfl⟩ .nil)⟩⟩ (kM ⟨ga16,.inr ⟨_,_,_,ya16,rfl,rfl,vQ,(.cons ⟨_,rfl⟩ (.cons rfl .nil))⟩,.inr ⟨_,_,_,yb16,rfl,rfl,dC,(.cons ⟨_,rfl⟩ .nil)⟩⟩ aBj)))))))))))))))))⟩,mg_of X G w1,fun H=>.inr ⟨_,_,_,w2,rfl,rfl,(by show 23<=sizeLine;decide),(.cons ⟨_,rfl⟩ (.cons ⟨_,rfl⟩ (.cons ⟨_,rfl⟩ (.cons ⟨_,rfl⟩ (.cons ⟨_,rfl⟩ (.cons ⟨_,rfl⟩ (.cons ⟨_,rfl⟩ (.cons ⟨_,rfl⟩ (.cons ⟨_,rfl⟩ (.cons ⟨_,rfl⟩ (.cons ⟨_,rfl⟩ (.cons ⟨_,rfl⟩ (.cons ⟨_,rfl⟩ (.cons ⟨_,rfl⟩ (.cons ⟨_,rfl⟩ (.cons ⟨_,rfl⟩ (.cons ⟨_,rfl⟩ (.cons ⟨_,rfl⟩ (.cons ⟨_,rfl⟩ (.cons ⟨_,rfl⟩ (.cons ⟨_,rfl⟩ (.cons ⟨_,rfl⟩ (.cons ⟨_,rfl⟩ .nil)))))))))))))))))))))))⟩⟩
 have KP:PrC K C_Row C_Loop C_Choice:=⟨⟨T_Row.cl,qa0,q1,q2,qb0⟩,⟨T_Loop.cl,qa1,q1,q2,qb1⟩,⟨T_Choice.cl,qa2,q1,q2,qb2⟩,qc0,qc1,qc2,qc3,qc4,qc5⟩
 have Z:=ZZ.mk M C Ua Ub Uc Ud Ue Uf T_Row T_Loop T_Choice T_Program tRE VI T_NoProgram T_TooMuch
 refine⟨d72,fun s v=>(F72.ex.elim fun _ ⟨_,_,_,_,_,_,_,_,e,_⟩=>e▸.of_eq rfl),fun base _ _=>?_⟩
 have G4:=(nH l.prog w base (k:=0) Z F4 )
 have G3:=(wS l.prog w base (k:=2) Z F3 D4 (mO G4))
 have G5:=(pY l.prog w base (k:=2) Z F5 D4 (mO G4))
 have G7:=(aCa l.prog w base (k:=0) Z F7 )
 have G63:=(uG l.prog w base (k:=0) Z F63 )
 have G50:=(fL l.prog w base (k:=4) Z F50 D3 (mO G3))
 have G53:=(pF l.prog w base (k:=4) Z F53 D5 (mO G5) D3 (mO G3))
 have G52:=(wJ l.prog w base (k:=6) Z F52 D5 (mO G5) D53 (mO G53) D3 (mO G3))
 have G51:=(fF l.prog w base (k:=8) Z F51 D3 (mO G3) D52 (mO G52))
 have G56:=(gU l.prog w base (k:=4) Z F56 D3 (mO G3))
 have G54:=(eO l.prog w base (k:=0) Z F54 )
 have G57:=(gW l.prog w base (k:=0) Z F57 )
 have G55:=(nA l.prog w base (k:=10) Z F55 D51 (mO G51) D56 (mO G56) D57 (mO G57))
 have G9:=(tU l.prog w base (k:=0) Z F9 )
 have G13:=(iQ l.prog w base (k:=0) Z F13 )
 have G17:=(pL l.prog w base (k:=0) Z F17 )
 have G21:=(oV l.prog w base (k:=0) Z F21 )
 have G30:=(lA l.prog w base (k:=0) Z F30 )
 have G26:=(nI l.prog w base (k:=0) Z F26 )
 have G0:=(dP l.prog w base (k:=0) Z F0 )
 have G2:=(eN l.prog w base (k:=2) Z F2 D0 (mO G0))
 have G1:=(hJ l.prog w base (k:=2) Z F1 D0 (mO G0))
 have G32:=(sA l.prog w base (k:=0) Z F32 )
 have G33:=(rL l.prog w base (k:=0) Z F33 )
 have G34:=(iR l.prog w base (k:=0) Z F34 )
 have G35:=(gT l.prog w base (k:=0) Z F35 )
 have G31:=(mF l.prog w base (k:=0) Z F31 )
 have G6:=(sN l.prog w base (k:=0) Z F6 )
 have G39:=(aGz l.prog w base (k:=4) Z F39 D3 (mO G3) D5 (mO G5) D6 (mO G6))
 have G37:=(rR l.prog w base (k:=0) Z F37 )
 have G38:=(wE l.prog w base (k:=6) Z F38 D39 (mO G39) D2 (mO G2))
 have G40:=(fX l.prog w base (k:=4) Z F40 D2 (mO G2))
 have G41:=(hU l.prog w base (k:=0) Z F41 )
 have G43:=(rV l.prog w base (k:=0) Z F43 )
 have G42:=(aCg l.prog w base (k:=2) Z F42 D43 (mO G43) D32 (mO G32))
 have G44:=(tH l.prog w base (k:=0) Z F44 )
 have G45:=(aCr l.prog w base (k:=0) Z F45 )
 have G47:=(lT l.prog w base (k:=0) Z F47 KP)
 have G61:=(sS l.prog w base (k:=0) Z F61 )
 have G62:=(pH l.prog w base (k:=0) Z F62 )
 have G64:=(tQ l.prog w base (k:=2) Z F64 D62 (mO G62))
 have G65:=(sX l.prog w base (k:=4) Z F65 D64 (mO G64))
 have G66:=(rF l.prog w base (k:=0) Z F66 )
 have G67:=(rC l.prog w base (k:=6) Z F67 D61 (mO G61) D65 (mO G65) D63 (mO G63) D66 (mO G66))
 have G68:=(uY l.prog w base (k:=2) Z F68 D66 (mO G66))
 have t_size:∀ r C sp,TV (Cl5.mk Va Vb Vc Vd Ve) K r vSz C sp->bF l.prog w K mg base CX0 (6 * r + 4) "size" C sp:=by
  intro r
  induction r with
  | zero =>
   rintro C' sp (⟨rfl,rfl⟩|⟨rfl,rfl⟩|⟨rfl,rfl⟩|⟨rfl,rfl⟩)
   ·exact⟨Ua.cl,_,_,_,D10.me,jK.mono (gC l.prog w base (k:=0) (r:=0) Z F10 ) (by omega),D10.b⟩
   ·exact⟨Ub.cl,_,_,_,D14.me,noFn (noV nn1),D14.b⟩
   ·exact⟨Uc.cl,_,_,_,D18.me,noFn (noV nn2),D18.b⟩
   ·exact⟨Ud.cl,_,_,_,D22.me,noFn (noV nn3),D22.b⟩
  | succ r ih =>
   have gS:=(cT l.prog w base (k:=6 * r + 4) (r:=r) Z F27 ih)
   have gG:=(zY l.prog w base (k:=6 * r + 6) (r:=r) Z F23 D27 gS)
   rintro C' sp (⟨rfl,rfl⟩|⟨rfl,rfl⟩|⟨rfl,rfl⟩|⟨rfl,rfl⟩)
   ·exact⟨Ua.cl,_,_,_,D10.me,jK.mono (gC l.prog w base (k:=0) (r:=r + 1) Z F10 ) (by omega),D10.b⟩
   ·exact⟨Ub.cl,_,_,_,D14.me,jK.mono (lO l.prog w base (k:=6 * r + 6) (r:=r) Z F14 D27 gS) (by omega),D14.b⟩
   ·exact⟨Uc.cl,_,_,_,D18.me,jK.mono (pK l.prog w base (k:=6 * r + 4) (r:=r) Z F18 ih) (by omega),D18.b⟩
   ·exact⟨Ud.cl,_,_,_,D22.me,jK.mono (pA l.prog w base (k:=6 * r + 8) (r:=r) Z F22 D23 gG) (by omega),D22.b⟩
 have s_size:=fun r=>(cT l.prog w base (k:=6 * r + 4) (r:=r) Z F27 (t_size r))
 have s_gr:=fun r=>(zY l.prog w base (k:=6 * r + 6) (r:=r) Z F23 D27 (s_size r))
 have t_depth:∀ r C sp,TV (Cl5.mk Va Vb Vc Vd Ve) K r vDp C sp->bF l.prog w K mg base CX0 (6 * r + 4) "depth" C sp:=by
  intro r
  induction r with
  | zero =>
   rintro C' sp (⟨rfl,rfl⟩|⟨rfl,rfl⟩|⟨rfl,rfl⟩|⟨rfl,rfl⟩)
   ·exact⟨Ua.cl,_,_,_,D11.me,jK.mono (eA l.prog w base (k:=0) (r:=0) Z F11 ) (by omega),D11.b⟩
   ·exact⟨Ub.cl,_,_,_,D15.me,noFn (noV nn1),D15.b⟩
   ·exact⟨Uc.cl,_,_,_,D19.me,noFn (noV nn2),D19.b⟩
   ·exact⟨Ud.cl,_,_,_,D24.me,noFn (noV nn3),D24.b⟩
  | succ r ih =>
   have gS:=(bK l.prog w base (k:=6 * r + 4) (r:=r) Z F28 ih)
   rintro C' sp (⟨rfl,rfl⟩|⟨rfl,rfl⟩|⟨rfl,rfl⟩|⟨rfl,rfl⟩)
   ·exact⟨Ua.cl,_,_,_,D11.me,jK.mono (eA l.prog w base (k:=0) (r:=r + 1) Z F11 ) (by omega),D11.b⟩
   ·exact⟨Ub.cl,_,_,_,D15.me,jK.mono (gN l.prog w base (k:=6 * r + 6) (r:=r) Z F15 D28 gS) (by omega),D15.b⟩
   ·exact⟨Uc.cl,_,_,_,D19.me,jK.mono (mY l.prog w base (k:=6 * r + 4) (r:=r) Z F19 ih) (by omega),D19.b⟩
   ·exact⟨Ud.cl,_,_,_,D24.me,jK.mono (mZ l.prog w base (k:=6 * r + 6) (r:=r) Z F24 D28 gS) (by omega),D24.b⟩
 have s_depth:=fun r=>(bK l.prog w base (k:=6 * r + 4) (r:=r) Z F28 (t_depth r))
 have t_parted:∀ C sp,TPt (Cl5.mk Va Vb Vc Vd Ve) K C sp->bF l.prog w K mg base CX0 2 "parted" C sp:=by
  rintro C' sp (⟨rfl,rfl⟩|⟨rfl,rfl⟩)
  ·exact⟨Ub.cl,_,_,_,D16.me,(fM l.prog w base (k:=0) Z F16 ),D16.b⟩
  ·exact⟨Uc.cl,_,_,_,D20.me,(iX l.prog w base (k:=0) Z F20 ),D20.b⟩
 have DM:DfM K Vc "units_at" f8 d8 ["self","path"]:=⟨⟨w3,a8.i,F8.kp⟩,D8.b⟩
 have t_units:∀ r C sp,TU (Cl5.mk Va Vb Vc Vd Ve) K r C sp->bF l.prog w K mg base CX0 (6 * r + 4) "units_at" C sp:=by
  intro r
  induction r with
  | zero =>
   rintro C' sp (⟨rfl,rfl⟩|⟨rfl,rfl⟩|⟨rfl,rfl⟩|⟨rfl,rfl⟩)
   ·exact⟨Ua.cl,_,_,_,D12.me,jK.mono (bB l.prog w base (k:=0) (r:=0) Z F12 ) (by omega),D12.b⟩
   ·exact⟨Ub.cl,_,_,_,D8.me,noFn (noU nn1),D8.b⟩
   ·exact⟨Uc.cl,_,_,_,DM.me,noFn (noU nn2),DM.b⟩
   ·exact⟨Ud.cl,_,_,_,D25.me,noFn (noU nn3),D25.b⟩
  | succ r ih =>
   rintro C' sp (⟨rfl,rfl⟩|⟨rfl,rfl⟩|⟨rfl,rfl⟩|⟨rfl,rfl⟩)
   ·exact⟨Ua.cl,_,_,_,D12.me,jK.mono (bB l.prog w base (k:=0) (r:=r + 1) Z F12 ) (by omega),D12.b⟩
   ·exact⟨Ub.cl,_,_,_,D8.me,jK.mono (aB l.prog w base (k:=6 * r + 4) (r:=r) Z ff1 F8 (fun C' sp h=>bF.mono (t_parted C' sp h) (by omega)) ih D7 (jK.mono G7 (by omega))) (by omega),D8.b⟩
   ·exact⟨Uc.cl,_,_,_,DM.me,jK.mono (aB l.prog w base (k:=6 * r + 4) (r:=r) Z ff2 F8 (fun C' sp h=>bF.mono (t_parted C' sp h) (by omega)) ih D7 (jK.mono G7 (by omega))) (by omega),DM.b⟩
   ·exact⟨Ud.cl,_,_,_,D25.me,jK.mono (fD l.prog w base (k:=6 * r + 8) (r:=r) Z F25 D7 (jK.mono G7 (by omega)) D23 (s_gr r)) (by omega),D25.b⟩
 have G27:=s_size 12
 have G28:=s_depth 12
 have G29:=(lR l.prog w base (k:=76) (r:=12) Z F29 D13 (mO G13) (t_units 12))
 have G60:=(mQ l.prog w base (k:=78) (r:=12) Z F60 D27 (mO G27) D29 (mO G29) D28 (mO G28))
 have r_kin:∀ n,jK l.prog w K mg base CX0 (2 * n + 2) f59 d59 ["words","shapes"] (aAf (Cl5.mk Va Vb Vc Vd Ve) K n):=by
  intro n
  induction n with
  | zero=>exact noFn fun vs H Q E ⟨_,_,_,_,_,_,h,_⟩=>absurd h (Nat.not_lt_zero _)
  | succ n ih=>exact jK.mono (uJ l.prog w base (k:=2 * n + 2) (r:=n) Z F59 D59 ih D9 (jK.mono G9 (by omega)) D13 (jK.mono G13 (by omega)) D17 (jK.mono G17 (by omega)) D21 (jK.mono G21 (by omega))) (by omega)
 have G59:=r_kin 2
 have G58:=(nJ l.prog w base (k:=80) (r:=12) Z F58 D59 (mO G59) D57 (mO G57) D26 (mO G26) D60 (mO G60))
 have G49:=(lN l.prog w base (k:=82) (r:=12) Z F49 D50 (mO G50) D54 (mO G54) D26 (mO G26) D55 (mO G55) D58 (mO G58) D30 (mO G30))
 have r_rf:∀ n,jK l.prog w K mg base CX0 (4 * n + 4) f46 d46 ["told","first"] (spRF C_Row C_Loop C_Choice K n):=by
  intro n
  induction n with
  | zero=>exact noFn fun vs H Q E ⟨_,_,_,_,_,_,_,_,_,h,_⟩=>nomatch h
  | succ n ih=>exact jK.mono (pZ l.prog w base (k:=4 * n + 6) (r:=n) Z F46 D48 (pE l.prog w base (k:=4 * n + 4) (r:=n) Z F48 D46 ih D33 (jK.mono G33 (by omega)) D34 (jK.mono G34 (by omega))) D47 (jK.mono G47 (by omega))) (by omega)
 have G46:=r_rf 4
 have r__law_told:∀ n,jK l.prog w K mg base CX0 (2 * n + 2) f70 d70 ["_law_rows"] (spTo C_Row C_Loop C_Choice K n):=by
  intro n
  induction n with
  | zero=>exact noFn fun vs H Q E ⟨_,_,_,_,_,_,h,_⟩=>nomatch h
  | succ n ih=>exact jK.mono (tF l.prog w base (k:=2 * n + 2) (r:=n) Z F70 KP D70 ih) (by omega)
 have G70:=r__law_told 4
 have r__law_inner:∀ n,jK l.prog w K mg base CX0 (2 * n + 2) f69 d69 ["_law_lines","_law_start"] (aFv K n):=by
  intro n
  induction n with
  | zero=>exact noFn fun vs H Q E ⟨_,_,_,_,_,_,_,_,h,_⟩=>nomatch h
  | succ n ih=>exact jK.mono (rK l.prog w base (k:=2 * n + 2) (r:=n) Z F69 D69 ih) (by omega)
 have G69:=r__law_inner 4
 have G36:=(iB l.prog w base (k:=20) Z F36 D37 (mO G37) D38 (mO G38) D40 (mO G40) D31 (mO G31) D42 (mO G42) D44 (mO G44) D45 (mO G45) D41 (mO G41) D46 (mO G46) D35 (mO G35) D2 (mO G2) D1 (mO G1))
 have G71:=(rZ l.prog w base (k:=22) Z F71 D68 (mO G68) D36 (mO G36) D70 (mO G70) D69 (mO G69))
 have G72:=(aJf l.prog w base (k:=84) (r:=12) Z ⟨by decide,by decide⟩ F72 D49 (mO G49) D67 (mO G67) D71 (mO G71))
 exact G72
theorem walk {l:PySem.W.OpenLaw} {q:Program} {loose:List Str} {XP:(Str->Option Value)->Heap->Prop} {YP:World->Heap->Prop} {d:DefRec} {K:Params->Frag} (hn:l.most=some 63) (hdf:d.params.defaults=[])
  (hY:∀ (w:World) (h:Heap),YP w h->(K w.params).In h)
  (F:∀ (w:World) (mg:Str->Option Value) (fa:Addr) (h:Heap),(K w.params).In h->h.Ns mainGlobals mg->mg d.name=some (.ref fa) →
   ∃ fd:FuncData,(∀ (s:Shared) (u:Value),BindsTo s fd ⟨[u],[]⟩ [("_law_script",u)])/\∀ base:Heap,(K w.params).In base->base.Ns mainGlobals mg->jK l.prog w (K w.params) mg base CX0 86 fa fd ["_law_script"] (aAs (K w.params))) :
  PySem.W.WalkO q loose XP YP l.row.toRowW d [] (fun f vs=>PySem.call f vs) :=
 L2.aHm (n:=63) (k:=86) (x:="_law_script") (CX:=fun _=>CX0) (sp:=fun w=>aAs (K w.params)) hn (by decide) hdf ⟨rfl,by decide,by decide,rfl⟩ hY F (fun _ _ a ns hl _ hS=>⟨a,ns,rfl,hS,hl,fun _=>rfl⟩) fun _ _ _ _ _ z=>z
end K31
namespace PySem.W.Fast
theorem tw11696749731053858556:0=0:=rfl
theorem tw16732341390021470241:0=0:=rfl
theorem tw9284433623598277268:0=0:=rfl
theorem tw15581218660913939280:0=0:=rfl
theorem tw14220746141926297703:0=0:=rfl
theorem tw2091759460532078851:0=0:=rfl
theorem tw5816700580016057776:0=0:=rfl
theorem tw5891116696011791962:0=0:=rfl
theorem tw3913055146948017107:0=0:=rfl
theorem tw7713322720779731166:0=0:=rfl
theorem tw8086453650156150578:0=0:=rfl
theorem tw7282664586786556344:0=0:=rfl
theorem tw13775144413741311285:0=0:=rfl
theorem tw18094563817872507698:0=0:=rfl
theorem tw8568563603059891945:0=0:=rfl
theorem tw17119292346875155068:0=0:=rfl
theorem tw16048127938171915764:0=0:=rfl
theorem tw8585161302149635623:0=0:=rfl
theorem tw8678534376446597594:0=0:=rfl
theorem tw5069070841453573092:0=0:=rfl
theorem tw5138172022738806895:0=0:=rfl
theorem tw13737324718539641511:0=0:=rfl
theorem tw4973875260161704315:0=0:=rfl
theorem tw16433515247833622209:0=0:=rfl
theorem tw12427513396673113799:0=0:=rfl
theorem tw10463499148409710860:0=0:=rfl
theorem tw10330735161869117134:0=0:=rfl
theorem tw8599634994326769758:0=0:=rfl
theorem tw16481764265670469158:0=0:=rfl
theorem tw13151832036092721176:0=0:=rfl
theorem tw1260425954086473649:0=0:=rfl
theorem tw8302829216120616689:0=0:=rfl
theorem tw15499934786777489930:0=0:=rfl
theorem tw15506576127160870779:0=0:=rfl
theorem tw15806530088054185346:0=0:=rfl
theorem tw2731075137893712793:0=0:=rfl
theorem tw12202934196830848443:0=0:=rfl
theorem tw7853880957294889217:0=0:=rfl
theorem tw17012361150300822654:0=0:=rfl
theorem tw688227002781620354:0=0:=rfl
theorem tw1267709475858195252:0=0:=rfl
theorem tw15634374318607749969:0=0:=rfl
theorem tw17026770387745683469:0=0:=rfl
theorem tw6515752959502936981:0=0:=rfl
theorem tw11688919712386039860:0=0:=rfl
theorem tw13059252629358645093:0=0:=rfl
theorem tw8967197106664671530:0=0:=rfl
theorem tw2333262540968001786:0=0:=rfl
theorem tw10518528066935060842:0=0:=rfl
theorem tw12092809825059447446:0=0:=rfl
theorem tw13859932594136801298:0=0:=rfl
theorem tw13698232987802050936:0=0:=rfl
theorem tw15919982362584370478:0=0:=rfl
theorem tw7604375381961648142:0=0:=rfl
theorem tw5451617048733833862:0=0:=rfl
theorem tw2533967030562410394:0=0:=rfl
theorem tw18403654261416798531:0=0:=rfl
theorem tw6233791971627677733:0=0:=rfl
theorem tw8402079305526519209:0=0:=rfl
theorem tw56206609679549487:0=0:=rfl
theorem tw7756908731544079332:0=0:=rfl
theorem tw15614231379108771384:0=0:=rfl
theorem tw16458145503020164687:0=0:=rfl
theorem tw4699550080937927146:0=0:=rfl
theorem tw10825650291522886380:0=0:=rfl
theorem tw3016778056224357527:0=0:=rfl
theorem tw15924240100056942524:0=0:=rfl
theorem tw4652717116777579310:0=0:=rfl
theorem tw17309826928033728929:0=0:=rfl
theorem tw2948260364049261096:0=0:=rfl
theorem tw5916878912739544369:0=0:=rfl
theorem tw1139287552600439072:0=0:=rfl
theorem tw16778282238143294737:0=0:=rfl
theorem tw13134583306000790532:0=0:=rfl
theorem tw4877256284264808290:0=0:=rfl
theorem tw13355691732569867381:0=0:=rfl
theorem tw14780696799761352708:0=0:=rfl
theorem tw5703956326865000981:0=0:=rfl
theorem tw302531651380959198:0=0:=rfl
theorem tw15708302133605285712:0=0:=rfl
theorem tw1429920026926767969:0=0:=rfl
theorem tw14244654707429234585:0=0:=rfl
theorem tw1440150571563141624:0=0:=rfl
theorem tw10396231106687787665:0=0:=rfl
theorem tw15239098610373573387:0=0:=rfl
theorem tw16750765467971146562:0=0:=rfl
theorem tw2130057036541095152:0=0:=rfl
theorem tw1713965263954193419:0=0:=rfl
theorem tw15992168074701135674:0=0:=rfl
theorem tw10541468821293778196:0=0:=rfl
theorem tw11936165950236374640:0=0:=rfl
theorem tw13482496028329493251:0=0:=rfl
theorem tw11422712444815178128:0=0:=rfl
theorem tw5379397822929909438:0=0:=rfl
theorem tw13068851250828106716:0=0:=rfl
theorem tw7383101393282670163:0=0:=rfl
theorem tw7927225780889405846:0=0:=rfl
theorem tw1291865970590449123:0=0:=rfl
theorem tw17966639739167167502:0=0:=rfl
theorem tw14343961185448069003:0=0:=rfl
theorem tw1472096993858512188:0=0:=rfl
theorem tw14548965099023805805:0=0:=rfl
theorem tw8718329800052726531:0=0:=rfl
theorem tw16125748645939651429:0=0:=rfl
theorem tw12765644736851687718:0=0:=rfl
theorem tw17238910564094627317:0=0:=rfl
theorem tw2145338646005255223:0=0:=rfl
theorem tw9684802522319089418:0=0:=rfl
theorem tw11077336933465152206:0=0:=rfl
theorem tw13405731293917501767:0=0:=rfl
theorem tw16362205335962098706:0=0:=rfl
theorem tw4649500880806130096:0=0:=rfl
theorem tw9834267885676987451:0=0:=rfl
theorem tw11027048921414787097:0=0:=rfl
theorem tw4908900514491508773:0=0:=rfl
theorem tw12482834369584475934:0=0:=rfl
theorem tw5218687374320147277:0=0:=rfl
theorem tw5099236534044804145:0=0:=rfl
theorem tw15111741539456091037:0=0:=rfl
theorem tw16252026030547191248:0=0:=rfl
theorem tw13455148670234740308:0=0:=rfl
theorem tw14997136298514256747:0=0:=rfl
theorem tw8456534035243644118:0=0:=rfl
theorem tw5305561197187662191:0=0:=rfl
theorem tw15058328577132676249:0=0:=rfl
theorem tw7948121060665973661:0=0:=rfl
theorem tw9959477181541225082:0=0:=rfl
theorem tw2833218019594755129:0=0:=rfl
theorem tw5915986583823095194:0=0:=rfl
theorem tw5874951109672439909:0=0:=rfl
theorem tw9027226397638854727:0=0:=rfl
theorem tw4237065794172349791:0=0:=rfl
theorem tw15393234784109302575:0=0:=rfl
theorem tw7335060738394473173:0=0:=rfl
theorem tw4690729243873735632:0=0:=rfl
theorem tw4893072429530195710:0=0:=rfl
theorem tw16467064358457566484:0=0:=rfl
theorem tw3410684485445823048:0=0:=rfl
theorem tw11287686932436432572:0=0:=rfl
theorem tw6316401559726295471:0=0:=rfl
theorem tw9438511723064028133:0=0:=rfl
theorem tw1720548278470493766:0=0:=rfl
theorem tw17612385914964449229:0=0:=rfl
theorem tw1077159925279747371:0=0:=rfl
theorem tw5358219084413260756:0=0:=rfl
theorem tw847389745286679393:0=0:=rfl
theorem tw7986914776139681901:0=0:=rfl
theorem tw1900740748936724842:0=0:=rfl
theorem tw16859005588304703678:0=0:=rfl
theorem tw4615881807536421019:0=0:=rfl
theorem tw3995441607861797468:0=0:=rfl
theorem tw10577597225912149918:0=0:=rfl
theorem tw4256146872072711713:0=0:=rfl
theorem tw662970645765743799:0=0:=rfl
theorem tw7939204359675721300:0=0:=rfl
theorem tw5594682207966256327:0=0:=rfl
theorem tw10377858551607036402:0=0:=rfl
theorem tw15175044320698898609:0=0:=rfl
theorem tw12485022008995349542:0=0:=rfl
theorem tw18124683588913463650:0=0:=rfl
theorem tw11206210130641606090:0=0:=rfl
theorem tw10586725112150442489:0=0:=rfl
theorem tw6434823564977344363:0=0:=rfl
theorem tw17153895225492351516:0=0:=rfl
theorem tw1146538855949084022:0=0:=rfl
theorem tw13435495924430143929:0=0:=rfl
theorem tw15030375445027802075:0=0:=rfl
theorem tw17804600808033434013:0=0:=rfl
theorem tw17045556341329019155:0=0:=rfl
theorem tw13143138577714039687:0=0:=rfl
theorem tw5638094916085872913:0=0:=rfl
theorem tw17418598791626553456:0=0:=rfl
theorem tw9722442554943207124:0=0:=rfl
theorem tw6314229518776201850:0=0:=rfl
theorem tw17978318167810087296:0=0:=rfl
theorem tw8922972440183895935:0=0:=rfl
theorem tw13979051935987229753:0=0:=rfl
theorem tw7814781957326606233:0=0:=rfl
theorem tw16334494862730646145:0=0:=rfl
theorem tw5216128869862915514:0=0:=rfl
theorem tw9771487813680735476:0=0:=rfl
theorem tw8011865099747628613:0=0:=rfl
theorem tw2743302241809097412:0=0:=rfl
theorem tw1392648796410046405:0=0:=rfl
theorem tw18390443167010110193:0=0:=rfl
theorem tw13899278457324438835:0=0:=rfl
theorem tw13279531210363501069:0=0:=rfl
theorem tw5240756633248496232:0=0:=rfl
theorem tw13832332086888631420:0=0:=rfl
theorem tw16647124918490990360:0=0:=rfl
theorem tw16817154613270272274:0=0:=rfl
theorem tw3076537748798339239:0=0:=rfl
theorem tw14124443543185642624:0=0:=rfl
theorem tw17514283022268306701:0=0:=rfl
theorem tw3328984231907402284:0=0:=rfl
theorem tw15483811638458727548:0=0:=rfl
theorem tw8883879392615107927:0=0:=rfl
theorem tw4941922349844268786:0=0:=rfl
theorem tw3208903384653923911:0=0:=rfl
theorem tw11994893041211207494:0=0:=rfl
theorem tw7077315098478383558:0=0:=rfl
theorem tw14225030491308697941:0=0:=rfl
theorem tw14176043184304264901:0=0:=rfl
theorem tw10615213984723837195:0=0:=rfl
theorem tw7421091733304601706:0=0:=rfl
theorem tw5737348523216928234:0=0:=rfl
theorem tw1333536763195911980:0=0:=rfl
theorem tw8767669933681072083:0=0:=rfl
theorem tw7111745013308741371:0=0:=rfl
theorem tw5002662211824346092:0=0:=rfl
theorem tw7473663708489694713:0=0:=rfl
theorem tw15818803930361262831:0=0:=rfl
theorem tw13908847777554927147:0=0:=rfl
theorem tw4687972556247696724:0=0:=rfl
theorem tw2621993253331126702:0=0:=rfl
theorem tw9355483788288850606:0=0:=rfl
theorem tw12791444605393262846:0=0:=rfl
theorem tw15379140760196455801:0=0:=rfl
theorem tw4683857622657551922:0=0:=rfl
theorem tw11572412231016262190:0=0:=rfl
theorem tw6330403765783488846:0=0:=rfl
theorem tw17724694531513503605:0=0:=rfl
theorem tw6884611830024851590:0=0:=rfl
theorem tw10505432028937983461:0=0:=rfl
theorem tw7283616241901017442:0=0:=rfl
theorem tw7140729779754939856:0=0:=rfl
theorem tw6430186812328763010:0=0:=rfl
theorem tw6842726872732045253:0=0:=rfl
theorem tw4308665390338098480:0=0:=rfl
theorem tw9152754652862696987:0=0:=rfl
theorem tw6866542044697037253:0=0:=rfl
theorem tw10245754906343020909:0=0:=rfl
theorem tw9453489908617138447:0=0:=rfl
theorem tw14648381627273757541:0=0:=rfl
theorem tw17172760047424341268:0=0:=rfl
theorem tw11986540263609862150:0=0:=rfl
theorem tw17184607096610967533:0=0:=rfl
theorem tw10411930623805558990:0=0:=rfl
theorem tw13398838654729725778:0=0:=rfl
theorem tw2595096173152853844:0=0:=rfl
theorem tw7222953563317819766:0=0:=rfl
theorem tw4611528646721286528:0=0:=rfl
theorem tw6741197530272286548:0=0:=rfl
theorem tw14442962047025379179:0=0:=rfl
theorem tw5591657254513392815:0=0:=rfl
theorem tw76125120901102537:0=0:=rfl
theorem tw9389390897802284195:0=0:=rfl
theorem tw1418048382315597459:0=0:=rfl
theorem tw1899102146509186402:0=0:=rfl
theorem tw16128811315245417924:0=0:=rfl
theorem tw8186001061026940757:0=0:=rfl
theorem tw16332265503059862091:0=0:=rfl
theorem tw2176615507914756296:0=0:=rfl
theorem tw16512458700258942925:0=0:=rfl
theorem tw10575426677389088274:0=0:=rfl
theorem tw15545212906031705315:0=0:=rfl
theorem tw4044681854830493918:0=0:=rfl
theorem tw46207367883189862:0=0:=rfl
theorem tw6903464761211558404:0=0:=rfl
theorem tw8318099494738741322:0=0:=rfl
theorem tw1465747203658844835:0=0:=rfl
theorem tw2833017711307230056:0=0:=rfl
theorem tw13713276394641520954:0=0:=rfl
theorem tw17547202457328951513:0=0:=rfl
theorem tw1187191957355611449:0=0:=rfl
theorem tw8413401072062079461:0=0:=rfl
theorem tw11511769581685369504:0=0:=rfl
theorem tw18080920739760985708:0=0:=rfl
theorem tw9752720585949464415:0=0:=rfl
theorem tw9543630950414969242:0=0:=rfl
theorem tw13910426403411593617:0=0:=rfl
theorem tw9748014325446924922:0=0:=rfl
theorem tw12367702008255801849:0=0:=rfl
theorem tw7444311371424487477:0=0:=rfl
theorem tw10008984436297354761:0=0:=rfl
theorem tw294847877963546640:0=0:=rfl
theorem tw3778733967909738125:0=0:=rfl
theorem tw7313008036900540060:0=0:=rfl
theorem tw5699629633727564215:0=0:=rfl
theorem tw14821751546115256030:0=0:=rfl
theorem tw13549919737400112770:0=0:=rfl
theorem tw10509470741960120374:0=0:=rfl
theorem tw14811165305571020856:0=0:=rfl
theorem tw1559088530190363577:0=0:=rfl
theorem tw1314519401991013985:0=0:=rfl
theorem tw17449638473843081219:0=0:=rfl
theorem tw12032328814417058285:0=0:=rfl
theorem tw5616928353282024161:0=0:=rfl
theorem tw16419760358492343777:0=0:=rfl
theorem tw17687339237155854050:0=0:=rfl
theorem tw13813446571176358493:0=0:=rfl
theorem tw5561414191957449512:0=0:=rfl
theorem tw18396007008380359542:0=0:=rfl
theorem tw10016519289111273330:0=0:=rfl
theorem tw5569743024534990865:0=0:=rfl
theorem tw11699405999965377031:0=0:=rfl
theorem tw17848040892509210885:0=0:=rfl
theorem tw14471298183791914405:0=0:=rfl
theorem tw5075437232055502886:0=0:=rfl
theorem tw11036171964494750022:0=0:=rfl
theorem tw15321696969729652011:0=0:=rfl
theorem tw7371315229770116323:0=0:=rfl
theorem tw6040644372815230631:0=0:=rfl
theorem tw5098998597462807439:0=0:=rfl
theorem tw764724423702005930:0=0:=rfl
theorem tw710918892738001792:0=0:=rfl
theorem tw2562120181940960364:0=0:=rfl
theorem tw15817212286508420541:0=0:=rfl
theorem tw15275272609637336813:0=0:=rfl
theorem tw5736998790532615741:0=0:=rfl
theorem tw12685354974898378767:0=0:=rfl
theorem tw15051616538140063822:0=0:=rfl
theorem tw318071771144330541:0=0:=rfl
theorem tw7261680881389537902:0=0:=rfl
theorem tw12767377091197858449:0=0:=rfl
theorem tw11063771666075153855:0=0:=rfl
theorem tw17123970825470910104:0=0:=rfl
theorem tw14408776604009287406:0=0:=rfl
theorem tw5695026425863342973:0=0:=rfl
theorem tw15531484210597844797:0=0:=rfl
theorem tw6319182418593607068:0=0:=rfl
theorem tw3242368938653547743:0=0:=rfl
theorem tw17760603818649138028:0=0:=rfl
theorem tw5116536178900870718:0=0:=rfl
theorem tw312169773317771532:0=0:=rfl
theorem tw4325588128787666205:0=0:=rfl
theorem tw7827179469911286224:0=0:=rfl
theorem tw15480546591872458464:0=0:=rfl
theorem tw894475306986471372:0=0:=rfl
theorem tw18043146311837537688:0=0:=rfl
theorem tw296898141685436710:0=0:=rfl
theorem tw14261427295239277355:0=0:=rfl
theorem tw6878423414815142206:0=0:=rfl
theorem tw2686926037732371423:0=0:=rfl
theorem tw16737805102394890091:0=0:=rfl
theorem tw6892960090004774258:0=0:=rfl
theorem tw4373423586776984833:0=0:=rfl
theorem tw15232093588889373334:0=0:=rfl
theorem tw7796942147922019375:0=0:=rfl
theorem tw11169778282500622333:0=0:=rfl
theorem tw3554908163135659043:0=0:=rfl
theorem tw13034418915753728800:0=0:=rfl
theorem tw7524231624437301124:0=0:=rfl
theorem tw12349816451847273398:0=0:=rfl
theorem tw9085423164817160097:0=0:=rfl
theorem tw8581288395965971592:0=0:=rfl
theorem tw17392420406712006895:0=0:=rfl
theorem tw12878720736572447868:0=0:=rfl
theorem tw1739784858528157198:0=0:=rfl
theorem tw8366319538714337322:0=0:=rfl
theorem tw10580716327715494690:0=0:=rfl
theorem tw10604455533577883443:0=0:=rfl
theorem tw15135293512207988623:0=0:=rfl
theorem tw9012684097606396032:0=0:=rfl
theorem tw17114926845570951884:0=0:=rfl
theorem tw686366487348950815:0=0:=rfl
theorem tw4991016181753106699:0=0:=rfl
theorem tw7067833521701892307:0=0:=rfl
theorem tw15560991519437458163:0=0:=rfl
theorem tw16822358245826773917:0=0:=rfl
theorem tw14940794675012996480:0=0:=rfl
theorem tw1695917213090220002:0=0:=rfl
theorem tw1545634383077401954:0=0:=rfl
theorem tw6850765461133262355:0=0:=rfl
theorem tw3118259583901888612:0=0:=rfl
theorem tw2749847658757444667:0=0:=rfl
theorem tw15387788236958224774:0=0:=rfl
theorem tw9508593088577263695:0=0:=rfl
theorem tw16667719543961950949:0=0:=rfl
theorem tw6343095907635536537:0=0:=rfl
theorem tw3897365114551112449:0=0:=rfl
theorem tw11639075675155748850:0=0:=rfl
theorem tw848653238272495012:0=0:=rfl
theorem tw7856462779281652782:0=0:=rfl
theorem tw8089154954393496642:0=0:=rfl
theorem tw9530428312906799341:0=0:=rfl
theorem tw4813015663576040240:0=0:=rfl
theorem tw6232909307165921763:0=0:=rfl
theorem tw540367572933258363:0=0:=rfl
theorem tw9832886290832480957:0=0:=rfl
theorem tw9946396368363796786:0=0:=rfl
theorem tw15681463659363514919:0=0:=rfl
theorem tw17655326121569322706:0=0:=rfl
theorem tw16444780489014695206:0=0:=rfl
theorem tw10267723443246311555:0=0:=rfl
theorem tw4495512953928409934:0=0:=rfl
theorem tw34682666345820265:0=0:=rfl
theorem tw3011186088763155242:0=0:=rfl
theorem tw15033614771804439343:0=0:=rfl
theorem tw11708473718528308713:0=0:=rfl
theorem tw6560613524330813084:0=0:=rfl
theorem tw8618493810387988636:0=0:=rfl
theorem tw7079664337409548084:0=0:=rfl
theorem tw1652775965863225986:0=0:=rfl
theorem tw9211796293505588687:0=0:=rfl
theorem tw16720104288534289913:0=0:=rfl
theorem tw6079793878147044656:0=0:=rfl
theorem tw7239199271734645161:0=0:=rfl
theorem tw16670395094831657774:0=0:=rfl
theorem tw13195172272495469205:0=0:=rfl
theorem tw13206490890418580158:0=0:=rfl
theorem tw12809877277289620670:0=0:=rfl
theorem tw11091285190950043035:0=0:=rfl
theorem tw11908199268623076100:0=0:=rfl
theorem tw13992721100177851437:0=0:=rfl
theorem tw13926436254334863745:0=0:=rfl
theorem tw6723517638342414552:0=0:=rfl
theorem tw16999168094089835749:0=0:=rfl
theorem tw13148459305265484087:0=0:=rfl
theorem tw8205382590408752567:0=0:=rfl
theorem tw18220779391364965130:0=0:=rfl
theorem tw17289945780268446598:0=0:=rfl
theorem tw10448653394737055161:0=0:=rfl
theorem tw9225602354877494801:0=0:=rfl
theorem tw10806386525618335037:0=0:=rfl
theorem tw4775581397861781298:0=0:=rfl
theorem tw15938071661699816291:0=0:=rfl
theorem tw6043271035126187532:0=0:=rfl
theorem tw12067963142350957999:0=0:=rfl
theorem tw11825894178598753362:0=0:=rfl
theorem tw12563290938661011556:0=0:=rfl
theorem tw14875440448218026388:0=0:=rfl
theorem tw5536630925378489630:0=0:=rfl
theorem tw5719241016749075823:0=0:=rfl
theorem tw5621257022345862530:0=0:=rfl
theorem tw10270047306064869548:0=0:=rfl
theorem tw18042759908616824603:0=0:=rfl
theorem tw2819333075698849850:0=0:=rfl
theorem tw13658232991403439747:0=0:=rfl
theorem tw14519008819913008668:0=0:=rfl
theorem tw14238220599741309790:0=0:=rfl
theorem tw3853313174252400347:0=0:=rfl
theorem tw12343806283567239070:0=0:=rfl
theorem tw17262429869078106161:0=0:=rfl
theorem tw460922014366061823:0=0:=rfl
theorem tw10915471084039889434:0=0:=rfl
theorem tw14847837590043434007:0=0:=rfl
theorem tw3221724621948359239:0=0:=rfl
theorem tw13378841872414820047:0=0:=rfl
theorem tw3424668331199778094:0=0:=rfl
theorem tw1772256377596703268:0=0:=rfl
theorem tw507044711698888087:0=0:=rfl
theorem tw9384454687481777904:0=0:=rfl
theorem tw11179647234459642597:0=0:=rfl
theorem tw5663751848648447786:0=0:=rfl
theorem tw8061279445373549760:0=0:=rfl
theorem tw16184196402462244639:0=0:=rfl
theorem tw17829585675121222180:0=0:=rfl
theorem tw10399000538822176452:0=0:=rfl
theorem tw16369856770477787697:0=0:=rfl
theorem tw2301421688290381268:0=0:=rfl
theorem tw15614427494679748726:0=0:=rfl
theorem tw15748345919404473800:0=0:=rfl
theorem tw7644852306438635462:0=0:=rfl
theorem tw17954646076227851241:0=0:=rfl
theorem tw16077284000038204570:0=0:=rfl
theorem tw15671684073201999877:0=0:=rfl
theorem tw13743026667345614883:0=0:=rfl
theorem tw6098999941262449502:0=0:=rfl
theorem tw15435840635727130996:0=0:=rfl
theorem tw13606726204387744808:0=0:=rfl
theorem tw13050531141285455429:0=0:=rfl
theorem tw11377819838956216860:0=0:=rfl
theorem tw7787634715446654242:0=0:=rfl
theorem tw10495306090634845739:0=0:=rfl
theorem tw18395996622076898698:0=0:=rfl
theorem tw18015399532384787203:0=0:=rfl
theorem tw9904013258512791326:0=0:=rfl
theorem tw4542114265851801735:0=0:=rfl
theorem tw13629557148977958903:0=0:=rfl
theorem tw4574783903022201408:0=0:=rfl
theorem tw12642632843125697349:0=0:=rfl
theorem tw12672743219291056996:0=0:=rfl
theorem tw12848218045479731262:0=0:=rfl
theorem tw6255687382664341375:0=0:=rfl
theorem tw2650525648558173319:0=0:=rfl
theorem tw13442223258371794666:0=0:=rfl
theorem tw2274593046965516944:0=0:=rfl
theorem tw12790116885675894120:0=0:=rfl
theorem tw4582476258570818833:0=0:=rfl
theorem tw4401055004216907146:0=0:=rfl
theorem tw17929172913197041848:0=0:=rfl
theorem tw6389847592370782787:0=0:=rfl
theorem tw8161090322568354318:0=0:=rfl
theorem tw9375994780340971110:0=0:=rfl
theorem tw15657281729429492514:0=0:=rfl
theorem tw3950335584683022053:0=0:=rfl
theorem tw1262585759386823495:0=0:=rfl
theorem tw1435428644676322567:0=0:=rfl
theorem tw9549502828304372330:0=0:=rfl
theorem tw12084762536313293028:0=0:=rfl
theorem tw17552529307385409468:0=0:=rfl
theorem tw12528611646287339767:0=0:=rfl
theorem tw7831493845707769827:0=0:=rfl
theorem tw2420208470679183669:0=0:=rfl
theorem tw7483280184757801368:0=0:=rfl
theorem tw6379764575055056468:0=0:=rfl
theorem tw2425813629602894527:0=0:=rfl
theorem tw17351963018940211911:0=0:=rfl
theorem tw2736167440423657287:0=0:=rfl
theorem tw13679828489230253436:0=0:=rfl
theorem tw317994449635681531:0=0:=rfl
theorem tw3102943732569461020:0=0:=rfl
theorem tw904039305032118568:0=0:=rfl
theorem tw16485747118832361602:0=0:=rfl
theorem tw14102030007310150336:0=0:=rfl
theorem tw13101281501704727173:0=0:=rfl
theorem tw2443116669816816500:0=0:=rfl
theorem tw9812702423424229668:0=0:=rfl
theorem tw3027819620180276903:0=0:=rfl
theorem tw18202696247989703224:0=0:=rfl
theorem tw8429325504593725186:0=0:=rfl
theorem tw11051874664176508147:0=0:=rfl
theorem tw2494716475256906393:0=0:=rfl
theorem tw2632661844518351770:0=0:=rfl
theorem tw7030143868639338363:0=0:=rfl
theorem tw14858206731767159520:0=0:=rfl
theorem tw8482173448101336523:0=0:=rfl
theorem tw4003383511672924429:0=0:=rfl
theorem tw10792399603698675921:0=0:=rfl
theorem tw3279221022086213096:0=0:=rfl
theorem tw15219702200578219413:0=0:=rfl
theorem tw16119122065489967029:0=0:=rfl
theorem tw8204024579373111712:0=0:=rfl
theorem tw7980610228070504559:0=0:=rfl
theorem tw12753281837537637120:0=0:=rfl
theorem tw5428338862121036654:0=0:=rfl
theorem tw810254475534976627:0=0:=rfl
theorem tw3103014255399232797:0=0:=rfl
theorem tw1099430440080067588:0=0:=rfl
theorem tw10882825479843346947:0=0:=rfl
theorem tw129093899975329930:0=0:=rfl
theorem tw10395607128548609129:0=0:=rfl
theorem tw11493109734553247146:0=0:=rfl
theorem tw13198602150655950850:0=0:=rfl
theorem tw1159325811040799962:0=0:=rfl
theorem tw14396380510986030449:0=0:=rfl
theorem tw5602925790628594235:0=0:=rfl
theorem tw11524593355186926873:0=0:=rfl
theorem tw7040948891013167752:0=0:=rfl
theorem tw7278552722759788619:0=0:=rfl
theorem tw2811815606100119850:0=0:=rfl
theorem tw1654740474666872395:0=0:=rfl
theorem tw3965500463813379159:0=0:=rfl
theorem tw18442097386258451937:0=0:=rfl
theorem tw18281105199549578219:0=0:=rfl
theorem tw9798594707262313063:0=0:=rfl
theorem tw4967123338283132823:0=0:=rfl
theorem tw16607419023007949427:0=0:=rfl
theorem tw3752481155439184339:0=0:=rfl
theorem tw12597057077808956968:0=0:=rfl
theorem tw6525236941937578077:0=0:=rfl
theorem tw7886667928056062029:0=0:=rfl
theorem tw13935058772459835652:0=0:=rfl
theorem tw1210546335729354735:0=0:=rfl
theorem tw10830614686065890059:0=0:=rfl
theorem tw18337752554955969291:0=0:=rfl
theorem tw2706101665237175535:0=0:=rfl
theorem tw14748549296283478605:0=0:=rfl
theorem tw10284453242351038128:0=0:=rfl
theorem tw14633814402740292613:0=0:=rfl
theorem tw1152759412512834478:0=0:=rfl
theorem tw15889054054269167728:0=0:=rfl
theorem tw5260952660657741489:0=0:=rfl
theorem tw8720790742510136147:0=0:=rfl
theorem tw14992834824880822943:0=0:=rfl
theorem tw15231206153445615260:0=0:=rfl
theorem tw2231248629903529648:0=0:=rfl
theorem tw10414830932443867611:0=0:=rfl
theorem tw2818146978200019625:0=0:=rfl
theorem tw6723093093691239183:0=0:=rfl
theorem tw8085344721263434242:0=0:=rfl
theorem tw16491604749933510688:0=0:=rfl
theorem tw11568884804481880657:0=0:=rfl
theorem tw5989265625959357033:0=0:=rfl
theorem tw3943740438456448635:0=0:=rfl
theorem tw6306587502019351941:0=0:=rfl
theorem tw6484358452926761179:0=0:=rfl
theorem tw8013194415877458636:0=0:=rfl
theorem tw7144623988438435539:0=0:=rfl
theorem tw4077848543109536477:0=0:=rfl
theorem tw11579801559667121778:0=0:=rfl
theorem tw5264090560942876886:0=0:=rfl
theorem tw5923829235074677506:0=0:=rfl
theorem tw8559187859521765854:0=0:=rfl
theorem tw3445242008049832306:0=0:=rfl
theorem tw14845313194760345263:0=0:=rfl
theorem tw3991214714610389862:0=0:=rfl
theorem tw7868338626938911596:0=0:=rfl
theorem tw10136820400438896099:0=0:=rfl
theorem tw5131384319767835984:0=0:=rfl
theorem tw7215485385020128474:0=0:=rfl
theorem tw9293331514666270293:0=0:=rfl
end PySem.W.Fast
open PySem PySem.W PyProof.Rows
set_option maxRecDepth 100000 in
set_option maxHeartbeats 0 in
theorem PySem.Challenge.cw_roomslaid_k31_loops_and_choices_holds : PySem.Challenge.rw_roomslaid_k31_loops_and_choices.Holds := by
 w_on;o_law;k_head; (case hw=>w_witness2)
 k_fill
 refine K31.walk (l := PySem.Challenge.rw_roomslaid_k31_loops_and_choices) rfl rfl (fun w h Y => PySem.W.kIn_of Y) ?F
 case F =>
  intro w mg fa h KX G hmg
  refine' K31.all_mk KX G hmg ?_ ?_ ?_ ?_ ?_ ?_ ?_ ?_ ?_ ?_ ?_ ?_ ?_ ?_ ?_ ?_ ?_ ?_ ?_ ?_ ?_ ?_ ?_ ?_ ?_ ?_ ?_ ?_ ?_ ?_ ?_ ?_ ?_ ?_ ?_ ?_ ?_ ?_ ?_ ?_ ?_ ?_ ?_ ?_ ?_ ?_ ?_ ?_ ?_ ?_ ?_ ?_ ?_ ?_ ?_ ?_ ?_ ?_ ?_ ?_ ?_ ?_ ?_ ?_ ?_ ?_ ?_ ?_ ?_ ?_ ?_ ?_ ?_ ?_ ?_ ?_ ?_ ?_ ?_ ?_ ?_ ?_ ?_ ?_ ?_ ?_ ?_ ?_ ?_ ?_ ?_ ?_ ?_ ?_ ?_ ?_ ?_ ?_ ?_ ?_ ?_ ?_ ?_ ?_ ?_ ?_ ?_ ?_ ?_ ?_ ?_ ?_ ?_ ?_ ?_ ?_ ?_ ?_ ?_ ?_ ?_ ?_ ?_ ?_ ?_ ?_ ?_ ?_ ?_ ?_ ?_ ?_ ?_ ?_ ?_ ?_ ?_ ?_ ?_ ?_ ?_ ?_ ?_ ?_ ?_ ?_ ?_ ?_ ?_ ?_ ?_ ?_ ?_ ?_ ?_ ?_ ?_ ?_ ?_ ?_ ?_ ?_ ?_ ?_ ?_ ?_ ?_ ?_ ?_ ?_ ?_ ?_ ?_ ?_ ?_ ?_ ?_ ?_ ?_ ?_ ?_ ?_ ?_ ?_ ?_ ?_ ?_ ?_ ?_ ?_ ?_ ?_ ?_ ?_ ?_ ?_ ?_ ?_ ?_ ?_ ?_ ?_ ?_ ?_ ?_
  all_goals (first|refine' K31.FG.mk ?_ ⟨_,L2.aDs ?_ ?_ ?_⟩|refine' K31.FM.mk ?_ ?_ ⟨_,L2.aDs ?_ ?_ ?_⟩|refine' K31.CK.mk ?_ ⟨?_,?_,?_,?_⟩ ?_ ?_ ?_|skip)
  all_goals (repeat' (first|exact K31.na0|refine' K31.na1 ?_ ?_))
  all_goals (first|k_is|exact K31.na0|exact Eq.refl true|exact Eq.refl (some true)|exact Eq.refl (some false)|kernel_rfl|decide +kernel|skip)
