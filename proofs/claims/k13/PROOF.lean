import PyProof.Rows.All
import Wide.All
import OpenK.AllK
import Wide.FinOn
import Lean
import PyProof.EqAt
import PyProof.EqKinds
import PyProof.TupleCall
import PyProof.LongRange
import PyProof.ListRange
import PyProof.RaisesMany
import PyProof.ExcBaseAll.ValueError
import PyProof.ExcArgs
import PyProof.InstStoreFacts
import PyProof.ExcAttrAll.ValueError
import PyProof.RulesAs
import PyProof.RulesDel
import PyProof.ReprRoads
import PyProof.CallFns
import PyProof.InstSpecial
import PyProof.Rows.RuleN_isinstance
import KE.KIsNot
import PyProof.ReprLen
import PyProof.EnumMake
import PyProof.EnumFor
import PyProof.EnumStmt
import PyProof.Rows.EnumRows
import PyProof.RulesDelMore
import PyProof.Rows.SetFrom
import PyProof.ZipIter
import PyProof.IsRules
import PyProof.Conv_int_bool
import PyProof.IsiTuple
import PyProof.NeKinds
import KE.KEqDict
import PyProof.Rows.FStr
import PyProof.Rows.StrNews
import PyProof.StrCalls2
import PyProof.StrLawsChain
import PyProof.StrLawsTight
import PyProof.StrOps2
import PyProof.WalkInts
import PyProof.DictCompW
import PyProof.DictWalks
import PyProof.Rows.DictUnroll
import PyProof.FactsAll.dict
import PyProof.AttrMissHeap
import PyProof.FactsAll.zip
import KE.KDictOf
import PySem.Challenge.RW_roomslaid_k13_too_much
set_option Elab.async false
set_option linter.all false
set_option maxRecDepth 100000
open PySem.W (Frag keepIn findIn codeIn nsIn fnOf mg_of isFn mg_none_of)
namespace L2
open PySem PySem.Spec PyProof.Rows
abbrev Key:=Sum Int Str
def keyIs:Key->Value->Bool
 | .inl k,v=>Value.isInt k v
 | .inr x,v=>Value.isStrOf x v
def keyH (w:World):Key->Int
 | .inl k=>hashInt k
 | .inr x=>hashStr w x
theorem keyIs_shape:∀ {k:Key} {v:Value},keyIs k v=true->(∃ i t,k=Sum.inl i/\v=Value.int i t)\/(∃ x t,k=Sum.inr x/\v=Value.str x t)
 | .inl i,v,h=>by
  obtain⟨t,e⟩:=Value.isInt_shape (k:=i) (v:=v) h
  exact .inl ⟨i,t,rfl,e⟩
 | .inr x,v,h=>by
  obtain⟨t,e⟩:=Value.isStrOf_shape (x:=x) (v:=v) h
  exact .inr ⟨x,t,rfl,e⟩
theorem keyIs_int (i:Int) (t:Tok):keyIs (.inl i) (.int i t)=true:=by simp [keyIs,Value.isInt]
theorem keyIs_str (x:Str) (t:Tok):keyIs (.inr x) (.str x t)=true:=by simp [keyIs,Value.isStrOf]
theorem key_ll (a b:Int):decide ((Sum.inl a:Key)=Sum.inl b)=(a == b):=by
 by_cases e:a=b
 ·subst e;simp
 ·have h:¬ (Sum.inl a:Key)=Sum.inl b:=fun q=>e (Sum.inl.inj q)
  rw [decide_eq_false h]
  exact (beq_eq_false_iff_ne.mpr e).symm
theorem key_rr (a b:Str):decide ((Sum.inr a:Key)=Sum.inr b)=decide (a=b):=by
 by_cases e:a=b
 ·subst e;simp
 ·have h:¬ (Sum.inr a:Key)=Sum.inr b:=fun q=>e (Sum.inr.inj q)
  rw [decide_eq_false h,decide_eq_false e]
theorem key_lr (a:Int) (b:Str):decide ((Sum.inl a:Key)=Sum.inr b)=false:=decide_eq_false (fun q=>nomatch q)
theorem key_rl (a:Str) (b:Int):decide ((Sum.inr a:Key)=Sum.inl b)=false:=decide_eq_false (fun q=>nomatch q)
def mixKind (prog:Program) (w:World):PySem.KeyKind prog w Key where
 is:=keyIs
 hash:=keyH w
 inj:=fun v a b ha hb=>by
  rcases keyIs_shape ha with⟨i,t,rfl,rfl⟩|⟨x,t,rfl,rfl⟩
  ·rcases keyIs_shape hb with⟨j,u,rfl,e⟩|⟨y,u,rfl,e⟩
   ·injection e with e1 _;rw [e1]
   ·exact nomatch e
  ·rcases keyIs_shape hb with⟨j,u,rfl,e⟩|⟨y,u,rfl,e⟩
   ·exact nomatch e
   ·injection e with e1 _;rw [e1]
 byValue:=fun k v h=>by
  rcases keyIs_shape h with⟨i,t,rfl,rfl⟩|⟨x,t,rfl,rfl⟩ <;> rfl
 pyHash:=fun hv h=>by
  rcases keyIs_shape hv with⟨i,t,rfl,rfl⟩|⟨x,t,rfl,rfl⟩
  ·exact wpAny_pyHash_int h
  ·exact wpAny_pyHash_str h
 eqBool:=fun hu hv h=>by
  rcases keyIs_shape hu with⟨i,t,rfl,rfl⟩|⟨x,t,rfl,rfl⟩
  ·rcases keyIs_shape hv with⟨j,u,rfl,rfl⟩|⟨y,u,rfl,rfl⟩
   ·rw [key_ll] at h;exact wpAny_eqBool_int h
   ·rw [key_lr] at h;exact SeqAt.EqAt.int_str i t y u _ _ _ _ h
  ·rcases keyIs_shape hv with⟨j,u,rfl,rfl⟩|⟨y,u,rfl,rfl⟩
   ·rw [key_rl] at h;exact SeqAt.EqAt.str_int x t j u _ _ _ _ h
   ·rw [key_rr] at h;exact wpAny_eqBool_str h
 «strs»:=fun k x t v h=>by
  rcases keyIs_shape h with⟨i,u,rfl,e⟩|⟨y,u,rfl,e⟩
  ·exact nomatch e
  ·injection e with e1 _
   subst e1
   cases v <;> rfl
theorem mixKind_int (prog:Program) (w:World) (i:Int) (t:Tok):(mixKind prog w).is (.inl i) (.int i t)=true:=keyIs_int i t
theorem mixKind_str (prog:Program) (w:World) (x:Str) (t:Tok):(mixKind prog w).is (.inr x) (.str x t)=true:=keyIs_str x t
inductive V where
 | non|bl (b:Bool)|int (i:Int)|str (x:Str)|byt (b:Array UInt8)|flt (b:UInt64)|ref (a:Addr)|ty (n:String)
 deriving DecidableEq
def RelV:V->Value->Prop
 | .non,u=>u=Value.none
 | .bl b,u=>u=Value.bool b
 | .int i,u=>∃ t,u=Value.int i t
 | .str x,u=>∃ t,u=Value.str x t
 | .byt b,u=>∃ t,u=Value.bytes b t
 | .flt b,u=>∃ t,u=Value.float b t
 | .ref a,u=>u=Value.ref a
 | .ty n,u=>u=Value.type n
abbrev Vals:List V->List Value->Prop:=Paired RelV
theorem Vals.length {xs:List V} {us:List Value} (r:Vals xs us):xs.length=us.length:=Paired.length r
theorem Vals.get:∀ {xs:List V} {us:List Value} {i:Nat} {x:V},Vals xs us->xs[i]?=some x->∃ u,us[i]?=some u/\RelV x u
 | _,_,_,_,.nil,e=>by simp at e
 | _,_,0,_,.cons r _,e=>by simp at e;subst e;exact⟨_,rfl,r⟩
 | _,_,i + 1,x,.cons _ t,e=>by
  obtain⟨u,h1,h2⟩:=Vals.get (i:=i) (x:=x) t (by simpa using e)
  exact⟨u,by simpa using h1,h2⟩
theorem Vals.set {x:V} {u:Value} (r:RelV x u):∀ {xs:List V} {us:List Value} (i:Nat),Vals xs us->Vals (xs.set i x) (us.set i u)
 | _,_,_,.nil=>.nil
 | _,_,0,.cons _ t=>.cons r t
 | _,_,i + 1,.cons q t=>.cons q (Vals.set r i t)
theorem Vals.append:∀ {xs ys:List V} {us ws:List Value},Vals xs us->Vals ys ws->Vals (xs++ys) (us++ws)
 | _,_,_,_,.nil,s=>s
 | _,_,_,_,.cons r t,s=>.cons r (Vals.append t s)
theorem Vals.take:∀ {xs:List V} {us:List Value} (n:Nat),Vals xs us->Vals (xs.take n) (us.take n)
 | _,_,0,_=>.nil
 | _,_,_ + 1,.nil=>.nil
 | _,_,n + 1,.cons r t=>.cons r (Vals.take n t)
theorem Vals.drop:∀ {xs:List V} {us:List Value} (n:Nat),Vals xs us->Vals (xs.drop n) (us.drop n)
 | _,_,0,r=>r
 | _,_,_ + 1,.nil=>.nil
 | _,_,n + 1,.cons _ t=>Vals.drop n t
theorem Vals.none_of:∀ {xs:List V} {us:List Value} {i:Nat},Vals xs us->xs[i]?=none->us[i]?=none:=fun {xs us i} r e=>by
 have h1:=r.length
 have h2:xs.length<=i:=List.getElem?_eq_none_iff.mp e
 exact List.getElem?_eq_none_iff.mpr (by omega)
def RelO:Option V->Option Value->Prop
 | some v,some u=>RelV v u
 | none,none=>True
 | _,_=>False
def KV {κ : Type} : List (κ × V)->List (κ × Value)->Prop:=Paired fun (p : κ × V) (q : κ × Value)=>p.1=q.1/\RelV p.2 q.2
def kV:Key->V
 | .inl i=>.int i
 | .inr x=>.str x
inductive HO where
 /-- a list -/
 | lst (xs:List V)
 /-- a tuple (never changes) -/
 | tup (xs:List V)
 /-- a dict whose keys are ints and texts; one whose keys are tuples of ints and texts (the empty one is both) -/
 | dK (kvs:List (Key × V))|dT (kvs:List (List Key × V))
 /-- a set of ints: its members,its size -/
 | set (S:Int->Bool) (n:Nat)
 /-- an instance of the class at C,its dict at dx,its attributes -/
 | ins (C dx:Addr) (fs:List (Str × V))
 /-- the dict of the instance at x -/
 | own (x:Addr)
 /-- the dict of an exception -/
 | xd (fs:List (Str × V))
 /-- a bound method,f of x -/
 | met (f x:Addr)
 /-- a range object lo,lo + 1,.. below hi -/
 | rng (lo hi:Int)
 /-- a thing that is known to the object (the script; a dict while a loop walks it): read,never written while it is so -/
 | frz (o:Obj) (u:HO)
 /-- a code object's table -/
 | tbl (ps:Array Value)
 /-- any other thing,by what is true of its one object (a def of one's own: SetO a S n := HO.ext fun h => ..) -/
 | ext (φ : Heap->Prop)
abbrev Hp:=Addr->Option HO
def upd (H:Hp) (a:Addr) (o:HO):Hp:=fun b=>if b=a then some o else H b
theorem upd_same {H:Hp} {a:Addr} {o:HO} : upd H a o a=some o:=by unfold upd;rw [if_pos rfl]
theorem upd_ne {H:Hp} {a b:Addr} {o:HO} (h:b ≠ a):upd H a o b=H b:=by unfold upd;rw [if_neg h]
theorem ne_of {H:Hp} {a b:Addr} {o u:HO} (h:H a=some o) (h':H b=some u) (d:o ≠ u):a ≠ b:=by
 intro e;subst e;rw [h] at h';exact d (Option.some.inj h')
theorem ne_of_none {H:Hp} {a b:Addr} {o:HO} (h:H a=some o) (h':H b=none):a ≠ b:=by
 intro e;subst e;rw [h] at h';cases h'
section
variable (P:Program) (w:World)
def ObjOk (H:Hp) (h:Heap) (a:Addr):HO->Prop
 | .lst xs=>xs.length<=sizeLine/\∃ (its:List Value) (n:Nat),Vals xs its/\h.get? a=some { cls:=.type "list",data:=.seq its.toArray n }
 | .tup xs=>xs.length<=sizeLine/\∃ its:List Value,Vals xs its/\IsTup h a its.toArray
 | .dK kvs=>kvs.length<=sizeLine/\(a == sysModules)=false/\∃ vs,KV kvs vs/\h.DictOf (mixKind P w) a vs
 | .dT kvs=>kvs.length<=sizeLine/\(a == sysModules)=false/\∃ xs:List (List Key × Addr × Value),
   Paired (fun (p:List Key × V) (q:List Key × Addr × Value)=>p.1=q.1/\H q.2.1=some (.tup (p.1.map kV))/\RelV p.2 q.2.2) kvs xs ∧
   ∃ o es ep,h.get? a=some o/\o.ExactDict/\o.data=.dict es ep/\es.toList=xs.map (entryOfKey (tupleKind (mixKind P w)))/\(xs.map (·.1)).Nodup
 | .set S n=>h.SetOf (intKind P w) a S n
 | .ins C dx fs=>H dx=some (.own a)/\fs.length<=1000/\dx ≠ a/\h.get? a=some (PySem.W.instObj C dx) ∧
   ∃ mA,h.Ns1 dx mA/\(∀ f,RelO (fs.lookup f) (mA f))/\PySem.Within mA (fs.map (·.1))
 | .own _=>∃ o,h.get? a=some o
 | .xd fs=>∃ mA,h.Ns1 a mA/\∀ f,RelO (fs.lookup f) (mA f)
 | .rng lo hi=>∃ t u v,h.get? a=some { cls:=.type "range",data:=.fields #[.int lo t,.int hi u,.int 1 v] }
 | .frz o u=>h.get? a=some o/\ObjOk H h a u
 | .tbl ps=>h.get? a=some { cls:=.none,data:=.fields ps }
 | .met f x=>h.get? a=some (PySem.W.methodObj (.ref f) (.ref x))
 | .ext φ=>φ h/\(∃ o,h.get? a=some o)/\∀ h1 h2:Heap,φ h1->(∀ o,h1.get? a=some o->h2.get? a=some o)->φ h2
def HOk (H:Hp) (h:Heap):Prop:=∀ a o,H a=some o->ObjOk P w H h a o
end
section
variable {P:Program} {w:World} {H H':Hp} {h h':Heap} {a:Addr} {o:HO}
theorem ObjOk.lt (x:ObjOk P w H h a o):a < h.objs.size:=by
 cases o with
 | lst xs=>obtain⟨_,_,_,_,e⟩:=x;exact Heap.lt_size e
 | tup xs=>obtain⟨_,_,_,p⟩:=x;exact p.lt
 | dK kvs=>obtain⟨_,_,_,_,o,_,_,e,_⟩:=x;exact Heap.lt_size e
 | dT kvs=>obtain⟨_,_,_,_,o,_,_,e,_⟩:=x;exact Heap.lt_size e
 | set S n=>obtain⟨o,_,_,_,e,_⟩:=x;exact Heap.lt_size e
 | ins C dx fs=>obtain⟨_,_,_,e,_⟩:=x;exact Heap.lt_size e
 | own y=>obtain⟨_,e⟩:=x;exact Heap.lt_size e
 | xd fs=>obtain⟨_,⟨_,_,_,e,_⟩,_⟩:=x;exact Heap.lt_size e
 | rng lo hi=>obtain⟨_,_,_,e⟩:=x;exact Heap.lt_size e
 | frz ob u=>obtain⟨e,_⟩:=x;exact Heap.lt_size e
 | tbl ps=>exact Heap.lt_size (show h.get? a=some _ from x)
 | met f y=>exact Heap.lt_size (show h.get? a=some _ from x)
 | ext φ=>obtain⟨_,⟨_,e⟩,_⟩:=x;exact Heap.lt_size e
theorem Paired.mapP {α β : Type} {F G : α->β->Prop} : ∀ {l₁ : List α} {l₂ : List β},Paired F l₁ l₂->(∀ a b,F a b->G a b)->Paired G l₁ l₂
 | _,_,.nil,_=>.nil
 | _,_,.cons r t,f=>.cons (f _ _ r) (Paired.mapP t f)
theorem ObjOk.stay (x:ObjOk P w H h a o) (k:∀ b u,(b=a\/H b=some (.own a))->h.get? b=some u->h'.get? b=some u)
  (ho:∀ b,H b=some (.own a)->H' b=some (.own a)) (ht:∀ b xs,H b=some (.tup xs)->H' b=some (.tup xs)):ObjOk P w H' h' a o:=by
 induction o with
 | lst xs=>obtain⟨z,its,n,r,e⟩:=x;exact⟨z,its,n,r,k _ _ (.inl rfl) e⟩
 | tup xs=>obtain⟨z,its,r,ob,e,c⟩:=x;exact⟨z,its,r,ob,k _ _ (.inl rfl) e,c⟩
 | dK kvs=>obtain⟨z,y,vs,r,ob,es,ep,e,c⟩:=x;exact⟨z,y,vs,r,ob,es,ep,k _ _ (.inl rfl) e,c⟩
 | dT kvs =>
  obtain⟨z,y,xs,r,ob,es,ep,e,c⟩:=x
  exact⟨z,y,xs,Paired.mapP r fun p q z=>⟨z.1,ht _ _ z.2.1,z.2.2⟩,ob,es,ep,k _ _ (.inl rfl) e,c⟩
 | set S n=>obtain⟨ob,es,ep,t,e,c⟩:=x;exact⟨ob,es,ep,t,k _ _ (.inl rfl) e,c⟩
 | ins C dx fs =>
  obtain⟨d,z,ne,e,mA,⟨od,es,ep,e2,c⟩,r⟩:=x
  exact⟨ho _ d,z,ne,k _ _ (.inl rfl) e,mA,⟨od,es,ep,k _ _ (.inr d) e2,c⟩,r⟩
 | own y=>obtain⟨ob,e⟩:=x;exact⟨ob,k _ _ (.inl rfl) e⟩
 | xd fs=>obtain⟨mA,⟨od,es,ep,e,c⟩,r⟩:=x;exact⟨mA,⟨od,es,ep,k _ _ (.inl rfl) e,c⟩,r⟩
 | rng lo hi=>obtain⟨t,u,v,e⟩:=x;exact⟨t,u,v,k _ _ (.inl rfl) e⟩
 | frz ob u ih=>obtain⟨e,q⟩:=x;exact⟨k _ _ (.inl rfl) e,ih q⟩
 | tbl ps =>
  have e:h.get? a=some { cls:=.none,data:=.fields ps }:=x
  show h'.get? a=some { cls:=.none,data:=.fields ps }
  exact k a _ (.inl rfl) e
 | met f y =>
  have e:h.get? a=some (PySem.W.methodObj (.ref f) (.ref y)):=x
  show h'.get? a=some (PySem.W.methodObj (.ref f) (.ref y))
  exact k a _ (.inl rfl) e
 | ext φ=>obtain⟨p,⟨o,e⟩,st⟩:=x;exact⟨st _ _ p fun o q=>k _ _ (.inl rfl) q,⟨o,k _ _ (.inl rfl) e⟩,st⟩
theorem HOk.lt (x:HOk P w H h) (e:H a=some o):a < h.objs.size:=(x a o e).lt
theorem HOk.fresh (x:HOk P w H h) (e:h.objs.size<=a):H a=none:=by
 cases q:H a with
 | none=>rfl
 | some u=>exact absurd (Nat.lt_of_lt_of_le (x.lt q) e) (Nat.lt_irrefl _)
theorem HOk.kept (x:HOk P w H h) (k:∀ b u,h.get? b=some u->h'.get? b=some u):HOk P w H h':=fun a o e =>
 (x a o e).stay (fun b u _ q=>k b u q) (fun _ q=>q) fun _ _ q=>q
theorem HOk.laid (x:HOk P w H h) (k:∀ b u,h.get? b=some u->h'.get? b=some u) (hp:h.objs.size<=a) (new:ObjOk P w (upd H a o) h' a o):HOk P w (upd H a o) h':=fun b u e=>by
 have hn:=x.fresh hp
 by_cases hb:b=a
 ·subst hb;rw [upd_same] at e;cases e;exact new
 ·rw [upd_ne hb] at e
  exact (x b u e).stay (fun c v _ q=>k c v q) (fun c q=>by rw [upd_ne (ne_of_none q hn)];exact q) fun c xs q=>by rw [upd_ne (ne_of_none q hn)];exact q
end
def Rd (H:Hp) (a:Addr) (u:HO):Prop:=H a=some u\/∃ o,H a=some (.frz o u)
theorem Rd.of {H:Hp} {a:Addr} {u:HO} (h:H a=some u):Rd H a u:=.inl h
theorem Rd.ok {P:Program} {w:World} {H:Hp} {h:Heap} {a:Addr} {u:HO} (r:Rd H a u) (x:HOk P w H h):ObjOk P w H h a u:=by
 rcases r with r|⟨o,r⟩
 ·exact x a u r
 ·obtain⟨_,q⟩:=x a _ r
  exact q
def Mut:Option HO->Prop
 | some (.lst _)=>True
 | some (.dK _)=>True
 | some (.dT _)=>True
 | some (.set _ _)=>True
 | some (.ins _ _ _)=>True
 | some (.ext _)=>True
 | _=>False
section
variable {P:Program} {w:World} {H:Hp} {h h':Heap} {x e:Addr} {o':HO}
theorem HOk.write (ok:HOk P w H h) (mu:Mut (H x)) (he:e=x\/H e=some (.own x)) (k:∀ b u,b ≠ e->h.get? b=some u->h'.get? b=some u) (heo:∃ u,h'.get? e=some u)
  (new:ObjOk P w (upd H x o') h' x o'):HOk P w (upd H x o') h':=fun b u q=>by
 have nown:∀ c y,H c=some (.own y)->c ≠ x:=fun c y r z=>by subst z;rw [r] at mu;exact mu
 have ntup:∀ c xs,H c=some (.tup xs)->c ≠ x:=fun c xs r z=>by subst z;rw [r] at mu;exact mu
 by_cases hb:b=x
 ·subst hb;rw [upd_same] at q;cases q;exact new
 ·rw [upd_ne hb] at q
  by_cases hbe:b=e
  ·have q':H b=some (.own x):=by
    rcases he with z|z
    ·exact absurd (hbe.trans z) hb
    ·rw [hbe];exact z
   rw [q] at q';cases q'
   obtain⟨v,hv⟩:=heo
   exact⟨v,by rw [hbe];exact hv⟩
  ·refine (ok b u q).stay (fun c v hc r=>k c v ?_ r) (fun c r=>by rw [upd_ne (nown c b r)];exact r) fun c xs r=>by rw [upd_ne (ntup c xs r)];exact r
   rcases hc with rfl|hc
   ·exact hbe
   ·rintro rfl
    rcases he with z|z
    ·exact nown c b hc z
    ·rw [hc] at z;cases z;exact hb rfl
end
structure Un (fs ex:List Addr) (H H':Hp) (h h':Heap):Prop where
 keep:∀ b o,h.get? b=some o->H b=none->b ∉ fs->b ∉ ex->h'.get? b=some o
 slot:∀ b o,h.get? b=some o->H b=none->b ∈ fs->b ∉ ex->∃ sl,h'.get? b=some { o with slots:=sl }
 free:∀ b o,h.get? b=some o->H b=none->b ∉ ex->H' b=none
 there:∀ b o,h.get? b=some o->b ∉ ex->∃ o',h'.get? b=some o'
 tups:∀ b xs,H b=some (.tup xs)->H' b=some (.tup xs)
 frzs:∀ b o u,H b=some (.frz o u)->H' b=some (.frz o u)
 tbls:∀ b ps,H b=some (.tbl ps)->∃ more,H' b=some (.tbl (ps++more))
section
variable {fs fs' ex ex':List Addr} {H H1 H2:Hp} {h h1 h2 h':Heap} {a x e:Addr} {o:HO}
theorem Un.any (u:Un fs ex H H1 h h1) {b:Addr} {ob:Obj} (q:h.get? b=some ob) (n:H b=none) (hx:b ∉ ex):∃ sl,h1.get? b=some { ob with slots:=sl }:=by
 by_cases hb:b ∈ fs
 ·exact u.slot b ob q n hb hx
 ·exact⟨ob.slots,u.keep b ob q n hb hx⟩
theorem Un.trans (a:Un fs ex H H1 h h1) (b:Un fs ex H1 H2 h1 h2):Un fs ex H H2 h h2 where
 keep:=fun c ob q n hc hx=>b.keep c ob (a.keep c ob q n hc hx) (a.free c ob q n hx) hc hx
 slot:=fun c ob q n hc hx=>by
  obtain⟨sl,e1⟩:=a.slot c ob q n hc hx
  obtain⟨sl',e2⟩:=b.slot c _ e1 (a.free c ob q n hx) hc hx
  exact⟨sl',e2⟩
 free:=fun c ob q n hx=>by
  obtain⟨o',e1⟩:=a.there c ob q hx
  exact b.free c o' e1 (a.free c ob q n hx) hx
 there:=fun c ob q hx=>by
  obtain⟨o',e1⟩:=a.there c ob q hx
  exact b.there c o' e1 hx
 tups:=fun c xs q=>b.tups c xs (a.tups c xs q)
 frzs:=fun c ob xs q=>b.frzs c ob xs (a.frzs c ob xs q)
 tbls:=fun c ps q=>by
  obtain⟨m1,e1⟩:=a.tbls c ps q
  obtain⟨m2,e2⟩:=b.tbls c _ e1
  exact⟨m1++m2,by rw [e2,Array.append_assoc]⟩
theorem Un.kept (k:∀ b u,h.get? b=some u->h'.get? b=some u):Un fs ex H H h h' :=
 ⟨fun b ob q _ _ _=>k b ob q,fun b ob q _ _ _=>⟨ob.slots,k b ob q⟩,fun _ _ _ n _=>n,fun b ob q _=>⟨ob,k b ob q⟩,fun _ _ q=>q,fun _ _ _ q=>q,fun _ ps q=>⟨#[],by rw [q];simp⟩⟩
theorem Un.refl:Un fs ex H H h h:=Un.kept fun _ _ q=>q
theorem Un.laid (k:∀ b u,h.get? b=some u->h'.get? b=some u) (hp:h.objs.size<=a) (hn:H a=none):Un fs ex H (upd H a o) h h' where
 keep:=fun b u q _ _ _=>k b u q
 slot:=fun b u q _ _ _=>⟨u.slots,k b u q⟩
 free:=fun b u q n _=>by rw [upd_ne (Nat.ne_of_lt (Nat.lt_of_lt_of_le (Heap.lt_size q) hp))];exact n
 there:=fun b u q _=>⟨u,k b u q⟩
 tups:=fun b xs q=>by rw [upd_ne (ne_of_none q hn)];exact q
 frzs:=fun b u xs q=>by rw [upd_ne (ne_of_none q hn)];exact q
 tbls:=fun b ps q=>⟨#[],by rw [upd_ne (ne_of_none q hn),q];simp⟩
theorem Un.write (mu:Mut (H x)) (he:e=x\/H e=some (.own x)) (k:∀ b u,b ≠ e->h.get? b=some u->h'.get? b=some u) (heo:∃ u,h'.get? e=some u):Un fs ex H (upd H x o) h h':=by
 have hx:∀ b,H b=none->b ≠ x:=fun b n z=>by subst z;rw [n] at mu;exact mu
 have hb:∀ b,H b=none->b ≠ e:=fun b n z=>by
  subst z
  rcases he with r|r
  ·exact hx b n r
  ·rw [n] at r;cases r
 have hm:∀ b u,H b=some u->¬ Mut (some u)->b ≠ x:=fun b u q nm z=>by subst z;rw [q] at mu;exact nm mu
 refine⟨fun b u q n _ _=>k b u (hb b n) q,fun b u q n _ _=>⟨u.slots,k b u (hb b n) q⟩,fun b u q n _=>by rw [upd_ne (hx b n)];exact n,fun b u q _=>?_,
  fun b xs q=>by rw [upd_ne (hm b _ q fun z=>z)];exact q,fun b u xs q=>by rw [upd_ne (hm b _ q fun z=>z)];exact q,fun b ps q=>⟨#[],by rw [upd_ne (hm b _ q fun z=>z),q];simp⟩⟩
 by_cases hbe:b=e
 ·subst hbe;exact heo
 ·exact⟨u,k b u hbe q⟩
theorem Un.mono (u:Un fs ex H H1 h h1) (hs:∀ b ∈ fs,b ∈ fs') (hx:∀ b ∈ ex,b ∈ ex'):Un fs' ex' H H1 h h1 :=
 ⟨fun b ob q n hb he=>u.keep b ob q n (fun z=>hb (hs b z)) fun z=>he (hx b z),fun _ _ q n _ he=>u.any q n fun z=>he (hx _ z),fun b ob q n he=>u.free b ob q n fun z=>he (hx b z),fun b ob q he=>u.there b ob q fun z=>he (hx b z),u.tups,u.frzs,u.tbls⟩
end
def trk (h:Heap) (H:Hp):List Addr:=(List.range h.objs.size).filter fun a=>(H a).isSome
def hidT (h:Heap) (H:Hp):Heap:=PySem.W.hideAll h (trk h H)
theorem hidT_size (h:Heap) (H:Hp):(hidT h H).objs.size=h.objs.size:=PySem.W.hideAll_size _ _
theorem hidT_get {h:Heap} {H:Hp} {b:Addr} {o:Obj} (e:h.get? b=some o) (n:H b=none):(hidT h H).get? b=some o :=
 PySem.W.hideAll_get _ e fun hm=>by
  have q:(H b).isSome=true:=(List.mem_filter.mp hm).2
  rw [n] at q;simp at q
theorem of_hidT {h:Heap} {H:Hp} {b:Addr} {o:Obj} (e:(hidT h H).get? b=some o):h.get? b=some o/\H b=none:=by
 have e':h.get? b=some o:=PySem.W.of_hideAll (trk h H) e
 refine⟨e',?_⟩
 cases q:H b with
 | none=>rfl
 | some x =>
  have hm:b ∈ trk h H:=List.mem_filter.mpr ⟨List.mem_range.mpr (Heap.lt_size e'),by simp [q]⟩
  have z:(hidT h H).get? b=none:=PySem.W.hideAll_none (trk h H) hm
  rw [z] at e;cases e
def allNews (g h:Heap) (L:Addr):List (Addr × Obj):=(List.range h.objs.size).filterMap fun a=>if a=L\/(g.get? a).isSome=true then none else (h.get? a).map fun o=>(a,o)
def rest (g h:Heap) (L d:Addr):List (Addr × Obj):=(allNews g h L).filter fun p=>decide (p.1 ≠ d)
structure Mod (K:Frag) (mg:Str->Option Value) (base:Heap):Prop where
 kin:K.In base
 glob:base.Ns mainGlobals mg
 blt:∃ mb,base.Ns builtinsNs mb/\∀ x:Str,x ≠ "__name__"->mb x=bootBuiltins x
 nolimit:base.NoLimit
structure Cx where
 prog:Program
 w:World
 K:Frag
 mg:Str->Option Value
 base:Heap
 A:Around
 N:List Str
 s₀ : Shared
 H₀ : Hp
 env:Env
 outer:List Env
 stack:List Env
 ex:List Addr
 fn:Str->Bool
 calm:Bool
 pn:List (Addr × Obj)
 xe:Value->Shared->Prop
def frs (l:List Env):List Addr:=l.filterMap (·.frame)
abbrev Cx.fs (X:Cx):List Addr:=frs X.outer
def Vis (sc:Scope) (x:Str):Prop:=sc.names.lookup x=some .local\/sc.names.lookup x=some .cell\/sc.names.lookup x=some .free
def Loc (sc:Scope) (x:Str):Prop:=sc.names.lookup x=some .local\/sc.names.lookup x=some .cell
def Look (env:Env) (h:Heap) (m:Str->Option Value) (x:Str) (u:Value):Prop :=
 (env.kindOf x=some .local/\m x=some u)\/((env.kindOf x=some .cell\/env.kindOf x=some .free)/\∃ c,env.cells.lookup x=some c/\h.IsCell c (some u))
structure Cx.Ok (X:Cx):Prop where
 mod:Mod X.K X.mg X.base
 kind:X.env.scope.kind=.function
 glob:X.env.globals=mainGlobals
 blt:X.env.builtins=builtinsNs
 above:X.s₀.heap.objs.size<=X.env.locals
 inj:∀ x y c,X.env.cells.lookup x=some c->X.env.cells.lookup y=some c->x=y
 has:∀ x,(X.env.kindOf x=some .cell\/X.env.kindOf x=some .free)->∃ c,X.env.cells.lookup x=some c
 cab:∀ x c,X.fn x=true->X.env.cells.lookup x=some c->X.s₀.heap.objs.size<=c
 hd:X.calm=true->X.A.handled=none
 frames:X.A.frames=some X.stack
 stk:X.stack=X.outer\/(X.stack=X.env::X.outer/\X.env.frame=some X.env.locals)
 exf:∀ b ∈ X.ex,b ≠ X.env.locals/\∀ x c,X.env.cells.lookup x=some c->c ≠ b
 bs:∀ b o,X.base.get? b=some o->X.s₀.heap.get? b=some o/\X.H₀ b=none
 bsz:X.base.objs.size<=X.s₀.heap.objs.size
 noex:∀ b o,X.base.get? b=some o->b ∉ X.ex
 exfs:∀ b ∈ X.ex,b ∉ X.fs
 funs:X.s₀.heap.FunFrames X.base X.outer
 frf:∀ b ∈ X.fs,X.H₀ b=none
structure Inv (X:Cx) (pins:List (Addr × Obj)) (σ:List (Option V)) (H:Hp) (s:Shared):Prop where
 ok:X.Ok
 os:s.os=X.s₀.os
 bare:AllBare s.gens
 base:Un X.fs X.ex X.H₀ H X.s₀.heap s.heap
 loc:∃ m,s.heap.Ns X.env.locals m/\∀ (i:Nat) (x:Str) (v:V),X.N[i]?=some x->σ[i]?=some (some v)->Vis X.env.scope x->∃ u,RelV v u/\Look X.env s.heap m x u
 cell:∀ x c,X.env.cells.lookup x=some c->∃ v,s.heap.IsCell c v
 free:H X.env.locals=none
 freeC:∀ x c,X.env.cells.lookup x=some c->H c=none
 pin:∀ p ∈ X.pn++pins,s.heap.get? p.1=some p.2/\H p.1=none/\p.1 ≠ X.env.locals/\p.1 ∉ X.fs/\∀ v,p.2.data ≠ .cell v
 hok:HOk X.prog X.w H s.heap
 len : σ.length=X.N.length
section
variable {X:Cx} {pins:List (Addr × Obj)} {σ:List (Option V)} {H H':Hp} {s:Shared} {h':Heap}
theorem Cx.Ok.nofr (ok:X.Ok) {b:Addr} {o:Obj} (e:X.base.get? b=some o):b ∉ X.fs:=fun hb=>by
 have:=(ok.funs.mem hb).1
 rw [e] at this;cases this
theorem Inv.bs (I:Inv X pins σ H s):∀ b o,X.base.get? b=some o->s.heap.get? b=some o/\H b=none:=fun b o e =>
 ⟨I.base.keep b o (I.ok.bs b o e).1 (I.ok.bs b o e).2 (I.ok.nofr e) (I.ok.noex b o e),I.base.free b o (I.ok.bs b o e).1 (I.ok.bs b o e).2 (I.ok.noex b o e)⟩
theorem Inv.bk (I:Inv X pins σ H s):∀ b o,X.base.get? b=some o->s.heap.get? b=some o:=fun b o e=>(I.bs b o e).1
theorem Inv.mod (I:Inv X pins σ H s):Mod X.K X.mg X.base:=I.ok.mod
theorem Inv.kIn (I:Inv X pins σ H s):X.K.In s.heap:=I.ok.mod.kin.keeps I.bk
theorem Inv.nolimit (I:Inv X pins σ H s):s.heap.NoLimit:=I.ok.mod.nolimit.keeps I.bk
theorem Inv.fr (I:Inv X pins σ H s):∃ m,Fr X.base X.env.locals s.heap m :=
 let ⟨m,hn,_⟩:=I.loc
 ⟨m,hn,I.bk,Nat.le_trans I.ok.bsz I.ok.above⟩
theorem Inv.lt (I:Inv X pins σ H s):X.env.locals < s.heap.objs.size:=let ⟨_,hn,_⟩:=I.loc;hn.lt
theorem Inv.sz (I:Inv X pins σ H s):X.s₀.heap.objs.size<=s.heap.objs.size:=Nat.le_trans I.ok.above (Nat.le_of_lt I.lt)
theorem Inv.nofs (I:Inv X pins σ H s) {a:Addr} (h:s.heap.objs.size<=a):a ∉ X.fs:=fun hb=>by
 obtain⟨_,o,ho,_⟩:=I.ok.funs.mem hb
 exact absurd (Nat.lt_of_lt_of_le (Heap.lt_size ho) (Nat.le_trans I.sz h)) (Nat.lt_irrefl _)
theorem Inv.cne (I:Inv X pins σ H s):∀ x c,X.env.cells.lookup x=some c->c ≠ X.env.locals:=fun x c e z=>by
 obtain⟨v,o,ho,hd⟩:=I.cell x c e
 obtain⟨m,⟨o',es,ep,ho',hd',_⟩,_⟩:=I.loc
 rw [z,ho'] at ho;cases ho;rw [hd'] at hd;cases hd
theorem Inv.funs (I:Inv X pins σ H s):s.heap.FunFrames X.base X.outer:=by
 have all:∀ (l:List Env),(∀ b ∈ frs l,b ∈ X.fs)->X.s₀.heap.FunFrames X.base l->s.heap.FunFrames X.base l:=by
  intro l
  induction l with
  | nil=>intro _ _;trivial
  | cons env r ih =>
   intro hs hl
   obtain⟨hk,⟨L,o,hf,hn,ho,hd⟩,hr⟩:=hl
   have hL:L ∈ X.fs:=hs L (by unfold frs;rw [List.filterMap_cons,hf];exact List.mem_cons_self)
   obtain⟨sl,e⟩:=I.base.slot L o ho (I.ok.frf L hL) hL fun z=>I.ok.exfs L z hL
   exact⟨hk,⟨L,_,hf,hn,e,hd⟩,ih (fun b hb=>hs b (by unfold frs;rw [List.filterMap_cons,hf];exact List.mem_cons_of_mem _ hb)) hr⟩
 exact all X.outer (fun _ hb=>hb) I.ok.funs
theorem Inv.stack (I:Inv X pins σ H s):s.heap.FunFrames X.base X.stack:=by
 rcases I.ok.stk with e|⟨e,hf⟩
 ·rw [e];exact I.funs
 ·rw [e]
  obtain⟨m,hn,_⟩:=I.loc
  refine .cons (by rw [I.ok.kind];decide) hf hn ?_ I.funs
  exact Heap.get?_none_of_le (Nat.le_trans I.ok.bsz I.ok.above)
theorem Inv.stkSub (I:Inv X pins σ H s):∀ b ∈ frs X.stack,b ∈ X.env.locals::X.fs:=fun b hb=>by
 rcases I.ok.stk with e|⟨e,hf⟩
 ·rw [e] at hb;exact List.mem_cons_of_mem _ hb
 ·rw [e] at hb
  unfold frs at hb
  rw [List.filterMap_cons,hf] at hb
  exact hb
theorem Inv.stkFree (I:Inv X pins σ H s):∀ b ∈ frs X.stack,H b=none:=fun b hb=>by
 rcases List.mem_cons.mp (I.stkSub b hb) with e|hb
 ·rw [e];exact I.free
 ·obtain⟨_,o,ho,_⟩:=I.ok.funs.mem hb
  exact I.base.free b o ho (I.ok.frf b hb) fun z=>I.ok.exfs b z hb
theorem Inv.step {g':Array GenState} {t':Nat} {d':Drawn} {ch:List Addr} (I:Inv X pins σ H s)
  (hch:∀ b ∈ ch,(b ∈ X.ex\/X.s₀.heap.objs.size<=b)/\b ≠ X.env.locals/\(∀ x c,X.env.cells.lookup x=some c->c ≠ b)/\∀ p ∈ X.pn++pins,p.1 ≠ b)
  (keep:∀ b o,b ≠ X.env.locals->b ∉ X.fs->b ∉ ch->s.heap.get? b=some o->H b=none->h'.get? b=some o)
  (slot:∀ b o,b ≠ X.env.locals->b ∈ X.fs->b ∉ ch->s.heap.get? b=some o->H b=none->∃ sl,h'.get? b=some { o with slots:=sl }) (free:∀ b o,b ∉ ch->s.heap.get? b=some o->H b=none->H' b=none)
  (there:∀ b o,b ∉ ch->s.heap.get? b=some o->∃ o',h'.get? b=some o')
  (tups:∀ b xs,H b=some (.tup xs)->H' b=some (.tup xs)) (frzs:∀ b o u,H b=some (.frz o u)->H' b=some (.frz o u)) (tbls:∀ b ps,H b=some (.tbl ps)->∃ more,H' b=some (.tbl (ps++more)))
  (ns:∀ m,s.heap.Ns X.env.locals m->h'.Ns X.env.locals m) (hok:HOk X.prog X.w H' h') (hg:AllBare g') :
  Inv X pins σ H' { s with heap:=h',gens:=g',drawn:=d',toks:=t' }:=by
 have neL:∀ b o,X.s₀.heap.get? b=some o->b ≠ X.env.locals:=fun b o e=>Nat.ne_of_lt (Nat.lt_of_lt_of_le (Heap.lt_size e) I.ok.above)
 have neC:∀ b o,X.s₀.heap.get? b=some o->b ∉ X.ex->b ∉ ch:=fun b o e hx hb=>by
  rcases (hch b hb).1 with z|z
  ·exact hx z
  ·exact absurd (Nat.lt_of_lt_of_le (Heap.lt_size e) z) (Nat.lt_irrefl _)
 have cellK:∀ x c,X.env.cells.lookup x=some c->∀ v,s.heap.IsCell c v->h'.IsCell c v:=fun x c e v ⟨o,ho,hd⟩=>by
  have nch:c ∉ ch:=fun z=>(hch c z).2.2.1 x c e rfl
  by_cases hc:c ∈ X.fs
  ·obtain⟨sl,q⟩:=slot c o (I.cne x c e) hc nch ho (I.freeC x c e)
   exact⟨_,q,hd⟩
  ·exact⟨o,keep c o (I.cne x c e) hc nch ho (I.freeC x c e),hd⟩
 refine⟨I.ok,I.os,hg,⟨fun b o e n hb hx=>?_,fun b o e n hb hx=>?_,fun b o e n hx=>?_,fun b o e hx=>?_,fun b xs e=>tups b xs (I.base.tups b xs e),fun b o xs e=>frzs b o xs (I.base.frzs b o xs e),fun b ps e=>?_⟩,?_,fun x c e=>?_,?_,fun x c e=>?_,fun p hp=>?_,hok,I.len⟩
 ·exact keep b o (neL b o e) hb (neC b o e hx) (I.base.keep b o e n hb hx) (I.base.free b o e n hx)
 ·obtain⟨sl,e1⟩:=I.base.slot b o e n hb hx
  obtain⟨sl',e2⟩:=slot b _ (neL b o e) hb (neC b o e hx) e1 (I.base.free b o e n hx)
  exact⟨sl',e2⟩
 ·obtain⟨o',e1⟩:=I.base.there b o e hx
  exact free b o' (neC b o e hx) e1 (I.base.free b o e n hx)
 ·obtain⟨o',e1⟩:=I.base.there b o e hx
  exact there b o' (neC b o e hx) e1
 ·obtain⟨m1,e1⟩:=I.base.tbls b ps e
  obtain⟨m2,e2⟩:=tbls b _ e1
  exact⟨m1++m2,by rw [e2,Array.append_assoc]⟩
 ·obtain⟨m,hn,hl⟩:=I.loc
  refine⟨m,ns m hn,fun i x v e1 e2 e3=>?_⟩
  obtain⟨u,r,l⟩:=hl i x v e1 e2 e3
  refine⟨u,r,?_⟩
  rcases l with l|⟨k,c,e,z⟩
  ·exact .inl l
  ·exact .inr ⟨k,c,e,cellK x c e _ z⟩
 ·obtain⟨v,z⟩:=I.cell x c e
  exact⟨v,cellK x c e v z⟩
 ·obtain⟨m,⟨o,_,_,ho,_⟩,_⟩:=I.loc
  exact free _ o (fun z=>(hch _ z).2.1 rfl) ho I.free
 ·obtain⟨v,o,ho,hd⟩:=I.cell x c e
  exact free c o (fun z=>(hch c z).2.2.1 x c e rfl) ho (I.freeC x c e)
 ·obtain⟨e,n,ne,nf,d⟩:=I.pin p hp
  have nch:p.1 ∉ ch:=fun z=>(hch p.1 z).2.2.2 p hp rfl
  exact⟨keep p.1 p.2 ne nf nch e n,free p.1 p.2 nch e n,ne,nf,d⟩
theorem Inv.un {t':Nat} (I:Inv X pins σ H s) (u:Un X.fs [] H H' s.heap h') (hok:HOk X.prog X.w H' h'):Inv X pins σ H' { s with heap:=h',toks:=t' }:=by
 obtain⟨m,⟨o,es,ep,ho,r⟩,_⟩:=id I.loc
 obtain⟨sl,hL⟩:=u.any ho I.free (by simp)
 exact I.step (g':=s.gens) (d':=s.drawn) (ch:=[]) (fun _ z=>nomatch z) (fun b o _ hb _ e n=>u.keep b o e n hb (by simp)) (fun b o _ hb _ e n=>u.slot b o e n hb (by simp)) (fun b o _ e n=>u.free b o e n (by simp)) (fun b o _ e=>u.there b o e (by simp)) u.tups u.frzs u.tbls (fun m' hm=>by
  obtain⟨o',es',ep',ho',r'⟩:=hm
  rw [ho] at ho';cases ho'
  exact⟨_,es',ep',hL,r'⟩) hok I.bare
theorem Inv.call {g':Array GenState} {t':Nat} {d':Drawn} {ch:List Addr} (I:Inv X pins σ H s) (u:Un (frs X.stack) ch H H' s.heap h') (hok:HOk X.prog X.w H' h') (hg:AllBare g')
  (hch:∀ b ∈ ch,(b ∈ X.ex\/X.s₀.heap.objs.size<=b)/\b ≠ X.env.locals/\(∀ x c,X.env.cells.lookup x=some c->c ≠ b)/\∀ p ∈ X.pn++pins,p.1 ≠ b) :
  Inv X pins σ H' { s with heap:=h',gens:=g',drawn:=d',toks:=t' }:=by
 obtain⟨m,⟨o,es,ep,ho,r⟩,_⟩:=id I.loc
 obtain⟨sl,hL⟩:=u.any ho I.free fun z=>(hch _ z).2.1 rfl
 exact I.step (ch:=ch) hch (fun b o hL hb hc e n=>u.keep b o e n (fun z=>(List.mem_cons.mp (I.stkSub b z)).elim hL hb) hc) (fun b o _ _ hc e n=>u.any e n hc) (fun b o hc e n=>u.free b o e n hc) (fun b o hc e=>u.there b o e hc) u.tups u.frzs u.tbls (fun m' hm=>by
  obtain⟨o',es',ep',ho',r'⟩:=hm
  rw [ho] at ho';cases ho'
  exact⟨_,es',ep',hL,r'⟩) hok hg
theorem Inv.turned {t':Nat} {it:Addr} (I:Inv X pins σ H s) (k:∀ b o,b ≠ it->s.heap.get? b=some o->h'.get? b=some o) (hn:H it=none) (hL:it ≠ X.env.locals)
  (h1:it ∈ X.ex\/X.s₀.heap.objs.size<=it) (h2:∀ x c,X.env.cells.lookup x=some c->c ≠ it) (h3:∀ p ∈ X.pn++pins,p.1 ≠ it):Inv X pins σ H { s with heap:=h',toks:=t' }:=by
 have nit:∀ b u,H b=some u->b ≠ it:=fun b u e z=>by rw [z,hn] at e;cases e
 refine I.step (g':=s.gens) (d':=s.drawn) (ch:=[it]) (fun b hb=>?_) (fun b o _ _ hc e _=>k b o (fun z=>hc (by simp [z])) e) (fun b o _ _ hc e _=>⟨o.slots,k b o (fun z=>hc (by simp [z])) e⟩) (fun _ _ _ _ n=>n)
  (fun b o hc e=>⟨o,k b o (fun z=>hc (by simp [z])) e⟩) (fun _ _ e=>e) (fun _ _ _ e=>e) (fun b ps e=>⟨#[],by rw [e];simp⟩) (fun m hm=>?_) (fun b u e=>?_) I.bare
 ·have e:b=it:=by simpa using hb
  subst e
  exact⟨h1,hL,h2,h3⟩
 ·obtain⟨o,es,ep,ho,r⟩:=hm
  exact⟨o,es,ep,k _ o (Ne.symm hL) ho,r⟩
 ·refine (I.hok b u e).stay (fun c v hc q=>k c v ?_ q) (fun _ q=>q) fun _ _ q=>q
  rcases hc with z|z
  ·rw [z];exact nit b u e
  ·exact nit c _ z
theorem Inv.tok (I:Inv X pins σ H s) (t:Nat):Inv X pins σ H { s with toks:=t }:=I.un (h':=s.heap) (t':=t) Un.refl I.hok
theorem Inv.kept {t':Nat} (I:Inv X pins σ H s) (k:∀ b u,s.heap.get? b=some u->h'.get? b=some u):Inv X pins σ H { s with heap:=h',toks:=t' }:=I.un (Un.kept k) (I.hok.kept k)
theorem Inv.laid {a:Addr} {o:HO} {t':Nat} (I:Inv X pins σ H s) (k:∀ b u,s.heap.get? b=some u->h'.get? b=some u) (hp:s.heap.objs.size<=a) (new:ObjOk X.prog X.w (upd H a o) h' a o) :
  Inv X pins σ (upd H a o) { s with heap:=h',toks:=t' }:=I.un (Un.laid k hp (I.hok.fresh hp)) (I.hok.laid k hp new)
theorem Inv.write {x e:Addr} {o:HO} {t':Nat} (I:Inv X pins σ H s) (mu:Mut (H x)) (he:e=x\/H e=some (.own x)) (k:∀ b u,b ≠ e->s.heap.get? b=some u->h'.get? b=some u) (heo:∃ u,h'.get? e=some u)
  (new:ObjOk X.prog X.w (upd H x o) h' x o):Inv X pins σ (upd H x o) { s with heap:=h',toks:=t' }:=I.un (Un.write mu he k heo) (I.hok.write mu he k heo new)
theorem Inv.pins_of {pins':List (Addr × Obj)} (I:Inv X pins σ H s) (h:∀ p ∈ pins',s.heap.get? p.1=some p.2/\H p.1=none/\p.1 ≠ X.env.locals/\p.1 ∉ X.fs/\∀ v,p.2.data ≠ .cell v):Inv X pins' σ H s :=
 ⟨I.ok,I.os,I.bare,I.base,I.loc,I.cell,I.free,I.freeC,fun p hp=>(List.mem_append.mp hp).elim (fun z=>I.pin p (List.mem_append_left _ z)) (h p),I.hok,I.len⟩
theorem nodup_ix {N:List Str} (hN:N.Nodup) {i j:Nat} {x:Str} (a:N[i]?=some x) (b:N[j]?=some x):i=j:=by
 obtain⟨h1,e1⟩:=List.getElem?_eq_some_iff.mp a
 obtain⟨h2,e2⟩:=List.getElem?_eq_some_iff.mp b
 exact (List.getElem_inj hN).mp (e1.trans e2.symm)
theorem store_ok2 {M:Model} {A:Around} {E:Value->Shared->Prop} {i:Nat} {x:Str} {v:V} {u:Value} {Q:Unit->Shared->Prop} (I:Inv X pins σ H s) (hN:X.N.Nodup) (hi:X.N[i]?=some x) (hx:Loc X.env.scope x) (r:RelV v u)
  (h:∀ s',Inv X pins (σ.set i (some v)) H s'->(∃ a,Heap.SameBut a s.heap s'.heap/\(a=X.env.locals\/X.env.cells.lookup x=some a))->Q () s') (hf:X.fn x=true\/X.env.scope.names.lookup x=some .local:=by first|exact .inl rfl|exact .inr rfl|assumption):wpAny M A (storeName X.env x u) Q E s:=by
 obtain⟨m,hn,hl⟩:=id I.loc
 have hcls:(X.env.scope.kind == .class || (X.env.scope.kind == .module && X.env.locals != X.env.globals))=false:=by rw [I.ok.kind];rfl
 have hiσ:i < σ.length:=by rw [I.len];exact (List.getElem?_eq_some_iff.mp hi).1
 have cne:=I.cne
 have tracked:∀ {a:Addr} {h':Heap},(∃ o,s.heap.get? a=some o/\H a=none)->Heap.SameBut a s.heap h'->HOk X.prog X.w H h':=fun {a h'} ha hs b ob e=>by
  obtain⟨_,_,hfree⟩:=ha
  refine (I.hok b ob e).stay (fun c w' hc q=>(hs.2 c ?_).trans q) (fun _ q=>q) fun _ _ q=>q
  rintro rfl
  rcases hc with rfl|hc
  ·rw [hfree] at e;cases e
  ·rw [hfree] at hc;cases hc
 rcases hx with hk|hk
 ·refine wpAny_storeName_local hk hn (fun h' hn' hs=>?_) hcls
  obtain⟨oL,_,_,hoL,_⟩:=id hn
  refine h _ ⟨I.ok,I.os,I.bare,⟨fun b o e n hb hx=>?_,fun b o e n hb hx=>?_,I.base.free,fun b o e hx=>?_,I.base.tups,I.base.frzs,I.base.tbls⟩,⟨_,hn',fun j y v' e1 e2 e3=>?_⟩,fun y c e=>?_,I.free,I.freeC,fun p hp=>?_,tracked ⟨oL,hoL,I.free⟩ hs,by simpa using I.len⟩ ⟨_,hs,.inl rfl⟩
  ·exact (hs.2 b (Nat.ne_of_lt (Nat.lt_of_lt_of_le (Heap.lt_size e) I.ok.above))).trans (I.base.keep b o e n hb hx)
  ·obtain⟨sl,e1⟩:=I.base.slot b o e n hb hx
   exact⟨sl,(hs.2 b (Nat.ne_of_lt (Nat.lt_of_lt_of_le (Heap.lt_size e) I.ok.above))).trans e1⟩
  ·obtain⟨o',e1⟩:=I.base.there b o e hx
   exact⟨o',(hs.2 b (Nat.ne_of_lt (Nat.lt_of_lt_of_le (Heap.lt_size e) I.ok.above))).trans e1⟩
  ·by_cases hj:j=i
   ·subst hj
    rw [hi] at e1;cases e1
    rw [List.getElem?_set_self hiσ] at e2
    cases e2
    exact⟨u,r,.inl ⟨hk,by simp⟩⟩
   ·rw [List.getElem?_set_ne (Ne.symm hj)] at e2
    obtain⟨u',r',q⟩:=hl j y v' e1 e2 e3
    refine⟨u',r',?_⟩
    rcases q with⟨k,e⟩|⟨k,c,e,z⟩
    ·refine .inl ⟨k,?_⟩
     have:y ≠ x:=fun e=>hj (nodup_ix hN e1 (e ▸ hi))
     simp [this,e]
    ·exact .inr ⟨k,c,e,z.sameBut hs (cne y c e)⟩
  ·obtain⟨w',z⟩:=I.cell y c e
   exact⟨w',z.sameBut hs (cne y c e)⟩
  ·obtain⟨e,n,ne,nf,d⟩:=I.pin p hp
   exact⟨(hs.2 p.1 ne).trans e,n,ne,nf,d⟩
 ·have hfn:X.fn x=true:=by
   rcases hf with z|z
   ·exact z
   ·rw [z] at hk;cases hk
  obtain⟨c,hc⟩:=I.ok.has x (.inl hk)
  obtain⟨w',z⟩:=I.cell x c hc
  refine wpAny_storeName_cell I.ok.kind hk hc z (fun h' hc' hs=>?_)
  obtain⟨oc,hoc,hocd⟩:=id z
  refine h { s with heap:=h' } ⟨I.ok,I.os,I.bare,⟨fun b o e n hb hx=>?_,fun b o e n hb hx=>?_,I.base.free,fun b o e hx=>?_,I.base.tups,I.base.frzs,I.base.tbls⟩,⟨m,hn.sameBut hs (Ne.symm (cne x c hc)),fun j y v' e1 e2 e3=>?_⟩,fun y c' e=>?_,I.free,I.freeC,fun p hp=>?_,tracked ⟨oc,hoc,I.freeC x c hc⟩ hs,by simpa using I.len⟩ ⟨c,hs,.inr hc⟩
  ·exact (hs.2 b (Nat.ne_of_lt (Nat.lt_of_lt_of_le (Heap.lt_size e) (I.ok.cab x c hfn hc)))).trans (I.base.keep b o e n hb hx)
  ·obtain⟨sl,e1⟩:=I.base.slot b o e n hb hx
   exact⟨sl,(hs.2 b (Nat.ne_of_lt (Nat.lt_of_lt_of_le (Heap.lt_size e) (I.ok.cab x c hfn hc)))).trans e1⟩
  ·obtain⟨o',e1⟩:=I.base.there b o e hx
   exact⟨o',(hs.2 b (Nat.ne_of_lt (Nat.lt_of_lt_of_le (Heap.lt_size e) (I.ok.cab x c hfn hc)))).trans e1⟩
  ·by_cases hj:j=i
   ·subst hj
    rw [hi] at e1;cases e1
    rw [List.getElem?_set_self hiσ] at e2
    cases e2
    exact⟨u,r,.inr ⟨.inl hk,c,hc,hc'⟩⟩
   ·rw [List.getElem?_set_ne (Ne.symm hj)] at e2
    obtain⟨u',r',q⟩:=hl j y v' e1 e2 e3
    refine⟨u',r',?_⟩
    rcases q with q|⟨k,c',e,z'⟩
    ·exact .inl q
    ·refine .inr ⟨k,c',e,z'.sameBut hs ?_⟩
     rintro rfl
     exact hj (nodup_ix hN e1 (I.ok.inj _ _ _ e hc ▸ hi))
  ·by_cases hcc:c'=c
   ·subst hcc;exact⟨_,hc'⟩
   ·obtain⟨w2,z2⟩:=I.cell y c' e
    exact⟨w2,z2.sameBut hs hcc⟩
  ·obtain⟨e,n,ne,nf,d⟩:=I.pin p hp
   refine⟨(hs.2 p.1 ?_).trans e,n,ne,nf,d⟩
   intro q
   rw [q,hoc] at e
   have q':oc=p.2:=Option.some.inj e
   exact d w' (by rw [← q'];exact hocd)
theorem store_ok {M:Model} {A:Around} {E:Value->Shared->Prop} {i:Nat} {x:Str} {v:V} {u:Value} {Q:Unit->Shared->Prop} (I:Inv X pins σ H s) (hN:X.N.Nodup) (hi:X.N[i]?=some x) (hx:Loc X.env.scope x) (r:RelV v u)
  (h:∀ s',Inv X pins (σ.set i (some v)) H s'->Q () s') (hf:X.fn x=true\/X.env.scope.names.lookup x=some .local:=by first|exact .inl rfl|exact .inr rfl|assumption):wpAny M A (storeName X.env x u) Q E s :=
 store_ok2 I hN hi hx r (fun s' I' _=>h s' I') hf
theorem Inv.call' {s':Shared} {ch:List Addr} (I:Inv X pins σ H s) (ho:s'.os=s.os) (u:Un (frs X.stack) ch H H' s.heap s'.heap) (hok:HOk X.prog X.w H' s'.heap) (hg:AllBare s'.gens)
  (hch:∀ b ∈ ch,(b ∈ X.ex\/X.s₀.heap.objs.size<=b)/\b ≠ X.env.locals/\(∀ x c,X.env.cells.lookup x=some c->c ≠ b)/\∀ p ∈ X.pn++pins,p.1 ≠ b):Inv X pins σ H' s':=by
 obtain⟨h',g',d',t',o'⟩:=s'
 have e:o'=s.os:=ho
 subst e
 exact I.call (g':=g') (t':=t') (d':=d') u hok hg hch
end
abbrev XK:=Value->Option Addr->Hp->Prop
abbrev St:=List (Option V)
abbrev VK:=V->Hp->Prop
abbrev TE:=St->Hp->VK->Prop
abbrev TT:=St->Hp->(Bool->Hp->Prop)->Prop
abbrev TA:=St->Hp->(List V->Hp->Prop)->Prop
structure Ends where
 nx:St->Hp->Prop
 rt:VK
 bk:St->Hp->Prop:=fun _ _=>False
 ct:St->Hp->Prop:=fun _ _=>False
abbrev TS:=Ends->St->Hp->Prop
def EP (X:Cx) (pins:List (Addr × Obj)) (σ:St) (Q:VK) (u:Value) (s':Shared):Prop:=∃ v H',Inv X pins σ H' s'/\RelV v u/\Q v H'
def TP (X:Cx) (pins:List (Addr × Obj)) (σ:St) (Q:Bool->Hp->Prop) (b:Bool) (s':Shared):Prop:=∃ H',Inv X pins σ H' s'/\Q b H'
def AP (X:Cx) (pins:List (Addr × Obj)) (σ:St) (Q:List V->Hp->Prop) (us:List Value) (s':Shared):Prop:=∃ vs H',Inv X pins σ H' s'/\Vals vs us/\Q vs H'
def SP (X:Cx) (pins:List (Addr × Obj)) (D:Ends) (f:Flow) (s':Shared):Prop :=
 match f with
 | .next=>∃ σ' H',Inv X pins σ' H' s'/\D.nx σ' H'
 | .brk=>∃ σ' H',Inv X pins σ' H' s'/\D.bk σ' H'
 | .cont=>∃ σ' H',Inv X pins σ' H' s'/\D.ct σ' H'
 | .ret u=>∃ v σ' H',Inv X pins σ' H' s'/\RelV v u/\D.rt v H'
def PE (X:Cx) (e:Expr) (t:TE):Prop :=
 ∀ (pins:List (Addr × Obj)) (s:Shared) (σ:St) (H:Hp) (Q:VK),Inv X pins σ H s->t σ H Q->wpAny (model X.prog X.w) X.A (eval e X.env) (EP X pins σ Q) X.xe s
def PT (X:Cx) (e:Expr) (t:TT):Prop :=
 ∀ (pins:List (Addr × Obj)) (s:Shared) (σ:St) (H:Hp) (Q:Bool->Hp->Prop),Inv X pins σ H s->t σ H Q->wpAny (model X.prog X.w) X.A (isTrue e X.env (eval e X.env)) (TP X pins σ Q) X.xe s
def PW (X:Cx) (e:Expr) (t:TT):Prop :=
 ∀ (whole:Sem Value) (pins:List (Addr × Obj)) (s:Shared) (σ:St) (H:Hp) (Q:Bool->Hp->Prop),Inv X pins σ H s->t σ H Q->wpAny (model X.prog X.w) X.A (isTrue e X.env whole) (TP X pins σ Q) X.xe s
theorem PW.pt {X:Cx} {e:Expr} {t:TT} (h:PW X e t):PT X e t:=h _
def PA (X:Cx) (es:List Expr) (t:TA):Prop :=
 ∀ (pos:Pos) (pins:List (Addr × Obj)) (s:Shared) (σ:St) (H:Hp) (Q:List V->Hp->Prop),Inv X pins σ H s->t σ H Q->wpAny (model X.prog X.w) X.A (spliced (backTo pos (starEach es X.env))) (AP X pins σ Q) X.xe s
def PS (X:Cx) (st:Stmt) (t:TS):Prop :=
 ∀ (pins:List (Addr × Obj)) (s:Shared) (σ:St) (H:Hp) (D:Ends),Inv X pins σ H s->t D σ H->wpAny (model X.prog X.w) X.A (exec st X.env) (SP X pins D) X.xe s
def PSs (X:Cx) (st:List Stmt) (t:TS):Prop :=
 ∀ (pins:List (Addr × Obj)) (s:Shared) (σ:St) (H:Hp) (D:Ends),Inv X pins σ H s->t D σ H->wpAny (model X.prog X.w) X.A (execs st X.env) (SP X pins D) X.xe s
theorem thn {α : Type} {t:Sem α} {Q Q' : α->Shared->Prop} {M:Model} {A:Around} {E:Value->Shared->Prop} {s:Shared} (h:wpAny M A t Q E s) (hQ:∀ a s,Q a s->Q' a s):wpAny M A t Q' E s:=wpAny_mono h hQ fun _ _ x=>x
section
variable {X:Cx}
def tVar (i:Nat):TE:=fun σ H Q=>∃ v,σ[i]?=some (some v)/\Q v H
def tC (v:V):TE:=fun _ H Q=>Q v H
theorem pe_var {i:Nat} {x:Str} {pos:Pos} (hN:X.N[i]?=some x) (hv:Vis X.env.scope x) (hd:(x == ("__debug__" : Str))=false:=by decide) (hcd:(x == ("__classdict__" : Str))=false:=by decide):PE X (.Name x pos) (tVar i):=by
 intro pins s σ H Q I h
 obtain⟨v,e,h⟩:=h
 obtain⟨m,hn,hl⟩:=I.loc
 obtain⟨u,r,l⟩:=hl i x v hN e hv
 have fin:EP X pins σ Q u s:=⟨v,H,I,r,h⟩
 rcases l with⟨hk,hm⟩|⟨hk,c,hc,hcell⟩
 ·exact wpAny_Name (wpAny_loadName_local I.ok.kind hk hn hm fin) hd
 ·rcases hk with hk|hk
  ·exact wpAny_Name (wpAny_loadName_cell I.ok.kind hk hc hcell fin) hd
  ·exact wpAny_Name (wpAny_loadName_free I.ok.kind hk hc hcell fin hcd) hd
theorem pe_int {i j pos} : PE X (.Constant (.int i) j pos) (tC (.int i)):=fun _ _ _ H _ I h=>wpAny_Constant_int ⟨.int i,H,I.tok _,⟨_,rfl⟩,h⟩
theorem pe_bl {b j pos} : PE X (.Constant (.bool b) j pos) (tC (.bl b)):=fun _ _ _ H _ I h=>Constant_bool ⟨.bl b,H,I,rfl,h⟩
theorem pe_non {j pos} : PE X (.Constant .none j pos) (tC .non):=fun _ _ _ H _ I h=>Constant_none ⟨.non,H,I,rfl,h⟩
theorem pe_str {x j pos} : PE X (.Constant (.str x) j pos) (tC (.str x)):=fun _ _ _ H _ I h=>Calls.Constant_str ⟨.str x,H,I.tok _,⟨_,rfl⟩,h⟩
def Gl (X:Cx) (x:Str):Prop:=X.env.kindOf x=some .globalImplicit
theorem ld_glob {E:Value->Shared->Prop} {pins:List (Addr × Obj)} {s:Shared} {σ:St} {H:Hp} {x:Str} {u:Value} {pos:Pos} {Q:Value->Shared->Prop} (I:Inv X pins σ H s) (hg:Gl X x) (hm:X.mg x=some u) (h:Q u s)
  (hd:(x == ("__debug__" : Str))=false:=by decide):wpAny (model X.prog X.w) X.A (eval (.Name x pos) X.env) Q E s :=
 Calls.Name_function_global I.ok.kind hg (Calls.loadGlobal_global (by rw [I.ok.glob];exact I.mod.glob.keeps I.bk) hm h) hd
theorem ld_blt {E:Value->Shared->Prop} {pins:List (Addr × Obj)} {s:Shared} {σ:St} {H:Hp} {x:Str} {u:Value} {pos:Pos} {Q:Value->Shared->Prop} (I:Inv X pins σ H s) (hg:Gl X x) (hm:X.mg x=none) (hv:bootBuiltins x=some u) (h:Q u s)
  (hn:x ≠ "__name__":=by decide) (hd:(x == ("__debug__" : Str))=false:=by decide):wpAny (model X.prog X.w) X.A (eval (.Name x pos) X.env) Q E s:=by
 obtain⟨mb,h1,h2⟩:=I.mod.blt
 exact Calls.Name_function_global I.ok.kind hg (Calls.loadGlobal_builtin (by rw [I.ok.glob];exact I.mod.glob.keeps I.bk) hm (by rw [I.ok.blt];exact h1.keeps I.bk) ((h2 x hn).trans hv) h) hd
theorem pe_glob {x:Str} {v:V} {u:Value} {pos:Pos} (hg:Gl X x) (hm:X.mg x=some u) (r:RelV v u) (hd:(x == ("__debug__" : Str))=false:=by decide):PE X (.Name x pos) (tC v) :=
 fun _ _ _ H _ I h=>ld_glob I hg hm ⟨v,H,I,r,h⟩ hd
theorem pe_bltn {x:Str} {v:V} {u:Value} {pos:Pos} (hg:Gl X x) (hm:X.mg x=none) (hv:bootBuiltins x=some u) (r:RelV v u) (hn:x ≠ "__name__":=by decide) (hd:(x == ("__debug__" : Str))=false:=by decide):PE X (.Name x pos) (tC v) :=
 fun _ _ _ H _ I h=>ld_blt I hg hm hv ⟨v,H,I,r,h⟩ hn hd
variable {a b:Expr} {ta tb:TE} {pos:Pos}
def PC (X:Cx) (op:CmpOp) (a b:Expr) (t:TE):Prop :=
 ∀ (pins:List (Addr × Obj)) (s:Shared) (σ:St) (H:Hp) (Q:VK),Inv X pins σ H s->t σ H Q →
  wpAny (model X.prog X.w) X.A (eval a X.env) (fun v s₁=>wpAny (model X.prog X.w) X.A (eval b X.env) (fun u s₂=>wpAny (model X.prog X.w) X.A (compareOp op v u) (EP X pins σ Q) X.xe s₂) X.xe s₁) X.xe s
theorem nobehind (b:Expr) {op:CmpOp} (h:op ≠ .In) (h2:op ≠ .NotIn):behindInMarks op b=false:=by
 have e1:(op == CmpOp.In)=false:=by cases op <;> first|rfl|exact absurd rfl h
 have e2:(op == CmpOp.NotIn)=false:=by cases op <;> first|rfl|exact absurd rfl h2
 cases b <;> simp [behindInMarks,e1,e2]
def tB (t:TE):TT:=fun σ H Q=>t σ H fun x H1=>∃ c,x=.bl c/\Q c H1
theorem pt_cmp {op:CmpOp} {t:TE} (h:PC X op a b t) (h1:behindInMarks op b=false:=by first|exact nobehind _ (by decide) (by decide)|rfl):PT X (.Compare a [op] [b] pos) (tB t):=by
 intro pins s σ H Q I hw
 refine wpAny_isTrue_Compare1 (thn (h pins s σ H _ I hw) fun v s1 h1=>thn h1 fun u s2 h2=>thn h2 fun c s3 zq=>?_) h1
 obtain⟨x,H1,I1,r1,q1⟩:=zq
 obtain⟨d,rfl,q⟩:=q1
 cases r1
 exact wpAny_truthy_bool ⟨H1,I1,q⟩
theorem pt_val {e:Expr} {t:TE} (h:PE X e t) (he:∀ whole,isTrue e X.env whole=(do let v ← whole;standAt e.pos;holding [v] (truthy v)):=by intro _;rfl):PT X e (tB t):=by
 intro pins s σ H Q I hw
 refine isTrue_plain (thn (h pins s σ H _ I hw) fun v s1 zq=>?_) (he _)
 obtain⟨x,H1,I1,r1,q1⟩:=zq
 obtain⟨d,rfl,q⟩:=q1
 cases r1
 exact wpAny_truthy_bool ⟨H1,I1,q⟩
variable {tA tB':TT} {rest:List Expr}
def tAnd (t u:TT):TT:=fun σ H Q=>t σ H fun c H1=>if c=true then u σ H1 Q else Q false H1
def tOr (t u:TT):TT:=fun σ H Q=>t σ H fun c H1=>if c=true then Q true H1 else u σ H1 Q
def tNot (t:TT):TT:=fun σ H Q=>t σ H fun c H1=>Q (!c) H1
theorem pw_and1 (ha:PT X a tA):PW X (.BoolOp .And [a] pos) tA:=by
 intro wh pins s σ H Q I h
 refine isTrue_and (thn (ha pins s σ H Q I h) fun c s1 e=>?_)
 cases c with
 | true=>exact isTrue_and_nil e
 | false=>exact e
theorem pw_or1 (ha:PT X a tA):PW X (.BoolOp .Or [a] pos) tA:=by
 intro wh pins s σ H Q I h
 refine isTrue_or (thn (ha pins s σ H Q I h) fun c s1 e=>?_)
 cases c with
 | false=>exact isTrue_or_nil e
 | true=>exact e
theorem pw_and (ha:PT X a tA) (hb:PW X (.BoolOp .And (b::rest) pos) tB'):PW X (.BoolOp .And (a::b::rest) pos) (tAnd tA tB'):=by
 intro wh pins s σ H Q I h
 refine isTrue_and (thn (ha pins s σ H _ I h) fun c s1 zq=>?_)
 obtain⟨H1,I1,q1⟩:=zq
 cases c with
 | true=>exact hb wh pins s1 σ H1 Q I1 q1
 | false=>exact⟨H1,I1,q1⟩
theorem pw_or (ha:PT X a tA) (hb:PW X (.BoolOp .Or (b::rest) pos) tB'):PW X (.BoolOp .Or (a::b::rest) pos) (tOr tA tB'):=by
 intro wh pins s σ H Q I h
 refine isTrue_or (thn (ha pins s σ H _ I h) fun c s1 zq=>?_)
 obtain⟨H1,I1,q1⟩:=zq
 cases c with
 | true=>exact⟨H1,I1,q1⟩
 | false=>exact hb wh pins s1 σ H1 Q I1 q1
theorem pt_not (ha:PT X a tA):PT X (.UnaryOp .Not a pos) (tNot tA):=by
 intro pins s σ H Q I h
 exact isTrue_not (ha pins s σ H (fun c H1=>Q (!c) H1) I h)
def tAndV (ta tb:TE):TE:=fun σ H Q=>ta σ H fun x H1=>∃ c,x=.bl c/\if c=true then tb σ H1 Q else Q (.bl false) H1
def tOrV (ta tb:TE):TE:=fun σ H Q=>ta σ H fun x H1=>∃ c,x=.bl c/\if c=true then Q (.bl true) H1 else tb σ H1 Q
theorem pe_one {op} {t:TE} (h:PE X a t):PE X (.BoolOp op [a] pos) t:=fun pins s σ H Q I hw=>BoolOp_one (h pins s σ H Q I hw)
theorem pe_and (ha:PE X a ta) (hb:PE X (.BoolOp .And (b::rest) pos) tb):PE X (.BoolOp .And (a::b::rest) pos) (tAndV ta tb):=by
 intro pins s σ H Q I h
 refine BoolOp_and (thn (ha pins s σ H _ I h) fun v s1 zq=>?_)
 obtain⟨x,H1,I1,r1,q1⟩:=zq
 obtain⟨c,rfl,q1⟩:=q1
 cases r1
 refine wpAny_truthy_bool ?_
 cases c with
 | true=>exact hb pins s1 σ H1 Q I1 q1
 | false=>exact⟨.bl false,H1,I1,rfl,q1⟩
theorem pe_or (ha:PE X a ta) (hb:PE X (.BoolOp .Or (b::rest) pos) tb):PE X (.BoolOp .Or (a::b::rest) pos) (tOrV ta tb):=by
 intro pins s σ H Q I h
 refine BoolOp_or (thn (ha pins s σ H _ I h) fun v s1 zq=>?_)
 obtain⟨x,H1,I1,r1,q1⟩:=zq
 obtain⟨c,rfl,q1⟩:=q1
 cases r1
 refine wpAny_truthy_bool ?_
 cases c with
 | false=>exact hb pins s1 σ H1 Q I1 q1
 | true=>exact⟨.bl true,H1,I1,rfl,q1⟩
def tIf (t:TT) (ta tb:TE):TE:=fun σ H Q=>t σ H fun c H1=>if c=true then ta σ H1 Q else tb σ H1 Q
theorem pe_ifExp {c:Expr} (hc:PT X c tA) (ha:PE X a ta) (hb:PE X b tb):PE X (.IfExp c a b pos) (tIf tA ta tb):=by
 intro pins s σ H Q I h
 refine wpAny_IfExp (thn (hc pins s σ H _ I h) fun d s1 zq=>?_)
 obtain⟨H1,I1,q1⟩:=zq
 cases d with
 | true=>exact ha pins s1 σ H1 Q I1 q1
 | false=>exact hb pins s1 σ H1 Q I1 q1
end
def SqL (K:Frag) (H:Hp) (a:Addr) (xs:List V):Prop :=
 Rd H a (.lst xs) ∨
  ∃ (o:Obj) (its:Array Value) (n:Nat),K.lookup a=some o/\o.cls=.type "list"/\o.dict=none/\o.data=.seq its n/\its.size<=sizeLine/\Vals xs its.toList
def SqT (K:Frag) (H:Hp) (a:Addr) (xs:List V):Prop :=
 Rd H a (.tup xs) ∨
  ∃ (o:Obj) (its:Array Value) (n:Nat),K.lookup a=some o/\o.cls=.type "tuple"/\o.data=.seq its n/\its.size<=sizeLine/\Vals xs its.toList
def absV:Value->Option V
 | .none=>some .non
 | .bool b=>some (.bl b)
 | .int i _=>some (.int i)
 | .str x _=>some (.str x)
 | .bytes b _=>some (.byt b)
 | .float b _=>some (.flt b)
 | .ref a=>some (.ref a)
 | .type n=>some (.ty n)
 | _=>none
theorem RelV.abs {x:V} {u:Value} (r:RelV x u):absV u=some x:=by
 cases x with
 | non=>cases r;rfl
 | bl _=>cases r;rfl
 | int _=>obtain⟨t,rfl⟩:=r;rfl
 | str _=>obtain⟨t,rfl⟩:=r;rfl
 | byt _=>obtain⟨t,rfl⟩:=r;rfl
 | flt _=>obtain⟨t,rfl⟩:=r;rfl
 | ref _=>cases r;rfl
 | ty _=>cases r;rfl
theorem RelV.inj {x y:V} {u:Value} (r:RelV x u) (q:RelV y u):x=y:=Option.some.inj (r.abs.symm.trans q.abs)
theorem Vals.inj:∀ {xs ys:List V} {us:List Value},Vals xs us->Vals ys us->xs=ys
 | _,_,_,.nil,.nil=>rfl
 | _,_,_,.cons r t,.cons r' t'=>by rw [r.inj r',Vals.inj t t']
section
variable {X:Cx} {pins:List (Addr × Obj)} {σ:St} {H:Hp} {s:Shared} {a:Addr} {xs ys:List V}
theorem SqL.of {K:Frag} (h:H a=some (.lst xs)):SqL K H a xs:=.inl (.inl h)
theorem SqT.of {K:Frag} (h:H a=some (.tup xs)):SqT K H a xs:=.inl (.inl h)
theorem Inv.list (I:Inv X pins σ H s) (h:SqL X.K H a xs):∃ its:List Value,Vals xs its/\PlainL s.heap a its.toArray/\xs.length<=sizeLine:=by
 rcases h with h|⟨o,its,n,hk,hc,hd,hs,hz,r⟩
 ·obtain⟨z,its,n,r,e⟩:=h.ok I.hok
  exact⟨its,r,⟨_,n,e,rfl,rfl,rfl⟩,z⟩
 ·refine⟨its.toList,r,⟨o,n,I.kIn a o hk,hc,hd,by simpa using hs⟩,?_⟩
  have e:=r.length
  simp only [Array.length_toList] at e
  omega
theorem Inv.tuple (I:Inv X pins σ H s) (h:SqT X.K H a xs):∃ its:List Value,Vals xs its/\IsTup s.heap a its.toArray/\xs.length<=sizeLine:=by
 rcases h with h|⟨o,its,n,hk,hc,hs,hz,r⟩
 ·obtain⟨z,its,r,p⟩:=h.ok I.hok
  exact⟨its,r,p,z⟩
 ·refine⟨its.toList,r,⟨o,I.kIn a o hk,hc,n,by simpa using hs⟩,?_⟩
  have e:=r.length
  simp only [Array.length_toList] at e
  omega
theorem Inv.list_inj (I:Inv X pins σ H s) (h:SqL X.K H a xs) (h':SqL X.K H a ys):xs=ys:=by
 obtain⟨its,r,⟨o,n,e,_,_,d⟩,_⟩:=I.list h
 obtain⟨its',r',⟨o',n',e',_,_,d'⟩,_⟩:=I.list h'
 rw [e] at e';cases e'
 rw [d] at d'
 injection d' with d1 _
 have:its=its':=by simpa using congrArg Array.toList d1
 subst this
 exact r.inj r'
theorem Inv.tuple_inj (I:Inv X pins σ H s) (h:SqT X.K H a xs) (h':SqT X.K H a ys):xs=ys:=by
 obtain⟨its,r,⟨o,e,_,n,d⟩,_⟩:=I.tuple h
 obtain⟨its',r',⟨o',e',_,n',d'⟩,_⟩:=I.tuple h'
 rw [e] at e';cases e'
 rw [d] at d'
 injection d' with d1 _
 have:its=its':=by simpa using congrArg Array.toList d1
 subst this
 exact r.inj r'
end
abbrev Cx.wish (X:Cx) (E:Value->Shared->Prop):Cx:={ X with xe:=E }
abbrev Cx.nox (X:Cx):Cx:=X.wish fun _ _=>False
theorem Cx.Ok.wish {X:Cx} (ok:X.Ok) (E:Value->Shared->Prop):(X.wish E).Ok :=
 ⟨ok.mod,ok.kind,ok.glob,ok.blt,ok.above,ok.inj,ok.has,ok.cab,ok.hd,ok.frames,ok.stk,ok.exf,ok.bs,ok.bsz,ok.noex,ok.exfs,ok.funs,ok.frf⟩
theorem Cx.Ok.unwish {X:Cx} {E:Value->Shared->Prop} (ok:(X.wish E).Ok):X.Ok :=
 ⟨ok.mod,ok.kind,ok.glob,ok.blt,ok.above,ok.inj,ok.has,ok.cab,ok.hd,ok.frames,ok.stk,ok.exf,ok.bs,ok.bsz,ok.noex,ok.exfs,ok.funs,ok.frf⟩
section
variable {X:Cx} {pins:List (Addr × Obj)} {σ:St} {H:Hp} {s:Shared} {E:Value->Shared->Prop}
theorem Inv.wish (I:Inv X pins σ H s) (E:Value->Shared->Prop):Inv (X.wish E) pins σ H s:=⟨I.ok.wish E,I.os,I.bare,I.base,I.loc,I.cell,I.free,I.freeC,I.pin,I.hok,I.len⟩
theorem Inv.unwish (I:Inv (X.wish E) pins σ H s):Inv X pins σ H s:=⟨I.ok.unwish,I.os,I.bare,I.base,I.loc,I.cell,I.free,I.freeC,I.pin,I.hok,I.len⟩
theorem SP.unwish {D:Ends} {f:Flow} {s':Shared} (h:SP (X.wish E) pins D f s'):SP X pins D f s':=by
 cases f with
 | next=>obtain⟨σ',H',I,q⟩:=h;exact⟨σ',H',I.unwish,q⟩
 | brk=>obtain⟨σ',H',I,q⟩:=h;exact⟨σ',H',I.unwish,q⟩
 | cont=>obtain⟨σ',H',I,q⟩:=h;exact⟨σ',H',I.unwish,q⟩
 | ret u=>obtain⟨v,σ',H',I,r,q⟩:=h;exact⟨v,σ',H',I.unwish,r,q⟩
theorem PE.nox {e:Expr} {t:TE} (h:PE X.nox e t):PE X e t:=fun pins s σ H Q I hw =>
 wpAny_mono (h pins s σ H Q (I.wish _) hw) (fun _ _ ⟨v,H',I',r,q⟩=>⟨v,H',I'.unwish,r,q⟩) fun _ _ z=>False.elim z
theorem PT.nox {e:Expr} {t:TT} (h:PT X.nox e t):PT X e t:=fun pins s σ H Q I hw =>
 wpAny_mono (h pins s σ H Q (I.wish _) hw) (fun _ _ ⟨H',I',q⟩=>⟨H',I'.unwish,q⟩) fun _ _ z=>False.elim z
theorem PSs.nox {st:List Stmt} {t:TS} (h:PSs X.nox st t):PSs X st t:=fun pins s σ H D I hw =>
 wpAny_mono (h pins s σ H D (I.wish _) hw) (fun _ _ q=>q.unwish) fun _ _ z=>False.elim z
end
section
variable {X:Cx} {st:Stmt} {rest:List Stmt} {t u:TS} {e:Expr} {te:TE} {pos:Pos}
def tNext:TS:=fun D σ H=>D.nx σ H
def tSeq (t u:TS):TS:=fun D σ H=>t { D with nx:=u D } σ H
theorem pss_nil:PSs X [] tNext:=fun _ _ σ H _ I h=>wpAny_execs_nil ⟨σ,H,I,h⟩
theorem pss_cons (h1:PS X st t) (h2:PSs X rest u):PSs X (st::rest) (tSeq t u):=by
 intro pins s σ H D I h
 refine wpAny_execs_cons (thn (h1 pins s σ H { D with nx:=u D } I h) fun f s1 q=>?_)
 cases f with
 | next =>
  obtain⟨σ',H',I',q⟩:=q
  exact h2 pins s1 σ' H' D I' q
 | ret v=>exact q
 | brk=>exact q
 | cont=>exact q
theorem pss_one (h1:PS X st t):PSs X [st] t:=by
 intro pins s σ H D I h
 refine wpAny_execs_cons (thn (h1 pins s σ H D I h) fun f s1 q=>?_)
 cases f with
 | next=>exact wpAny_execs_nil q
 | ret v=>exact q
 | brk=>exact q
 | cont=>exact q
theorem Inv.quiet {pins:List (Addr × Obj)} {σ:St} {H:Hp} {s:Shared} (I:Inv X pins σ H s):interactive X.env=false:=by simp [interactive,I.ok.kind]
def tDrop (te:TE):TS:=fun D σ H=>te σ H fun _ H1=>D.nx σ H1
theorem ps_expr (he:PE X e te) (hs:swapsWith e none pos.line X.env=pure false:=by rfl):PS X (.Expr e pos) (tDrop te):=by
 intro pins s σ H D I h
 exact wpAny_Expr_any (thn (he pins s σ H _ I h) fun v s1 ⟨x,H1,I1,r1,q1⟩=>⟨σ,H1,I1,q1⟩) I.quiet hs
def tRet (te:TE):TS:=fun D σ H=>te σ H D.rt
theorem ps_ret (he:PE X e te):PS X (.Return (some e) pos) (tRet te):=by
 intro pins s σ H D I h
 exact wpAny_Return_some (thn (he pins s σ H _ I h) fun v s1 ⟨x,H1,I1,r1,q1⟩=>⟨x,σ,H1,I1,r1,q1⟩)
def tIfS (c:TT) (t u:TS):TS:=fun D σ H=>c σ H fun b H1=>if b=true then t D σ H1 else u D σ H1
theorem ps_if {c:Expr} {a b:List Stmt} {tc:TT} (hc:PT X c tc) (ha:PSs X a t) (hb:PSs X b u):PS X (.If c a b pos) (tIfS tc t u):=by
 intro pins s σ H D I h
 refine wpAny_If (thn (hc pins s σ H _ I h) fun d s1 zq=>?_)
 obtain⟨H1,I1,q1⟩:=zq
 cases d with
 | true=>exact ha pins s1 σ H1 D I1 q1
 | false=>exact hb pins s1 σ H1 D I1 q1
end
abbrev TG:=V->St->Hp->(St->Hp->Prop)->Prop
abbrev TGs:=List V->St->Hp->(St->Hp->Prop)->Prop
def PG (X:Cx) (target:Expr) (t:TG):Prop :=
 ∀ (pins:List (Addr × Obj)) (s:Shared) (σ:St) (H:Hp) (v:V) (u:Value) (Q:St->Hp->Prop),Inv X pins σ H s->RelV v u->t v σ H Q →
  wpAny (model X.prog X.w) X.A (assign target X.env u) (fun _ s'=>∃ σ' H',Inv X pins σ' H' s'/\Q σ' H') X.xe s
def PGs (X:Cx) (ts:List Expr) (t:TGs):Prop :=
 ∀ (pins:List (Addr × Obj)) (s:Shared) (σ:St) (H:Hp) (vs:List V) (us:List Value) (Q:St->Hp->Prop),Inv X pins σ H s->Vals vs us->t vs σ H Q →
  wpAny (model X.prog X.w) X.A (assignInOrder ((assignEach ts X.env).map (·.2)) us) (fun _ s'=>∃ σ' H',Inv X pins σ' H' s'/\Q σ' H') X.xe s
abbrev TSet:=V->V->V->Hp->(Hp->Prop)->Prop
def PSet (X:Cx) (t:TSet):Prop :=
 ∀ (pins:List (Addr × Obj)) (s:Shared) (σ:St) (H:Hp) (o i v:V) (ov iv u:Value) (Q:Hp->Prop),Inv X pins σ H s->RelV o ov->RelV i iv->RelV v u->t o i v H Q →
  wpAny (model X.prog X.w) X.A (setItem ov iv u) (fun _ s'=>∃ H',Inv X pins σ H' s'/\Q H') X.xe s
section
variable {X:Cx} {pos:Pos}
def gName (i:Nat):TG:=fun v σ H Q=>Q (σ.set i (some v)) H
theorem pg_name {i:Nat} {x:Str} (hN:X.N.Nodup) (hi:X.N[i]?=some x) (hx:Loc X.env.scope x) (hf:X.fn x=true\/X.env.scope.names.lookup x=some .local:=by first|exact .inl rfl|exact .inr rfl|assumption):PG X (.Name x pos) (gName i):=by
 intro pins s σ H v u Q I r h
 exact wpAny_assign_Name (store_ok I hN hi hx r (fun s' I'=>⟨_,H,I',h⟩) hf)
def gNil:TGs:=fun vs σ H Q=>vs=[]/\Q σ H
def gCons (t:TG) (u:TGs):TGs:=fun vs σ H Q=>∃ v r,vs=v::r/\t v σ H fun σ' H'=>u r σ' H' Q
theorem pgs_nil:PGs X [] gNil:=by
 intro pins s σ H vs us Q I r h
 obtain⟨e,h⟩:=h
 subst e
 cases r
 exact assignInOrder_nil ⟨σ,H,I,h⟩
theorem pgs_cons {e:Expr} {es:List Expr} {t:TG} {u:TGs} (h1:PG X e t) (h2:PGs X es u)
  (hs:(assignEach (e::es) X.env).map (·.2)=assign e X.env::(assignEach es X.env).map (·.2):=by rfl):PGs X (e::es) (gCons t u):=by
 intro pins s σ H vs us Q I r h
 obtain⟨v,vr,e1,h⟩:=h
 subst e1
 cases r with
 | cons r rr =>
  rw [hs]
  refine assignInOrder_cons (thn (h1 pins s σ H _ _ _ I r h) fun _ s1 zq=>?_)
  obtain⟨σ1,H1,I1,q1⟩:=zq
  exact h2 pins s1 σ1 H1 _ _ Q I1 rr q1
def gTup (K:Frag) (n:Nat) (t:TGs):TG:=fun v σ H Q=>∃ a xs,v=.ref a/\SqT K H a xs/\xs.length=n/\t xs σ H Q
theorem pg_tup {es:List Expr} {k:Nat} {t:TGs} {n:Nat} (hc:X.calm=true) (h:PGs X es t)
  (hn:(assignEach es X.env).length=n:=by rfl) (hst:(assignEach es X.env).findIdx? (·.1)=none:=by rfl):PG X (.Tuple es k pos) (gTup X.K n t):=by
 intro pins s σ H v u Q I r hw
 obtain⟨a,xs,e1,hq,hl,hw⟩:=hw
 subst e1
 cases r
 obtain⟨its,rv,ht,hz⟩:=I.tuple hq
 refine assign_Tuple_tuple (I.ok.hd hc) ht (by simp [hn,← hl,rv.length]) hst fun h' hx=>?_
 have I1:Inv X pins σ H { s with heap:=h' }:=I.kept (t':=s.toks) fun b o e=>hx b o (Nat.ne_of_lt (Heap.lt_size e)) e
 exact h pins _ σ H xs _ Q I1 (by simpa using rv) hw
def gSub (to ti:TE) (t:TSet):TG:=fun v σ H Q=>to σ H fun o H1=>ti σ H1 fun i H2=>t o i v H2 fun H3=>Q σ H3
theorem pg_sub {o i:Expr} {to ti:TE} {t:TSet} (ho:PE X o to) (hi:PE X i ti) (hs:PSet X t)
  (ha:∀ v,assign (.Subscript o i pos) X.env v=(do
   let ov ← holding [v] (eval o X.env)
   let iv ← holding [v,ov] (eval i X.env)
   standAt pos
   holding [v,ov,iv] (setItem ov iv v)
   release [v,ov,iv] []):=by intro _;rfl):PG X (.Subscript o i pos) (gSub to ti t):=by
 intro pins s σ H v u Q I r h
 rw [ha]
 refine wpAny_bind (wpAny_holding (thn (ho pins s σ H _ I h) fun ov s1 zq=>?_))
 obtain⟨x,H1,I1,r1,q1⟩:=zq
 refine wpAny_bind (wpAny_holding (thn (hi pins s1 σ H1 _ I1 q1) fun iv s2 zq=>?_))
 obtain⟨y,H2,I2,r2,q2⟩:=zq
 refine wpAny_bind (wpAny_standAt (wpAny_bind (wpAny_holding (thn (hs pins s2 σ H2 x y v ov iv u _ I2 r1 r2 r q2) fun _ s3 zq=>?_))))
 obtain⟨H3,I3,q3⟩:=zq
 exact wpAny_release ⟨σ,H3,I3,q3⟩
def tAsg (te:TE) (g:TG):TS:=fun D σ H=>te σ H fun x H1=>g x σ H1 D.nx
theorem ps_asg {tg e:Expr} {te:TE} {g:TG} (he:PE X e te) (hg:PG X tg g) (hs:swapsWithSole [tg] e pos.line X.env=pure false:=by rfl) (hw:swappedStores [tg] e X.env=pure none:=by rfl)
  (h1:(assignEach [tg] X.env).map (·.2)=[assign tg X.env]:=by rfl):PS X (.Assign [tg] e pos) (tAsg te g):=by
 intro pins s σ H D I h
 refine wpAny_Assign_stores (thn (he pins s σ H _ I h) fun v s1 zq=>?_) hs hw
 obtain⟨x,H1,I1,r1,q1⟩:=zq
 rw [h1]
 exact thn (hg pins s1 σ H1 x v _ I1 r1 q1) fun _ s2 q=>q
theorem ps_set {i:Nat} {x:Str} {e:Expr} {te:TE} {pos':Pos} (hN:X.N.Nodup) (hi:X.N[i]?=some x) (hx:Loc X.env.scope x) (he:PE X e te) (hs:swapsWith e (some (.Name x pos')) pos.line X.env=pure false:=by rfl) (hf:X.fn x=true\/X.env.scope.names.lookup x=some .local:=by first|exact .inl rfl|exact .inr rfl|assumption) :
  PS X (.Assign [.Name x pos'] e pos) (tAsg te (gName i)):=by
 intro pins s σ H D I h
 refine wpAny_Assign_Name (thn (he pins s σ H _ I h) fun v s1 zq=>?_) hs
 obtain⟨y,H1,I1,r1,q1⟩:=zq
 exact store_ok I1 hN hi hx r1 (fun s2 I2=>⟨_,H1,I2,q1⟩) hf
end
structure It where
 go:Nat->Hp->Prop
 yld:Nat->Hp->V->Hp->Prop
 stop:Nat->Hp->Prop
def FpOk (X:Cx) (pins:List (Addr × Obj)) (H:Hp) (b:Addr):Prop :=
 H b=none/\b ≠ X.env.locals/\b ∉ X.fs/\(b ∈ X.ex\/X.s₀.heap.objs.size<=b)/\(∀ x c,X.env.cells.lookup x=some c->c ≠ b)/\∀ p ∈ X.pn++pins,p.1 ≠ b
theorem Inv.fpOk {X:Cx} {pins:List (Addr × Obj)} {σ:St} {H H':Hp} {s:Shared} {b:Addr} (I:Inv X pins σ H s) (hb:s.heap.objs.size<=b) (hn:H' b=none):FpOk X pins H' b:=by
 refine⟨hn,Nat.ne_of_gt (Nat.lt_of_lt_of_le I.lt hb),I.nofs hb,.inr (Nat.le_trans I.sz hb),fun x c e z=>?_,fun p hp z=>?_⟩
 ·obtain⟨v,q⟩:=I.cell x c e
  exact absurd (Nat.lt_of_lt_of_le q.lt (by rw [z];exact hb)) (Nat.lt_irrefl _)
 ·exact absurd (Nat.lt_of_lt_of_le (Heap.lt_size (I.pin p hp).1) (by rw [z];exact hb)) (Nat.lt_irrefl _)
structure Turn (P:Program) (w:World) (K:Frag) (tg:Expr) (J:It) (fp:List Addr) (it:Addr) (tn:Nat->Heap->Prop):Prop where
 mem:it ∈ fp
 obj:∀ i h,tn i h->∀ b ∈ fp,∃ o,h.get? b=some o/\∀ v,o.data ≠ .cell v
 keep:∀ i h h',tn i h->(∀ b ∈ fp,∀ o,h.get? b=some o->h'.get? b=some o)->tn i h'
 item:∀ (X:Cx),X.prog=P->X.w=w->X.K=K->X.calm=true->∀ (i:Nat) (pins:List (Addr × Obj)) (s:Shared) (σ:St) (H:Hp) (E:Value->Shared->Prop),Inv X pins σ H s->(∀ b ∈ fp,FpOk X pins H b)->tn i s.heap->J.go i H →
  wpAny (model P w) X.A (pyNext (.ref it)) (fun r s1=>∃ u,r=some u ∧
   wpAny (model P w) X.A (letOwnedTupleGo tg (.ref it) u) (fun _ s2=>∃ x H',Inv X pins σ H' s2/\RelV x u/\J.yld i H x H'/\tn (i + 1) s2.heap/\∀ b ∈ fp,H' b=none) E s1) E s
 done:∀ (X:Cx),X.prog=P->X.w=w->X.K=K->X.calm=true->∀ (i:Nat) (pins:List (Addr × Obj)) (s:Shared) (σ:St) (H:Hp) (E:Value->Shared->Prop),Inv X pins σ H s->(∀ b ∈ fp,FpOk X pins H b)->tn i s.heap->J.stop i H →
  wpAny (model P w) X.A (pyNext (.ref it)) (fun r s1=>r=none/\Inv X pins σ H s1) E s
 self:∀ (A:Around) (i:Nat) (s:Shared) (Q:Value->Shared->Prop) (E:Value->Shared->Prop),tn i s.heap->Q (.ref it) s->wpAny (model P w) A (pyIter (.ref it)) Q E s
abbrev TI:=St->Hp->(It->Hp->Prop)->Prop
def PIE (X:Cx) (pins:List (Addr × Obj)) (σ:St) (tg:Expr) (R:It->Hp->Prop) (itv:Value) (s2:Shared):Prop :=
 ∃ (it:Addr) (fp:List Addr) (tn:Nat->Heap->Prop) (J:It) (H':Hp),itv=.ref it/\Inv X pins σ H' s2/\Turn X.prog X.w X.K tg J fp it tn/\tn 0 s2.heap/\(∀ b ∈ fp,FpOk X pins H' b)/\R J H'
def PI (X:Cx) (tg iter:Expr) (wi:TI):Prop :=
 ∀ (pins:List (Addr × Obj)) (s:Shared) (σ:St) (H:Hp) (R:It->Hp->Prop),Inv X pins σ H s->wi σ H R →
  wpAny (model X.prog X.w) X.A (eval iter X.env) (fun v s1=>wpAny (model X.prog X.w) X.A (pyIter v) (PIE X pins σ tg R) X.xe s1) X.xe s
theorem go_of {M:Model} {A:Around} {E:Value->Shared->Prop} {s:Shared} {tg:Expr} {it:Addr} {u:Value} {o:Obj} {n:String} {vs:Array Value} {Q:Unit->Shared->Prop} (ho:s.heap.get? it=some o) (hc:o.cls=.type n) (hd:o.data=.fields vs)
  (hn : ["enumerate","zip","dict_itemiterator","dict_reverseitemiterator","odict_iterator","itertools.zip_longest","itertools.pairwise"].contains n=false) (hQ:Q () s):wpAny M A (letOwnedTupleGo tg (.ref it) u) Q E s:=by
 unfold letOwnedTupleGo
 cases tg <;> first
  | exact wpAny_pure hQ
  | (cases u <;> first
      | exact wpAny_pure hQ
      | (refine wpAny_bind (wpAny_load ho ?_)
         rw [hc,hd]
         show wpAny M A (if (["enumerate","zip","dict_itemiterator","dict_reverseitemiterator","odict_iterator","itertools.zip_longest","itertools.pairwise"].contains n && vs[0]? == some (rawInt _))=true then _ else _) Q E s
         rw [if_neg (by intro h;rw [hn,Bool.false_and] at h;cases h)]
         exact wpAny_pure hQ))
def Itl (K:Frag) (a:Addr):It :=
 ⟨fun i H=>∃ xs x,SqL K H a xs/\xs[i]?=some x,fun i H x H'=>H'=H/\∀ xs,SqL K H a xs->xs[i]?=some x,fun i H=>∃ xs,SqL K H a xs/\xs.length<=i⟩
def Itt (K:Frag) (a:Addr):It :=
 ⟨fun i H=>∃ xs x,SqT K H a xs/\xs[i]?=some x,fun i H x H'=>H'=H/\∀ xs,SqT K H a xs->xs[i]?=some x,fun i H=>∃ xs,SqT K H a xs/\xs.length<=i⟩
def Itr (lo:Int) (n:Nat):It:=⟨fun i _=>i < n,fun i H x H'=>H'=H/\x=.int (lo + i),fun i _=>n<=i⟩
theorem turn_list {P:Program} {w:World} {K:Frag} {tg:Expr} (a it:Addr):Turn P w K tg (Itl K a) [it] it (fun i h=>h.IsListIter it a i) where
 mem:=by simp
 obj:=fun i h st b hb=>by
  have e:b=it:=by simpa using hb
  subst e
  obtain⟨o,e,c,d⟩:=st
  exact⟨o,e,fun v z=>by rw [d] at z;cases z⟩
 keep:=fun i h h' st k=>st.at fun o e=>k it (by simp) o e
 item:=by
  intro X hP hw hK hc i pins s σ H E I hf st hg
  subst hP hw hK
  obtain⟨xs,x,hq,hx⟩:=hg
  obtain⟨its,rv,p,hz⟩:=I.list hq
  obtain⟨u,hu,ru⟩:=rv.get hx
  obtain⟨f0,f1,f2,f3,f4,f5⟩:=hf it (by simp)
  refine wpAny_pyNext_list_item st p.isList (x:=u) (by simpa using hu) fun h' st' sb=>?_
  have I1:Inv X pins σ H { s with heap:=h' }:=I.turned (t':=s.toks) (fun b o hb e=>(sb.2 b hb).trans e) f0 f1 f3 f4 f5
  obtain⟨o,e,c,d⟩:=id st'
  exact⟨u,rfl,go_of (s:={ s with heap:=h' }) e c d (by decide) ⟨x,H,I1,ru,⟨rfl,fun ys hy=>by rw [I.list_inj hy hq];exact hx⟩,st',fun b hb=>(hf b hb).1⟩⟩
 done:=by
  intro X hP hw hK hc i pins s σ H E I hf st hg
  subst hP hw hK
  obtain⟨xs,hq,hx⟩:=hg
  obtain⟨its,rv,p,hz⟩:=I.list hq
  obtain⟨f0,f1,f2,f3,f4,f5⟩:=hf it (by simp)
  have hl:=rv.length
  exact wpAny_pyNext_list_end (I.ok.hd hc) st p.isList (by simp;omega) fun h' eb=>⟨rfl,I.turned (t':=s.toks) (fun b o hb e=>eb b o hb e) f0 f1 f3 f4 f5⟩
 self:=fun _ _ _ _ _ st h=>wpAny_pyIter_listiter st h
theorem turn_tuple {P:Program} {w:World} {K:Frag} {tg:Expr} (a it:Addr):Turn P w K tg (Itt K a) [it] it (fun i h=>h.IsTupleIter it a i) where
 mem:=by simp
 obj:=fun i h st b hb=>by
  have e:b=it:=by simpa using hb
  subst e
  obtain⟨o,e,c,d⟩:=st
  exact⟨o,e,fun v z=>by rw [d] at z;cases z⟩
 keep:=fun i h h' st k=>st.at fun o e=>k it (by simp) o e
 item:=by
  intro X hP hw hK hc i pins s σ H E I hf st hg
  subst hP hw hK
  obtain⟨xs,x,hq,hx⟩:=hg
  obtain⟨its,rv,p,hz⟩:=I.tuple hq
  obtain⟨u,hu,ru⟩:=rv.get hx
  obtain⟨f0,f1,f2,f3,f4,f5⟩:=hf it (by simp)
  refine wpAny_pyNext_tuple_item st (show s.heap.IsTuple a its.toArray from p) (x:=u) (by simpa using hu) fun h' st' sb=>?_
  have I1:Inv X pins σ H { s with heap:=h' }:=I.turned (t':=s.toks) (fun b o hb e=>(sb.2 b hb).trans e) f0 f1 f3 f4 f5
  obtain⟨o,e,c,d⟩:=id st'
  exact⟨u,rfl,go_of (s:={ s with heap:=h' }) e c d (by decide) ⟨x,H,I1,ru,⟨rfl,fun ys hy=>by rw [I.tuple_inj hy hq];exact hx⟩,st',fun b hb=>(hf b hb).1⟩⟩
 done:=by
  intro X hP hw hK hc i pins s σ H E I hf st hg
  subst hP hw hK
  obtain⟨xs,hq,hx⟩:=hg
  obtain⟨its,rv,p,hz⟩:=I.tuple hq
  obtain⟨f0,f1,f2,f3,f4,f5⟩:=hf it (by simp)
  have hl:=rv.length
  exact wpAny_pyNext_tuple_end (I.ok.hd hc) st (show s.heap.IsTuple a its.toArray from p) (by simp;omega) fun h' eb=>⟨rfl,I.turned (t':=s.toks) (fun b o hb e=>eb b o hb e) f0 f1 f3 f4 f5⟩
 self:=fun _ _ _ _ _ st h=>wpAny_pyIter_tupleiter st h
theorem turn_range {P:Program} {w:World} {K:Frag} {tg:Expr} (it:Addr) (lo:Int) (n:Nat):Turn P w K tg (Itr lo n) [it] it (fun i h=>IsRangeIter h it (lo + (i:Nat) * 1) ((n:Int) - (i:Nat)) 1) where
 mem:=by simp
 obj:=fun i h st b hb=>by
  have e:b=it:=by simpa using hb
  subst e
  exact⟨_,st,fun v z=>by
   have z':Data.fields _=Data.cell v:=z
   cases z'⟩
 keep:=fun i h h' st k=>k it (by simp) _ st
 item:=by
  intro X hP hw hK hc i pins s σ H E I hf st hg
  subst hP hw hK
  obtain⟨f0,f1,f2,f3,f4,f5⟩:=hf it (by simp)
  have W:=Walks.range (prog:=X.prog) (w:=X.w) (I.ok.hd hc) it lo 1 n
  refine W.item i s _ _ hg st fun v h' tk hv st' kk=>?_
  obtain⟨t,rfl⟩:=hv
  have I1:Inv X pins σ H { s with heap:=h',toks:=tk }:=I.turned (fun b o hb e=>kk b o (by simpa using hb) e) f0 f1 f3 f4 f5
  refine⟨_,rfl,go_of (s:={ s with heap:=h',toks:=tk }) (n:="range_iterator") st' rfl rfl (by decide) ⟨.int (lo + i),H,I1,⟨t,?_⟩,⟨rfl,rfl⟩,st',fun b hb=>(hf b hb).1⟩⟩
  rw [Int.mul_one]
 done:=by
  intro X hP hw hK hc i pins s σ H E I hf st hg
  subst hP hw hK
  obtain⟨f0,f1,f2,f3,f4,f5⟩:=hf it (by simp)
  exact wpAny_pyNext_range_end (I.ok.hd hc) st (by have:n<=i:=hg;omega) fun h' eb=>⟨rfl,I.turned (t':=s.toks) (fun b o hb e=>eb b o hb e) f0 f1 f3 f4 f5⟩
 self:=fun _ _ _ _ _ st h=>wpAny_pyIter_rangeiter st h
section
variable {X:Cx} {tg:Expr}
def iList (K:Frag) (tl:TE):TI:=fun σ H R=>tl σ H fun x H1=>∃ a,x=.ref a/\(∃ xs,SqL K H1 a xs)/\R (Itl K a) H1
def iTup (K:Frag) (tl:TE):TI:=fun σ H R=>tl σ H fun x H1=>∃ a,x=.ref a/\(∃ xs,SqT K H1 a xs)/\R (Itt K a) H1
theorem pi_list {l:Expr} {tl:TE} (hl:PE X l tl):PI X tg l (iList X.K tl):=by
 intro pins s σ H R I h
 refine thn (hl pins s σ H _ I h) fun v s1 zq=>?_
 obtain⟨x,H1,I1,r1,q1⟩:=zq
 obtain⟨a,e,⟨xs,hq⟩,q⟩:=q1
 subst e
 cases r1
 obtain⟨its,rv,p,hz⟩:=I1.list hq
 refine wpAny_pyIter_list p.isList ?_
 refine⟨s1.heap.objs.size,[s1.heap.objs.size],_,_,H1,rfl,I1.kept (t':=s1.toks) fun b o e=>Heap.get?_push_of_some _ e,turn_list a _,⟨_,Heap.get?_push_size _ rfl,rfl,rfl⟩,fun b hb=>?_,q⟩
 have e:b=s1.heap.objs.size:=by simpa using hb
 subst e
 exact I1.fpOk (Nat.le_refl _) (I1.hok.fresh (Nat.le_refl _))
theorem pi_tup {l:Expr} {tl:TE} (hl:PE X l tl):PI X tg l (iTup X.K tl):=by
 intro pins s σ H R I h
 refine thn (hl pins s σ H _ I h) fun v s1 zq=>?_
 obtain⟨x,H1,I1,r1,q1⟩:=zq
 obtain⟨a,e,⟨xs,hq⟩,q⟩:=q1
 subst e
 cases r1
 obtain⟨its,rv,p,hz⟩:=I1.tuple hq
 refine wpAny_pyIter_tuple (show s1.heap.IsTuple a its.toArray from p) ?_
 refine⟨s1.heap.objs.size,[s1.heap.objs.size],_,_,H1,rfl,I1.kept (t':=s1.toks) fun b o e=>Heap.get?_push_of_some _ e,turn_tuple a _,⟨_,Heap.get?_push_size _ rfl,rfl,rfl⟩,fun b hb=>?_,q⟩
 have e:b=s1.heap.objs.size:=by simpa using hb
 subst e
 exact I1.fpOk (Nat.le_refl _) (I1.hok.fresh (Nat.le_refl _))
theorem range_it {pins:List (Addr × Obj)} {σ:St} {H:Hp} {s:Shared} {R:It->Hp->Prop} {E:Value->Shared->Prop} {lo hi:Int} {t u v:Tok} {tk:Nat} (I:Inv X pins σ H s) (h1 : -(2 ^ 62)<=lo) (h2:lo < 2 ^ 62) (h3 : -(2 ^ 62)<=hi) (h4:hi < 2 ^ 62)
  (q:R (Itr lo (hi - lo).toNat) H):wpAny (model X.prog X.w) X.A (pyIter (.ref s.heap.objs.size)) (PIE X pins σ tg R) E { s with heap:=s.heap.push { cls:=.type "range",data:=.fields #[.int lo t,.int hi u,.int 1 v] },toks:=tk }:=by
 refine wpAny_pyIter_range (IsRange.new ..) (small_one h1 h2 h3 h4) ?_
 have I1:Inv X pins σ H { s with heap:=s.heap.push { cls:=.type "range",data:=.fields #[.int lo t,.int hi u,.int 1 v] },toks:=tk }:=I.kept fun b o e=>Heap.get?_push_of_some _ e
 refine⟨(s.heap.push { cls:=.type "range",data:=.fields #[.int lo t,.int hi u,.int 1 v] }).objs.size,[(s.heap.push { cls:=.type "range",data:=.fields #[.int lo t,.int hi u,.int 1 v] }).objs.size],_,_,H,rfl,
  I1.kept (t':=tk) fun b o e=>Heap.get?_push_of_some _ e,turn_range _ lo (hi - lo).toNat,?_,fun b hb=>?_,q⟩
 ·have e1:lo + ((0:Nat):Int) * 1=lo:=by simp
  have e2:(((hi - lo).toNat:Nat):Int) - ((0:Nat):Int)=Builtin.Range.rangeSize lo hi 1:=by rw [rangeSize_one];split <;> omega
  show IsRangeIter _ _ (lo + ((0:Nat):Int) * 1) ((((hi - lo).toNat:Nat):Int) - ((0:Nat):Int)) 1
  rw [e1,e2]
  exact Heap.get?_push_size _ rfl
 ·have e:b=(s.heap.push { cls:=.type "range",data:=.fields #[.int lo t,.int hi u,.int 1 v] }).objs.size:=by simpa using hb
  subst e
  exact I1.fpOk (Nat.le_refl _) (I1.hok.fresh (Nat.le_refl _))
def iRng1 (ta:TA):TI:=fun σ H R=>ta σ H fun vs H1=>∃ j:Int,vs=[.int j]/\-(2 ^ 62)<=j/\j < 2 ^ 62/\R (Itr 0 j.toNat) H1
def iRng2 (ta:TA):TI:=fun σ H R=>ta σ H fun vs H1=>∃ i j:Int,vs=[.int i,.int j]/\(-(2 ^ 62)<=i/\i < 2 ^ 62/\-(2 ^ 62)<=j/\j < 2 ^ 62)/\R (Itr i (j - i).toNat) H1
theorem pi_range1 {a:Expr} {ta:TA} {p pos:Pos} (hg:Gl X "range") (hm:X.mg "range" = none) (ha:PA X [a] ta) (hs:starEach [a] X.env=[(false,eval a X.env)]:=by rfl):PI X tg (.Call (.Name "range" p) [a] [] pos) (iRng1 ta):=by
 intro pins s σ H R I h
 refine Call_ (ld_blt I hg hm boot_range (PyProof.Rows.callWith_type1 (thn (ha pos pins s σ H _ I h) fun us s1 zq=>?_) hs rfl))
 obtain⟨vs,H1,I1,r1,q1⟩:=zq
 obtain⟨j,e,q1,q2,q⟩:=q1
 subst e
 cases r1 with
 | cons r rr =>
  cases rr
  obtain⟨t,rfl⟩:=r
  exact call_range_1 (range_it I1 (by omega) (by omega) q1 q2 (by simpa using q))
theorem pi_range2 {a b:Expr} {ta:TA} {p pos:Pos} (hg:Gl X "range") (hm:X.mg "range" = none) (ha:PA X [a,b] ta) (hs:starEach [a,b] X.env=[(false,eval a X.env),(false,eval b X.env)]:=by rfl) (hs2:starEach [b] X.env=[(false,eval b X.env)]:=by rfl) :
  PI X tg (.Call (.Name "range" p) [a,b] [] pos) (iRng2 ta):=by
 intro pins s σ H R I h
 refine Call_ (ld_blt I hg hm boot_range (PyProof.Rows.callWith_type1 (thn (ha pos pins s σ H _ I h) fun us s1 zq=>?_) (by rw [hs,hs2]) (by rw [hs2];rfl)))
 obtain⟨vs,H1,I1,r1,q1⟩:=zq
 obtain⟨i,j,e,⟨q1,q2,q3,q4⟩,q⟩:=q1
 subst e
 cases r1 with
 | cons r rr =>
  cases rr with
  | cons r' rr =>
   cases rr
   obtain⟨t,rfl⟩:=r
   obtain⟨t',rfl⟩:=r'
   exact call_range_2 (range_it I1 q1 q2 q3 q4 q)
def tFor (wi:TI) (g:TG) (tb:TS):TS:=fun D σ H=>wi σ H fun J H1=>∃ W:Nat->Nat->St->Hp->Prop,(∃ m,W 0 m σ H1)/\∀ i m σ H,W i m σ H →
 (J.stop i H/\D.nx σ H)\/(J.go i H/\∃ N:St->Hp->Prop,(∀ σ' H',N σ' H'->∃ m',m' < m/\W (i + 1) m' σ' H')/\∀ x H',J.yld i H x H'->g x σ H' fun σ2 H2=>tb { D with nx:=N,ct:=N,bk:=D.nx } σ2 H2)
def pinsAt (fp:List Addr) (h:Heap):List (Addr × Obj):=fp.filterMap fun b=>(h.get? b).map fun o=>(b,o)
theorem mem_pinsAt {fp:List Addr} {h:Heap} {b:Addr} {o:Obj} (hb:b ∈ fp) (e:h.get? b=some o):(b,o) ∈ pinsAt fp h:=List.mem_filterMap.mpr ⟨b,hb,by rw [e];rfl⟩
theorem of_pinsAt {fp:List Addr} {h:Heap} {p:Addr × Obj} (hp:p ∈ pinsAt fp h):p.1 ∈ fp/\h.get? p.1=some p.2:=by
 obtain⟨b,hb,e⟩:=List.mem_filterMap.mp hp
 cases q:h.get? b with
 | none=>rw [q] at e;cases e
 | some o =>
  rw [q] at e
  have e':(b,o)=p:=Option.some.inj e
  subst e'
  exact⟨hb,q⟩
theorem Inv.pinned {pins:List (Addr × Obj)} {σ:St} {H:Hp} {s:Shared} {fp:List Addr} (I:Inv X pins σ H s) (hf:∀ b ∈ fp,FpOk X pins H b) (ho:∀ b ∈ fp,∃ o,s.heap.get? b=some o/\∀ v,o.data ≠ .cell v):Inv X (pins++pinsAt fp s.heap) σ H s :=
 I.pins_of fun p hp=>(List.mem_append.mp hp).elim (fun z=>I.pin p (List.mem_append_right _ z)) fun z=>by
  obtain⟨hb,e⟩:=of_pinsAt z
  obtain⟨f0,f1,f2,_⟩:=hf p.1 hb
  obtain⟨o,e',d⟩:=ho p.1 hb
  rw [e] at e';cases e'
  exact⟨e,f0,f1,f2,d⟩
theorem Inv.unpinned {pins pl:List (Addr × Obj)} {σ:St} {H:Hp} {s:Shared} (I:Inv X (pins++pl) σ H s):Inv X pins σ H s:=I.pins_of fun p hp=>I.pin p (List.mem_append_right _ (List.mem_append_left _ hp))
theorem ps_for {iter:Expr} {body:List Stmt} {wi:TI} {g:TG} {tb:TS} {pos:Pos} (hp:PassesOwn (model X.prog X.w) X.A X.env X.xe) (hc:X.calm=true) (hi:PI X tg iter wi) (hg:PG X tg g) (hb:PSs X body tb)
  (hs:∀ x,foldedSetIterable iter X.env x=pure x:=by intro _;rfl):PS X (.For tg iter body [] pos) (tFor wi g tb):=by
 intro pins s σ H D I h
 refine wpAny_For (thn (hi pins s σ H _ I h) fun v s1 h1=>thn h1 fun itv s2 h2=>?_) hs
 obtain⟨it,fp,tn,J,H2,e,I2,T,st2,f2,W,⟨m0,w0⟩,turn⟩:=h2
 subst e
 have stat:∀ {H':Hp},(∀ b ∈ fp,H' b=none)->∀ b ∈ fp,FpOk X pins H' b:=fun hn b hb=>⟨hn b hb,(f2 b hb).2⟩
 refine codeAny_forLoop_any (fun n s'=>∃ i σ' H',Inv X pins σ' H' s'/\tn i s'.heap/\(∀ b ∈ fp,H' b=none)/\W i n σ' H') ?_ m0 ⟨0,σ,H2,I2,st2,fun b hb=>(f2 b hb).1,w0⟩
 rintro n s3 ⟨i,σ3,H3,I3,st3,fr3,w3⟩
 rcases turn i n σ3 H3 w3 with⟨stop,qn⟩|⟨go,N,hN,step⟩
 ·refine wpAny_passesOwn hp (thn (T.done X rfl rfl rfl hc i pins s3 σ3 H3 X.xe I3 (stat fr3) st3 stop) fun r s4 zq=>?_)
  obtain⟨hr,I4⟩:=zq
  subst hr
  exact wpAny_execs_nil ⟨σ3,H3,I4,qn⟩
 ·refine wpAny_passesOwn hp (thn (T.item X rfl rfl rfl hc i pins s3 σ3 H3 X.xe I3 (stat fr3) st3 go) fun r s4 zq=>?_)
  obtain⟨u,hr,h4⟩:=zq
  subst hr
  refine wpAny_passesOwn hp (thn h4 fun _ s5 zq=>?_)
  obtain⟨x,H5,I5,r5,y5,st5,fr5⟩:=zq
  have I5':=I5.pinned (stat fr5) (T.obj _ _ st5)
  refine wpAny_passesOwn hp (thn (hg _ s5 σ3 H5 x u _ I5' r5 (step x H5 y5)) fun _ s6 zq=>?_)
  obtain⟨σ6,H6,I6,q6⟩:=zq
  refine wpAny_passesOwn hp (thn (hb _ s6 σ6 H6 _ I6 q6) fun f s7 q7=>?_)
  have again:∀ {σ7:St} {H7:Hp},Inv X (pins++pinsAt fp s5.heap) σ7 H7 s7->N σ7 H7->∃ m,m < n/\∃ i σ' H',Inv X pins σ' H' s7/\tn i s7.heap/\(∀ b ∈ fp,H' b=none)/\W i m σ' H':=fun {σ7 H7} I7 n7=>by
   obtain⟨m',hm,w7⟩:=hN σ7 H7 n7
   refine⟨m',hm,i + 1,σ7,H7,I7.unpinned,T.keep _ _ _ st5 fun b hb o e=>(I7.pin (b,o) (List.mem_append_right _ (List.mem_append_right _ (mem_pinsAt hb e)))).1,fun b hb=>?_,w7⟩
   obtain⟨o,e,d⟩:=T.obj _ _ st5 b hb
   exact (I7.pin (b,o) (List.mem_append_right _ (List.mem_append_right _ (mem_pinsAt hb e)))).2.1
  cases f with
  | next=>obtain⟨σ7,H7,I7,n7⟩:=q7;exact again I7 n7
  | cont=>obtain⟨σ7,H7,I7,n7⟩:=q7;exact again I7 n7
  | brk=>obtain⟨σ7,H7,I7,q7⟩:=q7;exact⟨σ7,H7,I7.unpinned,q7⟩
  | ret v=>obtain⟨x7,σ7,H7,I7,r7,q7⟩:=q7;exact⟨x7,σ7,H7,I7.unpinned,r7,q7⟩
end
theorem for_list {K:Frag} {a:Addr} {xs:List V} {g:TG} {tb:TS} {D:Ends} {σ:St} {H:Hp} (Pv:Nat->St->Hp->Prop) (h0:Pv 0 σ H) (hl:∀ i σ H,i<=xs.length->Pv i σ H->SqL K H a xs)
  (hs:∀ i x σ H,xs[i]?=some x->Pv i σ H->g x σ H fun σ2 H2=>tb { D with nx:=Pv (i + 1),ct:=Pv (i + 1),bk:=D.nx } σ2 H2) (hd:∀ σ H,Pv xs.length σ H->D.nx σ H) :
  ∃ W:Nat->Nat->St->Hp->Prop,(∃ m,W 0 m σ H)/\∀ i m σ H,W i m σ H →
   ((Itl K a).stop i H/\D.nx σ H)\/((Itl K a).go i H/\∃ N:St->Hp->Prop,(∀ σ' H',N σ' H'->∃ m',m' < m/\W (i + 1) m' σ' H')/\∀ x H',(Itl K a).yld i H x H'->g x σ H' fun σ2 H2=>tb { D with nx:=N,ct:=N,bk:=D.nx } σ2 H2):=by
 refine⟨fun i m σ H=>m=xs.length - i/\i<=xs.length/\Pv i σ H,⟨xs.length,by simp,Nat.zero_le _,h0⟩,?_⟩
 rintro i m σ H ⟨rfl,hi,p⟩
 have q:=hl i σ H hi p
 by_cases hlt:i < xs.length
 ·refine .inr ⟨⟨xs,xs[i],q,by simp [hlt]⟩,Pv (i + 1),fun σ' H' p'=>⟨xs.length - (i + 1),by omega,rfl,hlt,p'⟩,fun x H' y=>?_⟩
  obtain⟨e,y⟩:=y
  subst e
  exact hs i x σ _ (y xs q) p
 ·have e:i=xs.length:=by omega
  subst e
  exact .inl ⟨⟨xs,q,Nat.le_refl _⟩,hd σ H p⟩
theorem for_range {lo:Int} {n:Nat} {g:TG} {tb:TS} {D:Ends} {σ:St} {H:Hp} (Pv:Nat->St->Hp->Prop) (h0:Pv 0 σ H)
  (hs:∀ i σ H,i < n->Pv i σ H->g (.int (lo + i)) σ H fun σ2 H2=>tb { D with nx:=Pv (i + 1),ct:=Pv (i + 1),bk:=D.nx } σ2 H2) (hd:∀ σ H,Pv n σ H->D.nx σ H) :
  ∃ W:Nat->Nat->St->Hp->Prop,(∃ m,W 0 m σ H)/\∀ i m σ H,W i m σ H →
   ((Itr lo n).stop i H/\D.nx σ H)\/((Itr lo n).go i H/\∃ N:St->Hp->Prop,(∀ σ' H',N σ' H'->∃ m',m' < m/\W (i + 1) m' σ' H')/\∀ x H',(Itr lo n).yld i H x H'->g x σ H' fun σ2 H2=>tb { D with nx:=N,ct:=N,bk:=D.nx } σ2 H2):=by
 refine⟨fun i m σ H=>m=n - i/\i<=n/\Pv i σ H,⟨n,by simp,Nat.zero_le _,h0⟩,?_⟩
 rintro i m σ H ⟨rfl,hi,p⟩
 by_cases hlt:i < n
 ·refine .inr ⟨hlt,Pv (i + 1),fun σ' H' p'=>⟨n - (i + 1),by omega,rfl,hlt,p'⟩,fun x H' y=>?_⟩
  obtain⟨e,y⟩:=y
  subst e y
  exact hs i σ _ hlt p
 ·have e:i=n:=by omega
  subst e
  exact .inl ⟨Nat.le_refl _,hd σ H p⟩
abbrev R2:=V->V->Hp->VK->Prop
def OpR (X:Cx) (f:Value->Value->Sem Value) (r:R2):Prop :=
 ∀ (pins:List (Addr × Obj)) (s:Shared) (σ:St) (H:Hp) (x y:V) (v u:Value) (Q:VK),Inv X pins σ H s->RelV x v->RelV y u->r x y H Q →
  wpAny (model X.prog X.w) X.A (f v u) (EP X pins σ Q) X.xe s
def UnR (X:Cx) (f:Value->Sem Value) (r:V->Hp->VK->Prop):Prop :=
 ∀ (pins:List (Addr × Obj)) (s:Shared) (σ:St) (H:Hp) (x:V) (v:Value) (Q:VK),Inv X pins σ H s->RelV x v->r x H Q →
  wpAny (model X.prog X.w) X.A (f v) (EP X pins σ Q) X.xe s
def CallR (X:Cx) (f:Value) (r:List V->Hp->VK->Prop):Prop :=
 ∀ (pins:List (Addr × Obj)) (s:Shared) (σ:St) (H:Hp) (xs:List V) (us:List Value) (Q:VK),Inv X pins σ H s->Vals xs us->r xs H Q →
  wpAny (model X.prog X.w) X.A (call f us) (EP X pins σ Q) X.xe s
def TruR (X:Cx) (r:V->Hp->(Bool->Hp->Prop)->Prop):Prop :=
 ∀ (pins:List (Addr × Obj)) (s:Shared) (σ:St) (H:Hp) (x:V) (v:Value) (Q:Bool->Hp->Prop),Inv X pins σ H s->RelV x v->r x H Q →
  wpAny (model X.prog X.w) X.A (truthy v) (TP X pins σ Q) X.xe s
def tOp (r:R2) (ta tb:TE):TE:=fun σ H Q=>ta σ H fun x H1=>tb σ H1 fun y H2=>r x y H2 Q
def tUn (r:V->Hp->VK->Prop) (ta:TE):TE:=fun σ H Q=>ta σ H fun x H1=>r x H1 Q
def rI (C:Int->Int->Prop) (g:Int->Int->V):R2:=fun x y H Q=>∃ i j,x=.int i/\y=.int j/\C i j/\Q (g i j) H
def rI0 (g:Int->Int->V):R2:=fun x y H Q=>∃ i j,x=.int i/\y=.int j/\Q (g i j) H
def rU (g:Int->V):V->Hp->VK->Prop:=fun x H Q=>∃ i,x=.int i/\Q (g i) H
section
variable {X:Cx} {a b c:Expr} {ta tb tc:TE} {pos:Pos}
theorem binT (ha:PE X a ta) (hb:PE X b tb) {pins:List (Addr × Obj)} {s:Shared} {σ:St} {H:Hp} {R:V->V->Hp->Prop} (I:Inv X pins σ H s)
  (h:ta σ H fun x H1=>tb σ H1 fun y H2=>R x y H2) {Q:Value->Shared->Prop} {f:Value->Value->Sem Value}
  (hf:∀ v u s2 x y H2,Inv X pins σ H2 s2->RelV x v->RelV y u->R x y H2->wpAny (model X.prog X.w) X.A (f v u) Q X.xe s2) :
  wpAny (model X.prog X.w) X.A (eval a X.env) (fun v s₁=>wpAny (model X.prog X.w) X.A (eval b X.env) (fun u s₂=>wpAny (model X.prog X.w) X.A (f v u) Q X.xe s₂) X.xe s₁) X.xe s:=by
 refine thn (ha pins s σ H _ I h) fun v s1 zq=>?_
 obtain⟨x,H1,I1,r1,q1⟩:=zq
 refine thn (hb pins s1 σ H1 _ I1 q1) fun u s2 zq=>?_
 obtain⟨y,H2,I2,r2,q2⟩:=zq
 exact hf v u s2 x y H2 I2 r1 r2 q2
theorem pe_op {op:Operator} {r:R2} (ho:OpR X (binaryOp op) r) (ha:PE X a ta) (hb:PE X b tb):PE X (.BinOp a op b pos) (tOp r ta tb):=by
 intro pins s σ H Q I h
 exact wpAny_BinOp (binT ha hb I h fun v u s2 x y H2 I2 rx ry q=>ho pins s2 σ H2 x y v u Q I2 rx ry q)
theorem pe_un {op:UnaryOp} {r:V->Hp->VK->Prop} (ho:UnR X (unaryOp op) r) (ha:PE X a ta):PE X (.UnaryOp op a pos) (tUn r ta):=by
 intro pins s σ H Q I h
 exact UnaryOp_ (thn (ha pins s σ H _ I h) fun v s1 ⟨x,H1,I1,r1,q1⟩=>ho pins s1 σ H1 x v Q I1 r1 q1)
theorem opI {f:Value->Value->Sem Value} {C:Int->Int->Prop} {g:Int->Int->Int}
  (rule:∀ (i j:Int) (t u:Tok) (s:Shared) (Q:Value->Shared->Prop) (E:Value->Shared->Prop),C i j->Q (.int (g i j) s.toks) { s with toks:=s.toks + 1 }->wpAny (model X.prog X.w) X.A (f (.int i t) (.int j u)) Q E s) :
  OpR X f (rI C fun i j=>.int (g i j)):=by
 intro pins s σ H x y v u Q I rx ry h
 obtain⟨i,j,rfl,rfl,hc,q⟩:=h
 obtain⟨t,rfl⟩:=rx
 obtain⟨t',rfl⟩:=ry
 exact rule i j t t' s _ _ hc ⟨.int (g i j),H,I.tok _,⟨_,rfl⟩,q⟩
theorem opI0 {f:Value->Value->Sem Value} {g:Int->Int->Int}
  (rule:∀ (i j:Int) (t u:Tok) (s:Shared) (Q:Value->Shared->Prop) (E:Value->Shared->Prop),Q (.int (g i j) s.toks) { s with toks:=s.toks + 1 }->wpAny (model X.prog X.w) X.A (f (.int i t) (.int j u)) Q E s) :
  OpR X f (rI0 fun i j=>.int (g i j)):=by
 intro pins s σ H x y v u Q I rx ry h
 obtain⟨i,j,rfl,rfl,q⟩:=h
 obtain⟨t,rfl⟩:=rx
 obtain⟨t',rfl⟩:=ry
 exact rule i j t t' s _ _ ⟨.int (g i j),H,I.tok _,⟨_,rfl⟩,q⟩
theorem opB0 {f:Value->Value->Sem Value} {g:Int->Int->Bool}
  (rule:∀ (i j:Int) (t u:Tok) (s:Shared) (Q:Value->Shared->Prop) (E:Value->Shared->Prop),Q (.bool (g i j)) s->wpAny (model X.prog X.w) X.A (f (.int i t) (.int j u)) Q E s) :
  OpR X f (rI0 fun i j=>.bl (g i j)):=by
 intro pins s σ H x y v u Q I rx ry h
 obtain⟨i,j,rfl,rfl,q⟩:=h
 obtain⟨t,rfl⟩:=rx
 obtain⟨t',rfl⟩:=ry
 exact rule i j t t' s _ _ ⟨.bl (g i j),H,I,rfl,q⟩
def CDiv (i j:Int):Prop:=0 < j/\j < 1073741824
def CPow (i j:Int):Prop:=0<=j/\j<=1000000/\i.natAbs < 2 ^ 64
def CMul (i j:Int):Prop:=(-(2 ^ 64) < i/\i < 2 ^ 64)\/(-(2 ^ 64) < j/\j < 2 ^ 64)
theorem CMul.ok {i j:Int} (h:CMul i j):IntMulOk i j:=by
 rcases h with⟨h1,h2⟩|⟨h1,h2⟩
 ·exact .of_left (intBits_le_64 h1 h2)
 ·exact .of_right (intBits_le_64 h1 h2)
theorem op_add:OpR X (binaryOp .Add) (rI0 fun i j=>.int (i + j)):=opI0 fun _ _ _ _ _ _ _ q=>add_int q
theorem op_sub:OpR X (binaryOp .Sub) (rI0 fun i j=>.int (i - j)):=opI0 fun _ _ _ _ _ _ _ q=>sub_int q
theorem op_mul:OpR X (binaryOp .Mult) (rI CMul fun i j=>.int (i * j)):=opI fun _ _ _ _ _ _ _ hc q=>mul_int q hc.ok
theorem op_fdiv:OpR X (binaryOp .FloorDiv) (rI CDiv fun i j=>.int (i / j)):=opI fun i j _ _ _ _ _ hc q=>by
 have h1:(0:Int) < j:=hc.1
 have h2:j < 1073741824:=hc.2
 exact floordiv_int (by omega) (by rw [Int.fdiv_eq_ediv_of_nonneg i (by omega)];exact q) (.inl (PyProof.noPylong_small (by omega)))
theorem op_mod:OpR X (binaryOp .Mod) (rI (fun _ j=>0 < j) fun i j=>.int (i % j)):=opI fun i j _ _ _ _ _ hc q=>by
 have h1:(0:Int) < j:=hc
 exact mod_int' (by omega) (by rw [Int.fmod_eq_emod_of_nonneg i (by omega)];exact q)
theorem op_pow:OpR X (binaryOp .Pow) (rI CPow fun i j=>.int (i ^ j.toNat)):=opI fun _ _ _ _ _ _ _ hc q=>pow_int_small hc.1 hc.2.1 hc.2.2 q
theorem unI {f:Value->Sem Value} {g:Int->Int}
  (rule:∀ (i:Int) (t:Tok) (s:Shared) (Q:Value->Shared->Prop) (E:Value->Shared->Prop),Q (.int (g i) s.toks) { s with toks:=s.toks + 1 }->wpAny (model X.prog X.w) X.A (f (.int i t)) Q E s) :
  UnR X f (rU fun i=>.int (g i)):=by
 intro pins s σ H x v Q I rx h
 obtain⟨i,rfl,q⟩:=h
 obtain⟨t,rfl⟩:=rx
 exact rule i t s _ _ ⟨.int (g i),H,I.tok _,⟨_,rfl⟩,q⟩
theorem un_neg:UnR X (unaryOp .USub) (rU fun i=>.int (-i)):=unI fun _ _ _ _ _ q=>neg_int q
end
def scal:V->V->Bool
 | .non,.non=>true | .non,.int _=>true | .int _,.non=>true | .non,.bl _=>true | .bl _,.non=>true | .non,.str _=>true | .str _,.non=>true
 | .int _,.int _=>true | .bl _,.bl _=>true | .str _,.str _=>true | .byt _,.byt _=>true
 | .int _,.str _=>true | .str _,.int _=>true | .bl _,.str _=>true | .str _,.bl _=>true
 | _,_=>false
def rEq:R2:=fun x y H Q=>scal x y=true/\Q (.bl (decide (x=y))) H
theorem dec_int {i j:Int} : decide (V.int i=V.int j)=(i == j):=by
 rw [Bool.eq_iff_iff]
 simp
theorem dec_bl {i j:Bool} : decide (V.bl i=V.bl j)=(i == j):=by
 rw [Bool.eq_iff_iff]
 simp
theorem dec_str {i j:Str} : decide (V.str i=V.str j)=(i == j):=by
 rw [Bool.eq_iff_iff]
 simp
theorem dec_byt {i j:Array UInt8} : decide (V.byt i=V.byt j)=(i.toList == j.toList):=by
 rw [Bool.eq_iff_iff]
 cases i
 cases j
 simp
section
variable {X:Cx} {a b c:Expr} {ta tb tc:TE} {pos:Pos}
theorem fin_bl {pins:List (Addr × Obj)} {σ:St} {H:Hp} {s:Shared} {Q:VK} {k k':Bool} (I:Inv X pins σ H s) (q:Q (.bl k) H) (e:k=k'):EP X pins σ Q (.bool k') s:=by
 subst e
 exact⟨.bl k,H,I,rfl,q⟩
theorem op_eq:OpR X (compareOp .Eq) rEq:=by
 intro pins s σ H x y v u Q I rx ry h
 obtain⟨hs,q⟩:=h
 cases x with
 | non =>
  cases rx
  cases y with
  | non=>cases ry;exact PySem.EqNone.eq_none_none (fin_bl I q (by simp))
  | bl j=>cases ry;exact PySem.EqNone.eq_none_bool (fin_bl I q (by simp))
  | int j=>obtain⟨t',rfl⟩:=ry;exact PySem.EqNone.eq_none_int (fin_bl I q (by simp))
  | str j=>obtain⟨t',rfl⟩:=ry;exact PySem.EqNone.eq_none_str (fin_bl I q (by simp))
  | _=>exact absurd (show false=true from hs) Bool.false_ne_true
 | bl i =>
  cases rx
  cases y with
  | non=>cases ry;exact PySem.EqNone.eq_bool_none (fin_bl I q (by simp))
  | bl j=>cases ry;exact eq_bool (fin_bl I q dec_bl)
  | str j=>obtain⟨t',rfl⟩:=ry;exact PySem.EqMixed.eq_bool_str (fin_bl I q (by simp))
  | _=>exact absurd (show false=true from hs) Bool.false_ne_true
 | int i =>
  obtain⟨t,rfl⟩:=rx
  cases y with
  | non=>cases ry;exact PySem.EqNone.eq_int_none (fin_bl I q (by simp))
  | int j=>obtain⟨t',rfl⟩:=ry;exact eq_int (fin_bl I q dec_int)
  | str j=>obtain⟨t',rfl⟩:=ry;exact PySem.EqMixed.eq_int_str (fin_bl I q (by simp))
  | _=>exact absurd (show false=true from hs) Bool.false_ne_true
 | str i =>
  obtain⟨t,rfl⟩:=rx
  cases y with
  | non=>cases ry;exact PySem.EqNone.eq_str_none (fin_bl I q (by simp))
  | bl j=>cases ry;exact PySem.EqMixed.eq_str_bool (fin_bl I q (by simp))
  | int j=>obtain⟨t',rfl⟩:=ry;exact PySem.EqMixed.eq_str_int (fin_bl I q (by simp))
  | str j=>obtain⟨t',rfl⟩:=ry;exact eq_str (fin_bl I q dec_str)
  | _=>exact absurd (show false=true from hs) Bool.false_ne_true
 | byt i =>
  obtain⟨t,rfl⟩:=rx
  cases y with
  | byt j=>obtain⟨t',rfl⟩:=ry;exact PySem.W.eq_bytes (fin_bl I q dec_byt)
  | _=>exact absurd (show false=true from hs) Bool.false_ne_true
 | _=>cases y <;> exact absurd (show false=true from hs) Bool.false_ne_true
theorem op_lt:OpR X (compareOp .Lt) (rI0 fun i j=>.bl (decide (i < j))):=opB0 fun _ _ _ _ _ _ _ q=>lt_int q
theorem op_le:OpR X (compareOp .LtE) (rI0 fun i j=>.bl (decide (i<=j))):=opB0 fun _ _ _ _ _ _ _ q=>le_int q
theorem op_gt:OpR X (compareOp .Gt) (rI0 fun i j=>.bl (decide (j < i))):=opB0 fun _ _ _ _ _ _ _ q=>gt_int q
theorem op_in_str:OpR X (compareOp .In) (fun x y H Q=>∃ i j,x=.str i/\y=.str j/\Q (.bl (!(Builtin.Str.occurrences j i 0 j.length 1).isEmpty)) H):=by
 intro pins s σ H x y v u Q I rx ry h
 obtain⟨i,j,rfl,rfl,q⟩:=h
 obtain⟨t,rfl⟩:=rx
 obtain⟨t',rfl⟩:=ry
 exact in_str (fin_bl I q rfl)
theorem op_isN:OpR X (compareOp .Is) (fun x y H Q=>y=.non/\Q (.bl (decide (x=.non))) H):=by
 intro pins s σ H x y v u Q I rx ry h
 obtain⟨rfl,q⟩:=h
 cases ry
 refine is_none_gen (fin_bl I q ?_)
 cases x <;> first
  | (cases rx;rfl)
  | (obtain⟨t,rfl⟩:=rx;rfl)
theorem op_notN:OpR X (compareOp .IsNot) (fun x y H Q=>y=.non/\Q (.bl (!decide (x=.non))) H):=by
 intro pins s σ H x y v u Q I rx ry h
 obtain⟨rfl,q⟩:=h
 cases ry
 refine isnot_none_gen (fin_bl I q ?_)
 cases x <;> first
  | (cases rx;rfl)
  | (obtain⟨t,rfl⟩:=rx;rfl)
theorem OpR.or {f:Value->Value->Sem Value} {r r':R2} (h:OpR X f r) (h':OpR X f r'):OpR X f (fun x y H Q=>r x y H Q\/r' x y H Q):=by
 intro pins s σ H x y v u Q I rx ry q
 rcases q with q|q
 ·exact h pins s σ H x y v u Q I rx ry q
 ·exact h' pins s σ H x y v u Q I rx ry q
theorem nomark (b:Expr) {op:CmpOp} (h:op ≠ .In:=by decide) (h2:op ≠ .NotIn:=by decide):behindInMarks op b=false:=by
 have e1:(op == CmpOp.In)=false:=by cases op <;> first|rfl|exact absurd rfl h
 have e2:(op == CmpOp.NotIn)=false:=by cases op <;> first|rfl|exact absurd rfl h2
 cases b <;> simp [behindInMarks,e1,e2]
theorem pe_cmpR {op:CmpOp} {r:R2} (ho:OpR X (compareOp op) r) (ha:PE X a ta) (hb:PE X b tb) (hm:behindInMarks op b=false):PE X (.Compare a [op] [b] pos) (tOp r ta tb):=by
 intro pins s σ H Q I h
 exact wpAny_Compare1 (binT ha hb I h fun v u s2 x y H2 I2 rx ry q=>ho pins s2 σ H2 x y v u Q I2 rx ry q) hm
def tTest (t:TE):TT:=fun σ H Q=>t σ H fun x H'=>∃ k,x=.bl k/\Q k H'
theorem pt_cmpR {op:CmpOp} {r:R2} (ho:OpR X (compareOp op) r) (ha:PE X a ta) (hb:PE X b tb) (hm:behindInMarks op b=false):PT X (.Compare a [op] [b] pos) (tTest (tOp r ta tb)):=by
 intro pins s σ H Q I h
 refine wpAny_isTrue_Compare1 (thn (ha pins s σ H _ I h) fun v s1 ⟨x,H1,I1,r1,q1⟩=>thn (hb pins s1 σ H1 _ I1 q1) fun u s2 ⟨y,H2,I2,r2,q2⟩ =>
  thn (ho pins s2 σ H2 x y v u _ I2 r1 r2 q2) fun c s3 ⟨z,H3,I3,r3,k,e,q3⟩=>?_) hm
 subst e
 cases r3
 exact wpAny_truthy_bool ⟨H3,I3,q3⟩
def tChain (r r':R2) (ta tb tc:TE):TE:=fun σ H Q=>ta σ H fun x H1=>tb σ H1 fun y H2=>r x y H2 fun z H3=>∃ k,z=.bl k ∧
 (if k=true then tc σ H3 fun w' H4=>r' y w' H4 Q else Q (.bl false) H3)
theorem pe_chain {op op':CmpOp} {r r':R2} (ho:OpR X (compareOp op) r) (ho':OpR X (compareOp op') r') (ha:PE X a ta) (hb:PE X b tb) (hc:PE X c tc)
  (hm:lastMarks [op,op'] [b,c]=false:=by with_unfolding_all rfl):PE X (.Compare a [op,op'] [b,c] pos) (tChain r r' ta tb tc):=by
 intro pins s σ H Q I h
 refine Compare_chain (thn (ha pins s σ H _ I h) fun v s1 ⟨x,H1,I1,r1,q1⟩=>chain_link (thn (hb pins s1 σ H1 _ I1 q1) fun u s2 ⟨y,H2,I2,r2,q2⟩ =>
  thn (ho pins s2 σ H2 x y v u _ I2 r1 r2 q2) fun d s3 ⟨z,H3,I3,r3,k,e,q3⟩=>?_)) hm
 subst e
 cases r3
 refine wpAny_truthy_bool ?_
 cases k with
 | false=>exact ite_ff ⟨.bl false,H3,I3,rfl,q3⟩
 | true=>exact ite_tt (chain_last (thn (hc pins s3 σ H3 _ I3 q3) fun w' s4 ⟨z',H4,I4,r4,q4⟩=>ho' pins s4 σ H4 y z' u w' Q I4 r2 r4 q4))
theorem pt_chain {op op':CmpOp} {r r':R2} (ho:OpR X (compareOp op) r) (ho':OpR X (compareOp op') r') (ha:PE X a ta) (hb:PE X b tb) (hc:PE X c tc)
  (hm:lastMarks [op,op'] [b,c]=false:=by with_unfolding_all rfl):PT X (.Compare a [op,op'] [b,c] pos) (tTest (tChain r r' ta tb tc)):=by
 intro pins s σ H Q I h
 refine isTrue_chain (thn (ha pins s σ H _ I h) fun v s1 ⟨x,H1,I1,r1,q1⟩=>test_link (thn (hb pins s1 σ H1 _ I1 q1) fun u s2 ⟨y,H2,I2,r2,q2⟩ =>
  thn (ho pins s2 σ H2 x y v u _ I2 r1 r2 q2) fun d s3 ⟨z,H3,I3,r3,k,e,q3⟩=>?_)) hm
 subst e
 cases r3
 refine wpAny_truthy_bool ?_
 cases k with
 | false =>
  obtain⟨k',e',q'⟩:=q3
  cases e'
  exact ite_ff ⟨H3,I3,q'⟩
 | true =>
  refine ite_tt (test_last (thn (hc pins s3 σ H3 _ I3 q3) fun w' s4 ⟨z',H4,I4,r4,q4⟩=>thn (ho' pins s4 σ H4 y z' u w' _ I4 r2 r4 q4) fun d' s5 zq=>?_))
  obtain⟨z2,H5,I5,r5,k2,e2,q5⟩:=zq
  subst e2
  cases r5
  exact wpAny_truthy_bool ⟨H5,I5,q5⟩
def TruV (K:Frag) (x:V) (H:Hp) (k:Bool):Prop :=
 match x with
 | .non=>k=false
 | .bl b=>k=b
 | .int i=>k=(i != 0)
 | .str y=>y.length<=sizeLine/\k=((y.length:Int) != 0)
 | .byt y=>y.size<=sizeLine/\k=((y.size:Int) != 0)
 | .ref p=>(∃ xs,SqL K H p xs/\k = !xs.isEmpty)\/(∃ xs,SqT K H p xs/\k = !xs.isEmpty)\/∃ kvs,H p=some (.dK kvs)/\k = !kvs.isEmpty
 | _=>False
theorem isEmpty_kv {κ : Type} {kvs:List (κ × V)} {vs:List (κ × Value)} (r:KV kvs vs):(!vs.isEmpty) = !kvs.isEmpty:=by
 cases r <;> rfl
theorem isEmpty_of {xs:List V} {its:List Value} (r:Vals xs its):(!its.toArray.isEmpty) = !xs.isEmpty:=by
 cases r <;> simp
theorem line63:(sizeLine:Nat) < 2 ^ 63:=by rw [sizeLine_eq];decide
theorem tru_ok:TruR X (fun x H Q=>∃ k,TruV X.K x H k/\Q k H):=by
 intro pins s σ H x v Q I rx h
 obtain⟨k,e,q⟩:=h
 have hl:=line63
 have hs:sizeLine=16777216:=sizeLine_eq
 cases x with
 | non =>
  cases rx
  have e':k=false:=e
  subst e'
  exact truthy_none ⟨H,I,q⟩
 | bl b =>
  cases rx
  have e':k=b:=e
  subst e'
  exact wpAny_truthy_bool ⟨H,I,q⟩
 | int i =>
  obtain⟨t,rfl⟩:=rx
  have e':k=(i != 0):=e
  subst e'
  exact PySem.P.truthy_int ⟨H,I,q⟩
 | str y =>
  obtain⟨t,rfl⟩:=rx
  obtain⟨hy,e'⟩ : y.length<=sizeLine/\k=((y.length:Int) != 0):=e
  subst e'
  exact PySem.P.truthy_str (by omega) ⟨H,I.tok _,q⟩
 | byt y =>
  obtain⟨t,rfl⟩:=rx
  obtain⟨hy,e'⟩ : y.size<=sizeLine/\k=((y.size:Int) != 0):=e
  subst e'
  exact PySem.W.truthy_bytes (by omega) ⟨H,I.tok _,q⟩
 | ref p =>
  cases rx
  have e':(∃ xs,SqL X.K H p xs/\k = !xs.isEmpty)\/(∃ xs,SqT X.K H p xs/\k = !xs.isEmpty)\/∃ kvs,H p=some (.dK kvs)/\k = !kvs.isEmpty:=e
  rcases e' with⟨xs,hx,e'⟩|⟨xs,hx,e'⟩|⟨kvs,hx,e'⟩
  ·subst e'
   obtain⟨its,r,pl,hz⟩:=I.list hx
   have hlen:=r.length
   exact wpAny_truthy_list pl.isList (by simp only [List.size_toArray];omega) ⟨H,I.tok _,by rw [isEmpty_of r];exact q⟩
  ·subst e'
   obtain⟨its,r,pl,hz⟩:=I.tuple hx
   have hlen:=r.length
   exact truthy_tuple pl (by simp only [List.size_toArray];omega) ⟨H,I.tok _,by rw [isEmpty_of r];exact q⟩
  ·subst e'
   obtain⟨hz,hS,vs,r,m⟩ : kvs.length<=sizeLine/\(p == sysModules)=false/\∃ vs,KV kvs vs/\s.heap.DictOf (mixKind X.prog X.w) p vs:=I.hok p _ hx
   have hlen:kvs.length=vs.length:=Paired.length r
   exact wpAny_truthy_dict hS m (by omega) ⟨H,I.tok _,by rw [isEmpty_kv r];exact q⟩
 | _=>exact (show False from e).elim
theorem pt_truth (ha:PE X a ta) (he:∀ whole,isTrue a X.env whole=(do let v ← whole;standAt a.pos;holding [v] (truthy v))) :
  PT X a (fun σ H Q=>ta σ H fun x H'=>∃ k,TruV X.K x H' k/\Q k H'):=by
 intro pins s σ H Q I h
 exact isTrue_plain (thn (ha pins s σ H _ I h) fun v s1 ⟨x,H1,I1,r1,q1⟩=>tru_ok pins s1 σ H1 x v Q I1 r1 q1) (he _)
theorem op_add_str:OpR X (binaryOp .Add) (fun x y H Q=>∃ i j,x=.str i/\y=.str j/\i.length + j.length<=sizeLine/\Q (.str (i++j)) H):=by
 intro pins s σ H x y v u Q I rx ry h
 obtain⟨i,j,rfl,rfl,hz,q⟩:=h
 obtain⟨t,rfl⟩:=rx
 obtain⟨t',rfl⟩:=ry
 exact add_str (fun t' tk=>⟨.str (i++j),H,I.tok _,⟨_,rfl⟩,q⟩) hz
theorem vals1 {x:V} {us:List Value} (r:Vals [x] us):∃ u,us=[u]/\RelV x u:=by
 cases r with
 | cons r1 r2=>cases r2;exact⟨_,rfl,r1⟩
theorem vals2 {x y:V} {us:List Value} (r:Vals [x,y] us):∃ u w',us=[u,w']/\RelV x u/\RelV y w':=by
 cases r with
 | cons r1 r2 =>
  cases r2 with
  | cons r3 r4=>cases r4;exact⟨_,_,rfl,r1,r3⟩
theorem call_max2 (hc:X.calm=true):CallR X (.builtin "max") (fun xs H Q=>∃ i j,xs=[.int i,.int j]/\Q (.int (if j > i then j else i)) H):=by
 intro pins s σ H xs us Q I r h
 obtain⟨i,j,rfl,q⟩:=h
 obtain⟨u,w',rfl,⟨t,rfl⟩,⟨t',rfl⟩⟩:=vals2 r
 refine max_two_ints (I.ok.hd hc) fun h' tk k=>⟨_,H,I.kept k,?_,q⟩
 by_cases hj:j > i
 ·rw [if_pos hj,if_pos hj];exact⟨_,rfl⟩
 ·rw [if_neg hj,if_neg hj];exact⟨_,rfl⟩
theorem call_min2 (hc:X.calm=true):CallR X (.builtin "min") (fun xs H Q=>∃ i j,xs=[.int i,.int j]/\Q (.int (if j < i then j else i)) H):=by
 intro pins s σ H xs us Q I r h
 obtain⟨i,j,rfl,q⟩:=h
 obtain⟨u,w',rfl,⟨t,rfl⟩,⟨t',rfl⟩⟩:=vals2 r
 refine min_two_ints (I.ok.hd hc) fun h' tk k=>⟨_,H,I.kept k,?_,q⟩
 by_cases hj:j < i
 ·rw [if_pos hj,if_pos hj];exact⟨_,rfl⟩
 ·rw [if_neg hj,if_neg hj];exact⟨_,rfl⟩
theorem call_str_int:CallR X (.type "str") (fun xs H Q=>∃ i,xs=[.int i]/\i.natAbs.log2 < 1920/\Q (.str (toString i)) H):=by
 intro pins s σ H xs us Q I r h
 obtain⟨i,rfl,hz,q⟩:=h
 obtain⟨u,rfl,t,rfl⟩:=vals1 r
 exact PySem.P.str_of_int hz ⟨.str _,H,I.tok _,⟨_,rfl⟩,q⟩
def LenV (K:Frag) (x:V) (H:Hp) (n:Nat):Prop :=
 match x with
 | .str y=>y.length<=sizeLine/\n=y.length
 | .byt y=>y.size<=sizeLine/\n=y.size
 | .ref p=>(∃ xs,SqL K H p xs/\n=xs.length)\/∃ xs,SqT K H p xs/\n=xs.length
 | _=>False
theorem call_len:CallR X (.builtin "len") (fun xs H Q=>∃ x n,xs=[x]/\LenV X.K x H n/\Q (.int n) H):=by
 intro pins s σ H xs us Q I r h
 obtain⟨x,n,rfl,e,q⟩:=h
 obtain⟨u,rfl,rx⟩:=vals1 r
 have hl:=line63
 have hs:sizeLine=16777216:=sizeLine_eq
 cases x with
 | str y =>
  obtain⟨t,rfl⟩:=rx
  obtain⟨hy,e'⟩ : y.length<=sizeLine/\n=y.length:=e
  subst e'
  exact len_str (by omega) ⟨.int _,H,I.tok _,⟨_,rfl⟩,q⟩
 | byt y =>
  obtain⟨t,rfl⟩:=rx
  obtain⟨hy,e'⟩ : y.size<=sizeLine/\n=y.size:=e
  subst e'
  exact PySem.W.len_bytes (by omega) ⟨.int _,H,I.tok _,⟨_,rfl⟩,q⟩
 | ref p =>
  cases rx
  have e':(∃ xs,SqL X.K H p xs/\n=xs.length)\/∃ xs,SqT X.K H p xs/\n=xs.length:=e
  rcases e' with⟨xs,hx,e'⟩|⟨xs,hx,e'⟩
  ·subst e'
   obtain⟨its,r',pl,hz⟩:=I.list hx
   have hlen:=r'.length
   exact Calls.call_len_list pl.isList (by simp only [List.size_toArray];omega) ⟨.int xs.length,H,I.tok _,⟨_,by simp only [List.size_toArray];rw [hlen]⟩,q⟩
  ·subst e'
   obtain⟨its,r',pl,hz⟩:=I.tuple hx
   have hlen:=r'.length
   exact len_tuple pl (by simp only [List.size_toArray];omega) ⟨.int xs.length,H,I.tok _,⟨_,by simp only [List.size_toArray];rw [hlen]⟩,q⟩
 | _=>exact (show False from e).elim
end
structure ObjM (h:Heap) (x dx C:Addr) (mA:Str->Option Value):Prop where
 obj:h.get? x=some (PySem.W.instObj C dx)
 ns:h.Ns1 dx mA
 ne:dx ≠ x
theorem lookIn_ns {h:Heap} {dx:Addr} {mA:Str->Option Value} (n:h.Ns1 dx mA):∃ od,h.get? dx=some od/\∀ name,PySem.W.lookIn name od=some (mA name):=by
 obtain⟨o,es,ep,ho,hd,hk,_,hm⟩:=n
 refine⟨o,ho,fun name=>?_⟩
 have e:=hm name
 unfold nsFind findBy at e
 rw [← Array.find?_toList] at e
 unfold PySem.W.lookIn
 rw [hd]
 dsimp only
 split
 ·rename_i y q
  rw [q] at e
  exact congrArg some e
 ·rename_i q
  rw [q] at e
  have a:es.toList.any (·.refKey)=false:=by
   rw [List.any_eq_false]
   intro y hy
   obtain⟨z,t,hkey⟩:=hk y (Array.mem_toList_iff.mp hy)
   simp [DictEntry.refKey,hkey]
  have a':¬ es.toList.any (·.refKey)=true:=by rw [a];exact Bool.false_ne_true
  rw [if_neg a']
  exact congrArg some e
theorem ObjM.look {h:Heap} {x dx C:Addr} {mA:Str->Option Value} (I:ObjM h x dx C mA):∃ od,PySem.W.InstAt h x (PySem.W.instObj C dx) C (some od)/\∀ name,PySem.W.lookIn name od=some (mA name) :=
 let ⟨od,ho,hl⟩:=lookIn_ns I.ns
 ⟨od,⟨I.obj,rfl,rfl,ho⟩,hl⟩
section
variable {prog:Program} {w:World} {A:Around} {E:Value->Shared->Prop} {s:Shared} {K:Frag} {x dx C f:Addr} {mA:Str->Option Value} {name:Str} {v:Value}
theorem get_map {expr:Bool} {Q:Value->Shared->Prop} (X:K.In s.heap) (I:ObjM s.heap x dx C mA) (hg:PySem.W.plainGet K C name=true) (hh:PySem.W.hasDictIn K C=true)
  (ha:findIn K (.ref C) name=some none) (hv:mA name=some v) (hv':PySem.W.handedIn v=true) (h:Q v { s with toks:=s.toks + 1 }) :
  wpAny (model prog w) A (getAttr (.ref x) name expr) Q E s:=by
 obtain⟨od,J,hl⟩:=I.look
 exact PySem.W.get_value X J (PySem.W.plainGet_of hg).1 (PySem.W.findObj_own hh ha rfl (by rw [hl,hv])) hv' h
theorem get_meth {pl:Sem Bool} {Q:Value × List Value->Shared->Prop} (X:K.In s.heap) (I:ObjM s.heap x dx C mA) (hg:PySem.W.plainGet K C name=true)
  (hf:findIn K (.ref C) name=some (some (.ref f))) (ht:isFn K (.ref f)=true) (hv:mA name=none) (h:Q (.ref f,[.ref x]) s) :
  wpAny (model prog w) A (getMethod (.ref x) name pl) Q E s:=by
 obtain⟨od,J,hl⟩:=I.look
 exact PySem.W.method_fn X J (PySem.W.plainGet_of hg).1 (PySem.W.plainGet_of hg).2 hf (beq_iff_eq.mp ht) (by show (PySem.W.lookIn name od).map (·.isSome)=some false;rw [hl,hv];rfl) h
theorem set_map {ns:List Str} {Q:Unit->Shared->Prop} (X:K.In s.heap) (I:ObjM s.heap x dx C mA)
  (hs:findIn K (.ref C) "__setattr__" = some (some (.builtin "object.__setattr__"))) (hp:PySem.W.plainOver K C=true) (ht:PySem.W.takerIn K C name=some none) (hh:PySem.W.hasDictIn K C=true)
  (hw:PySem.Within mA ns) (hsz:ns.length<=sizeLine)
  (h:∀ h',ObjM h' x dx C (fun y=>if y=name then some v else mA y)->Heap.SameBut dx s.heap h'->Q () { s with heap:=h',toks:=s.toks + 2 }) :
  wpAny (model prog w) A (setAttr (.ref x) name v) Q E s:=by
 obtain⟨od,J,hl⟩:=I.look
 refine PySem.W.set_plain X J hs (PySem.W.osa_open (s:={ s with toks:=s.toks + 1 }) (r:=none) X J hp ht fun b=>?_)
 obtain⟨cd,hc,hd'⟩:=PySem.W.any_some hh
 have hx:s.heap.get? x=some ⟨.ref C,some dx,.plain,#[]⟩:=I.obj
 refine wpAny_bind (wpAny_pure (wpAny_bind (wpAny_bind (wpAny_loadPart hx (wpAny_bind (PySem.W.Looks.here (s:={ s with toks:=s.toks + 1 }) (PySem.W.looks_clsIn X hc) ?_))))))
 rw [hd']
 refine wpAny_pure (a:=some dx) (wpAny_bind (wpAny_pure (wpAny_bind ?_)))
 refine wpAny_nsSet1 (s:={ s with toks:=s.toks + 1 }) I.ns fun h' hn2 hs2=>?_
 obtain⟨oD,esD,epD,hoD,hdD,hcD⟩:=hn2.count (PySem.Within.cons name v hw)
 refine wpAny_bind (wpAny_lookBehind hoD (by rw [hdD];exact pastItsLine_dict (Nat.le_trans hcD (by rw [List.length_cons];omega))) ?_)
 exact wpAny_pure (h _ ⟨(hs2.2 _ (Ne.symm I.ne)).trans I.obj,hn2,I.ne⟩ hs2)
theorem make_map {R:Result->Shared->Prop} {vs:List Value} {kw:List (Str × Value)} (X:K.In s.heap) (hm:PySem.W.makesIn K C=true)
  (hi:findIn K (.ref C) "__init__" = some (some (.ref f))) (hf:PySem.W.typeIn K (.ref f)=some (.type "function"))
  (h:codeAny (model prog w) (A.under (.builtin "type.__call__" ⟨.ref C::vs,kw⟩)) (.call (.ref f) ⟨.ref (s.heap.objs.size + 1)::vs,kw⟩) (PySem.W.InitBack (s.heap.objs.size + 1) R)
   { s with heap:=(s.heap.push PySem.W.emptyDict).push (PySem.W.instObj C s.heap.objs.size) }) :
  codeAny (model prog w) A (.call (.ref C) ⟨vs,kw⟩) R s:=by
 obtain⟨hh,g,d,t,os⟩:=s
 exact PySem.W.make_core (PySem.W.makes_of X hm) (PySem.W.looks_findIn X hi) (fun self=>PySem.W.bind_fn X self hf) (.inl rfl) h
end
def putF (f:Str) (v:V):List (Str × V)->List (Str × V)
 | []=>[(f,v)]
 | (g,x)::r=>if g=f then (g,v)::r else (g,x)::putF f v r
theorem lookup_putF (f g:Str) (v:V):∀ fs:List (Str × V),(putF f v fs).lookup g=if g=f then some v else fs.lookup g
 | []=>by
  show List.lookup g [(f,v)]=_
  by_cases h:g=f
  ·have hb:(g == f)=true:=beq_iff_eq.mpr h
   simp only [List.lookup,hb,if_pos h]
  ·have hb:(g == f)=false:=beq_eq_false_iff_ne.mpr h
   simp only [List.lookup,hb,if_neg h]
 | (k,x)::r=>by
  have ih:=lookup_putF f g v r
  rw [show putF f v ((k,x)::r)=(if k=f then (k,v)::r else (k,x)::putF f v r) from rfl]
  by_cases hk:k=f
  ·rw [if_pos hk]
   by_cases h:g=k
   ·have hb:(g == k)=true:=beq_iff_eq.mpr h
    simp only [List.lookup,hb,if_pos (h.trans hk)]
   ·have hb:(g == k)=false:=beq_eq_false_iff_ne.mpr h
    simp only [List.lookup,hb,if_neg (fun e:g=f=>h (e.trans hk.symm))]
  ·rw [if_neg hk]
   by_cases h:g=k
   ·have hb:(g == k)=true:=beq_iff_eq.mpr h
    simp only [List.lookup,hb,if_neg (fun e:g=f=>hk (h.symm.trans e))]
   ·have hb:(g == k)=false:=beq_eq_false_iff_ne.mpr h
    simp only [List.lookup,hb]
    exact ih
theorem keys_putF (f:Str) (v:V):∀ fs:List (Str × V),f ∈ (putF f v fs).map (·.1)/\∀ g,g ∈ fs.map (·.1)->g ∈ (putF f v fs).map (·.1)
 | []=>⟨by simp [putF],fun g h=>by simp at h⟩
 | (k,x)::r=>by
  obtain⟨i1,i2⟩:=keys_putF f v r
  rw [show putF f v ((k,x)::r)=(if k=f then (k,v)::r else (k,x)::putF f v r) from rfl]
  by_cases hk:k=f
  ·rw [if_pos hk]
   subst hk
   exact⟨by simp,fun g h=>by simpa using h⟩
  ·rw [if_neg hk]
   refine⟨?_,fun g h=>?_⟩
   ·rw [List.map_cons]
    exact List.mem_cons_of_mem _ i1
   ·rw [List.map_cons] at h ⊢
    rcases List.mem_cons.mp h with e|e
    ·exact List.mem_cons.mpr (.inl e)
    ·exact List.mem_cons_of_mem _ (i2 g e)
theorem length_putF (f:Str) (v:V):∀ fs:List (Str × V),(putF f v fs).length<=fs.length + 1
 | []=>by simp [putF]
 | (k,x)::r=>by
  have ih:=length_putF f v r
  rw [show putF f v ((k,x)::r)=(if k=f then (k,v)::r else (k,x)::putF f v r) from rfl]
  by_cases hk:k=f
  ·rw [if_pos hk,List.length_cons,List.length_cons];omega
  ·rw [if_neg hk,List.length_cons,List.length_cons];omega
theorem RelO.some_of {v:V} {o:Option Value} (r:RelO (some v) o):∃ u,o=some u/\RelV v u:=by
 cases o with
 | none=>exact (show False from r).elim
 | some u=>exact⟨u,rfl,r⟩
theorem RelO.none_of {o:Option Value} (r:RelO none o):o=none:=by
 cases o with
 | none=>rfl
 | some u=>exact (show False from r).elim
theorem handed_of {v:V} {u:Value} (r:RelV v u):PySem.W.handedIn u=true:=by
 cases v with
 | non=>cases (show u=Value.none from r);rfl
 | bl b=>cases (show u=Value.bool b from r);rfl
 | int i=>obtain⟨t,e⟩:=(show ∃ t,u=Value.int i t from r);cases e;rfl
 | str x=>obtain⟨t,e⟩:=(show ∃ t,u=Value.str x t from r);cases e;rfl
 | byt b=>obtain⟨t,e⟩:=(show ∃ t,u=Value.bytes b t from r);cases e;rfl
 | flt b=>obtain⟨t,e⟩:=(show ∃ t,u=Value.float b t from r);cases e;rfl
 | ref a=>cases (show u=Value.ref a from r);rfl
 | ty n=>cases (show u=Value.type n from r);rfl
section
variable {P:Program} {w:World} {H H':Hp} {h h':Heap} {a C dx:Addr} {fs fs':List (Str × V)}
theorem ins_get (hok:HOk P w H h) (e:H a=some (.ins C dx fs)):∃ mA,ObjM h a dx C mA/\(∀ f,RelO (fs.lookup f) (mA f))/\PySem.Within mA (fs.map (·.1))/\fs.length<=1000/\H dx=some (.own a):=by
 obtain⟨d,z,ne,ob,mA,n,r,q⟩:=(show ObjOk P w H h a (.ins C dx fs) from hok a _ e)
 exact⟨mA,⟨ob,n,ne⟩,r,q,z,d⟩
end
structure Cls (K:Frag) (C:Addr):Prop where
 pg:PySem.W.plainGet K C Str.empty=true
 hd:PySem.W.hasDictIn K C=true
 po:PySem.W.plainOver K C=true
 sa:findIn K (.ref C) "__setattr__" = some (some (.builtin "object.__setattr__"))
theorem Cls.get {K:Frag} {C:Addr} (c:Cls K C) (f:Str):PySem.W.plainGet K C f=true:=c.pg
def NoAttr (K:Frag) (C:Addr) (f:Str):Prop:=findIn K (.ref C) f=some none
theorem NoAttr.taker {K:Frag} {C:Addr} {f:Str} (n:NoAttr K C f):PySem.W.takerIn K C f=some none:=by
 unfold PySem.W.takerIn
 rw [show findIn K (.ref C) f=some none from n]
 rfl
structure Meth (K:Frag) (C:Addr) (m:Str) (f:Addr):Prop where
 at_:findIn K (.ref C) m=some (some (.ref f))
 fn:isFn K (.ref f)=true
 kp:keepIn K (.ref f)=true
section
variable {X:Cx} {pins:List (Addr × Obj)} {σ:St} {H:Hp} {s:Shared} {a C dx:Addr} {fs:List (Str × V)} {f:Str} {v:V} {A:Around} {E:Value->Shared->Prop}
theorem getattr_ok {b:Bool} {Q:Value->Shared->Prop} (I:Inv X pins σ H s) (e:H a=some (.ins C dx fs)) (c:Cls X.K C) (n:NoAttr X.K C f) (l:fs.lookup f=some v)
  (h:∀ u s',Inv X pins σ H s'->RelV v u->Q u s'):wpAny (model X.prog X.w) A (getAttr (.ref a) f b) Q E s:=by
 obtain⟨mA,O,r,_,_,_⟩:=ins_get I.hok e
 obtain⟨u,hu,ru⟩:=RelO.some_of (v:=v) (o:=mA f) (by rw [← l];exact r f)
 exact get_map I.kIn O (c.get f) c.hd n hu (handed_of ru) (h u _ (I.tok _) ru)
theorem getmeth_ok {m:Str} {g:Addr} {pl:Sem Bool} {Q:Value × List Value->Shared->Prop} (I:Inv X pins σ H s) (e:H a=some (.ins C dx fs)) (c:Cls X.K C) (k:Meth X.K C m g) (l:fs.lookup m=none)
  (h:Q (.ref g,[.ref a]) s):wpAny (model X.prog X.w) A (getMethod (.ref a) m pl) Q E s:=by
 obtain⟨mA,O,r,_,_,_⟩:=ins_get I.hok e
 have hn:mA m=none:=RelO.none_of (by rw [← l];exact r m)
 exact get_meth I.kIn O (c.get m) k.at_ k.fn hn h
theorem setattr_ok {y:V} {u:Value} {Q:Unit->Shared->Prop} (I:Inv X pins σ H s) (e:H a=some (.ins C dx fs)) (c:Cls X.K C) (n:NoAttr X.K C f) (hl:fs.length < 1000) (ry:RelV y u)
  (h:∀ s',Inv X pins σ (upd H a (.ins C dx (putF f y fs))) s'->Q () s'):wpAny (model X.prog X.w) A (setAttr (.ref a) f u) Q E s:=by
 obtain⟨mA,O,r,wi,_,ho⟩:=ins_get I.hok e
 have hz:(fs.map (·.1)).length<=sizeLine:=by rw [List.length_map,sizeLine_eq];omega
 refine set_map I.kIn O c.sa c.po n.taker c.hd wi hz fun h' O' sb=>h _ ?_
 have hd:∃ o,h'.get? dx=some o:=let ⟨o,_,_,e',_⟩:=O'.ns; ⟨o,e'⟩
 refine I.write (x:=a) (e:=dx) (by rw [e];exact True.intro) (.inr ho) (fun b q hb z=>(sb.2 b hb).trans z) hd ?_
 refine⟨by rw [upd_ne O.ne];exact ho,?_,O.ne,O'.obj,_,O'.ns,fun g=>?_,fun g hg=>?_⟩
 ·have:=length_putF f y fs;omega
 ·show RelO ((putF f y fs).lookup g) (if g=f then some u else mA g)
  rw [lookup_putF]
  by_cases q:g=f
  ·rw [if_pos q,if_pos q];exact ry
  ·rw [if_neg q,if_neg q];exact r g
 ·by_cases q:g=f
  ·rw [q];exact (keys_putF f y fs).1
  ·refine (keys_putF f y fs).2 g (wi g fun z=>hg ?_)
   show (if g=f then some u else mA g)=none
   rw [if_neg q];exact z
theorem Inv.made (I:Inv X pins σ H s):Inv X pins σ (upd (upd H s.heap.objs.size (.own (s.heap.objs.size + 1))) (s.heap.objs.size + 1) (.ins C s.heap.objs.size []))
  { s with heap:=(s.heap.push PySem.W.emptyDict).push (PySem.W.instObj C s.heap.objs.size) }:=by
 have e1:(s.heap.push PySem.W.emptyDict).get? s.heap.objs.size=some PySem.W.emptyDict:=Heap.get?_push_size s.heap rfl
 have e2:((s.heap.push PySem.W.emptyDict).push (PySem.W.instObj C s.heap.objs.size)).get? (s.heap.objs.size + 1)=some (PySem.W.instObj C s.heap.objs.size):=by
  have:=Heap.get?_push_size (s.heap.push PySem.W.emptyDict) (o:=PySem.W.instObj C s.heap.objs.size) rfl
  rwa [Heap.size_push] at this
 have e3:(s.heap.push PySem.W.emptyDict).Ns s.heap.objs.size (fun _=>none):=⟨PySem.W.emptyDict,#[],_,e1,rfl,(fun e he=>absurd he (by simp)),fun _=>rfl⟩
 have I1:=I.laid (a:=s.heap.objs.size) (o:=.own (s.heap.objs.size + 1)) (h':=s.heap.push PySem.W.emptyDict) (t':=s.toks) (fun b u q=>Heap.get?_push_of_some _ q) (Nat.le_refl _) ⟨_,e1⟩
 refine I1.laid (a:=s.heap.objs.size + 1) (o:=.ins C s.heap.objs.size []) (t':=s.toks) (fun b u q=>Heap.get?_push_of_some _ q) (Nat.le_of_eq (Heap.size_push _ _)) ?_
 have ne:s.heap.objs.size ≠ s.heap.objs.size + 1:=Nat.ne_of_lt (Nat.lt_succ_self _)
 refine⟨by rw [upd_ne ne,upd_same],Nat.zero_le _,ne,e2,fun _=>none,(Heap.Ns1.of_empty e3).at fun o q=>Heap.get?_push_of_some _ q,fun _=>True.intro,fun y hy=>absurd rfl hy⟩
theorem attr_of {prog:Program} {w:World} {env:Env} {e:Expr} {f:Str} {pos:Pos} {s:Shared} {Q:Value->Shared->Prop} (hb:attributeBase e f env (eval e env)=eval e env)
  (h:wpAny (model prog w) A (eval e env) (fun o s₁=>wpAny (model prog w) A (getAttr o f true) Q E s₁) E s):wpAny (model prog w) A (eval (.Attribute e f pos) env) Q E s :=
 Attribute_any_ h (by rw [arm_eval_Attribute,hb])
end
def tFld (K:Frag) (ta:TE) (f:Str):TE:=fun σ H Q=>ta σ H fun x H1=>∃ a C dx fs v,x=.ref a/\H1 a=some (.ins C dx fs)/\Cls K C/\NoAttr K C f/\fs.lookup f=some v/\Q v H1
def sFld (K:Frag) (ta tv:TE) (f:Str):TS:=fun D σ H=>tv σ H fun y H1=>ta σ H1 fun x H2=>∃ a C dx fs,x=.ref a/\H2 a=some (.ins C dx fs)/\Cls K C/\NoAttr K C f/\fs.length < 1000 ∧
 D.nx σ (upd H2 a (.ins C dx (putF f y fs)))
section
variable {X:Cx} {o e value:Expr} {f:Str} {pos pos' tpos:Pos} {ta tv:TE}
theorem pe_fld (he:PE X e ta) (hb:attributeBase e f X.env (eval e X.env)=eval e X.env):PE X (.Attribute e f pos) (tFld X.K ta f):=by
 intro pins s σ H Q I h
 refine attr_of hb (thn (he pins s σ H _ I h) fun u s1 zq=>?_)
 obtain⟨x,H1,I1,rx,a,C,dx,fs,v,ex,ea,c,n,l,q⟩:=zq
 subst ex
 obtain rfl:u=Value.ref a:=rx
 exact getattr_ok I1 ea c n l fun u' s2 I2 ru=>⟨v,H1,I2,ru,q⟩
theorem ps_fld (ha:PE X o ta) (hv:PE X value tv) (hs:swapsWith value (some (.Attribute o f pos')) pos.line X.env=pure false):PS X (.Assign [.Attribute o f pos'] value pos) (sFld X.K ta tv f):=by
 intro pins s σ H D I h
 refine plainObj_wpAny_Assign_Attribute (thn (hv pins s σ H _ I h) fun u s1 ⟨y,H1,I1,ry,q⟩=>thn (ha pins s1 σ H1 _ I1 q) fun ov s2 zq=>?_) hs
 obtain⟨x,H2,I2,rx,a,C,dx,fs,ex,ea,c,n,l,q2⟩:=zq
 subst ex
 obtain rfl:ov=Value.ref a:=rx
 exact setattr_ok I2 ea c n l ry fun s3 I3=>⟨σ,_,I3,q2⟩
end
structure Room (k:Nat) (A:Around):Prop where
 hd:A.handled=none
 dp:A.depth + 3 * k + 5 < recursionLimit
 un:A.units + 16 * k + 200 < cLine
 gd:A.guards=some []
theorem Room.mono {j k:Nat} {A:Around} (r:Room k A) (h:j<=k):Room j A:=⟨r.hd,by have:=r.dp;omega,by have:=r.un;omega,r.gd⟩
theorem Room.deeper {k:Nat} {A:Around} (r:Room (k + 1) A) (env:Env):Room k (A.deeper env) :=
 ⟨r.hd,by have:=r.dp;show A.depth + 1 + 3 * k + 5 < _;omega,by have:=r.un;show A.units + 3 + 16 * k + 200 < _;omega,r.gd⟩
theorem Room.in1 {k:Nat} {A:Around} (r:Room (k + 1) A):Room k A.in1 :=
 ⟨r.hd,by have:=r.dp;show A.depth + 3 * k + 5 < _;omega,by have:=r.un;show A.units + 1 + 16 * k + 200 < _;omega,r.gd⟩
theorem make_depth {A:Around} {C:Addr} {us:List Value} {kw:List (Str × Value)} : (A.under (.builtin "type.__call__" ⟨.ref C::us,kw⟩)).depth=A.depth + 1:=by
 first|rfl|simp [Around.under,Code.weight,Code.isCreation,Code.isGuard,Code.isCaller,Code.frames,Code.isFrame,guardIds]
theorem make_units {A:Around} {C:Addr} {us:List Value} {kw:List (Str × Value)} : (A.under (.builtin "type.__call__" ⟨.ref C::us,kw⟩)).units=A.units + 1:=by
 first|rfl|simp [Around.under,Code.cUnits,Code.frames,Code.isFrame]
theorem make_guards {A:Around} {C:Addr} {us:List Value} {kw:List (Str × Value)} : (A.under (.builtin "type.__call__" ⟨.ref C::us,kw⟩)).guards=A.guards:=by
 have hg:guardIds.contains "type.__call__" = false:=by decide +kernel
 have e:Code.guards (.builtin "type.__call__" ⟨.ref C::us,kw⟩)=[]:=by
  unfold Code.guards
  rw [if_neg (fun z=>by rw [show Code.isGuard (.builtin "type.__call__" ⟨.ref C::us,kw⟩)=guardIds.contains "type.__call__" from rfl,hg] at z;cases z)]
 unfold Around.under
 rw [e]
 rfl
theorem Room.make {k:Nat} {A:Around} (r:Room (k + 1) A) (C:Addr) (us:List Value) (kw:List (Str × Value)):Room k (A.under (.builtin "type.__call__" ⟨.ref C::us,kw⟩)) :=
 ⟨r.hd,by have:=r.dp;rw [make_depth];omega,by have:=r.un;rw [make_units];omega,make_guards.trans r.gd⟩
theorem Room.depth {k:Nat} {A:Around} (r:Room k A):A.depth < recursionLimit:=by have:=r.dp;omega
theorem Room.units {k:Nat} {A:Around} (r:Room k A):A.units + 64 < cLine:=by have:=r.un;omega
def tNil:TA:=fun _ H Q=>Q [] H
def tCons (ta:TE) (tr:TA):TA:=fun σ H Q=>ta σ H fun x H1=>tr σ H1 fun xs H2=>Q (x::xs) H2
section
variable {X:Cx} {e:Expr} {es:List Expr} {te:TE} {t:TA} {pos:Pos}
theorem pa_nil:PA X [] tNil:=fun _ _ _ _ H Q I h=>Calls.spliced_nil ⟨[],H,I,.nil,h⟩
theorem pa_cons (ha:PE X e te) (hr:PA X es t) (hs:starEach (e::es) X.env=(false,eval e X.env)::starEach es X.env:=by rfl):PA X (e::es) (tCons te t):=by
 intro pos pins s σ H Q I h
 rw [hs]
 show wpAny _ _ (spliced ((false,eval e X.env)::backTo pos (starEach es X.env))) _ _ s
 refine Calls.spliced_cons (thn (ha pins s σ H _ I h) fun u s1 zq=>?_)
 obtain⟨x,H1,I1,r1,q1⟩:=zq
 exact thn (hr pos pins s1 σ H1 _ I1 q1) fun us s2 ⟨xs,H2,I2,r2,q2⟩=>⟨x::xs,H2,I2,.cons r1 r2,q2⟩
def tTup (t:TA):TE:=fun σ H Q=>t σ H fun xs H1=>xs.length<=sizeLine/\∀ p,H1 p=none->Q (.ref p) (upd H1 p (.tup xs))
def tLst (t:TA):TE:=fun σ H Q=>t σ H fun xs H1=>xs.length<=sizeLine/\∀ p,H1 p=none->Q (.ref p) (upd H1 p (.lst xs))
theorem pe_tup {x1} (h:PA X es t):PE X (.Tuple es x1 pos) (tTup t):=by
 intro pins s σ H Q I hq
 refine wpAny_Tuple_spliced (thn (h pos pins s σ H _ I hq) fun us s1 ⟨xs,H1,I1,r,z,q⟩=>⟨by rw [← r.length];exact z,?_⟩)
 have hf:H1 s1.heap.objs.size=none:=I1.hok.fresh (Nat.le_refl _)
 refine⟨.ref s1.heap.objs.size,upd H1 s1.heap.objs.size (.tup xs),I1.laid (t':=s1.toks) (fun b u e=>Heap.get?_push_of_some _ e) (Nat.le_refl _) ?_,rfl,q _ hf⟩
 exact⟨z,us,r,⟨_,Heap.get?_push_size _ rfl,rfl,_,rfl⟩⟩
theorem pe_lst (h:PA X es t):PE X (.List es pos) (tLst t):=by
 intro pins s σ H Q I hq
 refine wpAny_List_spliced (thn (h pos pins s σ H _ I hq) fun us s1 ⟨xs,H1,I1,r,z,q⟩=>⟨by rw [← r.length];exact z,?_⟩)
 have hf:H1 s1.heap.objs.size=none:=I1.hok.fresh (Nat.le_refl _)
 refine⟨.ref s1.heap.objs.size,upd H1 s1.heap.objs.size (.lst xs),I1.laid (t':=s1.toks) (fun b u e=>Heap.get?_push_of_some _ e) (Nat.le_refl _) ?_,rfl,q _ hf⟩
 exact⟨z,us,0,r,Heap.get?_push_size _ rfl⟩
end
abbrev Sp:=List V->Hp->VK->XK->Prop
abbrev CXT:=List Env->Hp->Shared->XK->Value->Shared->Prop
structure Env0 (P:Program) (w:World) (K:Frag) (mg:Str->Option Value) (base:Heap) (A:Around) (outer:List Env) (s:Shared) (H:Hp):Prop where
 frames:A.frames=some outer
 mod:Mod K mg base
 bs:∀ b o,base.get? b=some o->s.heap.get? b=some o/\H b=none
 bsz:base.objs.size<=s.heap.objs.size
 funs:s.heap.FunFrames base outer
 frf:∀ b ∈ frs outer,H b=none
 hok:HOk P w H s.heap
 bare:AllBare s.gens
def CE (outer:List Env) (P:Program) (w:World) (H:Hp) (s:Shared) (Q:VK) (u:Value) (s':Shared):Prop :=
 ∃ v H',s'.os=s.os/\AllBare s'.gens/\Un (frs outer) [] H H' s.heap s'.heap/\HOk P w H' s'.heap/\RelV v u/\Q v H'
def CR (CX:CXT) (outer:List Env) (P:Program) (w:World) (H:Hp) (s:Shared) (Q:VK) (E:XK) (r:Result) (s':Shared):Prop :=
 match r with
 | .ok (.ret u)=>CE outer P w H s Q u s'
 | .ok _=>False
 | .error e=>CX outer H s E e s'
structure FnOk (P:Program) (w:World) (K:Frag) (mg:Str->Option Value) (base:Heap) (CX:CXT) (k:Nat) (f:Addr) (fd:FuncData) (ps:List Str) (sp:Sp):Prop where
 len:∀ vs H Q E,sp vs H Q E->vs.length=ps.length
 run:∀ (A:Around) (outer:List Env) (s:Shared) (H:Hp) (args:Args) (us:List Value) (vs:List V) (Q:VK) (E:XK),Room k A->Env0 P w K mg base A outer s H->BindsTo s fd args (ps.zip us)->Vals vs us->sp vs H Q E →
  codeAny (model P w) A (.call (.ref f) args) (CR CX outer P w H s Q E) s
theorem FnOk.mono {P:Program} {w:World} {K:Frag} {mg:Str->Option Value} {base:Heap} {CX:CXT} {j k:Nat} {f:Addr} {fd:FuncData} {ps:List Str} {sp:Sp} (F:FnOk P w K mg base CX j f fd ps sp) (h:j<=k) :
  FnOk P w K mg base CX k f fd ps sp:=⟨F.len,fun A outer s H args us vs Q E hr=>F.run A outer s H args us vs Q E (hr.mono h)⟩
theorem FnOk.imp {P:Program} {w:World} {K:Frag} {mg:Str->Option Value} {base:Heap} {CX:CXT} {k:Nat} {f:Addr} {fd:FuncData} {ps:List Str} {sp sp':Sp} (F:FnOk P w K mg base CX k f fd ps sp)
  (h:∀ vs H Q E,sp' vs H Q E->sp vs H Q E):FnOk P w K mg base CX k f fd ps sp' :=
 ⟨fun vs H Q E q=>F.len vs H Q E (h _ _ _ _ q),fun A outer s H args us vs Q E hr he hb hv hs=>F.run A outer s H args us vs Q E hr he hb hv (h _ _ _ _ hs)⟩
theorem Env0.make {P:Program} {w:World} {K:Frag} {mg:Str->Option Value} {base:Heap} {A:Around} {outer:List Env} {s:Shared} {H:Hp} (e:Env0 P w K mg base A outer s H) (C:Addr) (us:List Value) (kw:List (Str × Value)) :
  Env0 P w K mg base (A.under (.builtin "type.__call__" ⟨.ref C::us,kw⟩)) outer s H:=⟨by first|exact e.frames|(simpa [Around.under,Code.envs,Code.isFrame,pushEnvs] using e.frames),e.mod,e.bs,e.bsz,e.funs,e.frf,e.hok,e.bare⟩
theorem Env0.in1 {P:Program} {w:World} {K:Frag} {mg:Str->Option Value} {base:Heap} {A:Around} {outer:List Env} {s:Shared} {H:Hp} (e:Env0 P w K mg base A outer s H) :
  Env0 P w K mg base A.in1 outer s H:=⟨e.frames,e.mod,e.bs,e.bsz,e.funs,e.frf,e.hok,e.bare⟩
section
variable {X:Cx} {pins:List (Addr × Obj)} {σ:St} {H:Hp} {s s':Shared}
theorem Inv.env0 (I:Inv X pins σ H s):Env0 X.prog X.w X.K X.mg X.base X.A X.stack s H :=
 ⟨I.ok.frames,I.ok.mod,I.bs,Nat.le_trans I.ok.bsz I.sz,I.stack,I.stkFree,I.hok,I.bare⟩
theorem Inv.after {Q:VK} {u:Value} (I:Inv X pins σ H s) (h:CE X.stack X.prog X.w H s Q u s'):EP X pins σ Q u s':=by
 obtain⟨v,H',os,bare,un,hok,r,q⟩:=h
 obtain⟨hh,g,d,t,os'⟩:=s'
 obtain rfl:os'=s.os:=os
 exact⟨v,H',I.call (h':=hh) (g':=g) (d':=d) (t':=t) (ch:=[]) un hok bare (fun b z=>absurd z (by simp)),r,q⟩
end
def tCall (sp:Sp) (dvs:List V) (E:XK) (t:TA):TE:=fun σ H Q=>t σ H fun vs H1=>sp (vs++dvs) H1 Q E
def tMeth (C:Addr) (m:Str) (sp:Sp) (dvs:List V) (E:XK) (ta:TE) (t:TA):TE:=fun σ H Q=>ta σ H fun x H1=>∃ a dx fs,x=.ref a/\H1 a=some (.ins C dx fs)/\fs.lookup m=none ∧
 t σ H1 fun vs H2=>sp (x::(vs++dvs)) H2 Q E
def tMake (C:Addr) (sp:Sp) (dvs:List V) (E:XK) (t:TA):TE:=fun σ H Q=>t σ H fun vs H1=>∀ x dx,H1 x=none->H1 dx=none->dx ≠ x →
 sp (.ref x::(vs++dvs)) (upd (upd H1 dx (.own x)) x (.ins C dx [])) (fun v H2=>v=.non/\Q (.ref x) H2) E
def Binds (K:Frag) (fd:FuncData) (ps:List Str) (ds:List Value):Prop :=
 ∀ (s:Shared) (us:List Value),K.In s.heap->(us++ds).length=ps.length->BindsTo s fd ⟨us,[]⟩ (ps.zip (us++ds))
theorem Binds.all {K:Frag} {fd:FuncData} {ps:List Str} (h:∀ us:List Value,us.length=ps.length->bindArgs fd ⟨us,[]⟩=pure (ps.zip us)):Binds K fd ps []:=fun s us _ hl=>by
 rw [List.append_nil] at hl ⊢
 exact .of_eq (h us hl)
def Passes (CX:CXT) (X:Cx) (E:XK):Prop:=∀ (pins:List (Addr × Obj)) (σ:St) (H:Hp) (s:Shared) (e:Value) (s':Shared),Inv X pins σ H s->CX X.stack H s E e s'->X.xe e s'
section
variable {X:Cx} {CX:CXT} {k:Nat} {f C:Addr} {fd:FuncData} {ps:List Str} {sp:Sp} {dvs:List V} {ds:List Value} {E:XK} {x m:Str} {p pos apos:Pos} {e o:Expr} {es:List Expr} {ta:TE} {t:TA}
theorem run_fn {pins:List (Addr × Obj)} {σ:St} {H:Hp} {s:Shared} {Q:VK} {us:List Value} {vs:List V} (F:FnOk X.prog X.w X.K X.mg X.base CX k f fd ps sp) (hr:Room k X.A) (hb:Binds X.K fd ps ds) (hd:Vals dvs ds) (hx:Passes CX X E)
  (I:Inv X pins σ H s) (r:Vals vs us) (h:sp (vs++dvs) H Q E):wpAny (model X.prog X.w) X.A (call (.ref f) us) (EP X pins σ Q) X.xe s:=by
 have r2:Vals (vs++dvs) (us++ds):=r.append hd
 have hl:(us++ds).length=ps.length:=by rw [← r2.length];exact F.len _ _ _ _ h
 refine wpAny_call (codeAny_mono (F.run X.A X.stack s H ⟨us,[]⟩ (us++ds) (vs++dvs) Q E hr I.env0 (hb s us I.kIn hl) r2 h) fun r s' hq=>?_)
 cases r with
 | error e=>exact hx pins σ H s e s' I hq
 | ok fl =>
  cases fl with
  | ret u=>exact I.after hq
  | next=>exact False.elim hq
  | brk=>exact False.elim hq
  | cont=>exact False.elim hq
theorem pe_call (F:FnOk X.prog X.w X.K X.mg X.base CX k f fd ps sp) (hr:Room k X.A) (hg:Gl X x) (hm:X.mg x=some (.ref f)) (hk:keepIn X.K (.ref f)=true) (hb:Binds X.K fd ps ds) (hd:Vals dvs ds) (hx:Passes CX X E)
  (ha:PA X (e::es) t) (hdb:(x == ("__debug__" : Str))=false:=by decide) (he:starEach (e::es) X.env=(false,eval e X.env)::starEach es X.env:=by rfl) (hpl:(backTo pos (starEach es X.env)).any (·.1)=false:=by rfl) :
  PE X (.Call (.Name x p) (e::es) [] pos) (tCall sp dvs E t):=by
 intro pins s σ H Q I h
 refine wpAny_Call_Name_kw (ld_glob I hg hm ?_ hdb)
 refine PySem.W.callWith_K (h₀:=X.base) I.ok.mod.kin hk (thn (ha pos pins s σ H _ I h) fun us s1 ⟨vs,H1,I1,r,q⟩=>⟨I1.kIn,?_⟩) he hpl
 exact run_fn F hr hb hd hx I1 r q
theorem pe_meth0 {pl:Sem Bool} (he:PE X o ta) (c:Cls X.K C) (hm:Meth X.K C m f) (F:FnOk X.prog X.w X.K X.mg X.base CX k f fd ps sp) (hr:Room k X.A) (hb:Binds X.K fd ps ds) (hd:Vals dvs ds) (hx:Passes CX X E)
  (ht:eval (.Call (.Attribute o m apos) [] [] pos) X.env=(do
   let ov ← eval o X.env
   standAt apos.atName
   let (f,first) ← holding [ov] (getMethod ov m pl)
   callWith pos f first (backTo pos (starEach [] X.env)) (backToKw pos (keywordEach [] X.env))):=by rfl) :
  PE X (.Call (.Attribute o m apos) [] [] pos) (tMeth C m sp dvs E ta tNil):=by
 intro pins s σ H Q I h
 refine PySem.W.methodCall_KW (pl:=pl) (thn (he pins s σ H _ I h) fun u s1 zq=>?_) ht
 obtain⟨x,H1,I1,rx,a,dx,fs,ex,ea,l,q⟩:=zq
 subst ex
 obtain rfl:u=Value.ref a:=rx
 refine getmeth_ok I1 ea c hm l ?_
 exact PySem.W.callWith_K0 (first:=[.ref a]) I1.kIn hm.kp (run_fn (us:=[.ref a]) (vs:=[.ref a]) F hr hb hd hx I1 (.cons rfl .nil) q)
structure Mk (K:Frag) (C f:Addr):Prop where
 makes:PySem.W.makesIn K C=true
 init:findIn K (.ref C) "__init__" = some (some (.ref f))
 fn:isFn K (.ref f)=true
 kp:keepIn K (.ref C)=true
theorem run_make {pins:List (Addr × Obj)} {σ:St} {H:Hp} {s:Shared} {Q:VK} {us:List Value} {vs:List V} (M:Mk X.K C f) (F:FnOk X.prog X.w X.K X.mg X.base CX k f fd ps sp) (hr:Room (k + 1) X.A) (hb:Binds X.K fd ps ds) (hd:Vals dvs ds)
  (hx:Passes CX X E) (I:Inv X pins σ H s) (r:Vals vs us)
  (h:∀ x dx,H x=none->H dx=none->dx ≠ x->sp (.ref x::(vs++dvs)) (upd (upd H dx (.own x)) x (.ins C dx [])) (fun v H2=>v=.non/\Q (.ref x) H2) E) :
  wpAny (model X.prog X.w) X.A (call (.ref C) us) (EP X pins σ Q) X.xe s:=by
 have hq:=h (s.heap.objs.size + 1) s.heap.objs.size (I.hok.fresh (Nat.le_succ _)) (I.hok.fresh (Nat.le_refl _)) (Nat.ne_of_lt (Nat.lt_succ_self _))
 have I2:=Inv.made (C:=C) I
 have r2:Vals (V.ref (s.heap.objs.size + 1)::(vs++dvs)) (Value.ref (s.heap.objs.size + 1)::(us++ds)):=.cons rfl (r.append hd)
 have hl:(Value.ref (s.heap.objs.size + 1)::us++ds).length=ps.length:=by
  have e:=r2.length
  rw [F.len _ _ _ _ hq] at e
  exact e.symm
 refine wpAny_call (make_map (f:=f) I.kIn M.makes M.init (beq_iff_eq.mp M.fn) (codeAny_mono (F.run _ X.stack _ _ ⟨Value.ref (s.heap.objs.size + 1)::us,[]⟩ (Value.ref (s.heap.objs.size + 1)::(us++ds)) _ _ E (hr.make C us [])
  (I2.env0.make C us []) (hb _ (Value.ref (s.heap.objs.size + 1)::us) I2.kIn hl) r2 hq) fun r s' hq'=>?_))
 cases r with
 | error e=>exact hx pins σ _ _ e s' I2 hq'
 | ok fl =>
  cases fl with
  | ret u =>
   obtain⟨v,H',I3,rv,ev,q3⟩:=I2.after hq'
   subst ev
   exact⟨rv,⟨V.ref (s.heap.objs.size + 1),H',I3,rfl,q3⟩⟩
  | next=>exact False.elim hq'
  | brk=>exact False.elim hq'
  | cont=>exact False.elim hq'
theorem pe_make (M:Mk X.K C f) (F:FnOk X.prog X.w X.K X.mg X.base CX k f fd ps sp) (hr:Room (k + 1) X.A) (hg:Gl X x) (hm:X.mg x=some (.ref C)) (hb:Binds X.K fd ps ds) (hd:Vals dvs ds) (hx:Passes CX X E)
  (ha:PA X (e::es) t) (hdb:(x == ("__debug__" : Str))=false:=by decide) (he:starEach (e::es) X.env=(false,eval e X.env)::starEach es X.env:=by rfl) (hpl:(backTo pos (starEach es X.env)).any (·.1)=false:=by rfl) :
  PE X (.Call (.Name x p) (e::es) [] pos) (tMake C sp dvs E t):=by
 intro pins s σ H Q I h
 refine wpAny_Call_Name_kw (ld_glob I hg hm ?_ hdb)
 refine PySem.W.callWith_K (h₀:=X.base) I.ok.mod.kin M.kp (thn (ha pos pins s σ H _ I h) fun us s1 ⟨vs,H1,I1,r,q⟩=>⟨I1.kIn,?_⟩) he hpl
 exact run_make M F hr hb hd hx I1 r q
end
structure FnScope (N P:List Str) (sc:Scope):Prop where
 kind:sc.kind=.function
 co:sc.isCoroutine=false
 gen:sc.isGenerator=false
 nd:N.Nodup
 pre:N.take P.length=P
 par:∀ x ∈ P,sc.names.lookup x=some .local\/sc.names.lookup x=some .cell
 nofree:∀ y ∈ sc.names,y.2 ≠ .free
theorem bindL_out {kindOf:Str->Option NameKind} {x:Str} : ∀ {binds:List (Str × Value)} {m:Str->Option Value},(∀ v,(x,v) ∉ binds)->bindL kindOf binds m x=m x
 | [],_,_=>rfl
 | (n,v)::r,m,h=>by
  unfold bindL
  rw [bindL_out fun w hw=>h w (List.mem_cons_of_mem _ hw)]
  split
  ·have:x ≠ n:=by rintro rfl;exact h v List.mem_cons_self
   simp [this]
  ·rfl
theorem bindC_out {kindOf:Str->Option NameKind} {x:Str} : ∀ {binds:List (Str × Value)} {m:Str->Option Value},(∀ v,(x,v) ∉ binds)->bindC kindOf binds m x=m x
 | [],_,_=>rfl
 | (n,v)::r,m,h=>by
  unfold bindC
  rw [bindC_out fun w hw=>h w (List.mem_cons_of_mem _ hw)]
  split
  ·rfl
  ·have:x ≠ n:=by rintro rfl;exact h v List.mem_cons_self
   simp [this]
theorem bindL_get {kindOf:Str->Option NameKind} {x:Str} {v:Value} : ∀ {P:List Str} {vs:List Value} {i:Nat} {m:Str->Option Value},P.Nodup->P[i]?=some x->vs[i]?=some v->kindOf x=some .local →
  bindL kindOf (P.zip vs) m x=some v
 | [],_,_,_,_,h,_,_=>by simp at h
 | _::_,[],_,_,_,_,h,_=>by simp at h
 | p::P,w::vs,0,m,nd,h1,h2,hk=>by
  simp at h1 h2;subst h1;subst h2
  show bindL kindOf ((p,w)::P.zip vs) m p=_
  unfold bindL
  rw [bindL_out fun v hv=>(List.nodup_cons.mp nd).1 (List.of_mem_zip hv).1,if_pos hk]
  simp
 | p::P,w::vs,i + 1,m,nd,h1,h2,hk=>by
  show bindL kindOf ((p,w)::P.zip vs) m x=_
  unfold bindL
  exact bindL_get (i:=i) (List.nodup_cons.mp nd).2 (by simpa using h1) (by simpa using h2) hk
theorem bindC_get {kindOf:Str->Option NameKind} {x:Str} {v:Value} : ∀ {P:List Str} {vs:List Value} {i:Nat} {m:Str->Option Value},P.Nodup->P[i]?=some x->vs[i]?=some v->kindOf x ≠ some .local →
  bindC kindOf (P.zip vs) m x=some v
 | [],_,_,_,_,h,_,_=>by simp at h
 | _::_,[],_,_,_,_,h,_=>by simp at h
 | p::P,w::vs,0,m,nd,h1,h2,hk=>by
  simp at h1 h2;subst h1;subst h2
  show bindC kindOf ((p,w)::P.zip vs) m p=_
  unfold bindC
  rw [bindC_out fun v hv=>(List.nodup_cons.mp nd).1 (List.of_mem_zip hv).1,if_neg hk]
  simp
 | p::P,w::vs,i + 1,m,nd,h1,h2,hk=>by
  show bindC kindOf ((p,w)::P.zip vs) m x=_
  unfold bindC
  exact bindC_get (i:=i) (List.nodup_cons.mp nd).2 (by simpa using h1) (by simpa using h2) hk
def start (N:List Str) (vs:List V):St:=vs.map some++List.replicate (N.length - vs.length) none
def cxOf (CX:CXT) (P:Program) (w:World) (K:Frag) (mg:Str->Option Value) (base:Heap) (N:List Str) (qual:Str) (scope:Scope) (f:Addr) (cd:Value) (A:Around) (outer:List Env) (s:Shared) (H:Hp) (E:XK):Cx where
 prog:=P
 w:=w
 K:=K
 mg:=mg
 base:=base
 A:=A.deeper (envOfC qual scope s.heap.objs.size f cd)
 N:=N
 s₀:=s
 H₀:=H
 env:=envOfC qual scope s.heap.objs.size f cd
 outer:=outer
 stack:=envOfC qual scope s.heap.objs.size f cd::outer
 ex:=[]
 calm:=true
 fn:=fun _=>true
 pn:=[]
 xe:=fun e s'=>wpAny (model P w) (A.deeper (envOfC qual scope s.heap.objs.size f cd)) (leaving (envOfC qual scope s.heap.objs.size f cd) e) (fun _ s''=>CX outer H s E e s'') (fun e' s''=>CX outer H s E e' s'') s'
theorem cell_has {sc:Scope} {n:Nat} {x:Str} (h:sc.names.lookup x=some .cell):∃ c,(cellsFrom n sc.names []).lookup x=some c:=by
 have q:=PySem.W.cellsFrom_some sc.names n [] (.inl h)
 exact Option.isSome_iff_exists.mp q
theorem inv_start {CX:CXT} {P:Program} {w:World} {K:Frag} {mg:Str->Option Value} {base:Heap} {N ps:List Str} {qual:Str} {scope:Scope} {f:Addr} {cd:Value} {A:Around} {outer:List Env} {s s1:Shared} {H:Hp} {E:XK} {us:List Value} {vs:List V}
  (S:FnScope N ps scope) (hd:A.handled=none) (e0:Env0 P w K mg base A outer s H) (hl:vs.length=ps.length) (r:Vals vs us)
  (x:InCallC s s.heap.objs.size (bindL (envOfC qual scope s.heap.objs.size f cd).kindOf (ps.zip us) fun _=>none) (cellsFrom (s.heap.objs.size + 1) scope.names []) (bindC (envOfC qual scope s.heap.objs.size f cd).kindOf (ps.zip us) fun _=>none) s1) :
  Inv (cxOf CX P w K mg base N qual scope f cd A outer s H E) [] (start N vs) H s1:=by
 have hpl:ps.length<=N.length:=by have:=congrArg List.length S.pre;rw [List.length_take] at this;omega
 obtain⟨h1,tk,rfl,hk⟩:=x.done
 have noA:∀ b:Addr,b ∉ (cxOf CX P w K mg base N qual scope f cd A outer s H E).ex:=fun b z=>absurd (show b ∈ ([]:List Addr) from z) (by simp)
 refine⟨⟨e0.mod,S.kind,rfl,rfl,Nat.le_refl _,fun y z c h1 h2=>?_,fun y hy=>?_,fun y c _ h=>?_,fun _=>hd,Around.frames_deeper e0.frames,.inr ⟨rfl,rfl⟩,fun b z=>absurd z (noA b),e0.bs,e0.bsz,fun b _ _=>noA b,fun b z=>absurd z (noA b),e0.funs,e0.frf⟩,
  rfl,e0.bare,Un.kept hk,⟨_,x.toInCall.ns,fun i y v h1 h2 h3=>?_⟩,fun y c h=>⟨_,x.cell y c h⟩,e0.hok.fresh (Nat.le_refl _),fun y c h=>?_,fun p hp=>absurd (show p ∈ ([]:List (Addr × Obj)) from hp) (by simp),e0.hok.kept hk,?_⟩
 ·exact name_of_addr x.apart (PySem.mem_of_lookup h1) (PySem.mem_of_lookup h2)
 ·have hy:scope.names.lookup y=some .cell\/scope.names.lookup y=some .free:=hy
  rcases hy with hy|hy
  ·exact cell_has hy
  ·exact absurd rfl (S.nofree _ (PySem.mem_of_lookup hy))
 ·exact Nat.le_of_lt (x.above y c (PySem.mem_of_lookup h))
 ·have hi:i < vs.length:=by
   unfold start at h2
   by_cases hi:i < vs.length
   ·exact hi
   ·rw [List.getElem?_append_right (by simpa using hi)] at h2
    rw [List.getElem?_replicate] at h2
    split at h2 <;> cases h2
  have ha:vs[i]?=some v:=by
   unfold start at h2
   rw [List.getElem?_append_left (by simpa using hi),List.getElem?_map] at h2
   cases e:vs[i]? with
   | none=>rw [e] at h2;cases h2
   | some a=>rw [e] at h2;cases h2;rfl
  obtain⟨u,hu,rv⟩:=r.get ha
  have hp:ps[i]?=some y:=by
   rw [← S.pre,List.getElem?_take_of_lt (by omega)];exact h1
  have ndP:ps.Nodup:=by rw [← S.pre];exact S.nd.sublist (List.take_sublist _ _)
  refine⟨u,rv,?_⟩
  rcases S.par y (List.mem_of_getElem? hp) with k|k
  ·exact .inl ⟨k,bindL_get ndP hp hu k⟩
  ·obtain⟨c,e⟩:=cell_has (n:=s.heap.objs.size + 1) k
   refine .inr ⟨.inl k,c,e,?_⟩
   have q:=x.cell y c e
   rw [bindC_get ndP hp hu (by show scope.names.lookup y ≠ _;rw [k];decide)] at q
   exact q
 ·exact e0.hok.fresh (Nat.le_of_lt (x.above y c (PySem.mem_of_lookup h)))
 ·unfold start
  show _=N.length
  rw [List.length_append,List.length_map,List.length_replicate]
  omega
theorem fn_of {CX:CXT} {P:Program} {w:World} {K:Frag} {mg:Str->Option Value} {base:Heap} {k:Nat} {f:Addr} {name qual:Str} {params:Arguments} {body:List Stmt} {scope:Scope} {dV kV doc pm cdv ct oc:Value} {an od:Option Addr}
  {osl:Array (Option Value)} {N ps:List Str} {sp:Sp} (lk:K.lookup f=some ⟨oc,od,.func (fnOf name qual params body scope dV kV doc pm an cdv ct),osl⟩) (hcd:codeIn K cdv qual=true) (S:FnScope N ps scope)
  (len:∀ vs H Q E,sp vs H Q E->vs.length=ps.length)
  (hbody:∀ (A:Around) (outer:List Env) (s:Shared) (H:Hp) (vs:List V) (Q:VK) (E:XK),Room k (A.deeper (envOfC qual scope s.heap.objs.size f cdv))->sp vs H Q E →
   ∃ t,PSs (cxOf CX P w K mg base N qual scope f cdv A outer s H E) body t/\t { nx:=fun _ H'=>Q .non H',rt:=Q } (start N vs) H) :
  FnOk P w K mg base CX (k + 1) f (fnOf name qual params body scope dV kV doc pm an cdv ct) ps sp:=by
 refine⟨len,fun A outer s H args us vs Q E hr e0 hb r hsp=>?_⟩
 have hl:=len _ _ _ _ hsp
 have KX:K.In s.heap:=e0.mod.kin.keeps fun b o e=>(e0.bs b o e).1
 have lim:s.heap.NoLimit:=e0.mod.nolimit.keeps fun b o e=>(e0.bs b o e).1
 have hkind:∀ y ∈ ps.zip us,scope.names.lookup y.1=some .local\/(scope.names.lookup y.1=some .cell/\((cellsFrom (s.heap.objs.size + 1) scope.names []).lookup y.1).isSome=true):=fun ⟨n,v⟩ hy=>by
  rcases S.par n (List.of_mem_zip hy).1 with q|q
  ·exact .inl q
  ·exact .inr ⟨q,PySem.W.cellsFrom_some _ _ _ (.inl q)⟩
 refine codeAny_call_function hr.depth (KX _ _ lk) rfl S.co S.gen rfl (PySem.W.codeRec_of KX hcd) (hb _ _ _ _ ?_)
 refine wpAny_newFunctionEnv_cells S.kind hkind fun env he s1 x=>?_
 subst he
 refine⟨lim.keeps x.toInCall.keep,codeAny_func ?_⟩
 obtain⟨t,ht,hq⟩:=hbody A outer s H vs Q E (hr.deeper _) hsp
 have I:Inv (cxOf CX P w K mg base N qual scope f cdv A outer s H E) [] (start N vs) H s1:=inv_start S hr.hd e0 hl r x
 refine wpAny_mono (ht [] s1 (start N vs) H _ I hq) (fun fl s' hs=>?_) fun e s' hs=>hs
 have fin:∀ {σ':St} {H':Hp} {v:V} {u:Value},Inv (cxOf CX P w K mg base N qual scope f cdv A outer s H E) [] σ' H' s'->RelV v u->Q v H'->CE outer P w H s Q u s' :=
  fun {σ' H' v u} J rv q=>⟨v,H',J.os,J.bare,J.base,J.hok,rv,q⟩
 cases fl with
 | ret u =>
  obtain⟨v,σ',H',J,rv,q⟩:=hs
  exact fin J rv q
 | next =>
  obtain⟨σ',H',J,q⟩:=hs
  exact fin (v:=V.non) (u:=Value.none) J rfl q
 | brk =>
  obtain⟨_,_,_,q⟩:=hs
  exact False.elim q
 | cont =>
  obtain⟨_,_,_,q⟩:=hs
  exact False.elim q
section
variable {X:Cx} {x:Str} {p pos:Pos} {e:Expr} {es:List Expr} {t:TA} {id T:String} {r:List V->Hp->VK->Prop}
def tCB (r:List V->Hp->VK->Prop) (t:TA):TE:=fun σ H Q=>t σ H fun vs H1=>r vs H1 Q
theorem pe_callB (hc:CallR X (.builtin id) r) (hg:Gl X x) (hm:X.mg x=none) (hv:bootBuiltins x=some (.builtin id)) (ha:PA X (e::es) t) (hn:x ≠ "__name__":=by decide) (hdb:(x == ("__debug__" : Str))=false:=by decide)
  (he:starEach (e::es) X.env=(false,eval e X.env)::starEach es X.env:=by rfl) (hpl:(backTo pos (starEach es X.env)).any (·.1)=false:=by rfl):PE X (.Call (.Name x p) (e::es) [] pos) (tCB r t):=by
 intro pins s σ H Q I h
 refine wpAny_Call_Name_kw (ld_blt I hg hm hv ?_ hn hdb)
 exact PyProof.Rows.callWith_builtin1 (thn (ha pos pins s σ H _ I h) fun us s1 ⟨vs,H1,I1,r1,q1⟩=>hc pins s1 σ H1 vs us Q I1 r1 q1) he hpl
theorem pe_callTy (hc:CallR X (.type T) r) (hg:Gl X x) (hm:X.mg x=none) (hv:bootBuiltins x=some (.type T)) (ha:PA X (e::es) t) (hn:x ≠ "__name__":=by decide) (hdb:(x == ("__debug__" : Str))=false:=by decide)
  (he:starEach (e::es) X.env=(false,eval e X.env)::starEach es X.env:=by rfl) (hpl:(backTo pos (starEach es X.env)).any (·.1)=false:=by rfl):PE X (.Call (.Name x p) (e::es) [] pos) (tCB r t):=by
 intro pins s σ H Q I h
 refine wpAny_Call_Name_kw (ld_blt I hg hm hv ?_ hn hdb)
 exact PyProof.Rows.callWith_type1 (thn (ha pos pins s σ H _ I h) fun us s1 ⟨vs,H1,I1,r1,q1⟩=>hc pins s1 σ H1 vs us Q I1 r1 q1) he hpl
end
end L2
namespace HT
open PySem PyProof.Rows
section
open PySem.SeqAt
open PySem.AutoSeq1 (wpAny_loadPart')
open PySem.MeetsSeq PySem.MeetsSeq2 PySem.MeetsSeq3
end
section
variable {prog:Program} {w:World} {A:Around} {E:Value->Shared->Prop} {s:Shared}
theorem cat_tup {t b:Addr} {vs ws:List Value} {Q:Value->Shared->Prop} (ht:IsTup s.heap t vs.toArray) (hb:IsTup s.heap b ws.toArray) (hv:vs ≠ [])
  (h1:ws=[]->Q (.ref t) s) (h2:ws ≠ []->Q (.ref s.heap.objs.size) { s with heap:=s.heap.push { cls:=.type "tuple",data:=.seq (vs++ws).toArray } })
  (hsz:vs.length + ws.length<=sizeLine):wpAny (model prog w) A (binaryOp .Add (.ref t) (.ref b)) Q E s:=by
 obtain⟨⟨cls,dd,data,sl⟩,ho,hc,n,hd⟩:=id ht
 obtain⟨⟨cls2,dd2,data2,sl2⟩,ho2,hc2,n2,hd2⟩:=id hb
 simp only at hc hd hc2 hd2
 subst hc hd hc2 hd2
 have e:vs.toArray++ws.toArray=(vs++ws).toArray:=by simp
 by_cases hw:ws=[]
 ·exact concat_meets ⟨_,ho,rfl⟩ ⟨_,ho2,rfl⟩ noFill_tuple_add seq_tuple_add PySem.F.slot_tuple_add PySem.F.entry_tuple_add (PySem.F.args_tuple_add_2 _ _)
   (tuple_addW1 t b vs.toArray ws.toArray n n2 dd dd2 sl sl2 (by simpa using hv) (by simp [hw])) ⟨ho,ho2,h1 hw⟩
 ·refine concat_meets ⟨_,ho,rfl⟩ ⟨_,ho2,rfl⟩ noFill_tuple_add seq_tuple_add PySem.F.slot_tuple_add PySem.F.entry_tuple_add (PySem.F.args_tuple_add_2 _ _)
   (tuple_addW2 t b vs.toArray ws.toArray n n2 dd dd2 sl sl2 (by simpa using hv) (by simpa using hw) (by rw [List.size_toArray,List.size_toArray];exact hsz)) ⟨ho,ho2,?_⟩
  rw [e]
  exact h2 hw
def sIx (n d:Nat):Option Int->Nat
 | none=>d
 | some v=>if v < 0 then (v + (n:Int)).toNat else min v.toNat n
theorem sIx_none (n d:Nat):sIx n d none=d:=rfl
theorem sIx_nat (n d k:Nat):sIx n d (some (k:Int))=min k n:=by
 show (if (k:Int) < 0 then ((k:Int) + (n:Int)).toNat else min (k:Int).toNat n)=min k n
 rw [if_neg (by omega),Int.toNat_natCast]
end
end HT
namespace L2
open PySem PySem.Spec PyProof.Rows
abbrev TO:=St->Hp->(Option Int->Hp->Prop)->Prop
def PO (X:Cx) (e:Option Expr) (t:TO):Prop :=
 ∀ (pins:List (Addr × Obj)) (s:Shared) (σ:St) (H:Hp) (Q:Option Int->Hp->Prop),Inv X pins σ H s->t σ H Q →
  wpAny (model X.prog X.w) X.A (evalPart e X.env) (fun u s'=>∃ o H',Inv X pins σ H' s'/\IsPart u o/\Q o H') X.xe s
def tNoPart:TO:=fun _ H Q=>Q none H
def tPart (t:TE):TO:=fun σ H Q=>t σ H fun x H1=>∃ i,x=.int i/\Q (some i) H1
theorem intsAre_of {ns:List Int} : ∀ {us:List Value},Vals (ns.map V.int) us->IntsAre us ns:=by
 induction ns with
 | nil=>intro us r;rw [List.map_nil] at r;cases r;exact .nil
 | cons n ns ih =>
  intro us r
  rw [List.map_cons] at r
  cases r with
  | cons r1 r2 =>
   obtain⟨t,e⟩:=r1
   subst e
   exact .cons n t (ih r2)
section
variable {X:Cx} {e:Expr} {te:TE} {lo hi:Option Expr} {tl th:TO} {pos p2:Pos}
theorem po_none:PO X none tNoPart:=by
 intro pins s σ H Q I h
 rw [evalPart_none]
 exact wpAny_pure ⟨none,H,I,.none,h⟩
theorem po_some (h:PE X e te):PO X (some e) (tPart te):=by
 intro pins s σ H Q I hw
 rw [evalPart_some]
 refine thn (h pins s σ H _ I hw) fun u s1 zq=>?_
 obtain⟨x,H1,I1,r1,q1⟩:=zq
 obtain⟨i,rfl,q⟩:=q1
 obtain⟨t,rfl⟩:=r1
 exact⟨some i,H1,I1,.int i t,q⟩
def SlR (X:Cx) (r:V->Option Int->Option Int->Hp->VK->Prop):Prop :=
 ∀ (pins:List (Addr × Obj)) (s:Shared) (σ:St) (H:Hp) (x:V) (v vl vu:Value) (lo hi:Option Int) (sl:Addr) (Q:VK),Inv X pins σ H s->RelV x v->s.heap.IsSliceOf sl vl vu .none->IsPart vl lo->IsPart vu hi->r x lo hi H Q →
  ∃ T id,typeLookup (.type T) "__getitem__" = pure (some (.builtin id))/\s.TypeIs v T/\wpAny (model X.prog X.w) X.A (getItem v (.ref sl)) (EP X pins σ Q) X.xe s
theorem SlR.or {r r':V->Option Int->Option Int->Hp->VK->Prop} (h:SlR X r) (h':SlR X r'):SlR X (fun x lo hi H Q=>r x lo hi H Q\/r' x lo hi H Q):=by
 intro pins s σ H x v vl vu lo hi sl Q I rx hs pl pu q
 rcases q with q|q
 ·exact h pins s σ H x v vl vu lo hi sl Q I rx hs pl pu q
 ·exact h' pins s σ H x v vl vu lo hi sl Q I rx hs pl pu q
def tSl (r:V->Option Int->Option Int->Hp->VK->Prop) (te:TE) (tl th:TO):TE:=fun σ H Q=>te σ H fun x H1=>tl σ H1 fun l H2=>th σ H2 fun u H3=>r x l u H3 Q
theorem pe_slice {r:V->Option Int->Option Int->Hp->VK->Prop} (hr:SlR X r) (he:PE X e te) (hl:PO X lo tl) (hu:PO X hi th):PE X (.Subscript e (.Slice lo hi none p2) pos) (tSl r te tl th):=by
 intro pins s σ H Q I h
 refine Subscript_ (thn (he pins s σ H _ I h) fun v s1 zq=>?_)
 obtain⟨x,H1,I1,r1,q1⟩:=zq
 refine wpAny_Slice (thn (hl pins s1 σ H1 _ I1 q1) fun vl s2 ⟨l,H2,I2,pl,q2⟩=>thn (hu pins s2 σ H2 _ I2 q2) fun vu s3 zq=>?_)
 obtain⟨u,H3,I3,pu,q3⟩:=zq
 rw [evalPart_none]
 refine wpAny_pure ?_
 have I4:Inv X pins σ H3 { s3 with heap:=s3.heap.push { cls:=.type "slice",data:=.fields #[vl,vu,.none] } }:=I3.kept (t':=s3.toks) fun b ob q=>Heap.get?_push_of_some _ q
 obtain⟨T,id,hT,ht,hg⟩:=hr pins { s3 with heap:=s3.heap.push { cls:=.type "slice",data:=.fields #[vl,vu,.none] } } σ H3 x v vl vu l u s3.heap.objs.size Q I4 r1 (Heap.IsSliceOf.new ..) pl pu q3
 show wpAny (model X.prog X.w) X.A (subscriptTail e (.Slice lo hi none p2) v (.ref s3.heap.objs.size)) (EP X pins σ Q) X.xe { s3 with heap:=s3.heap.push { cls:=.type "slice",data:=.fields #[vl,vu,.none] } }
 exact tail_any (ops:=[.ref s3.heap.objs.size,v]) ht hT hg (by with_unfolding_all rfl)
def cutV (xs:List V) (lo hi:Option Int):List V:=(xs.drop (HT.sIx xs.length 0 lo)).take (HT.sIx xs.length xs.length hi - HT.sIx xs.length 0 lo)
theorem cutV_length (xs:List V) (lo hi:Option Int):(cutV xs lo hi).length<=xs.length:=by
 unfold cutV
 rw [List.length_take,List.length_drop]
 omega
def rCatT (K:Frag):R2:=fun x y H Q=>∃ a b xs ys,x=.ref a/\y=.ref b/\SqT K H a xs/\SqT K H b ys/\xs ≠ []/\xs.length + ys.length<=sizeLine ∧
 (ys=[]->Q (.ref a) H)/\(ys ≠ []->∀ p,H p=none->Q (.ref p) (upd H p (.tup (xs++ys))))
theorem Vals.nil_iff {xs:List V} {us:List Value} (r:Vals xs us):us=[] ↔ xs=[]:=by
 cases r with
 | nil=>simp
 | cons _ _=>simp
theorem op_catT:OpR X (binaryOp .Add) (rCatT X.K):=by
 intro pins s σ H x y v u Q I rx ry h
 obtain⟨a,b,xs,ys,rfl,rfl,ha,hb,hx,hz,q1,q2⟩:=h
 cases rx
 cases ry
 obtain⟨its,r1,p1,_⟩:=I.tuple ha
 obtain⟨its2,r2,p2,_⟩:=I.tuple hb
 refine HT.cat_tup p1 p2 (fun z=>hx (r1.nil_iff.mp z)) (fun z=>⟨.ref a,H,I,rfl,q1 (r2.nil_iff.mp z)⟩) (fun z=>?_) (by rw [← r1.length,← r2.length];exact hz)
 refine⟨.ref s.heap.objs.size,_,I.laid (t':=s.toks) (o:=.tup (xs++ys)) (fun b ob q=>Heap.get?_push_of_some _ q) (Nat.le_refl _) ?_,rfl,q2 (fun w=>z (r2.nil_iff.mpr w)) _ (I.hok.fresh (Nat.le_refl _))⟩
 exact⟨by rw [List.length_append];exact hz,_,r1.append r2,IsTup.new _ _⟩
end
def ixN (n:Nat) (i:Int):Option Nat:=if 0<=i then (if i < n then some i.toNat else none) else if -(n:Int)<=i then some (i + n).toNat else none
def atI {α : Type} (xs:List α) (i:Int):Option α:=(ixN xs.length i).bind fun j=>xs[j]?
theorem ixN_seq {n:Nat} {i:Int} {j:Nat} (h:ixN n i=some j):seqIndex? i n=some j/\j < n/\-(n:Int)<=i/\i < n:=by
 unfold ixN at h
 by_cases h0 : 0<=i
 ·rw [if_pos h0] at h
  by_cases h1:i < n
  ·rw [if_pos h1] at h
   have e:i.toNat=j:=Option.some.inj h
   exact⟨by rw [seqIndex_of h0 h1,e],by omega,by omega,h1⟩
  ·rw [if_neg h1] at h;cases h
 ·rw [if_neg h0] at h
  by_cases h1 : -(n:Int)<=i
  ·rw [if_pos h1] at h
   have e:(i + n).toNat=j:=Option.some.inj h
   exact⟨by rw [seqIndex_neg (by omega) h1,e],by omega,h1,by omega⟩
  ·rw [if_neg h1] at h;cases h
theorem atI_get {α : Type} {xs:List α} {i:Int} {v : α} (h:atI xs i=some v):∃ j,seqIndex? i xs.length=some j/\xs[j]?=some v/\j < xs.length/\-(xs.length:Int)<=i/\i < xs.length:=by
 unfold atI at h
 cases e:ixN xs.length i with
 | none=>rw [e] at h;cases h
 | some j =>
  rw [e] at h
  obtain⟨h1,h2,h3,h4⟩:=ixN_seq e
  exact⟨j,h1,h,h2,h3,h4⟩
theorem atI_nat {α : Type} {xs:List α} {j:Nat} {v : α} (h:xs[j]?=some v):atI xs (j:Int)=some v:=by
 have hj:j < xs.length:=(List.getElem?_eq_some_iff.mp h).1
 have e:ixN xs.length (j:Int)=some j:=by
  unfold ixN
  rw [if_pos (by omega),if_pos (by omega)];simp
 unfold atI;rw [e];exact h
def PlainIx (b:Expr):Prop:=∀ o i,subscripted b false o i=operate [o,i] (getItem o i)
def IxR (X:Cx) (r:R2):Prop :=
 ∀ (value slice:Expr) (pins:List (Addr × Obj)) (s:Shared) (σ:St) (H:Hp) (x y:V) (v u:Value) (Q:VK),Inv X pins σ H s->RelV x v->RelV y u->r x y H Q →
  subscripted slice false v u=operate [v,u] (getItem v u)->wpAny (model X.prog X.w) X.A (subscriptTail value slice v u) (EP X pins σ Q) X.xe s
def MtR (X:Cx) (id:String) (r:V->List V->Hp->VK->Prop):Prop :=
 ∀ (pins:List (Addr × Obj)) (s:Shared) (σ:St) (H:Hp) (x:V) (xs:List V) (v:Value) (us:List Value) (Q:VK),Inv X pins σ H s->RelV x v->Vals xs us->r x xs H Q →
  wpAny (model X.prog X.w) X.A (call (.builtin id) (v::us)) (EP X pins σ Q) X.xe s
section
variable {X:Cx} {a b:Expr} {ta tb:TE} {pos:Pos}
theorem IxR.or {r r':R2} (h:IxR X r) (h':IxR X r'):IxR X (fun x y H Q=>r x y H Q\/r' x y H Q):=by
 intro value slice pins s σ H x y v u Q I rx ry q hs
 rcases q with q|q
 ·exact h value slice pins s σ H x y v u Q I rx ry q hs
 ·exact h' value slice pins s σ H x y v u Q I rx ry q hs
theorem MtR.or {id:String} {r r':V->List V->Hp->VK->Prop} (h:MtR X id r) (h':MtR X id r'):MtR X id (fun x xs H Q=>r x xs H Q\/r' x xs H Q):=by
 intro pins s σ H x xs v us Q I rx rs q
 rcases q with q|q
 ·exact h pins s σ H x xs v us Q I rx rs q
 ·exact h' pins s σ H x xs v us Q I rx rs q
theorem pe_ix {r:R2} (hr:IxR X r) (ha:PE X a ta) (hb:PE X b tb) (hs:PlainIx b):PE X (.Subscript a b pos) (tOp r ta tb):=by
 intro pins s σ H Q I h
 exact Subscript_ (binT ha hb I h fun v u s2 x y H2 I2 rx ry q=>hr a b pins s2 σ H2 x y v u Q I2 rx ry q (hs _ _))
def rIxL (K:Frag):R2:=fun x y H Q=>∃ p xs i v,x=.ref p/\y=.int i/\SqL K H p xs/\atI xs i=some v/\Q v H
def rIxT (K:Frag):R2:=fun x y H Q=>∃ p xs i v,x=.ref p/\y=.int i/\SqT K H p xs/\atI xs i=some v/\Q v H
def rIxS:R2:=fun x y H Q=>∃ z i c,x=.str z/\y=.int i/\z.length<=sizeLine/\atI z.cps.toList i=some c/\Q (.str ⟨#[c]⟩) H
theorem ix_list:IxR X (rIxL X.K):=by
 intro value slice pins s σ H x y v u Q I rx ry h hs
 obtain⟨p,xs,i,z,rfl,rfl,hq,he,q⟩:=h
 cases rx
 obtain⟨t,rfl⟩:=ry
 obtain⟨its,r,pl,hz⟩:=I.list hq
 obtain⟨j,h1,h2,h3,h4,h5⟩:=atI_get he
 obtain⟨w,ew,rw'⟩:=r.get h2
 have hl:=r.length
 have hn:=line63
 have fin:EP X pins σ Q w s:=⟨z,H,I,rw',q⟩
 by_cases h0 : 0<=i
 ·have hj:i.toNat=j:=by
   rw [seqIndex_of h0 h5] at h1
   exact Option.some.inj h1
  exact item_listR pl.isList h0 (by omega) (by rw [hj];simpa using ew) fin hs
 ·have hj:(i + (its.toArray.size:Int)).toNat=j:=by
   rw [seqIndex_neg (by omega) h4] at h1
   rw [List.size_toArray,← hl]
   exact Option.some.inj h1
  exact subscriptTail_builtinR (x:=w) pl.isList.typeIs slot_list_getitem.lookup
   (wpAny_getItem_list_neg (Q:=fun r s'=>r=w/\EP X pins σ Q r s') pl.isList (by omega) (by rw [List.size_toArray] <;> omega) (by omega) (by rw [hj];simpa using ew) ⟨rfl,fin⟩) hs
theorem ix_tup:IxR X (rIxT X.K):=by
 intro value slice pins s σ H x y v u Q I rx ry h hs
 obtain⟨p,xs,i,z,rfl,rfl,hq,he,q⟩:=h
 cases rx
 obtain⟨t,rfl⟩:=ry
 obtain⟨its,r,pl,hz⟩:=I.tuple hq
 obtain⟨j,h1,h2,h3,h4,h5⟩:=atI_get he
 obtain⟨w,ew,rw'⟩:=r.get h2
 have hl:=r.length
 have hn:=line63
 have fin:EP X pins σ Q w s:=⟨z,H,I,rw',q⟩
 exact subscriptTail_builtinR (x:=w) pl.typeIs slot_tuple_getitem.lookup
  (getItem_tuple (j:=j) (Q:=fun r s'=>r=w/\EP X pins σ Q r s') pl (by omega) (by omega) (by rw [List.size_toArray,← hl];exact h1) (by simpa using ew) ⟨rfl,fin⟩) hs
theorem ix_str:IxR X rIxS:=by
 intro value slice pins s σ H x y v u Q I rx ry h hs
 obtain⟨z,i,c,rfl,rfl,hz,he,q⟩:=h
 obtain⟨t,rfl⟩:=rx
 obtain⟨t',rfl⟩:=ry
 obtain⟨j,h1,h2,h3,h4,h5⟩:=atI_get he
 have hl:z.cps.toList.length=z.length:=by simp [Str.length]
 rw [hl] at h1 h4 h5
 have hn:=line63
 exact tail_any (typeIs_str s z t) slot_str_getitem.lookup (getItem_str (c:=c) (by
  have e1:decide (i < -(2 ^ 63:Int))=false:=decide_eq_false (by omega)
  have e2:decide (i ≥ 2 ^ 63)=false:=decide_eq_false (by omega)
  rw [e1,e2,Bool.or_false]) (by rw [h1];simpa using h2) ⟨.str ⟨#[c]⟩,H,I.tok _,⟨_,rfl⟩,q⟩) hs
theorem mapSeq_set (its:List Value) (n j:Nat) (u:Value):Obj.mapSeq (·.setIfInBounds j u) { cls:=.type "list",data:=.seq its.toArray n }={ cls:=.type "list",data:=.seq (its.set j u).toArray n }:=by
 simp [Obj.mapSeq]
theorem Inv.lst {pins:List (Addr × Obj)} {σ:St} {H:Hp} {s:Shared} {p:Addr} {xs:List V} (I:Inv X pins σ H s) (h:H p=some (.lst xs)) :
  ∃ (its:List Value) (n:Nat),Vals xs its/\s.heap.get? p=some { cls:=.type "list",data:=.seq its.toArray n }/\xs.length<=sizeLine:=by
 obtain⟨z,its,n,r,e⟩:=I.hok p _ h
 exact⟨its,n,r,e,z⟩
theorem Inv.lstUpd {pins:List (Addr × Obj)} {σ:St} {H:Hp} {s:Shared} {p:Addr} {xs ys:List V} {its its':List Value} {n n':Nat} {f:Obj->Obj} (I:Inv X pins σ H s) (h:H p=some (.lst xs))
  (ho:s.heap.get? p=some { cls:=.type "list",data:=.seq its.toArray n }) (hf:f { cls:=.type "list",data:=.seq its.toArray n }={ cls:=.type "list",data:=.seq its'.toArray n' }) (r:Vals ys its') (hz:ys.length<=sizeLine) (t:Nat) :
  Inv X pins σ (upd H p (.lst ys)) { s with heap:=s.heap.update p f,toks:=t }:=by
 have e:(s.heap.update p f).get? p=some { cls:=.type "list",data:=.seq its'.toArray n' }:=by
  rw [Heap.get?_update_self f ho (by rw [hf] <;> rfl),hf]
 refine I.write (x:=p) (e:=p) (by rw [h];trivial) (.inl rfl) (fun b u hb q=>(Heap.get?_update_other _ _ (Ne.symm hb)).trans q) ⟨_,e⟩ ?_
 exact⟨hz,its',n',r,e⟩
def rSetL:V->V->V->Hp->(Hp->Prop)->Prop:=fun o i v H Q=>∃ p xs k j,o=.ref p/\i=.int k/\H p=some (.lst xs)/\ixN xs.length k=some j/\Q (upd H p (.lst (xs.set j v)))
theorem set_list:PSet X rSetL:=by
 intro pins s σ H o i v ov iv u Q I ro ri rv h
 obtain⟨p,xs,k,j,rfl,rfl,hp,hj,q⟩:=h
 cases ro
 obtain⟨t,rfl⟩:=ri
 obtain⟨its,n,r,ho,hz⟩:=I.lst hp
 obtain⟨h1,h2,h3,h4⟩:=ixN_seq hj
 have hl:=r.length
 have hn:=line63
 have I':Inv X pins σ (upd H p (.lst (xs.set j v))) { s with heap:=s.heap.update p (Obj.mapSeq (·.setIfInBounds j u)) } :=
  I.lstUpd hp ho (mapSeq_set its n j u) (r.set rv j) (by rw [List.length_set];exact hz) s.toks
 by_cases h0 : 0<=k
 ·have hk:k.toNat=j:=by
   rw [seqIndex_of h0 h4] at h1
   exact Option.some.inj h1
  exact PySem.W.ki_setAt ho h0 (by omega) (by rw [List.size_toArray,← hl];exact h4) (by rw [hk];exact⟨_,I',q⟩)
 ·have hk:(k + (its.toArray.size:Int)).toNat=j:=by
   rw [seqIndex_neg (by omega) h3] at h1
   rw [List.size_toArray,← hl]
   exact Option.some.inj h1
  exact PySem.W.ki_setBack ho (by omega) (by rw [List.size_toArray,← hl];exact h3) (by omega) (by rw [hk];exact⟨_,I',q⟩)
theorem slice_bounds (lo hi:Option Int) (n:Nat):(sliceBounds lo hi none n).1=((HT.sIx n 0 lo:Nat):Int)/\(sliceBounds lo hi none n).2.1=((HT.sIx n n hi:Nat):Int)/\(sliceBounds lo hi none n).2.2=1:=by
 refine⟨?_,?_,rfl⟩
 ·cases lo with
  | none=>simp [sliceBounds,HT.sIx]
  | some i =>
   simp only [sliceBounds,HT.sIx,Option.getD_none,show (1:Int) > 0 by decide,if_true]
   by_cases h:i < 0
   ·simp only [h,if_true] <;> omega
   ·simp only [h,if_false] <;> omega
 ·cases hi with
  | none=>simp [sliceBounds,HT.sIx]
  | some i =>
   simp only [sliceBounds,HT.sIx,Option.getD_none,show (1:Int) > 0 by decide,if_true]
   by_cases h:i < 0
   ·simp only [h,if_true] <;> omega
   ·simp only [h,if_false] <;> omega
theorem slicePick_cut (its:List Value) (lo hi:Option Int):slicePick its.toArray lo hi none=((its.drop (HT.sIx its.length 0 lo)).take (HT.sIx its.length its.length hi - HT.sIx its.length 0 lo)).toArray:=by
 obtain⟨h1,h2,h3⟩:=slice_bounds lo hi its.toArray.size
 unfold slicePick
 rw [h1,h2,h3]
 simp only [sliceRange_one,pick_run,List.size_toArray] <;> rfl
def rSlL (K:Frag):V->Option Int->Option Int->Hp->VK->Prop:=fun x lo hi H Q=>∃ a xs,x=.ref a/\SqL K H a xs/\∀ p,H p=none->Q (.ref p) (upd H p (.lst (cutV xs lo hi)))
theorem sl_list:SlR X (rSlL X.K):=by
 intro pins s σ H x v vl vu lo hi sl Q I rx hs pl pu h
 obtain⟨a,xs,rfl,hx,q⟩:=h
 cases rx
 obtain⟨its,r,ht,hz⟩:=I.list hx
 have hlen:=r.length
 refine⟨"list",_,slot_list_getitem.lookup,ht.isList.typeIs,?_⟩
 refine wpAny_getItem_list_slice ht.isList hs pl pu .none (by simp) ?_ (by rw [List.size_toArray] <;> omega)
 rw [slicePick_cut,← hlen]
 refine⟨.ref s.heap.objs.size,_,I.laid (t':=s.toks) (o:=.lst (cutV xs lo hi)) (fun b ob q=>Heap.get?_push_of_some _ q) (Nat.le_refl _) ?_,rfl,q _ (I.hok.fresh (Nat.le_refl _))⟩
 exact⟨Nat.le_trans (cutV_length xs lo hi) hz,_,0,(r.drop (HT.sIx xs.length 0 lo)).take (HT.sIx xs.length xs.length hi - HT.sIx xs.length 0 lo),Heap.get?_push_size _ rfl⟩
def flatV:V->Bool
 | .non=>true
 | .bl _=>true
 | .int _=>true
 | .str _=>true
 | _=>false
def eqV:V->V->Bool
 | .non,.non=>true
 | .bl a,.bl b=>a == b
 | .bl a,.int b=>(if a then 1 else 0) == b
 | .int a,.bl b=>a == (if b then 1 else 0)
 | .int a,.int b=>a == b
 | .str a,.str b=>a == b
 | _,_=>false
theorem eqAt_V {A:Around} {s:Shared} {y x:V} {u v:Value} (ry:RelV y u) (rx:RelV x v) (fy:flatV y=true) (fx:flatV x=true):SeqAt.EqAt A s u v (eqV y x):=by
 cases y with
 | non =>
  cases ry
  cases x with
  | non=>cases rx;exact SeqAt.EqAt.same _
  | bl b=>cases rx;exact SeqAt.EqAt.none_bool b
  | int b=>obtain⟨t,rfl⟩:=rx;exact SeqAt.EqAt.none_int b t
  | str b=>obtain⟨t,rfl⟩:=rx;exact SeqAt.EqAt.none_str b t
  | _=>exact absurd (show false=true from fx) Bool.false_ne_true
 | bl a =>
  cases ry
  cases x with
  | non=>cases rx;exact SeqAt.EqAt.bool_none a
  | bl b=>cases rx;exact SeqAt.EqAt.bool_bool a b
  | int b=>obtain⟨t,rfl⟩:=rx;exact SeqAt.EqAt.bool_int a b t
  | str b=>obtain⟨t,rfl⟩:=rx;exact SeqAt.EqAt.bool_str a b t
  | _=>exact absurd (show false=true from fx) Bool.false_ne_true
 | int a =>
  obtain⟨t',rfl⟩:=ry
  cases x with
  | non=>cases rx;exact SeqAt.EqAt.int_none a t'
  | bl b=>cases rx;exact SeqAt.EqAt.int_bool a t' b
  | int b=>obtain⟨t,rfl⟩:=rx;exact SeqAt.EqAt.int_int a t' b t
  | str b=>obtain⟨t,rfl⟩:=rx;exact SeqAt.EqAt.int_str a t' b t
  | _=>exact absurd (show false=true from fx) Bool.false_ne_true
 | str a =>
  obtain⟨t',rfl⟩:=ry
  cases x with
  | non=>cases rx;exact SeqAt.EqAt.str_none a t'
  | bl b=>cases rx;exact SeqAt.EqAt.str_bool a t' b
  | int b=>obtain⟨t,rfl⟩:=rx;exact SeqAt.EqAt.str_int a t' b t
  | str b=>obtain⟨t,rfl⟩:=rx;exact SeqAt.EqAt.str_str a t' b t
  | _=>exact absurd (show false=true from fx) Bool.false_ne_true
 | _=>exact absurd (show false=true from fy) Bool.false_ne_true
def eqU (x:V) (u:Value):Bool:=match u with
 | .none=>eqV .non x
 | .bool b=>eqV (.bl b) x
 | .int i _=>eqV (.int i) x
 | .str z _=>eqV (.str z) x
 | _=>false
theorem eqU_of {x y:V} {u:Value} (r:RelV y u) (f:flatV y=true):eqU x u=eqV y x:=by
 cases y with
 | non=>cases r;rfl
 | bl b=>cases r;rfl
 | int i=>obtain⟨t,rfl⟩:=r;rfl
 | str z=>obtain⟨t,rfl⟩:=r;rfl
 | _=>exact absurd (show false=true from f) Bool.false_ne_true
theorem any_eqU {x:V} : ∀ {xs:List V} {us:List Value},Vals xs us->xs.all flatV=true->us.any (eqU x)=xs.any fun y=>eqV y x
 | _,_,.nil,_=>rfl
 | y::xs,u::us,.cons r t,f=>by
  rw [List.all_cons,Bool.and_eq_true] at f
  rw [List.any_cons,List.any_cons,eqU_of r f.1,any_eqU t f.2]
theorem mem_eqAt {A:Around} {s:Shared} {x:V} {v:Value} (rx:RelV x v) (fx:flatV x=true):∀ {xs:List V} {us:List Value},Vals xs us->xs.all flatV=true->∀ u ∈ us,SeqAt.EqAt A s u v (eqU x u)
 | _,_,.nil,_=>fun u hu=>by cases hu
 | y::xs,u::us,.cons r t,f=>fun u' hu=>by
  rw [List.all_cons,Bool.and_eq_true] at f
  rcases List.mem_cons.mp hu with rfl|hu
  ·rw [eqU_of r f.1];exact eqAt_V r rx f.1 fx
  ·exact mem_eqAt rx fx t f.2 u' hu
def inV (x:V) (xs:List V):Bool:=xs.any fun y=>eqV y x
def rIn (K:Frag) (neg:Bool):R2:=fun x y H Q=>∃ p xs,y=.ref p/\(SqL K H p xs\/SqT K H p xs)/\flatV x=true/\xs.all flatV=true/\Q (.bl (if neg then !inV x xs else inV x xs)) H
theorem op_in_seq:OpR X (compareOp .In) (rIn X.K false):=by
 intro pins s σ H x y v u Q I rx ry h
 obtain⟨p,xs,rfl,hq,fx,fs,q⟩:=h
 cases ry
 rcases hq with hq|hq
 ·obtain⟨its,r,pl,hz⟩:=I.list hq
  refine SeqAt.in_listAt (eqU x) pl.isList (fun w hw=>mem_eqAt rx fx r fs w (by simpa using hw)) ⟨.bl _,H,I,rfl,?_⟩
  rw [show its.toArray.any (eqU x)=its.any (eqU x) by simp,any_eqU r fs]
  exact q
 ·obtain⟨its,r,pl,hz⟩:=I.tuple hq
  refine SeqAt.in_tupleAt (eqU x) pl (fun w hw=>mem_eqAt rx fx r fs w (by simpa using hw)) ⟨.bl _,H,I,rfl,?_⟩
  rw [show its.toArray.any (eqU x)=its.any (eqU x) by simp,any_eqU r fs]
  exact q
theorem op_notIn_seq:OpR X (compareOp .NotIn) (rIn X.K true):=by
 intro pins s σ H x y v u Q I rx ry h
 obtain⟨p,xs,rfl,hq,fx,fs,q⟩:=h
 cases ry
 rcases hq with hq|hq
 ·obtain⟨its,r,pl,hz⟩:=I.list hq
  refine SeqAt.notIn_listAt (eqU x) pl.isList (fun w hw=>mem_eqAt rx fx r fs w (by simpa using hw)) ⟨.bl _,H,I,rfl,?_⟩
  rw [show its.toArray.any (eqU x)=its.any (eqU x) by simp,any_eqU r fs]
  exact q
 ·obtain⟨its,r,pl,hz⟩:=I.tuple hq
  refine SeqAt.notIn_tupleAt (eqU x) pl (fun w hw=>mem_eqAt rx fx r fs w (by simpa using hw)) ⟨.bl _,H,I,rfl,?_⟩
  rw [show its.toArray.any (eqU x)=its.any (eqU x) by simp,any_eqU r fs]
  exact q
theorem call_len_seq:CallR X (.builtin "len") (fun xs H Q=>∃ p ys,xs=[.ref p]/\(SqL X.K H p ys\/SqT X.K H p ys)/\Q (.int ys.length) H):=by
 intro pins s σ H xs us Q I r h
 obtain⟨p,ys,rfl,hq,q⟩:=h
 obtain⟨u,rfl,rx⟩:=vals1 r
 cases rx
 have hn:=line63
 rcases hq with hq|hq
 ·obtain⟨its,r',pl,hz⟩:=I.list hq
  have hlen:=r'.length
  exact Calls.call_len_list pl.isList (by simp only [List.size_toArray] <;> omega) ⟨.int ys.length,H,I.tok _,⟨s.toks + 1,by rw [List.size_toArray,hlen]⟩,q⟩
 ·obtain⟨its,r',pl,hz⟩:=I.tuple hq
  have hlen:=r'.length
  exact len_tuple pl (by simp only [List.size_toArray] <;> omega) ⟨.int ys.length,H,I.tok _,⟨s.toks + 1,by rw [List.size_toArray,hlen]⟩,q⟩
theorem CallR.or {f:Value} {r r':List V->Hp->VK->Prop} (h:CallR X f r) (h':CallR X f r'):CallR X f (fun xs H Q=>r xs H Q\/r' xs H Q):=by
 intro pins s σ H xs us Q I rs q
 rcases q with q|q
 ·exact h pins s σ H xs us Q I rs q
 ·exact h' pins s σ H xs us Q I rs q
theorem call_list_of:CallR X (.type "list") (fun xs H Q=>∃ p ys,xs=[.ref p]/\(SqL X.K H p ys\/SqT X.K H p ys)/\∀ l,H l=none->Q (.ref l) (upd H l (.lst ys))):=by
 intro pins s σ H xs us Q I r h
 obtain⟨p,ys,rfl,hq,q⟩:=h
 obtain⟨u,rfl,rx⟩:=vals1 r
 cases rx
 have fin:∀ (its:List Value),Vals ys its->ys.length<=sizeLine->∀ (h':Heap) (c':Nat),(∀ b o',s.heap.get? b=some o'->h'.get? b=some o') →
   h'.get? s.heap.objs.size=some { cls:=.type "list",dict:=none,data:=.seq its.toArray c',slots:=#[] }->EP X pins σ Q (.ref s.heap.objs.size) { s with heap:=h' }:=fun its r' hz h' c' kp e =>
  ⟨.ref s.heap.objs.size,_,I.laid (t':=s.toks) kp (Nat.le_refl _) (show ObjOk X.prog X.w _ h' _ (.lst ys) from⟨hz,its,c',r',e⟩),rfl,q _ (I.hok.fresh (Nat.le_refl _))⟩
 rcases hq with hq|hq
 ·obtain⟨its,r',pl,hz⟩:=I.list hq
  have hlen:=r'.length
  obtain⟨o,ho,hc,n,hd⟩:=pl.isList
  exact call_list_seq p (.inl rfl) ho hc hd (fun h' c' kp e=>fin its r' hz h' c' kp e) (by simp only [List.size_toArray] <;> omega)
 ·obtain⟨its,r',pl,hz⟩:=I.tuple hq
  have hlen:=r'.length
  obtain⟨o,ho,hc,n,hd⟩:=pl
  exact call_list_seq p (.inr rfl) ho hc hd (fun h' c' kp e=>fin its r' hz h' c' kp e) (by simp only [List.size_toArray] <;> omega)
theorem call_tuple_of:CallR X (.type "tuple") (fun xs H Q=>∃ p ys,xs=[.ref p]/\((SqL X.K H p ys/\∀ l,H l=none->Q (.ref l) (upd H l (.tup ys)))\/(SqT X.K H p ys/\Q (.ref p) H))):=by
 intro pins s σ H xs us Q I r h
 obtain⟨p,ys,rfl,h⟩:=h
 obtain⟨u,rfl,rx⟩:=vals1 r
 cases rx
 rcases h with⟨hq,q⟩|⟨hq,q⟩
 ·obtain⟨its,r',pl,hz⟩:=I.list hq
  have hlen:=r'.length
  refine call_tuple_list pl.isList (fun h' kp=>?_) (by simp only [List.size_toArray] <;> omega)
  have I1:Inv X pins σ H { s with heap:=h' }:=I.kept (t':=s.toks) kp
  have I2:Inv X pins σ (upd H h'.objs.size (.tup ys)) { s with heap:=h'.push { cls:=.type "tuple",data:=.seq its.toArray } } :=
   I1.laid (t':=s.toks) (fun b o e=>Heap.get?_push_of_some _ e) (Nat.le_refl _) (show ObjOk X.prog X.w _ _ _ (.tup ys) from⟨hz,its,r',IsTup.new _ _⟩)
  exact⟨.ref h'.objs.size,_,I2,rfl,q _ (I1.hok.fresh (Nat.le_refl _))⟩
 ·obtain⟨its,r',pl,hz⟩:=I.tuple hq
  exact call_tuple_same pl ⟨.ref p,H,I,rfl,q⟩
def tyV (K:Frag) (T:String) (x:V) (H:Hp):Prop:=match x with
 | .str _=>T = "str"
 | .int _=>T = "int"
 | .ref p=>(T = "list"/\∃ xs,SqL K H p xs)\/(T = "tuple"/\∃ o,K.lookup p=some o/\o.cls=.type "tuple"/\o.dict=none) ∨
   (T = "dict"/\((∃ kvs,H p=some (.dK kvs))\/∃ kvs,H p=some (.dT kvs)))\/(T = "set"/\∃ S n,H p=some (.set S n))
 | _=>False
theorem tyV_is {pins:List (Addr × Obj)} {σ:St} {H:Hp} {s:Shared} {T:String} {x:V} {v:Value} (I:Inv X pins σ H s) (r:RelV x v) (ty:tyV X.K T x H) :
  s.TypeIs v T/\∀ a,v=.ref a->∃ ob,s.heap.get? a=some ob/\ob.dict=none:=by
 cases x with
 | str z =>
  obtain⟨t,rfl⟩:=r
  cases (show T = "str" from ty)
  exact⟨typeIs_str s z t,fun _ e=>nomatch e⟩
 | int i =>
  obtain⟨t,rfl⟩:=r
  cases (show T = "int" from ty)
  exact⟨typeIs_int s i t,fun _ e=>nomatch e⟩
 | ref p =>
  cases r
  rcases ty with⟨rfl,xs,hq⟩|⟨rfl,o,hk,hc,hd⟩|⟨rfl,hk⟩|⟨rfl,S,n,hk⟩
  ·obtain⟨its,_,pl,_⟩:=I.list hq
   refine⟨pl.isList.typeIs,fun a e=>?_⟩
   cases e
   obtain⟨o,n,e,c,hd,_⟩:=pl
   exact⟨o,e,hd⟩
  ·refine⟨⟨o,I.kIn p o hk,hc⟩,fun a e=>?_⟩
   cases e
   exact⟨o,I.kIn _ o hk,hd⟩
  ·have z:∃ o,s.heap.get? p=some o/\o.ExactDict:=by
    rcases hk with⟨kvs,hk⟩|⟨kvs,hk⟩
    ·obtain⟨_,_,_,_,o,_,_,e,ex,_⟩:=I.hok p _ hk
     exact⟨o,e,ex⟩
    ·obtain⟨_,_,_,_,o,_,_,e,ex,_⟩:=I.hok p _ hk
     exact⟨o,e,ex⟩
   obtain⟨o,e,ex⟩:=z
   refine⟨⟨o,e,ex.1⟩,fun a e2=>?_⟩
   cases e2
   exact⟨o,e,ex.2.1⟩
  ·obtain⟨o,_,_,_,e,ex,_⟩:=I.hok p _ hk
   refine⟨⟨o,e,ex.1⟩,fun a e2=>?_⟩
   cases e2
   exact⟨o,e,ex.2.1⟩
 | _=>exact False.elim ty
def tBM (K:Frag) (T:String) (r:V->List V->Hp->VK->Prop) (to:TE) (t:TA):TE:=fun σ H Q=>to σ H fun x H1=>tyV K T x H1/\t σ H1 fun xs H2=>r x xs H2 Q
variable {o e:Expr} {es:List Expr} {to:TE} {t:TA} {name:Str} {apos cpos:Pos} {T id:String} {r:V->List V->Hp->VK->Prop}
theorem pe_bm (pa:PlainAttrs T) (slot:Slot T name id) (hty:typeOf (.builtin id)=pure (.type "method_descriptor")) (hm:MtR X id r) (ho:PE X o to) (ha:PA X (e::es) t)
  (hbase:attributeBase o name X.env (eval o X.env)=eval o X.env:=by rfl)
  (hfew:((backTo cpos (starEach (e::es) X.env)).all (fun x=>!x.1) && (backToKw cpos (keywordEach [] X.env)).all (fun x=>x.1.isSome)
   && decide ((e::es).length + ([]:List Keyword).length + (if ([]:List Keyword).isEmpty then 0 else 1) < 30))=true:=by rfl)
  (hline:(apos.endLine == cpos.line)=true:=by rfl) (hs:starEach (e::es) X.env=(false,eval e X.env)::starEach es X.env:=by rfl) (hplain:(backTo cpos (starEach es X.env)).any (·.1)=false:=by rfl) :
  PE X (.Call (.Attribute o name apos) (e::es) [] cpos) (tBM X.K T r to t):=by
 intro pins s σ H Q I h
 refine wpAny_Call_method_late hbase hfew hline rfl (thn (ho pins s σ H _ I h) fun v s1 zq=>?_)
 obtain⟨x,H1,I1,r1,ty,q1⟩:=zq
 obtain⟨h1,h2⟩:=tyV_is I1 r1 ty
 refine⟨T,id,pa,slot,hty,h1,h2,?_⟩
 have hA:=ha cpos pins s1 σ H1 _ I1 q1
 rw [hs] at hA ⊢
 refine Calls.callWith_builtin (by show (false || (backTo cpos (starEach es X.env)).any (·.1))=false;rw [hplain] <;> rfl) (Calls.evalArgs_plain ?_)
 exact thn hA fun us s2 ⟨vs,H2,I2,r2,q2⟩=>hm pins s2 σ H2 x vs v us Q I2 r1 r2 q2
end
def MtM (X:Cx) (id:String) (r:V->List V->Hp->VK->Prop):Prop :=
 ∀ (pins:List (Addr × Obj)) (s:Shared) (σ:St) (H:Hp) (x:V) (xs:List V) (v:Value) (us:List Value) (Q:VK),Inv X pins σ H s->RelV x v->Vals xs us->r x xs H Q →
  wpAny (model X.prog X.w) X.A (call (.builtin id) (v::us)) (EP X pins σ Q) X.xe s
theorem Vals.one:∀ {x:V} {us:List Value},Vals [x] us->∃ u,us=[u]/\RelV x u
 | _,_,.cons r .nil=>⟨_,rfl,r⟩
theorem Vals.two:∀ {x y:V} {us:List Value},Vals [x,y] us->∃ u v,us=[u,v]/\RelV x u/\RelV y v
 | _,_,_,.cons r (.cons q .nil)=>⟨_,_,rfl,r,q⟩
theorem Vals.zero:∀ {us:List Value},Vals [] us->us=[]
 | _,.nil=>rfl
theorem Vals.dropLast {xs:List V} {us:List Value} (h:Vals xs us):Vals xs.dropLast us.dropLast:=by
 induction h with
 | nil=>exact .nil
 | cons r t ih =>
  cases t with
  | nil=>exact .nil
  | cons q t'=>exact .cons r ih
section
variable {X:Cx} {pins:List (Addr × Obj)} {σ:St} {H:Hp} {s:Shared} {l b:Addr} {xs ys zs:List V}
theorem Inv.lset {its its':List Value} {n:Nat} {f:Array Value->Array Value} {t':Nat} (I:Inv X pins σ H s) (hH:H l=some (.lst xs))
  (e:s.heap.get? l=some { cls:=.type "list",data:=.seq its.toArray n }) (hf:f its.toArray=its'.toArray) (hv:Vals ys its') (hz:ys.length<=sizeLine) :
  Inv X pins σ (upd H l (.lst ys)) { s with heap:=s.heap.update l (Obj.mapSeq f),toks:=t' }:=by
 have q:=PySem.IsL.update e f
 rw [hf] at q
 refine I.write (x:=l) (e:=l) (by rw [hH];exact trivial) (.inl rfl) (fun b' u hb hu=>(Heap.get?_update_other s.heap (Obj.mapSeq f) (Ne.symm hb)).trans hu) ⟨_,q⟩ ?_
 exact⟨hz,its',_,hv,q⟩
theorem Inv.lnew {its:List Value} {t':Nat} (I:Inv X pins σ H s) (hv:Vals ys its) (hz:ys.length<=sizeLine) :
  Inv X pins σ (upd H s.heap.objs.size (.lst ys)) { s with heap:=s.heap.push { cls:=.type "list",data:=.seq its.toArray },toks:=t' } :=
 I.laid (fun _ _ q=>Heap.get?_push_of_some _ q) (Nat.le_refl _) ⟨hz,its,0,hv,Heap.get?_push_size _ rfl⟩
theorem Inv.fresh (I:Inv X pins σ H s):H s.heap.objs.size=none:=I.hok.fresh (Nat.le_refl _)
theorem Inv.lstM (I:Inv X pins σ H s) (hH:H l=some (.lst xs)):xs.length<=sizeLine/\∃ (its:List Value) (n:Nat),Vals xs its/\xs.length=its.length/\s.heap.get? l=some { cls:=.type "list",data:=.seq its.toArray n }:=by
 obtain⟨z,its,n,r,e⟩:=I.hok l _ hH
 exact⟨z,its,n,r,r.length,e⟩
theorem notLongL {n:Nat} (h:n<=sizeLine):Builtin.List.listTooLong n=false:=by
 unfold Builtin.List.listTooLong
 exact decide_eq_false (by omega)
end
section
variable {X:Cx}
def rAppend:V->List V->Hp->VK->Prop:=fun x vs H Q=>∃ l xs y,x=.ref l/\vs=[y]/\H l=some (.lst xs)/\xs.length < sizeLine/\Q .non (upd H l (.lst (xs++[y])))
theorem mt_append:MtM X "list.append" rAppend:=by
 intro pins s σ H x vs v us Q I rx rv h
 obtain⟨l,xs,y,rfl,rfl,hH,hz,q⟩:=h
 cases rx
 obtain⟨u,rfl,ru⟩:=rv.one
 obtain⟨z,its,n,r,hl,e⟩:=I.lstM hH
 refine call_meets F.slot_list_append ⟨_,e,rfl⟩ F.entry_list_append (F.args_list_append_2 _ _) (PySem.list_append l its.toArray n u (by rw [List.size_toArray];omega)) ⟨e,?_⟩
 refine⟨.non,_,I.lset (its':=its++[u]) hH e (by simp) (r.append (.cons ru .nil)) ?_,rfl,q⟩
 rw [List.length_append,List.length_singleton]
 omega
def rExtend:V->List V->Hp->VK->Prop:=fun x vs H Q=>∃ l b xs zs,x=.ref l/\vs=[.ref b]/\H l=some (.lst xs)/\H b=some (.lst zs)/\xs.length + zs.length<=sizeLine/\Q .non (upd H l (.lst (xs++zs)))
theorem mt_extend:MtM X "list.extend" rExtend:=by
 intro pins s σ H x vs v us Q I rx rv h
 obtain⟨l,b,xs,zs,rfl,rfl,hH,hB,hz,q⟩:=h
 cases rx
 obtain⟨u,rfl,ru⟩:=rv.one
 cases ru
 obtain⟨z,its,n,r,hl,e⟩:=I.lstM hH
 obtain⟨z2,its2,n2,r2,hl2,e2⟩:=I.lstM hB
 have hsz:its.toArray.size + its2.toArray.size<=sizeLine:=by rw [List.size_toArray,List.size_toArray];omega
 have hlong:¬ (!its.toArray.isEmpty && Builtin.List.listTooLong (its.toArray.size + its2.toArray.size))=true:=by
  rw [notLongL hsz,Bool.and_false]
  exact Bool.false_ne_true
 refine call_meets F.slot_list_extend ⟨_,e,rfl⟩ F.entry_list_extend (F.args_list_extend_2 _ _)
  (AutoSeq1.list_extend_list_list_0 l its.toArray n b its2.toArray n2 hlong (by rw [List.size_toArray];omega) (by omega)) ⟨e,e2,?_⟩
 refine⟨.non,_,I.lset (its':=its++its2) hH e (by simp) (r.append r2) ?_,rfl,q⟩
 rw [List.length_append]
 omega
end
end L2
namespace Att
open PySem PySem.W PySem.Calls PyProof.Rows
theorem ints_of_wellAll {P:Params} {h:Heap} : ∀ (ns:List Int) (vs:List Value),WellAll P h vs (ns.map WData.int)->IntsAre vs ns:=by
 intro ns
 induction ns with
 | nil =>
  intro vs w
  rw [List.map_nil] at w
  cases w
  exact .nil
 | cons n ns ih =>
  intro vs w
  rw [List.map_cons] at w
  cases w with
  | cons a b =>
   cases a
   exact .cons _ _ (ih _ b)
theorem script_of {l:OpenLaw} {n:Nat} (hn:l.most=some n) {P:Params} {h:Heap} {args:List WData} {vals:List Value}
  (hpre:l.row.toRowW.claim.pre args=true) (hwl:WellAll P h vals args) :
  ∃ a vs ns,vals=[Value.ref a]/\args=[WData.list (ns.map WData.int)]/\h.get? a=some { cls:=.type "list",data:=.seq vs.toArray }/\IntsAre vs ns/\ns.length<=n:=by
 have hsh:WShape.hasAll [] args [.list .int]=true:=(pre_splitW hpre).1
 have hc:l.pre.holds [] { args:=args }=true:=(pre_splitW hpre).2
 obtain⟨d,r,rfl,h1,h2⟩:=hasAllW_cons hsh
 obtain rfl:=hasAllW_nil h2
 obtain⟨xs,rfl,h3⟩:=hasW_list h1
 obtain⟨ns,rfl⟩:=items_int h3
 have hlen:ns.length<=n:=by
  unfold OpenLaw.pre at hc
  have h4:(WTm.not (.lt (.lit (.int (n:Int))) (.len (.arg 0)))).holds [] { args:=[.list (ns.map .int)] }=true:=by
   have h4:=(holds_andW hc).1
   rw [hn] at h4
   exact h4
  have h5:=condW_of h4 (w_not (w_lt w_lit (w_len_list (w_arg rfl))))
  rw [List.length_map] at h5
  refine Nat.le_of_not_lt fun q=>?_
  have q':(n:Int) < ((ns.length:Nat):Int):=by omega
  first
   | (rw [decide_eq_true q'] at h5;exact absurd h5 (by decide))
   | (simp at h5;omega)
 cases hwl with
 | cons w1 w2 =>
  cases w2
  cases w1 with
  | list ho hall=>exact⟨_,_,ns,rfl,rfl,ho,ints_of_wellAll ns _ hall,hlen⟩
theorem post_true (l:OpenLaw) (args:List WData):l.row.toRowW.claim.post args (.bool true) args=true :=
 postW_of (r:=l.row.toRowW) (X:=(true == true))
  (show WShape.has [] (.bool true) .bool=true by first|rfl|decide|simp [WShape.has,WShape.arms,WShape.armsAll])
  (show (WTm.eq .res (.lit (.bool true))).value [] { args:=args,res:=some (.bool true),after:=args }=some (.bool (true == true)) from w_eq_bool (w_res rfl) w_lit) rfl
theorem attach_call {l:OpenLaw} {n:Nat} {q:Program} {loose:List Str} {XP:(Str->Option Value)->Heap->Prop} {YP:World->Heap->Prop} {d:DefRec}
  (hn:l.most=some n) (hdf:d.params.defaults=[])
  (call:∀ (w:World) (s₀ s₁ : Shared) (mg mb:Str->Option Value) (fa:Addr) (o:Obj) (pm cd doc:Value) (a:Addr) (vs:List Value) (ns:List Int),
   Ground q loose [] XP w s₀ mg mb s₁.heap->YP w s₁.heap →
   s₁.heap.get? fa=some o->o.data=.func (docDef d.name d.params d.body d.scope pm cd doc)->s₁.heap.CodeRec cd d.name->mg d.name=some (.ref fa) →
   s₁.heap.get? a=some { cls:=.type "list",data:=.seq vs.toArray }->IntsAre vs ns->ns.length<=n->s₁.gens = #[] →
   codeAny (model l.prog w) callerA (.call (.ref fa) ⟨[.ref a],[]⟩) (fun r s'=>r=.ok (.ret (.bool true))/\OldK s₁.heap s'.heap/\s'.os=s₁.os/\AllBare s'.gens) s₁) :
  WalkO q loose XP YP l.row.toRowW d [] (fun f vs=>PySem.call f vs):=by
 intro w s₀ s₁ mg mb G Y fa o pm cd doc dV kV ho hd hcd hD hmg hg args vals as hpre hlay hrd hwl hlo
 obtain rfl:dV=.none:=Dflts.none hD hdf
 obtain rfl:kV=.none:=Dflts.noKw hD
 obtain⟨a,vs,ns,rfl,rfl,hobj,hints,hlen⟩:=script_of hn hpre hwl
 refine enter_call (codeAny_mono (call w s₀ s₁ mg mb fa o pm cd doc a vs ns G Y ho (fd_plain hd) hcd hmg hobj hints hlen hg) fun r s' hq=>?_)
 obtain⟨rfl,h2,h3,h4⟩:=hq
 exact⟨.inl ⟨.bool true,.bool true,[],rfl,fun _=>rfl,.bool true,post_true l _,fun _=>⟨List.Pairwise.nil,fun _ hm=>(nomatch hm)⟩⟩,h2,h3,h4⟩
section
variable {prog:Program} {w:World} {A:Around} {E:Value->Shared->Prop} {s:Shared} {K:Frag}
end
end Att
namespace L2
open PySem PySem.Spec PyProof.Rows
theorem vals_ints:∀ {vs:List Value} {ns:List Int},IntsAre vs ns->Vals (ns.map V.int) vs
 | _,_,.nil=>.nil
 | _,_,.cons n t h=>.cons ⟨t,rfl⟩ (vals_ints h)
def Only (H:Hp):Prop:=∀ b,H b=none\/∃ o xs,H b=some (.frz o (.lst xs))
theorem law_call {P:Program} {w:World} {K:Frag} {mg mb:Str->Option Value} {CX:CXT} {k:Nat} {fa a:Addr} {fd:FuncData} {x:Str} {sp:Sp} {s₁ : Shared} {vs:List Value} {ns:List Int}
  (KX:K.In s₁.heap) (hns:s₁.heap.Ns mainGlobals mg) (hb:s₁.heap.Ns builtinsNs mb) (hbb:∀ x:Str,x ≠ "__name__"->mb x=bootBuiltins x) (hlim:s₁.heap.NoLimit) (hg:s₁.gens = #[])
  (ha:s₁.heap.get? a=some { cls:=.type "list",data:=.seq vs.toArray }) (hi:IntsAre vs ns) (hl:ns.length<=sizeLine) (hr:Room k callerA)
  (F:∀ base:Heap,K.In base->base.Ns mainGlobals mg->FnOk P w K mg base CX k fa fd [x] sp) (hbind:∀ (s:Shared) (u:Value),BindsTo s fd ⟨[u],[]⟩ [(x,u)])
  (hsp:∀ H:Hp,Only H->SqL K H a (ns.map V.int)->sp [.ref a] H (fun v _=>v=.bl true) fun _ _ _=>False)
  (hCX:∀ H e s',CX [] H s₁ (fun _ _ _=>False) e s'->False) :
  codeAny (model P w) callerA (.call (.ref fa) ⟨[.ref a],[]⟩) (fun r s'=>r=.ok (.ret (.bool true))/\OldK s₁.heap s'.heap/\s'.os=s₁.os/\AllBare s'.gens) s₁:=by
 have rv:=vals_ints hi
 have lenV:=hi.length
 have core:∀ H:Hp,Only H->SqL K H a (ns.map V.int)->HOk P w H s₁.heap->(∀ b,H b ≠ none->b=a)->(H a ≠ none->K.lookup a=none) →
   codeAny (model P w) callerA (.call (.ref fa) ⟨[.ref a],[]⟩) (fun r s'=>r=.ok (.ret (.bool true))/\OldK s₁.heap s'.heap/\s'.os=s₁.os/\AllBare s'.gens) s₁:=by
  intro H hO hS hok hA hK
  have base_of:∀ {b:Addr} {o:Obj},s₁.heap.get? b=some o->H b=none->(hidT s₁.heap H).get? b=some o:=fun e n=>hidT_get e n
  have noA:∀ {b:Addr} {o:Obj} {es:Array DictEntry} {ep:Nat},s₁.heap.get? b=some o->o.data=.dict es ep->H b=none:=fun {b o es ep} e d=>by
   cases q:H b with
   | none=>rfl
   | some u =>
    have e':b=a:=hA b (by rw [q];simp)
    subst e'
    rw [ha] at e;cases e
    have d':Data.seq vs.toArray _=Data.dict es ep:=d
    cases d'
  have nsK:∀ {b:Addr} {m:Str->Option Value},s₁.heap.Ns b m->(hidT s₁.heap H).Ns b m:=fun {b m} ⟨o,es,ep,e,d,r⟩=>⟨o,es,ep,base_of e (noA e d),d,r⟩
  have hKb:K.In (hidT s₁.heap H):=fun b o e=>base_of (KX b o e) (by
   cases q:H b with
   | none=>rfl
   | some u =>
    have e':b=a:=hA b (by rw [q];simp)
    subst e'
    rw [hK (by rw [q];simp)] at e;cases e)
  have hM:Mod K mg (hidT s₁.heap H):=⟨hKb,nsK hns,⟨mb,nsK hb,hbb⟩,let ⟨mc,h1,h2⟩:=hlim; ⟨mc,nsK h1,h2⟩⟩
  have e0:Env0 P w K mg (hidT s₁.heap H) callerA [] s₁ H:=⟨rfl,hM,fun b o e=>of_hidT e,Nat.le_of_eq (hidT_size _ _),trivial,fun b hb=>absurd (show b ∈ ([]:List Addr) from hb) (by simp),hok,.of_eq hg⟩
  refine codeAny_mono ((F _ hKb (nsK hns)).run callerA [] s₁ H ⟨[.ref a],[]⟩ [.ref a] [.ref a] _ _ hr e0 (hbind s₁ (.ref a)) (.cons rfl .nil) (hsp H hO hS)) fun r s' h=>?_
  cases r with
  | error e=>exact (hCX H e s' h).elim
  | ok fl =>
   cases fl with
   | next=>exact False.elim h
   | brk=>exact False.elim h
   | cont=>exact False.elim h
   | ret u =>
    obtain⟨v,H',os,bare,un,hok',r',q⟩:=h
    have q':v=.bl true:=q
    subst q'
    obtain rfl:u=Value.bool true:=r'
    refine⟨rfl,OldK.of_keep fun b o e=>?_,os,bare⟩
    cases q:H b with
    | none=>exact un.keep b o e q (by intro z;exact absurd (show b ∈ ([]:List Addr) from z) (by simp)) (by simp)
    | some u =>
     rcases hO b with z|⟨ob,xs,z⟩
     ·rw [q] at z;cases z
     ·have z2:=un.frzs b ob _ z
      obtain⟨e1,_⟩:=hok b _ z
      obtain⟨e2,_⟩:=hok' b _ z2
      rw [e] at e1;cases e1
      exact e2
 cases hk:K.lookup a with
 | some o =>
  have e:=KX a o hk
  rw [ha] at e
  cases e
  refine core (fun _=>none) (fun _=>.inl rfl) (.inr ⟨_,vs.toArray,_,hk,rfl,rfl,rfl,by rw [List.size_toArray,lenV];exact hl,by simpa using rv⟩) (fun b u z=>by have z':(none:Option HO)=some u:=z;cases z') (fun b z=>absurd rfl z) fun z=>absurd rfl z
 | none =>
  refine core (fun b=>if b=a then some (.frz { cls:=.type "list",data:=.seq vs.toArray } (.lst (ns.map V.int))) else none) (fun b=>?_) (.inl (.inr ⟨{ cls:=.type "list",data:=.seq vs.toArray },if_pos rfl⟩)) (fun b u z=>?_) (fun b z=>?_) fun _=>hk
  ·by_cases hb:b=a
   ·exact .inr ⟨_,_,if_pos hb⟩
   ·exact .inl (if_neg hb)
  ·by_cases hb:b=a
   ·have z':=(if_pos hb).symm.trans z
    cases z'
    subst hb
    exact⟨ha,by rw [List.length_map];exact hl,vs,_,rv,ha⟩
   ·have z':=(if_neg hb).symm.trans z
    cases z'
  ·by_cases hb:b=a
   ·exact hb
   ·exact absurd (if_neg hb) z
theorem walk_of {l:PySem.W.OpenLaw} {n k:Nat} {q:Program} {loose:List Str} {XP:(Str->Option Value)->Heap->Prop} {YP:World->Heap->Prop} {d:DefRec} {K:Params->Frag} {CX:World->CXT} {sp:World->Sp} {x:Str}
  (hn:l.most=some n) (hn2:n<=sizeLine) (hdf:d.params.defaults=[]) (hr:Room k callerA)
  (hY:∀ (w:World) (h:Heap),YP w h->(K w.params).In h)
  (F:∀ (w:World) (mg:Str->Option Value) (fa:Addr) (h:Heap),(K w.params).In h->h.Ns mainGlobals mg->mg d.name=some (.ref fa) →
   ∃ fd:FuncData,(∀ (s:Shared) (u:Value),BindsTo s fd ⟨[u],[]⟩ [(x,u)]) ∧
    ∀ base:Heap,(K w.params).In base->base.Ns mainGlobals mg->FnOk l.prog w (K w.params) mg base (CX w) k fa fd [x] (sp w))
  (hsp:∀ (w:World) (H:Hp) (a:Addr) (ns:List Int),ns.length<=n->Only H->SqL (K w.params) H a (ns.map V.int)->sp w [.ref a] H (fun v _=>v=.bl true) fun _ _ _=>False)
  (hCX:∀ (w:World) (H:Hp) (s:Shared) (e:Value) (s':Shared),CX w [] H s (fun _ _ _=>False) e s'->False) :
  PySem.W.WalkO q loose XP YP l.row.toRowW d [] (fun f vs=>PySem.call f vs):=by
 refine Att.attach_call hn hdf fun w s₀ s₁ mg mb fa o pm cd doc a vs ns G Y ho hd hcd hmg hobj hints hlen hg=>?_
 have KX:=hY w _ Y
 obtain⟨fd,hb,hF⟩:=F w mg fa _ KX G.T.g hmg
 exact law_call KX G.T.g G.T.b G.T.builtins G.T.nolimit hg hobj hints (Nat.le_trans hlen hn2) hr hF hb (fun H hO hS=>hsp w H a ns hlen hO hS) fun H e s'=>hCX w H s₁ e s'
def inClass (s:Stmt) (j:Nat):Stmt:=match s with
 | .ClassDef _ _ _ body _ _ _ _ _ _ _=>body.getD j (.Pass ⟨0,0,0,0⟩)
 | _=>.Pass ⟨0,0,0,0⟩
def defArgs (s:Stmt):Arguments:=match s with
 | .FunctionDef _ a _ _ _ _ _ _ _ _=>a
 | _=>{ posonlyargs:=[],args:=[],vararg:=none,kwonlyargs:=[],kw_defaults:=[],kwarg:=none,defaults:=[] }
def defBody (s:Stmt):List Stmt:=match s with
 | .FunctionDef _ _ b _ _ _ _ _ _ _=>b
 | _=>[]
def defScope (s:Stmt):Scope:=match s with
 | .FunctionDef _ _ _ _ _ _ sc _ _ _=>sc
 | _=>{ kind:=.function,names:=[],isGenerator:=false,isCoroutine:=false }
abbrev CX0:CXT:=fun _ _ _ _ _ _=>False
abbrev E0:XK:=fun _ _ _=>False
theorem pass0 {X:Cx} : Passes CX0 X E0:=fun _ _ _ _ _ _ _ h=>h.elim
structure Fun (K:Frag) (x qual:Str) (st:Stmt) (f:Addr) (fd:FuncData):Prop where
 ex:∃ (oc:Value) (od:Option Addr) (kV doc pm:Value) (an:Option Addr) (cdv ct:Value) (osl:Array (Option Value)),
  fd=fnOf x qual (defArgs st) (defBody st) (defScope st) .none kV doc pm an cdv ct/\K.lookup f=some ⟨oc,od,.func fd,osl⟩/\codeIn K cdv qual=true
 kp:keepIn K (.ref f)=true
section
variable {P:Program} {w:World} {K:Frag} {mg:Str->Option Value} {base:Heap}
theorem Fun.ok {x qual:Str} {st:Stmt} {f:Addr} {fd:FuncData} {N ps:List Str} {k:Nat} {sp:Sp} (F:Fun K x qual st f fd) (S:FnScope N ps (defScope st)) (len:∀ vs H Q E,sp vs H Q E->vs.length=ps.length)
  (hbody:∀ (cdv:Value) (A:Around) (outer:List Env) (s:Shared) (H:Hp) (vs:List V) (Q:VK) (E:XK),Room k (A.deeper (envOfC qual (defScope st) s.heap.objs.size f cdv))->sp vs H Q E →
   ∃ t,PSs (cxOf CX0 P w K mg base N qual (defScope st) f cdv A outer s H E).nox (defBody st) t/\t { nx:=fun _ H'=>Q .non H',rt:=Q } (start N vs) H):FnOk P w K mg base CX0 (k + 1) f fd ps sp:=by
 obtain⟨oc,od,kV,doc,pm,an,cdv,ct,osl,rfl,lk,hcd⟩:=F.ex
 refine fn_of lk hcd S len fun A outer s H vs Q E hr hsp=>?_
 obtain⟨t,h,q⟩:=hbody cdv A outer s H vs Q E hr hsp
 exact⟨t,h.nox,q⟩
theorem Fun.binds {x qual:Str} {st:Stmt} {f:Addr} {fd:FuncData} {ps:List Str} (F:Fun K x qual st f fd)
  (h:∀ (kV doc pm:Value) (an:Option Addr) (cdv ct:Value) (us:List Value),us.length=ps.length->bindArgs (fnOf x qual (defArgs st) (defBody st) (defScope st) .none kV doc pm an cdv ct) ⟨us,[]⟩=pure (ps.zip us)):Binds K fd ps []:=by
 obtain⟨oc,od,kV,doc,pm,an,cdv,ct,osl,rfl,lk,hcd⟩:=F.ex
 exact .all (h kV doc pm an cdv ct)
theorem fun_mk {x qual:Str} {st:Stmt} {f:Addr} {oc:Value} {od an:Option Addr} {osl:Array (Option Value)} {kV doc pm cdv ct:Value} (l:K.lookup f=some ⟨oc,od,.func (fnOf x qual (defArgs st) (defBody st) (defScope st) .none kV doc pm an cdv ct),osl⟩)
  (c:codeIn K cdv qual=true) (k:keepIn K (.ref f)=true):Fun K x qual st f (fnOf x qual (defArgs st) (defBody st) (defScope st) .none kV doc pm an cdv ct):=⟨⟨oc,od,kV,doc,pm,an,cdv,ct,osl,rfl,l,c⟩,k⟩
end
theorem small1000 {n:Nat} (h:n<=1000):n < sizeLine:=Nat.lt_of_le_of_lt h (by decide)
section
variable {X:Cx}
theorem pv (i:Nat) {x:Str} {pos:Pos} (hN:X.N[i]?=some x:=by rfl) (hv:Vis X.env.scope x:=by first|exact Or.inl rfl|exact Or.inr (Or.inl rfl)|exact Or.inr (Or.inr rfl)) (hd:(x == ("__debug__" : Str))=false:=by decide)
  (hcd:(x == ("__classdict__" : Str))=false:=by decide):PE X (.Name x pos) (tVar i):=pe_var hN hv hd hcd
end
theorem iteF {A B:Prop} (h:B):if false=true then A else B:=by
 rw [if_neg Bool.false_ne_true]
 exact h
theorem iteT {A B:Prop} (h:A):if true=true then A else B:=by
 rw [if_pos rfl]
 exact h
theorem ite2 {c A B:Prop} [Decidable c] (h1:c->A) (h2:¬ c->B):if c then A else B:=by
 by_cases h:c
 ·rw [if_pos h]
  exact h1 h
 ·rw [if_neg h]
  exact h2 h
def Same (H H':Hp):Prop:=∀ b o,H b=some o->H' b=some o
theorem Same.refl (H:Hp):Same H H:=fun _ _ h=>h
theorem Same.trans {H H1 H2:Hp} (a:Same H H1) (b:Same H1 H2):Same H H2:=fun c o h=>b c o (a c o h)
theorem Same.free {H H':Hp} (e:Same H H') {l:Addr} (h:H' l=Option.none):H l=Option.none:=by
 cases q:H l with
 | none=>rfl
 | some o =>
  rw [e l o q] at h
  cases h
theorem Same.seq {K:Frag} {H H':Hp} {a:Addr} {xs:List V} (e:Same H H') (h:SqL K H a xs):SqL K H' a xs:=by
 rcases h with (h|⟨o,h⟩)|h
 ·exact .inl (.inl (e _ _ h))
 ·exact .inl (.inr ⟨o,e _ _ h⟩)
 ·exact .inr h
end L2
set_option maxHeartbeats 4000000
namespace L2
open PySem PySem.Spec PyProof.Rows
theorem Vals.getR:∀ {xs:List V} {us:List Value} {i:Nat} {u:Value},Vals xs us->us[i]?=some u->∃ x,xs[i]?=some x/\RelV x u
 | _,_,_,_,.nil,e=>by simp at e
 | _,_,0,_,.cons r _,e=>by simp at e;subst e;exact⟨_,rfl,r⟩
 | _,_,i + 1,u,.cons _ t,e=>by
  obtain⟨x,h1,h2⟩:=Vals.getR (i:=i) (u:=u) t (by simpa using e)
  exact⟨x,by simpa using h1,h2⟩
def isa (t T:String):Bool:=t == T || (t == "bool" && T == "int")
def tyN (K:Frag) (x:V) (H:Hp) (t:String):Prop :=
 match x with
 | .non=>t = "NoneType"
 | .bl _=>t = "bool"
 | .int _=>t = "int"
 | .str _=>t = "str"
 | .ref p=>(t = "list"/\∃ xs,SqL K H p xs)\/(t = "tuple"/\∃ xs,SqT K H p xs)
 | _=>False
def isiTs:List String:=["int","bool","str","list","tuple","dict"]
section
variable {X:Cx}
theorem call_isi:CallR X (.builtin "isinstance") (fun xs H Q=>∃ x T t,xs=[x,.ty T]/\T ∈ isiTs/\tyN X.K x H t/\Q (.bl (isa t T)) H):=by
 intro pins s σ H xs us Q I r h
 obtain⟨x,T,t,rfl,hT,ht,q⟩:=h
 obtain⟨u,w',rfl,rx,rT⟩:=vals2 r
 cases rT
 have hT':T = "int" ∨ T = "bool" ∨ T = "str" ∨ T = "list" ∨ T = "tuple" ∨ T = "dict":=by simpa [isiTs] using hT
 have fin:∀ {k:Bool} {s':Shared},isa t T=k->Inv X pins σ H s'->EP X pins σ Q (.bool k) s':=fun {k s'} e I'=>by subst e;exact⟨.bl _,H,I',rfl,q⟩
 cases x with
 | non =>
  cases rx
  have ht':t = "NoneType":=ht
  subst ht'
  rcases hT' with rfl|rfl|rfl|rfl|rfl|rfl
  ·exact IsiPair.NoneType_int (fin (by decide) (I.tok _))
  ·exact IsiPair.NoneType_bool (fin (by decide) (I.tok _))
  ·exact IsiPair.NoneType_str (fin (by decide) (I.tok _))
  ·exact IsiPair.NoneType_list (fin (by decide) (I.tok _))
  ·exact IsiPair.NoneType_tuple (fin (by decide) (I.tok _))
  ·exact IsiPair.NoneType_dict (fin (by decide) (I.tok _))
 | bl b =>
  cases rx
  have ht':t = "bool":=ht
  subst ht'
  rcases hT' with rfl|rfl|rfl|rfl|rfl|rfl
  ·exact IsiPair.bool_int (fin (by decide) I)
  ·exact IsiPair.bool_bool (fin (by decide) I)
  ·exact IsiPair.bool_str (fin (by decide) (I.tok _))
  ·exact IsiPair.bool_list (fin (by decide) (I.tok _))
  ·exact IsiPair.bool_tuple (fin (by decide) (I.tok _))
  ·exact IsiPair.bool_dict (fin (by decide) (I.tok _))
 | int i =>
  obtain⟨tk,rfl⟩:=rx
  have ht':t = "int":=ht
  subst ht'
  rcases hT' with rfl|rfl|rfl|rfl|rfl|rfl
  ·exact IsiPair.int_int (fin (by decide) I)
  ·exact IsiPair.int_bool (fin (by decide) (I.tok _))
  ·exact IsiPair.int_str (fin (by decide) (I.tok _))
  ·exact IsiPair.int_list (fin (by decide) (I.tok _))
  ·exact IsiPair.int_tuple (fin (by decide) (I.tok _))
  ·exact IsiPair.int_dict (fin (by decide) (I.tok _))
 | str y =>
  obtain⟨tk,rfl⟩:=rx
  have ht':t = "str":=ht
  subst ht'
  rcases hT' with rfl|rfl|rfl|rfl|rfl|rfl
  ·exact IsiPair.str_int (fin (by decide) (I.tok _))
  ·exact IsiPair.str_bool (fin (by decide) (I.tok _))
  ·exact IsiPair.str_str (fin (by decide) I)
  ·exact IsiPair.str_list (fin (by decide) (I.tok _))
  ·exact IsiPair.str_tuple (fin (by decide) (I.tok _))
  ·exact IsiPair.str_dict (fin (by decide) (I.tok _))
 | ref p =>
  cases rx
  have ht':(t = "list"/\∃ xs,SqL X.K H p xs)\/(t = "tuple"/\∃ xs,SqT X.K H p xs):=ht
  rcases ht' with⟨rfl,ys,hy⟩|⟨rfl,ys,hy⟩
  ·obtain⟨its,rv,⟨o,n,e,hc,_,_⟩,hz⟩:=I.list hy
   rcases hT' with rfl|rfl|rfl|rfl|rfl|rfl
   ·exact IsiPair.list_int e hc (fin (by decide) (I.tok _))
   ·exact IsiPair.list_bool e hc (fin (by decide) (I.tok _))
   ·exact IsiPair.list_str e hc (fin (by decide) (I.tok _))
   ·exact IsiPair.list_list e hc (fin (by decide) I)
   ·exact IsiPair.list_tuple e hc (fin (by decide) (I.tok _))
   ·exact IsiPair.list_dict e hc (fin (by decide) (I.tok _))
  ·obtain⟨its,rv,⟨o,e,hc,n,_⟩,hz⟩:=I.tuple hy
   rcases hT' with rfl|rfl|rfl|rfl|rfl|rfl
   ·exact IsiPair.tuple_int e hc (fin (by decide) (I.tok _))
   ·exact IsiPair.tuple_bool e hc (fin (by decide) (I.tok _))
   ·exact IsiPair.tuple_str e hc (fin (by decide) (I.tok _))
   ·exact IsiPair.tuple_list e hc (fin (by decide) (I.tok _))
   ·exact IsiPair.tuple_tuple e hc (fin (by decide) I)
   ·exact IsiPair.tuple_dict e hc (fin (by decide) (I.tok _))
 | _=>exact (show False from ht).elim
end
section
variable {X:Cx} {pos:Pos}
theorem range_all_bools (bs:List Bool):(List.range bs.length).all (fun i=>bs.getD i false)=bs.all id:=by
 rw [Bool.eq_iff_iff]
 simp only [List.all_eq_true,List.mem_range,id]
 constructor
 ·intro h x hx
  obtain⟨i,hi,rfl⟩:=List.mem_iff_getElem.mp hx
  have:=h i hi
  simpa [List.getD_eq_getElem?_getD,List.getElem?_eq_getElem hi] using this
 ·intro h i hi
  have:=h bs[i] (List.getElem_mem hi)
  simpa [List.getD_eq_getElem?_getD,List.getElem?_eq_getElem hi] using this
theorem call_all (hc:X.calm=true):CallR X (.builtin "all") (fun xs H Q=>∃ (a:Addr) (bs:List Bool),xs=[.ref a]/\SqL X.K H a (bs.map V.bl)/\Q (.bl (bs.all id)) H):=by
 intro pins s σ H xs us Q I r h
 obtain⟨a,bs,rfl,ha,q⟩:=h
 obtain⟨u,rfl,rx⟩:=vals1 r
 cases rx
 obtain⟨its,rv,pl,hz⟩:=I.list ha
 have hlen:bs.length=its.length:=by have:=rv.length;simpa using this
 have hlt:a ≠ s.heap.objs.size:=by obtain⟨o,n,ho,_⟩:=pl;exact Nat.ne_of_lt (Heap.lt_size ho)
 refine call_all_walk (wpAny_pyIter_list pl.isList ?_)
 refine⟨s.heap.objs.size,_,_,_,_,_,fun i=>bs.getD i false,rfl,Walks.list (show X.A.in1.handled=none from I.ok.hd hc) _ a hlt its.toArray,⟨⟨_,Heap.get?_push_size _ rfl,rfl,rfl⟩,pl.isList.push _⟩,?_,fun h' tk hk=>?_⟩
 ·intro i v s' Q' E' hP hQ
  have hv:its[i]?=some v:=by simpa using hP
  obtain⟨x,hx,rxv⟩:=rv.getR hv
  rw [List.getElem?_map] at hx
  cases hb:bs[i]? with
  | none=>rw [hb] at hx;cases hx
  | some b =>
   rw [hb] at hx
   cases hx
   cases rxv
   have e:bs.getD i false=b:=by simp [List.getD_eq_getElem?_getD,hb]
   have hQ':Q' (bs.getD i false) s':=hQ
   rw [e] at hQ'
   exact wpAny_truthy_bool hQ'
 ·refine⟨.bl (bs.all id),H,I.kept fun b o e=>hk b o (by simp;exact Nat.ne_of_lt (Heap.lt_size e)) (Heap.get?_push_of_some _ e),?_,q⟩
  show Value.bool _=Value.bool _
  rw [← range_all_bools bs,hlen]
  simp
end
abbrev Cx.comp (X:Cx) (scope:Scope) (cl:List (Str × Addr)) (N:List Str) (s:Shared) (H:Hp) (fp:List Addr) (C:Addr):Cx where
 prog:=X.prog
 w:=X.w
 K:=X.K
 mg:=X.mg
 base:=X.base
 A:=X.A
 N:=N
 s₀:=s
 H₀:=H
 env:=compEnvC scope cl C X.env
 outer:=X.stack
 stack:=X.stack
 ex:=fp
 fn:=fun _=>false
 calm:=X.calm
 pn:=[]
 xe:=fun _ _=>False
def subCl (env:Env):List (Str × Addr)->Prop
 | []=>True
 | p::r=>env.cells.lookup p.1=some p.2/\subCl env r
theorem subCl.all {env:Env} : ∀ {cl:List (Str × Addr)},subCl env cl->∀ p ∈ cl,env.cells.lookup p.1=some p.2
 | [],_,p,hp=>by simp at hp
 | _::_,h,p,hp=>(List.mem_cons.mp hp).elim (fun e=>e ▸ h.1) (subCl.all h.2 p)
theorem subCl.at {env:Env} {cl:List (Str × Addr)} {x:Str} {c:Addr} (h:subCl env cl) (e:cl.lookup x=some c):env.cells.lookup x=some c :=
 h.all (x,c) (PySem.mem_of_lookup e)
def capt (X:Cx) (scope:Scope) (cl:List (Str × Addr)):List Str->List Nat->Prop
 | [],[]=>True
 | y::ys,j::js=>(X.N[j]?=some y/\X.env.kindOf y=some .cell/\(relabel scope X.env).names.lookup y=some .cell/\∃ c,cl.lookup y=some c)/\capt X scope cl ys js
 | _,_=>False
theorem capt.get {X:Cx} {scope:Scope} {cl:List (Str × Addr)} : ∀ {ys:List Str} {js:List Nat} {k:Nat} {y:Str},capt X scope cl ys js->ys[k]?=some y →
  ∃ j,js[k]?=some j/\X.N[j]?=some y/\X.env.kindOf y=some .cell/\(relabel scope X.env).names.lookup y=some .cell/\∃ c,cl.lookup y=some c
 | [],[],k,y,_,e=>by simp at e
 | y'::ys,j::js,0,y,h,e=>by
  simp at e
  subst e
  exact⟨j,rfl,h.1⟩
 | y'::ys,j::js,k + 1,y,h,e=>by
  obtain⟨j',e1,r⟩:=capt.get (k:=k) h.2 (by simpa using e)
  exact⟨j',by simpa using e1,r⟩
 | [],_::_,_,_,h,_=>h.elim
 | _::_,[],_,_,h,_=>h.elim
theorem capt.len {X:Cx} {scope:Scope} {cl:List (Str × Addr)} : ∀ {ys:List Str} {js:List Nat},capt X scope cl ys js->ys.length=js.length
 | [],[],_=>rfl
 | _::_,_::_,h=>by rw [List.length_cons,List.length_cons,capt.len h.2]
 | [],_::_,h=>h.elim
 | _::_,[],h=>h.elim
def capSt (k:Nat) (js:List Nat) (σ:St):St:=List.replicate k none++js.map fun j=>σ.getD j none
def PIf (X:Cx) (ifs:List Expr) (t:TT):Prop :=
 ∀ (pins:List (Addr × Obj)) (s:Shared) (σ:St) (H:Hp) (Q:Bool->Hp->Prop),Inv X pins σ H s->t σ H Q →
  wpAny (model X.prog X.w) X.A (forIn ifs true fun c r=>if r=true then do let ok ← isTrue c X.env (eval c X.env);pure (ForInStep.yield ok) else pure (ForInStep.yield r)) (TP X pins σ Q) X.xe s
def tYes:TT:=fun _ H Q=>Q true H
theorem pif_nil {X:Cx} : PIf X [] tYes:=fun _ _ _ H _ I h=>wpAny_tests_nil ⟨H,I,h⟩
theorem pif_one {X:Cx} {c:Expr} {t:TT} (h:PT X c t):PIf X [c] t:=fun pins s σ H Q I hq=>wpAny_tests_one (h pins s σ H Q I hq)
def CompR (J:It) (k:Nat) (js:List Nat) (g:TG) (tc:TT) (te:TE) (σ:St) (Q:VK) (H1:Hp):Prop :=
 ∃ W:Nat->Nat->St->List V->Hp->Prop,(∃ m,W 0 m (capSt k js σ) [] H1)/\∀ i m σ' xs H',W i m σ' xs H' →
  (J.stop i H'/\∀ p,H' p=none->Q (.ref p) (upd H' p (.lst xs))) ∨
  (J.go i H'/\xs.length < sizeLine/\∃ N:St->List V->Hp->Prop,(∀ σ' ys H',N σ' ys H'->∃ m',m' < m/\W (i + 1) m' σ' ys H') ∧
   ∀ x H2,J.yld i H' x H2->g x σ' H2 fun σ3 H3=>tc σ3 H3 fun b H4=>if b=true then te σ3 H4 fun v H5=>N σ3 (xs++[v]) H5 else N σ3 xs H4)
def tComp (wi:TI) (k:Nat) (js:List Nat) (g:TG) (tc:TT) (te:TE):TE:=fun σ H Q=>wi σ H fun J H1=>CompR J k js g tc te σ Q H1
section
variable {prog:Program} {w:World} {A:Around} {R:Result->Shared->Prop} {s:Shared}
theorem compLoop_gen {elt target iter:Expr} {ifs:List Expr} {scope:Scope} {pos:Pos} {it acc:Value} {env:Env} (I:Nat->Shared->Prop)
  (turn:∀ n s,I n s->wpAny (model prog w) A (pyNext it) (fun r s₁=>match r with
   | none=>R (.ok .next) s₁
   | some v=>wpAny (model prog w) A (letOwnedTupleGo target it v) (fun _ s₀=>wpAny (model prog w) A (assign target env v) (fun _ s₂ =>
     wpAny (model prog w) A (forIn ifs true fun c r=>if r=true then do let ok ← isTrue c env (eval c env);pure (ForInStep.yield ok) else pure (ForInStep.yield r)) (fun ok s₃ =>
      if ok=true then wpAny (model prog w) A (eval elt env) (fun x s₄ =>
       wpAny (model prog w) A (call (.builtin "list.append") [acc,x]) (fun _ s₅=>∃ m,m < n/\I m s₅) (fun _ _=>False) s₄) (fun _ _=>False) s₃
      else ∃ m,m < n/\I m s₃) (fun _ _=>False) s₂) (fun _ _=>False) s₀) (fun _ _=>False) s₁) (fun _ _=>False) s)
  (n:Nat) (h:I n s):codeAny (model prog w) A (.compLoop (.ListComp elt [⟨target,iter,ifs,0⟩] scope pos) 0 it acc env) R s:=by
 refine codeAny_loop rfl I (fun n s hI=>?_) n h
 show wpAny _ A ((compTurn (.ListComp elt [⟨target,iter,ifs,0⟩] scope pos) 0 it acc env).onRaise (fun x=>do noteFrame x env;theTreesLotGoes x)) _ _ s
 refine wpAny_noted ?_
 rw [compTurn_list]
 refine wpAny_bind (wpAny_standAt (wpAny_bind (wpAny_mono (turn n s hI) (fun r s₁ h₁=>?_) fun _ _ z=>False.elim z)))
 cases r with
 | none=>exact wpAny_pure h₁
 | some v =>
  refine wpAny_bind (wpAny_mono h₁ (fun _ s₀ h₀=>?_) fun _ _ z=>False.elim z)
  refine wpAny_bind (wpAny_mono h₀ (fun _ s₂ h₂=>wpAny_bind (wpAny_mono h₂ (fun ok s₃ h₃=>?_) fun _ _ z=>False.elim z)) fun _ _ z=>False.elim z)
  cases ok with
  | false=>exact wpAny_pure ⟨rfl,h₃⟩
  | true =>
   exact wpAny_bind (wpAny_bind (wpAny_mono h₃ (fun x s₄ h₄=>wpAny_bind (wpAny_mono h₄ (fun _ s₅ h₅=>wpAny_pure (wpAny_pure ⟨rfl,h₅⟩)) fun _ _ z=>False.elim z)) fun _ _ z=>False.elim z))
end
theorem HOk.but {P:Program} {w:World} {H:Hp} {h h':Heap} {C:Addr} (x:HOk P w H h) (hn:H C=none) (k:∀ b o,b ≠ C->h.get? b=some o->h'.get? b=some o):HOk P w H h':=fun b u e =>
 (x b u e).stay (fun c v hc q=>k c v (by
  rcases hc with z|z
  ·intro y;rw [← z,y,hn] at e;cases e
  ·intro y;rw [y,hn] at z;cases z) q) (fun _ q=>q) fun _ _ q=>q
theorem HOk.track {P:Program} {w:World} {H:Hp} {h:Heap} {a:Addr} {o:HO} (x:HOk P w H h) (hn:H a=none) (new:ObjOk P w (upd H a o) h a o):HOk P w (upd H a o) h:=fun b u e=>by
 by_cases hb:b=a
 ·subst hb;rw [upd_same] at e;cases e;exact new
 ·rw [upd_ne hb] at e
  exact (x b u e).stay (fun _ _ _ q=>q) (fun c q=>by rw [upd_ne (ne_of_none q hn)];exact q) fun c xs q=>by rw [upd_ne (ne_of_none q hn)];exact q
section
variable {X:Cx} {elt tg iter:Expr} {ifs:List Expr} {scope:Scope} {cl:List (Str × Addr)} {ts ys:List Str} {js:List Nat} {pos:Pos} {wi:TI} {g:TG} {tc:TT} {te:TE}
theorem capSt_get {k:Nat} {σ:St} {i:Nat} {v:V} (h:(capSt k js σ)[i]?=some (some v)):∃ n j,i=k + n/\js[n]?=some j/\σ[j]?=some (some v):=by
 unfold capSt at h
 by_cases hi:i < k
 ·rw [List.getElem?_append_left (by simpa using hi),List.getElem?_replicate] at h
  split at h <;> cases h
 ·rw [List.getElem?_append_right (by simpa using hi),List.getElem?_map,List.length_replicate] at h
  cases e:js[i - k]? with
  | none=>rw [e] at h;cases h
  | some j =>
   rw [e] at h
   have h' : σ.getD j none=some v:=Option.some.inj h
   refine⟨i - k,j,by omega,e,?_⟩
   rw [List.getD_eq_getElem?_getD] at h'
   cases q : σ[j]? with
   | none=>rw [q] at h';cases h'
   | some o=>rw [q] at h';exact congrArg some h'
theorem inv_comp {pins:List (Addr × Obj)} {σ:St} {H:Hp} {s:Shared} {fp:List Addr} {C:Addr} {h1:Heap} {m:Str->Option Value} {t':Nat} (I:Inv X pins σ H s) (hsub:subCl X.env cl) (hcap:capt X scope cl ys js)
  (hkind:scope.kind=.function) (hhas:∀ x,((relabel scope X.env).names.lookup x=some .cell\/(relabel scope X.env).names.lookup x=some .free)->∃ c,cl.lookup x=some c)
  (f2:∀ b ∈ fp,FpOk X pins H b) (fl:∀ b ∈ fp,b < s.heap.objs.size) (hC:s.heap.objs.size<=C) (hn:h1.Ns C m) (old:∀ b o,s.heap.get? b=some o->h1.get? b=some o) :
  Inv (X.comp scope cl (ts++ys) s H fp C) [] (capSt ts.length js σ) H { s with heap:=h1,toks:=t' }:=by
 obtain⟨mo,hno,hlo⟩:=id I.loc
 refine⟨⟨I.ok.mod,hkind,I.ok.glob,I.ok.blt,hC,fun x y c e1 e2=>I.ok.inj x y c (hsub.at e1) (hsub.at e2),fun x hx=>hhas x hx,fun x c z _=>(by cases z),I.ok.hd,I.ok.frames,.inl rfl,
   fun b hb=>⟨Nat.ne_of_lt (Nat.lt_of_lt_of_le (fl b hb) hC),fun x c e=>(f2 b hb).2.2.2.2.1 x c (hsub.at e)⟩,I.bs,Nat.le_trans I.ok.bsz I.sz,fun b o e hb=>?_,fun b hb z=>?_,I.stack,I.stkFree⟩,
  rfl,I.bare,Un.kept old,⟨m,hn,fun i x v e1 e2 e3=>?_⟩,fun x c e=>?_,I.hok.fresh hC,fun x c e=>I.freeC x c (hsub.at e),fun p hp=>absurd (show p ∈ ([]:List (Addr × Obj)) from hp) (by simp),I.hok.kept old,?_⟩
 ·-- an object of the base is none of the iterator's
  obtain⟨_,_,_,h3,_⟩:=f2 b hb
  rcases h3 with z|z
  ·exact I.ok.noex b o e z
  ·exact absurd (Nat.lt_of_lt_of_le (Heap.lt_size e) (Nat.le_trans I.ok.bsz z)) (Nat.lt_irrefl _)
 ·obtain⟨_,h1',h2',_⟩:=f2 b hb
  rcases List.mem_cons.mp (I.stkSub b z) with e|e
  ·exact h1' e
  ·exact h2' e
 ·obtain⟨n,j,rfl,ej,es⟩:=capSt_get e2
  have ey:ys[n]?=some x:=by
   have e1':(ts++ys)[ts.length + n]?=some x:=e1
   rw [List.getElem?_append_right (by omega)] at e1'
   simpa using e1'
  obtain⟨j',ej',hN,hk,hr,c,hc⟩:=hcap.get ey
  rw [ej] at ej'
  cases ej'
  obtain⟨u,ru,l⟩:=hlo j x v hN es (.inr (.inl hk))
  refine⟨u,ru,.inr ⟨.inl hr,c,hc,?_⟩⟩
  rcases l with⟨k1,_⟩|⟨_,c',hc',⟨o,ho,hd⟩⟩
  ·rw [hk] at k1;cases k1
  ·have:=hsub.at hc
   rw [hc'] at this
   cases this
   exact⟨o,old _ o ho,hd⟩
 ·obtain⟨v,o,ho,hd⟩:=I.cell x c (hsub.at e)
  exact⟨v,o,old _ o ho,hd⟩
 ·show (capSt ts.length js σ).length=(ts++ys).length
  unfold capSt
  rw [List.length_append,List.length_append,List.length_replicate,List.length_map,hcap.len]
theorem comp_end {pins pins':List (Addr × Obj)} {σ σ':St} {H2 H3:Hp} {s2 s4:Shared} {fp:List Addr} {C D:Addr} {N:List Str} {h':Heap} {its:List Value} {xs:List V} {n:Nat} (I2:Inv X pins σ H2 s2) (f2:∀ b ∈ fp,FpOk X pins H2 b)
  (I4:Inv (X.comp scope cl N s2 H2 fp C) pins' σ' H3 s4) (hC:s2.heap.objs.size<=C) (hD:s2.heap.objs.size<=D) (hDC:D ≠ C) (hs':Heap.SameBut C s4.heap h') (rv:Vals xs its) (hz:xs.length<=sizeLine) (e4:s4.heap.get? D=some { cls:=.type "list",data:=.seq its.toArray n }) (hn:H3 D=none) :
  Inv X pins σ (upd H3 D (.lst xs)) { s4 with heap:=h' }:=by
 have ext:=hs'.extBut
 have neC:∀ b o,s2.heap.get? b=some o->b ≠ C:=fun b o e=>Nat.ne_of_lt (Nat.lt_of_lt_of_le (Heap.lt_size e) hC)
 have neD:∀ b o,s2.heap.get? b=some o->b ≠ D:=fun b o e=>Nat.ne_of_lt (Nat.lt_of_lt_of_le (Heap.lt_size e) hD)
 have hok:HOk X.prog X.w (upd H3 D (.lst xs)) h':=by
  have h1:HOk X.prog X.w H3 h':=HOk.but (C:=C) I4.hok I4.free fun b o hb e=>ext b o hb e
  exact HOk.track h1 hn ⟨hz,its,n,rv,ext D _ hDC e4⟩
 have B:Un (frs X.stack) fp H2 H3 s2.heap s4.heap:=I4.base
 have u:Un (frs X.stack) fp H2 (upd H3 D (.lst xs)) s2.heap h':=by
  refine⟨fun b o e q hb hx=>ext b o (neC b o e) (B.keep b o e q hb hx),fun b o e q hb hx=>?_,fun b o e q hx=>?_,fun b o e hx=>?_,fun b ys q=>?_,fun b o ys q=>?_,fun b ps q=>?_⟩
  ·obtain⟨sl,e1⟩:=B.slot b o e q hb hx
   exact⟨sl,ext b _ (neC b o e) e1⟩
  ·rw [upd_ne (neD b o e)];exact B.free b o e q hx
  ·obtain⟨o',e1⟩:=B.there b o e hx
   exact⟨o',ext b _ (neC b o e) e1⟩
  ·have:=B.tups b ys q
   rw [upd_ne (ne_of_none this hn)];exact this
  ·have:=B.frzs b o ys q
   rw [upd_ne (ne_of_none this hn)];exact this
  ·obtain⟨m1,e1⟩:=B.tbls b ps q
   exact⟨m1,by rw [upd_ne (ne_of_none e1 hn)];exact e1⟩
 have os:s4.os=s2.os:=I4.os
 have gb:=I4.bare
 obtain⟨hh,gg,dd,tt,os'⟩:=s4
 obtain rfl:os'=s2.os:=os
 have fin:=I2.call (h':=h') (g':=gg) (d':=dd) (t':=tt) (ch:=fp) u hok gb fun b hb=>⟨(f2 b hb).2.2.2.1,(f2 b hb).2.1,(f2 b hb).2.2.2.2.1,(f2 b hb).2.2.2.2.2⟩
 exact fin
theorem pe_comp (ts ys:List Str) (js:List Nat) (hc:X.calm=true) (hi:PI X tg iter wi) (hclos:closureFor scope X.env=pure cl) (hsub:subCl X.env cl) (hcap:capt X scope cl ys js)
  (hg:∀ s H fp C,PG (X.comp scope cl (ts++ys) s H fp C) tg g) (ht:∀ s H fp C,PIf (X.comp scope cl (ts++ys) s H fp C) ifs tc) (he:∀ s H fp C,PE (X.comp scope cl (ts++ys) s H fp C) elt te)
  (hkind:scope.kind=.function:=by rfl) (hcell:(scope.names.all fun y=>y.2 != .cell)=true:=by rfl)
  (hnames:(scope.names.all fun y=>y.2 != .local || scope.names.lookup y.1 == some .local)=true:=by rfl)
  (hhas:((relabel scope X.env).names.all fun p=>(p.2 != .cell && p.2 != .free) || (cl.lookup p.1).isSome)=true:=by rfl)
  (hs:∀ x,foldedSetIterable iter X.env x=pure x:=by intro _;rfl):PE X (.ListComp elt [⟨tg,iter,ifs,0⟩] scope pos) (tComp wi ts.length js g tc te):=by
 intro pins s σ H Q I h
 have hcell':∀ y ∈ scope.names,y.2 ≠ .cell:=fun y hy z=>by
  have:=List.all_eq_true.mp hcell y hy
  rw [z] at this
  exact absurd this (by decide)
 have hnames':∀ y ∈ scope.names,y.2=.local->scope.names.lookup y.1=some .local:=fun y hy z=>by
  have:=List.all_eq_true.mp hnames y hy
  rw [z] at this
  simpa using this
 have hhas':∀ x,((relabel scope X.env).names.lookup x=some .cell\/(relabel scope X.env).names.lookup x=some .free)->∃ c,cl.lookup x=some c:=fun x hx=>by
  rcases hx with hx|hx
  ·have:=List.all_eq_true.mp hhas _ (PySem.mem_of_lookup hx)
   exact Option.isSome_iff_exists.mp (by simpa using this)
  ·have:=List.all_eq_true.mp hhas _ (PySem.mem_of_lookup hx)
   exact Option.isSome_iff_exists.mp (by simpa using this)
 rw [eval_ListComp]
 refine wpAny_comprehension_free (use:=none) rfl hs hclos hkind hnames' (thn (hi pins s σ H _ I h) fun v s1 h1=>thn h1 fun itv s2 h2=>?_)
 obtain⟨it,fp,tn,J,H2,e,I2,T,st2,f2,W,⟨m0,w0⟩,turn⟩:=h2
 subst e
 have fl:∀ b ∈ fp,b < s2.heap.objs.size:=fun b hb=>by
  obtain⟨o,e,_⟩:=T.obj _ _ st2 b hb
  exact Heap.lt_size e
 refine wpAny_newObj_type (wpAny_newFunctionEnv hcell' (by intro y hy;simp at hy) (fun h₁ hns₁ hsb₁=>?_) hkind)
 dsimp only at hns₁ hsb₁ ⊢
 generalize hHH:s2.heap.push { cls:=.type "list",dict:=none,data:=.seq ([]:List Value).toArray }=HH at hns₁ hsb₁ ⊢
 have hC:HH.objs.size=s2.heap.objs.size + 1:=by rw [← hHH,Heap.size_push]
 have hDC:s2.heap.objs.size ≠ HH.objs.size:=by rw [hC];exact Nat.ne_of_lt (Nat.lt_succ_self _)
 have hCle:s2.heap.objs.size<=HH.objs.size:=by rw [hC];exact Nat.le_succ _
 have old:∀ b o,s2.heap.get? b=some o->h₁.get? b=some o:=fun b o e =>
  hsb₁.extBut b o (Nat.ne_of_lt (Nat.lt_of_lt_of_le (Heap.lt_size e) hCle)) (Heap.get?_push_of_some _ (hHH ▸ Heap.get?_push_of_some _ e))
 have hacc:h₁.get? s2.heap.objs.size=some { cls:=.type "list",data:=.seq ([]:List Value).toArray }:=hsb₁.extBut _ _ hDC (Heap.get?_push_of_some _ (hHH ▸ Heap.get?_push_size _ rfl))
 have nofs:∀ b,s2.heap.objs.size<=b->b ∉ frs X.stack:=fun b hb z=>by
  rcases List.mem_cons.mp (I2.stkSub b z) with e|e
  ·exact absurd (Nat.lt_of_lt_of_le I2.lt (e ▸ hb)) (Nat.lt_irrefl _)
  ·exact I2.nofs hb e
 have nocell:∀ b,s2.heap.objs.size<=b->∀ x c,cl.lookup x=some c->c ≠ b:=fun b hb x c e z=>by
  obtain⟨v,q⟩:=I2.cell x c (hsub.at e)
  exact absurd (Nat.lt_of_lt_of_le q.lt (z ▸ hb)) (Nat.lt_irrefl _)
 have I':Inv (X.comp scope cl (ts++ys) s2 H2 fp HH.objs.size) [] (capSt ts.length js σ) H2 { s2 with heap:=h₁,toks:=s2.toks + ([]:List (Str × Value)).length } :=
  inv_comp I2 hsub hcap hkind hhas' f2 fl hCle hns₁ old
 have addPin:∀ {σ':St} {H':Hp} {s':Shared} {o:Obj},Inv (X.comp scope cl (ts++ys) s2 H2 fp HH.objs.size) [] σ' H' s'->s'.heap.get? s2.heap.objs.size=some o->H' s2.heap.objs.size=none->(∀ v,o.data ≠ .cell v) →
   Inv (X.comp scope cl (ts++ys) s2 H2 fp HH.objs.size) [(s2.heap.objs.size,o)] σ' H' s':=fun {σ' H' s' o} J e n d=>J.pins_of fun p hp=>by
  have e':p=(s2.heap.objs.size,o):=by simpa using hp
  subst e'
  exact⟨e,n,hDC,nofs _ (Nat.le_refl _),d⟩
 have stat:∀ {pins':List (Addr × Obj)} {H':Hp},(∀ p ∈ pins',p.1=s2.heap.objs.size)->(∀ b ∈ fp,H' b=none)->∀ b ∈ fp,FpOk (X.comp scope cl (ts++ys) s2 H2 fp HH.objs.size) pins' H' b:=fun {pins' H'} hp hn b hb =>
  ⟨hn b hb,Nat.ne_of_lt (Nat.lt_of_lt_of_le (fl b hb) hCle),I'.ok.exfs b hb,.inl hb,(I'.ok.exf b hb).2,fun p hq z=>by
   have hq':p ∈ pins':=by simpa using hq
   exact absurd (fl b hb) (by rw [← z,hp p hq'];exact Nat.lt_irrefl _)⟩
 have tn1:tn 0 h₁:=T.keep _ _ _ st2 fun b _ o e=>old b o e
 have loop:∀ s₃ : Shared,s₃ = { s2 with heap:=h₁,toks:=s2.toks + ([]:List (Str × Value)).length } →
   codeAny (model X.prog X.w) X.A (.compLoop (.ListComp elt [⟨tg,iter,ifs,0⟩] scope pos) 0 (.ref it) (.ref s2.heap.objs.size) (compEnvC scope cl HH.objs.size X.env))
    (compPost (model X.prog X.w) X.A X.xe none (EP X pins σ Q) (.ref s2.heap.objs.size) HH.objs.size) s₃:=by
  rintro s₃ rfl
  refine compLoop_gen (fun n s'=>∃ i σ' xs H' its nn,Inv (X.comp scope cl (ts++ys) s2 H2 fp HH.objs.size) [] σ' H' s'/\Vals xs its/\xs.length<=sizeLine/\s'.heap.get? s2.heap.objs.size=some { cls:=.type "list",data:=.seq its.toArray nn }/\H' s2.heap.objs.size=none ∧
   tn i s'.heap/\(∀ b ∈ fp,H' b=none)/\W i n σ' xs H') ?_ m0 ⟨0,_,[],H2,[],0,I',.nil,Nat.zero_le _,hacc,I2.hok.fresh (Nat.le_refl _),tn1,fun b hb=>(f2 b hb).1,w0⟩
  rintro n s3 ⟨i,σ3,xs,H3,its,nn,I3,rv,hz3,ac3,nD3,st3,fr3,w3⟩
  have nd:∀ v,({ cls:=.type "list",data:=.seq its.toArray nn } : Obj).data ≠ .cell v:=fun v z=>by
   have z':Data.seq its.toArray nn=Data.cell v:=z
   cases z'
  have I3p:=addPin I3 ac3 nD3 nd
  have pinD:∀ p ∈ [(s2.heap.objs.size,({ cls:=.type "list",data:=.seq its.toArray nn } : Obj))],p.1=s2.heap.objs.size:=fun p hp=>by
   rw [List.mem_singleton] at hp
   rw [hp]
  rcases turn i n σ3 xs H3 w3 with⟨stop,qn⟩|⟨go,hz,N,hN,step⟩
  ·refine thn (T.done (X.comp scope cl (ts++ys) s2 H2 fp HH.objs.size) rfl rfl rfl hc i _ s3 σ3 H3 (fun _ _=>False) I3p (stat pinD fr3) st3 stop) fun r s4 zq=>?_
   obtain⟨hr,I4⟩:=zq
   subst hr
   obtain⟨m,hn,_⟩:=I4.loc
   have ac4:=(I4.pin _ (List.mem_append_right _ (List.mem_singleton.mpr rfl))).1
   exact⟨m,hn,fun h' hs'=>⟨.ref s2.heap.objs.size,_,comp_end I2 f2 I4 hCle (Nat.le_refl _) hDC hs' rv hz3 ac4 nD3,rfl,qn _ nD3⟩⟩
  ·refine thn (T.item (X.comp scope cl (ts++ys) s2 H2 fp HH.objs.size) rfl rfl rfl hc i _ s3 σ3 H3 (fun _ _=>False) I3p (stat pinD fr3) st3 go) fun r s4 zq=>?_
   obtain⟨u,hr,h4⟩:=zq
   subst hr
   refine thn h4 fun _ s5 zq=>?_
   obtain⟨x,H5,I5,r5,y5,st5,fr5⟩:=zq
   have I5':=I5.pinned (stat pinD fr5) (T.obj _ _ st5)
   refine thn (hg _ _ _ _ _ s5 σ3 H5 x u _ I5' r5 (step x H5 y5)) fun _ s6 zq=>?_
   obtain⟨σ6,H6,I6,q6⟩:=zq
   refine thn (ht _ _ _ _ _ s6 σ6 H6 _ I6 q6) fun b s7 zq=>?_
   obtain⟨H7,I7,q7⟩:=zq
   have facts:∀ {σ':St} {H':Hp} {s':Shared},Inv (X.comp scope cl (ts++ys) s2 H2 fp HH.objs.size) ([(s2.heap.objs.size,({ cls:=.type "list",data:=.seq its.toArray nn } : Obj))]++pinsAt fp s5.heap) σ' H' s' →
     s'.heap.get? s2.heap.objs.size=some { cls:=.type "list",data:=.seq its.toArray nn }/\H' s2.heap.objs.size=none/\tn (i + 1) s'.heap/\(∀ b ∈ fp,H' b=none):=fun {σ' H' s'} J=>by
    have p1:=J.pin (s2.heap.objs.size,({ cls:=.type "list",data:=.seq its.toArray nn } : Obj)) (by simp)
    refine⟨p1.1,p1.2.1,T.keep _ _ _ st5 fun b hb o e=>(J.pin (b,o) (List.mem_append_right _ (List.mem_append_right _ (mem_pinsAt hb e)))).1,fun b hb=>?_⟩
    obtain⟨o,e,d⟩:=T.obj _ _ st5 b hb
    exact (J.pin (b,o) (List.mem_append_right _ (List.mem_append_right _ (mem_pinsAt hb e)))).2.1
   have bare:∀ {σ':St} {H':Hp} {s':Shared},Inv (X.comp scope cl (ts++ys) s2 H2 fp HH.objs.size) ([(s2.heap.objs.size,({ cls:=.type "list",data:=.seq its.toArray nn } : Obj))]++pinsAt fp s5.heap) σ' H' s' →
     Inv (X.comp scope cl (ts++ys) s2 H2 fp HH.objs.size) [] σ' H' s':=fun J=>J.pins_of fun p hp=>absurd hp (by simp)
   cases b with
   | false =>
    have q7':N σ6 xs H7:=by simpa using q7
    obtain⟨m',hm,w7⟩:=hN _ _ _ q7'
    obtain⟨a1,a2,a3,a4⟩:=facts I7
    show ∃ m,m < n/\_
    exact⟨m',hm,i + 1,σ6,xs,H7,its,nn,bare I7,rv,hz3,a1,a2,a3,a4,w7⟩
   | true =>
    have q7':te σ6 H7 fun v H5=>N σ6 (xs++[v]) H5:=by
     rw [if_pos rfl] at q7
     exact q7
    show wpAny _ _ (eval elt _) _ _ s7
    refine thn (he _ _ _ _ _ s7 σ6 H7 _ I7 q7') fun xv s8 zq=>?_
    obtain⟨v,H8,I8,r8,n8⟩:=zq
    obtain⟨m',hm,w8⟩:=hN _ _ _ n8
    obtain⟨a1,a2,a3,a4⟩:=facts I8
    have hl:=rv.length
    refine call_meets F.slot_list_append ⟨_,a1,rfl⟩ F.entry_list_append (F.args_list_append_2 _ _) (PySem.list_append s2.heap.objs.size its.toArray nn xv (by rw [List.size_toArray];omega)) ⟨a1,?_⟩
    obtain⟨n9,q9⟩ : ∃ n9,(s8.heap.update s2.heap.objs.size (Obj.mapSeq fun a=>a.push xv)).get? s2.heap.objs.size=some { cls:=.type "list",data:=.seq (its++[xv]).toArray n9 } :=
     ⟨_,by rw [show (its++[xv]).toArray=its.toArray.push xv by simp];exact PySem.IsL.update a1 (fun a=>a.push xv)⟩
    have I9:Inv (X.comp scope cl (ts++ys) s2 H2 fp HH.objs.size) [] σ6 H8 { s8 with heap:=s8.heap.update s2.heap.objs.size (Obj.mapSeq fun a=>a.push xv),toks:=s8.toks } :=
     (bare I8).turned (it:=s2.heap.objs.size) (fun b o hb e=>(Heap.get?_update_other s8.heap _ (Ne.symm hb)).trans e) a2 hDC (.inr (Nat.le_refl _)) (nocell _ (Nat.le_refl _)) fun p hp=>absurd (show p ∈ ([]:List (Addr × Obj)) from hp) (by simp)
    refine⟨m',hm,i + 1,σ6,xs++[v],H8,its++[xv],n9,I9,rv.append (.cons r8 .nil),?_,q9,a2,?_,a4,w8⟩
    ·rw [List.length_append,List.length_singleton];omega
    ·exact T.keep _ _ _ a3 fun b hb o e=>(Heap.get?_update_other s8.heap _ (Ne.symm (Nat.ne_of_lt (fl b hb)))).trans e
 exact codeAny_compStart_list (loop _ rfl) (T.self _ 0 _ _ _ tn1 (loop _ rfl))
end
abbrev capV (js:List Nat) (σ:St):St:=js.map fun j=>σ.getD j none
def CompN (P:Nat->List V->Hp->Prop) (i:Nat) (js:List Nat) (σ:St):St->List V->Hp->Prop:=fun σ' ys H=>P (i + 1) ys H/\∃ o,σ'=o::capV js σ
theorem comp_list {K:Frag} {a:Addr} {xs:List V} {k:Nat} {js:List Nat} {tc:TT} {te:TE} {σ:St} {Q:VK} {H1:Hp} (P:Nat->List V->Hp->Prop) (h0:P 0 [] H1) (hl:∀ i ys H,i<=xs.length->P i ys H->SqL K H a xs/\ys.length<=i) (hz:xs.length < sizeLine)
  (hs:∀ i x ys H,xs[i]?=some x->P i ys H->tc (some x::capV js σ) H fun b H2=>if b=true then te (some x::capV js σ) H2 fun v H3=>CompN P i js σ (some x::capV js σ) (ys++[v]) H3 else CompN P i js σ (some x::capV js σ) ys H2)
  (hd:∀ ys H,P xs.length ys H->∀ p,H p=none->Q (.ref p) (upd H p (.lst ys))) (hk:k=1:=by rfl) :
  CompR (Itl K a) k js (gName 0) tc te σ Q H1:=by
 subst hk
 refine⟨fun i m σ' ys H=>m=xs.length - i/\i<=xs.length/\P i ys H/\∃ o,σ'=o::capV js σ,⟨xs.length,by simp,Nat.zero_le _,h0,none,rfl⟩,?_⟩
 rintro i m σ' ys H ⟨rfl,hi,p,o,rfl⟩
 obtain⟨q,hy⟩:=hl i ys H hi p
 by_cases hlt:i < xs.length
 ·refine .inr ⟨⟨xs,xs[i],q,by simp [hlt]⟩,by omega,CompN P i js σ,fun σ3 zs H3 z=>⟨xs.length - (i + 1),by omega,rfl,hlt,z.1,z.2⟩,fun x H' y=>?_⟩
  obtain⟨e,y⟩:=y
  subst e
  exact hs i x ys _ (y xs q) p
 ·have e:i=xs.length:=by omega
  subst e
  exact .inl ⟨⟨xs,q,Nat.le_refl _⟩,hd ys H p⟩
theorem comp_tup {K:Frag} {a:Addr} {xs:List V} {k:Nat} {js:List Nat} {tc:TT} {te:TE} {σ:St} {Q:VK} {H1:Hp} (P:Nat->List V->Hp->Prop) (h0:P 0 [] H1) (hl:∀ i ys H,i<=xs.length->P i ys H->SqT K H a xs/\ys.length<=i) (hz:xs.length < sizeLine)
  (hs:∀ i x ys H,xs[i]?=some x->P i ys H->tc (some x::capV js σ) H fun b H2=>if b=true then te (some x::capV js σ) H2 fun v H3=>CompN P i js σ (some x::capV js σ) (ys++[v]) H3 else CompN P i js σ (some x::capV js σ) ys H2)
  (hd:∀ ys H,P xs.length ys H->∀ p,H p=none->Q (.ref p) (upd H p (.lst ys))) (hk:k=1:=by rfl) :
  CompR (Itt K a) k js (gName 0) tc te σ Q H1:=by
 subst hk
 refine⟨fun i m σ' ys H=>m=xs.length - i/\i<=xs.length/\P i ys H/\∃ o,σ'=o::capV js σ,⟨xs.length,by simp,Nat.zero_le _,h0,none,rfl⟩,?_⟩
 rintro i m σ' ys H ⟨rfl,hi,p,o,rfl⟩
 obtain⟨q,hy⟩:=hl i ys H hi p
 by_cases hlt:i < xs.length
 ·refine .inr ⟨⟨xs,xs[i],q,by simp [hlt]⟩,by omega,CompN P i js σ,fun σ3 zs H3 z=>⟨xs.length - (i + 1),by omega,rfl,hlt,z.1,z.2⟩,fun x H' y=>?_⟩
  obtain⟨e,y⟩:=y
  subst e
  exact hs i x ys _ (y xs q) p
 ·have e:i=xs.length:=by omega
  subst e
  exact .inl ⟨⟨xs,q,Nat.le_refl _⟩,hd ys H p⟩
theorem comp_range {lo:Int} {n:Nat} {k:Nat} {js:List Nat} {tc:TT} {te:TE} {σ:St} {Q:VK} {H1:Hp} (P:Nat->List V->Hp->Prop) (h0:P 0 [] H1) (hl:∀ i ys H,i<=n->P i ys H->ys.length<=i) (hz:n < sizeLine)
  (hs:∀ i ys H,i < n->P i ys H->tc (some (.int (lo + i))::capV js σ) H fun b H2=>if b=true then te (some (.int (lo + i))::capV js σ) H2 fun v H3=>CompN P i js σ (some (.int (lo + i))::capV js σ) (ys++[v]) H3 else CompN P i js σ (some (.int (lo + i))::capV js σ) ys H2)
  (hd:∀ ys H,P n ys H->∀ p,H p=none->Q (.ref p) (upd H p (.lst ys))) (hk:k=1:=by rfl) :
  CompR (Itr lo n) k js (gName 0) tc te σ Q H1:=by
 subst hk
 refine⟨fun i m σ' ys H=>m=n - i/\i<=n/\P i ys H/\∃ o,σ'=o::capV js σ,⟨n,by simp,Nat.zero_le _,h0,none,rfl⟩,?_⟩
 rintro i m σ' ys H ⟨rfl,hi,p,o,rfl⟩
 have hy:=hl i ys H hi p
 by_cases hlt:i < n
 ·refine .inr ⟨hlt,by omega,CompN P i js σ,fun σ3 zs H3 z=>⟨n - (i + 1),by omega,rfl,hlt,z.1,z.2⟩,fun x H' y=>?_⟩
  obtain⟨e,y⟩:=y
  subst e
  subst y
  exact hs i ys _ hlt p
 ·have e:i=n:=by omega
  subst e
  exact .inl ⟨Nat.le_refl _,hd ys H p⟩
section
variable {X:Cx}
theorem ix_tupK (K:Frag) (h:X.K=K):IxR X (rIxT K):=h ▸ ix_tup
end
section
variable {κ : Type} [DecidableEq κ]
def valV (kvs:List (κ × V)) (k : κ):Option V:=(kvs.find? fun kv=>decide (kv.1=k)).map (·.2)
def putK (kvs:List (κ × V)) (k : κ) (v:V):List (κ × V) :=
 if (kvs.any fun kv=>decide (kv.1=k))=true then kvs.map (fun kv=>if kv.1=k then (kv.1,v) else kv) else kvs++[(k,v)]
def dropK (kvs:List (κ × V)) (k : κ):List (κ × V):=kvs.filter fun kv=>decide (kv.1 ≠ k)
theorem valV_pos {p : κ × V} {r:List (κ × V)} {k : κ} (e:p.1=k):valV (p::r) k=some p.2:=by simp [valV,List.find?_cons,e]
theorem valV_neg {p : κ × V} {r:List (κ × V)} {k : κ} (e:¬ p.1=k):valV (p::r) k=valV r k:=by simp [valV,List.find?_cons,e]
theorem valV_any (k : κ):∀ kvs:List (κ × V),(kvs.any fun kv=>decide (kv.1=k))=(valV kvs k).isSome
 | []=>rfl
 | p::r=>by
  rw [List.any_cons]
  by_cases e:p.1=k
  ·simp only [valV_pos e,decide_eq_true e,Bool.true_or,Option.isSome_some]
  ·rw [valV_neg e,decide_eq_false e,Bool.false_or];exact valV_any k r
theorem length_putK (kvs:List (κ × V)) (k : κ) (v:V):(putK kvs k v).length<=kvs.length + 1:=by
 unfold putK
 split
 ·rw [List.length_map];omega
 ·rw [List.length_append,List.length_cons,List.length_nil];omega
theorem RelO.isSome_eq {o:Option V} {u:Option Value} (r:RelO o u):o.isSome=u.isSome:=by
 cases o with
 | none=>cases u with
  | none=>rfl
  | some _=>exact (show False from r).elim
 | some _=>cases u with
  | none=>exact (show False from r).elim
  | some _=>rfl
theorem RelO.getD {o:Option V} {u:Option Value} {d:V} {d':Value} (r:RelO o u) (rd:RelV d d'):RelV (o.getD d) (u.getD d'):=by
 cases o with
 | none=>cases u with
  | none=>exact rd
  | some _=>exact (show False from r).elim
 | some _=>cases u with
  | none=>exact (show False from r).elim
  | some _=>exact r
theorem KV.val {kvs:List (κ × V)} {vs:List (κ × Value)} (r:KV kvs vs) (k : κ):RelO (valV kvs k) (valueAt vs k):=by
 unfold KV at r
 induction r with
 | nil=>exact True.intro
 | @cons p q ps qs h t ih =>
  obtain⟨h1,h2⟩:=h
  by_cases e:p.1=k
  ·have e':q.1=k:=h1.symm.trans e
   have b:valueAt (q::qs) k=some q.2:=by simp [valueAt,List.find?_cons,e']
   rw [valV_pos e,b];exact h2
  ·have e':¬ q.1=k:=fun z=>e (h1.trans z)
   have b:valueAt (q::qs) k=valueAt qs k:=by simp [valueAt,List.find?_cons,e']
   rw [valV_neg e,b];exact ih
theorem KV.any {kvs:List (κ × V)} {vs:List (κ × Value)} (r:KV kvs vs) (k : κ):(kvs.any fun kv=>decide (kv.1=k))=vs.any fun kv=>decide (kv.1=k):=by
 unfold KV at r
 induction r with
 | nil=>rfl
 | cons h t ih=>rw [List.any_cons,List.any_cons,ih,h.1]
theorem KV.repl {kvs:List (κ × V)} {vs:List (κ × Value)} (r:KV kvs vs) (k : κ) {y:V} {u:Value} (ry:RelV y u) :
  KV (kvs.map fun kv=>if kv.1=k then (kv.1,y) else kv) (vs.map fun kv=>if kv.1=k then (kv.1,u) else kv):=by
 unfold KV at r ⊢
 induction r with
 | nil=>exact .nil
 | @cons p q ps qs h t ih =>
  rw [List.map_cons,List.map_cons]
  refine .cons ?_ ih
  obtain⟨h1,h2⟩:=h
  by_cases e:p.1=k
  ·rw [if_pos e,if_pos (h1.symm.trans e)];exact⟨h1,ry⟩
  ·rw [if_neg e,if_neg (fun z=>e (h1.trans z))];exact⟨h1,h2⟩
theorem KV.put {kvs:List (κ × V)} {vs:List (κ × Value)} (r:KV kvs vs) (k : κ) {y:V} {u:Value} (ry:RelV y u):KV (putK kvs k y) (stored vs k u):=by
 unfold putK stored
 rw [r.any k]
 by_cases e:(vs.any fun kv=>decide (kv.1=k))=true
 ·rw [if_pos e,if_pos e];exact r.repl k ry
 ·rw [if_neg e,if_neg e];exact Paired.snoc r ⟨rfl,ry⟩
theorem KV.drop {kvs:List (κ × V)} {vs:List (κ × Value)} (r:KV kvs vs) (k : κ):KV (dropK kvs k) (without vs k):=by
 unfold KV at r ⊢
 unfold dropK without
 induction r with
 | nil=>exact .nil
 | @cons p q ps qs h t ih =>
  obtain⟨h1,h2⟩:=h
  rw [List.filter_cons,List.filter_cons]
  by_cases e:p.1=k
  ·have a:¬ decide (p.1 ≠ k)=true:=by simp [e]
   have b:¬ decide (q.1 ≠ k)=true:=by simp [h1.symm.trans e]
   rw [if_neg a,if_neg b];exact ih
  ·have e':¬ q.1=k:=fun z=>e (h1.trans z)
   have a:decide (p.1 ≠ k)=true:=by simp [e]
   have b:decide (q.1 ≠ k)=true:=by simp [e']
   rw [if_pos a,if_pos b];exact .cons ⟨h1,h2⟩ ih
theorem KV.keys {kvs:List (κ × V)} {vs:List (κ × Value)} (r:KV kvs vs):kvs.map (·.1)=vs.map (·.1):=by
 unfold KV at r
 induction r with
 | nil=>rfl
 | cons h t ih=>rw [List.map_cons,List.map_cons,ih,h.1]
theorem KV.length {kvs:List (κ × V)} {vs:List (κ × Value)} (r:KV kvs vs):kvs.length=vs.length:=Paired.length r
end
theorem kV_is {P:Program} {w:World} {k:Key} {u:Value} (r:RelV (kV k) u):(mixKind P w).is k u=true:=by
 cases k with
 | inl i=>obtain⟨t,e⟩:=(show ∃ t,u=Value.int i t from r);subst e;exact mixKind_int P w i t
 | inr x=>obtain⟨t,e⟩:=(show ∃ t,u=Value.str x t from r);subst e;exact mixKind_str P w x t
theorem items_are {P:Program} {w:World} : ∀ {ks:List Key} {us:List Value},Vals (ks.map kV) us->ItemsAre (mixKind P w) ks us
 | [],_,r=>by rw [List.map_nil] at r;cases r;exact .nil
 | k::ks,_,r=>by
  rw [List.map_cons] at r
  cases r with
  | cons h t=>exact .cons (kV_is h) (items_are t)
abbrev KT (H:Hp):List (List Key × V)->List (List Key × Addr × Value)->Prop:=Paired fun p q=>p.1=q.1/\H q.2.1=some (.tup (p.1.map kV))/\RelV p.2 q.2.2
theorem KT.val {H:Hp} {kvs:List (List Key × V)} {xs:List (List Key × Addr × Value)} (r:KT H kvs xs) (k:List Key):RelO (valV kvs k) ((atKey xs k).map (·.2)):=by
 induction r with
 | nil=>exact True.intro
 | @cons p q ps qs h t ih =>
  obtain⟨h1,_,h2⟩:=h
  by_cases e:p.1=k
  ·have e':q.1=k:=h1.symm.trans e
   have b:atKey (q::qs) k=some q.2:=by simp [atKey,List.find?_cons,e']
   rw [valV_pos e,b];exact h2
  ·have e':¬ q.1=k:=fun z=>e (h1.trans z)
   have b:atKey (q::qs) k=atKey qs k:=by simp [atKey,List.find?_cons,e']
   rw [valV_neg e,b];exact ih
theorem KT.repl {H:Hp} {kvs:List (List Key × V)} {xs:List (List Key × Addr × Value)} (r:KT H kvs xs) (k:List Key) {y:V} {u:Value} (ry:RelV y u) :
  KT H (kvs.map fun kv=>if kv.1=k then (kv.1,y) else kv) (xs.map (putAt k u)):=by
 induction r with
 | nil=>exact .nil
 | @cons p q ps qs h t ih =>
  rw [List.map_cons,List.map_cons]
  refine .cons ?_ ih
  obtain⟨h1,h2,h3⟩:=h
  unfold putAt
  by_cases e:p.1=k
  ·rw [if_pos e,if_pos (h1.symm.trans e)];exact⟨h1,h2,ry⟩
  ·rw [if_neg e,if_neg (fun z=>e (h1.trans z))];exact⟨h1,h2,h3⟩
theorem KT.put {H:Hp} {kvs:List (List Key × V)} {xs:List (List Key × Addr × Value)} (r:KT H kvs xs) (k:List Key) {b:Addr} {y:V} {u:Value} (hb:H b=some (.tup (k.map kV))) (ry:RelV y u) :
  KT H (putK kvs k y) (storedH xs k b u):=by
 have e:(kvs.any fun kv=>decide (kv.1=k))=(atKey xs k).isSome:=by
  rw [valV_any,(r.val k).isSome_eq,Option.isSome_map]
 unfold putK storedH
 rw [e]
 by_cases q:(atKey xs k).isSome=true
 ·rw [if_pos q,if_pos q];exact r.repl k ry
 ·rw [if_neg q,if_neg q];exact Paired.snoc r ⟨rfl,hb,ry⟩
theorem KT.keeps {H H':Hp} {kvs:List (List Key × V)} {xs:List (List Key × Addr × Value)} (r:KT H kvs xs) (ht:∀ b ys,H b=some (.tup ys)->H' b=some (.tup ys)):KT H' kvs xs :=
 Paired.mapP r fun _ _ z=>⟨z.1,ht _ _ z.2.1,z.2.2⟩
section
variable {P:Program} {w:World} {H:Hp} {h:Heap} {a:Addr}
theorem rd_of {u:HO} (ok:HOk P w H h) (e:Rd H a u):ObjOk P w H h a u:=e.ok ok
theorem dk_rd {kvs:List (Key × V)} (ok:HOk P w H h) (e:Rd H a (.dK kvs)):kvs.length<=sizeLine/\(a == sysModules)=false/\∃ vs,KV kvs vs/\h.DictOf (mixKind P w) a vs :=
 show ObjOk P w H h a (.dK kvs) from rd_of ok e
theorem dk_of {kvs:List (Key × V)} (ok:HOk P w H h) (e:H a=some (.dK kvs)):kvs.length<=sizeLine/\(a == sysModules)=false/\∃ vs,KV kvs vs/\h.DictOf (mixKind P w) a vs:=dk_rd ok (.inl e)
theorem key_of {ks:List Key} (ok:HOk P w H h) (e:H a=some (.tup (ks.map kV))):(tupleKind (mixKind P w)).is h ks a:=by
 obtain⟨_,its,r,o,h1,h2,n,h3⟩:=(show ObjOk P w H h a (.tup (ks.map kV)) from ok a _ e)
 exact⟨o,its.toArray,n,h1,h2,h3,by simpa using items_are r⟩
theorem dt_rd {kvs:List (List Key × V)} (ok:HOk P w H h) (e:Rd H a (.dT kvs)):kvs.length<=sizeLine/\(a == sysModules)=false ∧
  ∃ xs,KT H kvs xs/\h.DictOfH (tupleKind (mixKind P w)) a xs:=by
 obtain⟨z,y,xs,r,o,es,ep,h1,h2,h3,h4,h5⟩:=(show ObjOk P w H h a (.dT kvs) from rd_of ok e)
 refine⟨z,y,xs,r,o,es,ep,h1,h2,h3,h4,fun x hx=>?_,h5⟩
 have all:∀ {l:List (List Key × V)} {m:List (List Key × Addr × Value)},KT H l m->∀ x ∈ m,(tupleKind (mixKind P w)).is h x.1 x.2.1:=by
  intro l m q
  induction q with
  | nil=>intro x hx;exact nomatch hx
  | @cons p q ps qs hq t ih =>
   intro x hx
   rcases List.mem_cons.mp hx with e|hx
   ·subst e
    exact key_of ok (by rw [← hq.1];exact hq.2.1)
   ·exact ih x hx
 exact all r x hx
end
def DGet (H:Hp) (a:Addr) (y:V) (r:Option V):Prop :=
 (∃ kvs k,Rd H a (.dK kvs)/\y=kV k/\r=valV kvs k)\/∃ kvs k b,Rd H a (.dT kvs)/\y=.ref b/\H b=some (.tup (k.map kV))/\r=valV kvs k
theorem DGet.k {H:Hp} {a:Addr} {kvs:List (Key × V)} {k:Key} (e:H a=some (.dK kvs)):DGet H a (kV k) (valV kvs k):=.inl ⟨kvs,k,.inl e,rfl,rfl⟩
theorem DGet.t {H:Hp} {a b:Addr} {kvs:List (List Key × V)} {k:List Key} (e:H a=some (.dT kvs)) (eb:H b=some (.tup (k.map kV))):DGet H a (.ref b) (valV kvs k):=.inr ⟨kvs,k,b,.inl e,rfl,eb,rfl⟩
section
variable {X:Cx} {pins:List (Addr × Obj)} {σ:St} {H:Hp} {s:Shared} {a:Addr} {y v:V} {u r:Value} {o:Option V} {A:Around} {E:Value->Shared->Prop}
theorem Inv.big (I:Inv X pins σ H s):sysModules < s.heap.objs.size:=by
 have h:mainGlobals < s.heap.objs.size:=(I.mod.glob.keeps I.bk).lt
 exact Nat.lt_trans (by decide) h
theorem d_getItem {Q:Value->Shared->Prop} (hu:A.units + 1 < cLine) (I:Inv X pins σ H s) (g:DGet H a y (some v)) (ry:RelV y u) (h:∀ w' s',Inv X pins σ H s'->RelV v w'->Q w' s') :
  wpAny (model X.prog X.w) A (getItem (.ref a) u) Q E s:=by
 rcases g with⟨kvs,k,e,ey,l⟩|⟨kvs,k,b,e,ey,eb,l⟩
 ·subst ey
  obtain⟨z,hd,vs,rel,dd⟩:=dk_rd I.hok e
  obtain⟨w',hw,rw'⟩:=RelO.some_of (v:=v) (o:=valueAt vs k) (by rw [l];exact rel.val k)
  exact wpAny_getItem_of (kV_is ry) dd.mapOf hw (h w' _ (I.tok _) rw')
 ·subst ey
  cases (show u=Value.ref b from ry)
  obtain⟨z,hd,xs,rel,dd⟩:=dt_rd I.hok e
  obtain⟨w',hw,rw'⟩:=RelO.some_of (v:=v) (o:=(atKey xs k).map (·.2)) (by rw [l];exact rel.val k)
  obtain⟨p,hp,hp2⟩:=Option.map_eq_some_iff.mp hw
  refine wpAny_getItem_heap (tupleKind_room_in1 hu) (key_of I.hok eb) dd hp ?_
  rw [hp2]
  exact h w' _ (I.tok _) rw'
theorem d_notIn {Q:Value->Shared->Prop} (hu:A.units + 1 < cLine) (I:Inv X pins σ H s) (g:DGet H a y o) (ry:RelV y u) (h:∀ s',Inv X pins σ H s'->Q (.bool (!o.isSome)) s') :
  wpAny (model X.prog X.w) A (compareOp .NotIn u (.ref a)) Q E s:=by
 rcases g with⟨kvs,k,e,ey,l⟩|⟨kvs,k,b,e,ey,eb,l⟩
 ·subst ey
  obtain⟨z,hd,vs,rel,dd⟩:=dk_rd I.hok e
  refine wpAny_notIn_of (kV_is ry) hd dd.mapOf ?_
  rw [← (rel.val k).isSome_eq,← l]
  exact h _ (I.tok _)
 ·subst ey
  cases (show u=Value.ref b from ry)
  obtain⟨z,hd,xs,rel,dd⟩:=dt_rd I.hok e
  refine wpAny_notIn_heap (tupleKind_room_in1 hu) (key_of I.hok eb) hd dd ?_
  have q:=(rel.val k).isSome_eq
  rw [Option.isSome_map] at q
  rw [← q,← l]
  exact h _ (I.tok _)
theorem d_write {h':Heap} {t':Nat} {ob:HO} (I:Inv X pins σ H s) (mu:Mut (H a)) (hs:Heap.SameBut a s.heap h') (he:∃ q,h'.get? a=some q) (new:ObjOk X.prog X.w (upd H a ob) h' a ob) :
  Inv X pins σ (upd H a ob) { s with heap:=h',toks:=t' } :=
 I.write (x:=a) (e:=a) mu (.inl rfl) (fun b q hb z=>(hs.2 b hb).trans z) he new
theorem dk_new {P:Program} {w:World} {H':Hp} {h':Heap} {kvs:List (Key × V)} {vs:List (Key × Value)} (z:kvs.length<=sizeLine) (hd:(a == sysModules)=false) (rel:KV kvs vs) (dd:h'.DictOf (mixKind P w) a vs) :
  ObjOk P w H' h' a (.dK kvs):=⟨z,hd,vs,rel,dd⟩
end
def NoSl (i:Expr):Prop:=∀ ov iv,subscripted i false ov iv=operate [ov,iv] (getItem ov iv)
theorem subD_of {prog:Program} {w:World} {A:Around} {E:Value->Shared->Prop} {s:Shared} {env:Env} {value slice:Expr} {pos:Pos} {T id:String} {Q:Value->Shared->Prop}
  (hl:typeLookup (.type T) "__getitem__" = pure (some (.builtin id))) (hs:NoSl slice)
  (h:wpAny (model prog w) A (eval value env) (fun o s₁=>wpAny (model prog w) A (eval slice env) (fun i s₂=>s₂.TypeIs o T/\wpAny (model prog w) A (getItem o i) Q E s₂) E s₁) E s) :
  wpAny (model prog w) A (eval (.Subscript value slice pos) env) Q E s:=by
 refine Subscript_ (wpAny_mono h (fun o s₁ h₁=>wpAny_mono h₁ (fun i s₂ h₂=>?_) fun _ _ x=>x) fun _ _ x=>x)
 obtain⟨hT,h₂⟩:=h₂
 unfold subscriptTail
 refine wpAny_bind ?_
 rw [getitemInPython_of_ne hT.not_modules]
 refine wpAny_bind (wpAny_specialOf hT hl ?_)
 have fin:wpAny (model prog w) A (subscripted slice false o i) (fun r s₃=>wpAny (model prog w) A (letTemporaryGo value o r >>= fun _=>pure r) Q E s₃) E s₂:=by
  rw [hs o i]
  exact wpAny_operating (wpAny_mono h₂ (fun r s₃ h₃=>wpAny_bind (wpAny_letTemporaryGo (wpAny_pure h₃))) fun _ _ x=>x)
 first
  | exact wpAny_pure (wpAny_bind fin)
  | exact wpAny_bind (wpAny_pure (wpAny_bind fin))
  | exact wpAny_bind fin
theorem dict_typeIs {X:Cx} {pins:List (Addr × Obj)} {σ:St} {H:Hp} {s:Shared} {a:Addr} {y:V} {o:Option V} (I:Inv X pins σ H s) (g:DGet H a y o):s.TypeIs (.ref a) "dict":=by
 rcases g with⟨kvs,k,e,_,_⟩|⟨kvs,k,b,e,_,_,_⟩
 ·obtain⟨_,_,vs,_,dd⟩:=dk_rd I.hok e
  exact dd.typeIs
 ·obtain⟨_,_,xs,_,dd⟩:=dt_rd I.hok e
  exact dd.typeIs
def tDGet (td ty:TE):TE:=fun σ H Q=>td σ H fun x H1=>ty σ H1 fun y H2=>∃ a v,x=.ref a/\DGet H2 a y (some v)/\Q v H2
def tDNotIn (ty td:TE):TE:=fun σ H Q=>ty σ H fun y H1=>td σ H1 fun x H2=>∃ a o,x=.ref a/\DGet H2 a y o/\Q (.bl (!o.isSome)) H2
section
variable {X:Cx} {o i e value:Expr} {pos pos' tpos:Pos} {td ty tv:TE}
theorem pe_dget (hu:X.A.units + 1 < cLine) (ho:PE X o td) (hi:PE X i ty) (hs:NoSl i):PE X (.Subscript o i pos) (tDGet td ty):=by
 intro pins s σ H Q I h
 refine subD_of PySem.F.slot_dict_getitem.lookup hs (thn (ho pins s σ H _ I h) fun u s1 ⟨x,H1,I1,rx,q1⟩=>thn (hi pins s1 σ H1 _ I1 q1) fun iv s2 zq=>?_)
 obtain⟨y,H2,I2,ry,a,v,ex,g,q2⟩:=zq
 subst ex
 obtain rfl:u=Value.ref a:=rx
 exact⟨dict_typeIs I2 g,d_getItem hu I2 g ry fun w' s3 I3 rw'=>⟨v,H2,I3,rw',q2⟩⟩
theorem pc_dnotin (hu:X.A.units + 1 < cLine) (hi:PE X i ty) (ho:PE X o td):PC X .NotIn i o (tDNotIn ty td):=by
 intro pins s σ H Q I h
 refine thn (hi pins s σ H _ I h) fun iv s1 ⟨y,H1,I1,ry,q1⟩=>thn (ho pins s1 σ H1 _ I1 q1) fun u s2 zq=>?_
 obtain⟨x,H2,I2,rx,a,ov,ex,g,q2⟩:=zq
 subst ex
 obtain rfl:u=Value.ref a:=rx
 exact d_notIn hu I2 g ry fun s3 I3=>⟨.bl (!ov.isSome),H2,I3,rfl,q2⟩
end
theorem dk_empty {P:Program} {w:World} {H:Hp} (h:Heap) (hb:sysModules < h.objs.size):ObjOk P w H (h.push { cls:=.type "dict",data:=.dict #[] }) h.objs.size (.dK []) :=
 ⟨Nat.zero_le _,beq_eq_false_iff_ne.mpr (Ne.symm (Nat.ne_of_lt hb)),[],.nil,Heap.DictOf.new h⟩
section
variable {X:Cx}
theorem call_isiD:CallR X (.builtin "isinstance") (fun xs H Q=>∃ p T kvs,xs=[.ref p,.ty T]/\T ∈ isiTs/\H p=some (.dK kvs)/\Q (.bl (isa "dict" T)) H):=by
 intro pins s σ H xs us Q I r h
 obtain⟨p,T,kvs,rfl,hT,ht,q⟩:=h
 obtain⟨u,w',rfl,rx,rT⟩:=vals2 r
 cases rT
 cases rx
 have hT':T = "int" ∨ T = "bool" ∨ T = "str" ∨ T = "list" ∨ T = "tuple" ∨ T = "dict":=by simpa [isiTs] using hT
 have fin:∀ {k:Bool} {s':Shared},isa "dict" T=k->Inv X pins σ H s'->EP X pins σ Q (.bool k) s':=fun {k s'} e I'=>by subst e;exact⟨.bl _,H,I',rfl,q⟩
 obtain⟨_,_,vs,_,o,es,ep,e,hx,_⟩:=I.hok p _ ht
 have hc:o.cls=.type "dict":=hx.1
 rcases hT' with rfl|rfl|rfl|rfl|rfl|rfl
 ·exact IsiPair.dict_int e hc (fin (by decide) (I.tok _))
 ·exact IsiPair.dict_bool e hc (fin (by decide) (I.tok _))
 ·exact IsiPair.dict_str e hc (fin (by decide) (I.tok _))
 ·exact IsiPair.dict_list e hc (fin (by decide) (I.tok _))
 ·exact IsiPair.dict_tuple e hc (fin (by decide) (I.tok _))
 ·exact IsiPair.dict_dict e hc (fin (by decide) I)
def Itx (x:Str):It:=⟨fun i _=>i < x.cps.size,fun i H v H'=>H'=H/\∃ c,x.cps[i]?=some c/\v=.str ⟨#[c]⟩,fun i _=>x.cps.size<=i⟩
theorem turn_str {P:Program} {w:World} {K:Frag} {tg:Expr} (it:Addr) (x:Str) (t:Tok) (ty:String)
  (hty : ["enumerate","zip","dict_itemiterator","dict_reverseitemiterator","odict_iterator","itertools.zip_longest","itertools.pairwise"].contains ty=false)
  (W:∀ A:Around,A.handled=none->Walks P w A it [it] [it] x.cps.size (SignAt x) (fun i h=>h.IsStrIter it ty x t i))
  (hself:∀ (A:Around) (i:Nat) (s:Shared) (Q:Value->Shared->Prop) (E:Value->Shared->Prop),s.heap.IsStrIter it ty x t i->Q (.ref it) s->wpAny (model P w) A (pyIter (.ref it)) Q E s):Turn P w K tg (Itx x) [it] it (fun i h=>h.IsStrIter it ty x t i/\i<=x.cps.size) where
 mem:=by simp
 obj:=fun i h st b hb=>by
  have e:b=it:=by simpa using hb
  subst e
  obtain⟨⟨o,e,c,d⟩,_⟩:=st
  exact⟨o,e,fun v z=>by rw [d] at z;cases z⟩
 keep:=fun i h h' st k=>⟨let ⟨o,ho,r⟩:=st.1; ⟨o,k it (by simp) o ho,r⟩,st.2⟩
 item:=by
  intro X hP hw hK hc i pins s σ H E I hf st hg
  subst hP hw hK
  obtain⟨f0,f1,f2,f3,f4,f5⟩:=hf it (by simp)
  refine (W X.A (I.ok.hd hc)).item i s _ _ hg st.1 fun v h' tk hv st' kk=>?_
  obtain⟨c,u,hcc,rfl⟩:=hv
  have I1:Inv X pins σ H { s with heap:=h',toks:=tk }:=I.turned (fun b o hb e=>kk b o (by simpa using hb) e) f0 f1 f3 f4 f5
  obtain⟨o,e,cc,d⟩:=id st'
  exact⟨_,rfl,go_of (s:={ s with heap:=h',toks:=tk }) e cc d hty ⟨.str ⟨#[c]⟩,H,I1,⟨u,rfl⟩,⟨rfl,c,hcc,rfl⟩,⟨st',hg⟩,fun b hb=>(hf b hb).1⟩⟩
 done:=by
  intro X hP hw hK hc i pins s σ H E I hf st hg
  subst hP hw hK
  obtain⟨f0,f1,f2,f3,f4,f5⟩:=hf it (by simp)
  have hi:i=x.cps.size:=Nat.le_antisymm st.2 hg
  subst hi
  exact (W X.A (I.ok.hd hc)).done s _ _ st.1 fun h' tk eb=>⟨rfl,I.turned (fun b o hb e=>eb b o (by simpa using hb) e) f0 f1 f3 f4 f5⟩
 self:=fun A i s Q E st h=>hself A i s Q E st.1 h
def iStr (tl:TE):TI:=fun σ H R=>tl σ H fun v H1=>∃ x,v=.str x/\R (Itx x) H1
theorem pi_str {tg l:Expr} {tl:TE} (hl:PE X l tl):PI X tg l (iStr tl):=by
 intro pins s σ H R I h
 refine thn (hl pins s σ H _ I h) fun v s1 zq=>?_
 obtain⟨y,H1,I1,r1,q1⟩:=zq
 obtain⟨x,e,q⟩:=q1
 subst e
 obtain⟨t,rfl⟩:=r1
 have fin:∀ (ty:String) (o:Obj),["enumerate","zip","dict_itemiterator","dict_reverseitemiterator","odict_iterator","itertools.zip_longest","itertools.pairwise"].contains ty=false →
   (∀ A:Around,A.handled=none->Walks X.prog X.w A s1.heap.objs.size [s1.heap.objs.size] [s1.heap.objs.size] x.cps.size (SignAt x) (fun i h=>h.IsStrIter s1.heap.objs.size ty x t i)) →
   (∀ (A:Around) (i:Nat) (s:Shared) (Q:Value->Shared->Prop) (E:Value->Shared->Prop),s.heap.IsStrIter s1.heap.objs.size ty x t i->Q (.ref s1.heap.objs.size) s->wpAny (model X.prog X.w) A (pyIter (.ref s1.heap.objs.size)) Q E s) →
   (s1.heap.push o).IsStrIter s1.heap.objs.size ty x t 0->PIE X pins σ tg R (.ref s1.heap.objs.size) { s1 with heap:=s1.heap.push o }:=fun ty o hty W hs st=>by
  refine⟨s1.heap.objs.size,[s1.heap.objs.size],_,_,H1,rfl,I1.kept (t':=s1.toks) fun b o e=>Heap.get?_push_of_some _ e,turn_str _ x t ty hty W hs,⟨st,Nat.zero_le _⟩,fun b hb=>?_,q⟩
  have e:b=s1.heap.objs.size:=by simpa using hb
  subst e
  exact I1.fpOk (Nat.le_refl _) (I1.hok.fresh (Nat.le_refl _))
 cases ha:x.cps.all (· < 128)
 ·exact wpAny_pyIter_wide ha (fin "str_iterator" _ (by decide) (fun A hA=>Walks.strWide hA _ x t) (fun A i s Q E st h=>wpAny_pyIter_striter_wide st h) ⟨_,Heap.get?_push_size _ rfl,rfl,rfl⟩)
 ·exact wpAny_pyIter_ascii ha (fin "str_ascii_iterator" _ (by decide) (fun A hA=>Walks.strAscii hA _ x t) (fun A i s Q E st h=>wpAny_pyIter_striter_ascii st h) ⟨_,Heap.get?_push_size _ rfl,rfl,rfl⟩)
theorem comp_str {x:Str} {k:Nat} {js:List Nat} {tc:TT} {te:TE} {σ:St} {Q:VK} {H1:Hp} (P:Nat->List V->Hp->Prop) (h0:P 0 [] H1) (hl:∀ i ys H,i<=x.length->P i ys H->ys.length<=i) (hz:x.length < sizeLine)
  (hs:∀ i c ys H,x.cps.toList[i]?=some c->P i ys H->tc (some (.str ⟨#[c]⟩)::capV js σ) H fun b H2=>if b=true then te (some (.str ⟨#[c]⟩)::capV js σ) H2 fun v H3=>CompN P i js σ (some (.str ⟨#[c]⟩)::capV js σ) (ys++[v]) H3 else CompN P i js σ (some (.str ⟨#[c]⟩)::capV js σ) ys H2)
  (hd:∀ ys H,P x.length ys H->∀ p,H p=none->Q (.ref p) (upd H p (.lst ys))) (hk:k=1:=by rfl) :
  CompR (Itx x) k js (gName 0) tc te σ Q H1:=by
 subst hk
 refine⟨fun i m σ' ys H=>m=x.cps.size - i/\i<=x.cps.size/\P i ys H/\∃ o,σ'=o::capV js σ,⟨x.cps.size,by simp,Nat.zero_le _,h0,none,rfl⟩,?_⟩
 rintro i m σ' ys H ⟨rfl,hi,p,o,rfl⟩
 have hy:=hl i ys H hi p
 have hz':x.cps.size < sizeLine:=hz
 by_cases hlt:i < x.cps.size
 ·refine .inr ⟨hlt,by omega,CompN P i js σ,fun σ3 zs H3 z=>⟨x.cps.size - (i + 1),by omega,rfl,hlt,z.1,z.2⟩,fun v H' y=>?_⟩
  obtain⟨e,c,hc,y⟩:=y
  subst e
  subst y
  exact hs i c ys _ (by simpa using hc) p
 ·have e:i=x.cps.size:=by omega
  subst e
  exact .inl ⟨Nat.le_refl _,hd ys H p⟩
theorem in_one (x:Str) (c:Nat):(!(Builtin.Str.occurrences x ⟨#[c]⟩ 0 x.length 1).isEmpty)=decide (c ∈ x.cps.toList):=by
 rw [PyProof.Rows.empty_one,Bool.not_not]
theorem strsAre_of {ys:List Str} : ∀ {us:List Value},Vals (ys.map V.str) us->StrsAre us ys:=by
 induction ys with
 | nil=>intro us r;cases r;exact .nil
 | cons y ys ih =>
  intro us r
  cases r with
  | cons a b=>obtain⟨t,rfl⟩:=a;exact .cons _ _ (ih b)
theorem vals_strs:∀ (tk:Nat) (ps:List Str),Vals (ps.map V.str) (strsFrom tk ps)
 | _,[]=>.nil
 | tk,p::ps=>.cons ⟨_,rfl⟩ (vals_strs (tk + 1) ps)
theorem call_int_txt:CallR X (.type "int") (fun xs H Q=>∃ (x:Str) (n:Int),xs=[.str x]/\PySem.intText? x=some n/\x.length<=640/\Q (.int n) H):=by
 intro pins s σ H xs us Q I r h
 obtain⟨x,n,rfl,h1,h2,q⟩:=h
 obtain⟨u,rfl,t,rfl⟩:=vals1 r
 exact PySem.W.KIN.call_text h1 h2 ⟨.int n,H,I.tok _,⟨_,rfl⟩,q⟩
end
end L2
namespace L2
open PySem
theorem se_const {c k p} {es:List Expr} {env:Env} : starEach (.Constant c k p::es) env=(false,eval (.Constant c k p) env)::starEach es env:=rfl
theorem se_tuple {xs k p} {es:List Expr} {env:Env} : starEach (.Tuple xs k p::es) env=(false,eval (.Tuple xs k p) env)::starEach es env:=rfl
end L2
namespace L2
open PySem PySem.Spec PyProof.Rows
structure PEx (X:Cx) (e:Expr) (t:TE):Prop where
 h:PE X e t
structure PAx (X:Cx) (es:List Expr) (t:TA):Prop where
 h:PA X es t
structure PStx (X:Cx) (st:Stmt) (t:TS):Prop where
 h:PS X st t
structure PSx (X:Cx) (sts:List Stmt) (t:TS):Prop where
 h:PSs X sts t
section
variable {X:Cx} {e:Expr} {es:List Expr} {te:TE} {t:TA} {st:Stmt} {rest:List Stmt} {ts us:TS}
theorem pax_nil:PAx X [] tNil:=⟨pa_nil⟩
theorem pax_cons (ha:PEx X e te) (hr:PAx X es t) (hs:starEach (e::es) X.env=(false,eval e X.env)::starEach es X.env):PAx X (e::es) (tCons te t):=⟨pa_cons ha.h hr.h hs⟩
theorem pex_of (h:PE X e te):PEx X e te:=⟨h⟩
theorem pex_menu {ix:Expr} {ti:TE} {p1 p2:Pos} (hes:PAx X es t) (hi:PEx X ix ti) (hs:PlainIx ix):PEx X (.Subscript (.List es p1) ix p2) (tOp (rIxL X.K) (tLst t) ti):=⟨pe_ix ix_list (pe_lst hes.h) hi.h hs⟩
theorem pstx_of (h:PS X st ts):PStx X st ts:=⟨h⟩
theorem psx_cons (h1:PStx X st ts) (h2:PSx X rest us):PSx X (st::rest) (tSeq ts us):=⟨pss_cons h1.h h2.h⟩
theorem psx_one (h1:PStx X st ts):PSx X [st] ts:=⟨pss_one h1.h⟩
end
section
variable {X:Cx}
def rCatS (K:Frag):R2:=fun x y H Q=>∃ l b xs zs,x=.ref l/\y=.ref b/\SqL K H l xs/\SqL K H b zs/\xs.length + zs.length<=sizeLine/\∀ p,H p=none->Q (.ref p) (upd H p (.lst (xs++zs)))
theorem list_add_any (l:Addr) (items:Array Value) (n:Nat) (b:Addr) (items2:Array Value) (n2:Nat) (sl sl2:Array (Option Value)) (hc0:items.size + items2.size<=sizeLine) :
  Meets (Builtin.«list.__add__» ⟨[.ref l,.ref b],[]⟩) (fun _ R s=>s.heap.get? l=some { cls:=.type "list",dict:=none,data:=.seq items n,slots:=sl }/\s.heap.get? b=some { cls:=.type "list",dict:=none,data:=.seq items2 n2,slots:=sl2 }/\R (.ok (.ret (Value.ref s.heap.objs.size))) { s with heap:=s.heap.push { cls:=Value.type "list",data:=Data.seq (items++items2) },toks:=s.toks }) :=
 .of_wp fun prog w A R s h=>by obtain⟨hp,g,d,tk,os⟩:=s;obtain⟨hl,hb,h⟩:=h;have f1:=AutoSeq1.idx_int;have f2:=AutoSeq1.sub_tuple_tuple;have f3:=AutoSeq1.sub_list_list;have f4:=AutoSeq1.sub_tuple_list;have f5:=AutoSeq1.sub_list_tuple;wp_walk using AutoSeq1.wpAny_loadPart' hl,AutoSeq1.wpAny_loadPart' hb;exact⟨_,rfl,h⟩
theorem op_catS:OpR X (binaryOp .Add) (rCatS X.K):=by
 intro pins s σ H x y v u Q I rx ry h
 obtain⟨l,b,xs,zs,rfl,rfl,hH,hB,hz,q⟩:=h
 cases rx
 cases ry
 obtain⟨its,r,⟨o,n,e,hc,hdn,hd⟩,_⟩:=I.list hH
 obtain⟨its2,r2,⟨o2,n2,e2,hc2,hdn2,hd2⟩,_⟩:=I.list hB
 obtain⟨c,d,dt,sl⟩:=o
 obtain⟨c2,d2,dt2,sl2⟩:=o2
 cases hc;cases hdn;cases hd
 cases hc2;cases hdn2;cases hd2
 have l1:=r.length
 have l2:=r2.length
 refine concat_meets ⟨_,e,rfl⟩ ⟨_,e2,rfl⟩ PySem.noFill_list_add PySem.seq_list_add F.slot_list_add F.entry_list_add (F.args_list_add_2 _ _) (list_add_any l its.toArray n b its2.toArray n2 sl sl2 (by rw [List.size_toArray,List.size_toArray];omega)) ⟨e,e2,?_⟩
 have ea:its.toArray++its2.toArray=(its++its2).toArray:=by simp
 rw [ea]
 exact⟨.ref _,_,I.lnew (t':=s.toks) (r.append r2) (by rw [List.length_append];omega),rfl,q _ I.fresh⟩
mutual
inductive Dat (K:Frag) (H:Hp):V->PyData->Prop
 | non:Dat K H .non .none
 | bl (b:Bool):Dat K H (.bl b) (.bool b)
 | int (i:Int):Dat K H (.int i) (.int i)
 | str (x:Str):Dat K H (.str x) (.str x)
 | lst {a:Addr} {xs:List V} {ds:List PyData} : SqL K H a xs->DatAll K H xs ds->Dat K H (.ref a) (.list ds)
 | tup {a:Addr} {xs:List V} {ds:List PyData} : SqT K H a xs->DatAll K H xs ds->Dat K H (.ref a) (.tuple ds)
inductive DatAll (K:Frag) (H:Hp):List V->List PyData->Prop
 | nil:DatAll K H [] []
 | cons {x:V} {xs:List V} {d:PyData} {ds:List PyData} : Dat K H x d->DatAll K H xs ds->DatAll K H (x::xs) (d::ds)
end
end
mutual
theorem Dat.same {K:Frag} {H H':Hp} (g:Same H H'):∀ {x:V} {d:PyData},Dat K H x d->Dat K H' x d
 | _,_,.non=>.non
 | _,_,.bl b=>.bl b
 | _,_,.int i=>.int i
 | _,_,.str x=>.str x
 | _,_,.lst h t=>.lst (g.seq h) (DatAll.same g t)
 | _,_,.tup h t=>.tup (by
   rcases h with (h|⟨o,h⟩)|h
   ·exact .inl (.inl (g _ _ h))
   ·exact .inl (.inr ⟨o,g _ _ h⟩)
   ·exact .inr h) (DatAll.same g t)
theorem DatAll.same {K:Frag} {H H':Hp} (g:Same H H'):∀ {xs:List V} {ds:List PyData},DatAll K H xs ds->DatAll K H' xs ds
 | _,_,.nil=>.nil
 | _,_,.cons h t=>.cons (Dat.same g h) (DatAll.same g t)
end
section
variable {X:Cx}
theorem call_sum (hc:X.calm=true):CallR X (.builtin "sum") (fun xs H Q=>∃ (a:Addr) (ns:List Int),xs=[.ref a]/\SqL X.K H a (ns.map V.int)/\Q (.int ns.sum) H):=by
 intro pins s σ H xs us Q I r h
 obtain⟨a,ns,rfl,ha,q⟩:=h
 obtain⟨u,rfl,rx⟩:=vals1 r
 cases rx
 obtain⟨its,rv,pl,_⟩:=I.list ha
 have hi:=intsAre_of rv
 obtain⟨ys,hy⟩:=hi.allInts.items
 refine sum_intListG (I.ok.hd hc) (hy ▸ pl.isList) fun h' tk t' hk=>?_
 have e1:ns=ys.toList.map (·.1):=by
  rw [← nums_intItems,← hy]
  exact (show numsOf its.toArray.toList=ns from hi.numsOf).symm
 rw [preSum_eq,List.take_of_length_le (by simp),← e1]
 exact⟨.int ns.sum,H,I.kept hk,⟨_,rfl⟩,q⟩
end
section
variable {X:Cx}
theorem pg_tupK {K:Frag} {es:List Expr} {k:Nat} {t:TGs} {n:Nat} {pos:Pos} (hK:X.K=K) (hc:X.calm=true) (h:PGs X es t)
  (hn:(assignEach es X.env).length=n:=by rfl) (hst:(assignEach es X.env).findIdx? (·.1)=none:=by rfl):PG X (.Tuple es k pos) (gTup K n t):=hK ▸ pg_tup hc h hn hst
end
def CompM (P:Nat->List V->Hp->Prop) (i k:Nat) (js:List Nat) (σ:St):St->List V->Hp->Prop:=fun σ' ys H=>P (i + 1) ys H/\∃ os:St,os.length=k/\σ'=os++capV js σ
theorem comp_listM {K:Frag} {a:Addr} {xs:List V} {k:Nat} {js:List Nat} {g:TG} {tc:TT} {te:TE} {σ:St} {Q:VK} {H1:Hp} (P:Nat->List V->Hp->Prop) (h0:P 0 [] H1) (hl:∀ i ys H,i<=xs.length->P i ys H->SqL K H a xs/\ys.length<=i) (hz:xs.length < sizeLine)
  (hs:∀ i x ys H (os:St),os.length=k->xs[i]?=some x->P i ys H->g x (os++capV js σ) H fun σ3 H3=>tc σ3 H3 fun b H2=>if b=true then te σ3 H2 fun v H3=>CompM P i k js σ σ3 (ys++[v]) H3 else CompM P i k js σ σ3 ys H2)
  (hd:∀ ys H,P xs.length ys H->∀ p,H p=none->Q (.ref p) (upd H p (.lst ys))) :
  CompR (Itl K a) k js g tc te σ Q H1:=by
 refine⟨fun i m σ' ys H=>m=xs.length - i/\i<=xs.length/\P i ys H/\∃ os:St,os.length=k/\σ'=os++capV js σ,⟨xs.length,by simp,Nat.zero_le _,h0,List.replicate k none,List.length_replicate,rfl⟩,?_⟩
 rintro i m σ' ys H ⟨rfl,hi,p,os,ho,rfl⟩
 obtain⟨q,hy⟩:=hl i ys H hi p
 by_cases hlt:i < xs.length
 ·refine .inr ⟨⟨xs,xs[i],q,by simp [hlt]⟩,by omega,CompM P i k js σ,fun σ3 zs H3 z=>⟨xs.length - (i + 1),by omega,rfl,hlt,z.1,z.2⟩,fun x H' y=>?_⟩
  obtain⟨e,y⟩:=y
  subst e
  exact hs i x ys _ os ho (y xs q) p
 ·have e:i=xs.length:=by omega
  subst e
  exact .inl ⟨⟨xs,q,Nat.le_refl _⟩,hd ys H p⟩
def But (l:Addr) (H H':Hp):Prop:=∀ b o,b ≠ l->H b=some o->H' b=some o
theorem But.trans {l:Addr} {H H1 H2:Hp} (a:But l H H1) (b:But l H1 H2):But l H H2:=fun x o n q=>b x o n (a x o n q)
theorem But.refl {l:Addr} {H:Hp} : But l H H:=fun _ _ _ q=>q
theorem But.of {l:Addr} {H H':Hp} (g:Same H H'):But l H H':=fun x o _ q=>g x o q
theorem But.same {l:Addr} {H H':Hp} (a:But l H H') (h:H l=none):Same H H':=fun x o q=>a x o (ne_of_none q h) q
theorem But.upd {l:Addr} {H:Hp} {o:HO} : But l H (upd H l o):=fun x u n q=>by rw [upd_ne n];exact q
theorem But.tup {K:Frag} {l:Addr} {H H':Hp} {zs:List V} (e:But l H H') (hl:H l=some (.lst zs)) {a:Addr} {xs:List V} (h:SqT K H a xs):SqT K H' a xs:=by
 rcases h with (h|⟨o,h⟩)|h
 ·exact .inl (.inl (e _ _ (ne_of h hl (by intro z;cases z)) h))
 ·exact .inl (.inr ⟨o,e _ _ (ne_of h hl (by intro z;cases z)) h⟩)
 ·exact .inr h
end L2
namespace L2
open PySem
def Xc (h:Heap) (e C:Addr) (dx:Option Addr) (T:Addr) (fl:Option Value):Prop :=
 ∃ oe vs,h.get? e=some oe/\oe.cls=.ref C/\oe.dict=dx/\oe.data=.fields vs/\1 < vs.size ∧
  ((fl=none/\T=e/\vs[1]?=some .none)\/∃ oT ts v,fl=some v/\T ≠ e/\vs[1]?=some (.ref T)/\h.get? T=some oT/\oT.data=.fields ts/\ts[3]?=some v)
def Mv (S:List Addr) (e T:Addr) (h h':Heap):Prop :=
 ∀ b o,h.get? b=some o->b ≠ e->b ≠ T->(b ∉ S->h'.get? b=some o)/\∃ sl,h'.get? b=some { o with slots:=sl }
theorem Mv.refl (S:List Addr) (e T:Addr) (h:Heap):Mv S e T h h:=fun b o q _ _=>⟨fun _=>q,o.slots,q⟩
theorem Mv.ff {S:List Addr} {e T:Addr} {h h' base:Heap} {l:List Env} (m:Mv S e T h h') (ff:h.FunFrames base l) (he:∀ o,h.get? e=some o->∃ vs,o.data=.fields vs) (hT:∀ o,h.get? T=some o->∃ vs,o.data=.fields vs):h'.FunFrames base l :=
 ff.of_keeps fun b o q nf=>by
  obtain⟨_,sl,q'⟩:=m b o q (fun z=>by subst z;obtain⟨vs,z⟩:=he o q;exact nf vs z) (fun z=>by subst z;obtain⟨vs,z⟩:=hT o q;exact nf vs z)
  exact⟨_,q',rfl⟩
theorem Xc.fe {h:Heap} {e C:Addr} {dx:Option Addr} {T:Addr} {fl:Option Value} (x:Xc h e C dx T fl):∀ o,h.get? e=some o->∃ vs,o.data=.fields vs:=fun o q=>by
 obtain⟨oe,vs,he,_,_,hd,_⟩:=x
 rw [he] at q;cases q;exact⟨vs,hd⟩
theorem Xc.fT {h:Heap} {e C:Addr} {dx:Option Addr} {T:Addr} {fl:Option Value} (x:Xc h e C dx T fl):∀ o,h.get? T=some o->∃ vs,o.data=.fields vs:=fun o q=>by
 have fe:=x.fe
 obtain⟨oe,vs,he,_,_,hd,_,⟨_,rfl,_⟩|⟨oT,ts,v,_,_,_,hT,hd',_⟩⟩:=x
 ·exact fe o q
 ·rw [hT] at q;cases q;exact⟨ts,hd'⟩
theorem dict_mapFields (o:Obj) (f:Array Value->Array Value):(o.mapFields f).dict=o.dict:=by
 obtain⟨c,d,dt,sl⟩:=o
 cases dt <;> rfl
section
variable {M:Model} {A:Around} {E:Value->Shared->Prop} {s:Shared} {base:Heap} {env:Env} {outer:List Env} {L e C:Addr} {dx:Option Addr} {T:Addr} {fl:Option Value} {Q:Unit->Shared->Prop}
theorem entry_ok {s1:Shared} {oe:Obj} {vs:Array Value} {head:Value} {had:Bool} (hA:A.frames=some (env::outer)) (hL:env.frame=some L) (ff:s1.heap.FunFrames base (env::outer))
  (he:s1.heap.get? e=some oe) (hc:oe.cls=.ref C) (hx:oe.dict=dx) (hd:oe.data=.fields vs) (h1 : 1 < vs.size)
  (hQ:∀ h' T',s1.heap.get? T'=none->s1.heap.objs.size<=T'->Xc h' e C dx T' (some (rawInt L))->Mv ((env::outer).filterMap (·.frame)) e e s1.heap h'->Q () { s1 with heap:=h' }) :
  wpAny M A (do let a ← frameOf env;let pl ← entryPlaceOf L had;let b ← EntryCells.newEntry head a .none (rawInt L) .none pl;setField (.ref e) 1 b) Q E s1:=by
 have nfr:e ∉ (env::outer).filterMap (·.frame):=fun z=>by
  obtain⟨_,o,q,nf⟩:=ff.mem z
  rw [he] at q;cases q;exact nf vs hd
 refine wpAny_bind (wpAny_frameOf_fun hA ff hL fun g so=>wpAny_bind (wpAny_entryPlaceOf fun pl isp=>?_))
 unfold EntryCells.newEntry newFields
 refine wpAny_bind (wpAny_newObj_type ?_ (isp.sizeOk5 _ _ _ _ _))
 have e1:g.get? e=some oe:=(so.2.1 e nfr).trans he
 generalize hob:({ cls:=.type "traceback",dict:=none,data:=.fields ([head,.ref L,.none,rawInt L,.none]++(if pl.isEmpty then List.replicate 6 Value.none else pl)).toArray } : Obj)=ob
 have e2:=Heap.get?_push_of_some ob e1
 refine wpAny_setField e2 hd h1 ?_
 have nT:g.objs.size ≠ e:=Nat.ne_of_gt (Heap.lt_size e1)
 have d3:=Obj.data_mapFields hd (·.setIfInBounds 1 (Value.ref g.objs.size))
 have e3:=Heap.get?_update_self (Obj.mapFields (·.setIfInBounds 1 (Value.ref g.objs.size))) e2 (Obj.isFreed_of_fields d3)
 have t3:((g.push ob).update e (Obj.mapFields (·.setIfInBounds 1 (Value.ref g.objs.size)))).get? g.objs.size=some ob :=
  (Heap.get?_update_other _ _ (Ne.symm nT)).trans (Heap.get?_push_size g (by rw [← hob];rfl))
 refine hQ _ g.objs.size (Heap.get?_none_of_le (by rw [so.1];exact Nat.le_refl _)) (by rw [so.1];exact Nat.le_refl _) ⟨_,_,e3,(Obj.cls_mapFields _ _).trans hc,(dict_mapFields _ _).trans hx,d3,by simpa using h1,.inr ⟨ob,_,rawInt L,rfl,nT,by simp [h1],t3,by rw [← hob],?_⟩⟩ fun b o q ne _=>?_
 ·first
   | (simp;done)
   | (rcases isp with rfl|⟨_,_,_,_,_,_,_,rfl⟩ <;> simp)
 ·have keep:∀ u,g.get? b=some u->((g.push ob).update e (Obj.mapFields (·.setIfInBounds 1 (Value.ref g.objs.size)))).get? b=some u:=fun u z=>by
   rw [Heap.get?_update_other _ _ (Ne.symm ne)]
   exact Heap.get?_push_of_some _ z
  exact⟨fun nb=>keep _ ((so.2.1 b nb).trans q),let ⟨sl,z⟩:=so.2.2 b o q; ⟨sl,keep _ z⟩⟩
theorem note_ok (hA:A.frames=some (env::outer)) (hL:env.frame=some L) (ff:s.heap.FunFrames base (env::outer)) (x:Xc s.heap e C dx T fl) (hf:fl=none\/fl=some .none\/fl=some (rawInt L))
  (hQ:∀ h' T',(T'=T\/s.heap.objs.size<=T')->Xc h' e C dx T' (some (rawInt L))->Mv ((env::outer).filterMap (·.frame)) e T s.heap h'->Q () { s with heap:=h' }) :
  wpAny M A (noteFrame (.ref e) env) Q E s:=by
 have x0:=x
 obtain⟨oe,vs,he,hc,hx,hd,h1,ht⟩:=x
 unfold noteFrame
 simp only [hL]
 rcases ht with⟨rfl,rfl,hv⟩|⟨oT,ts,v,rfl,nT,hv,hT,hdT,h3⟩
 ·refine wpAny_bind (wpAny_field he hd hv ?_)
  rw [if_neg (by decide)]
  exact entry_ok hA hL ff he hc hx hd h1 fun h' T' _ q2 q3 q4=>hQ h' T' (.inr q2) q3 q4
 ·refine wpAny_bind (wpAny_field he hd hv ?_)
  rw [if_pos (show (Value.ref T != Value.none)=true from by simp)]
  refine wpAny_bind (wpAny_field hT hdT h3 ?_)
  by_cases hvL:v=rawInt L
  ·subst hvL
   rw [if_pos (show (rawInt L == rawInt L)=true from by simp)]
   exact wpAny_pure (hQ s.heap T (.inl rfl) x0 (Mv.refl _ _ _ _))
  ·have hv0:v=.none:=by
    rcases hf with z|z|z
    ·cases z
    ·exact Option.some.inj z
    ·exact absurd (Option.some.inj z) hvL
   subst hv0
   rw [if_neg (show ¬ ((Value.none == rawInt L)=true) from by simp [rawInt])]
   refine wpAny_bind (wpAny_setField hT hdT (Array.getElem?_eq_some_iff.mp h3).1 ?_)
   have oth:∀ b,b ≠ T->(s.heap.update T (Obj.mapFields (·.setIfInBounds 3 Value.none))).get? b=s.heap.get? b:=fun b hb=>Heap.get?_update_other _ _ (Ne.symm hb)
   have mv:Mv ((env::outer).filterMap (·.frame)) e T s.heap (s.heap.update T (Obj.mapFields (·.setIfInBounds 3 Value.none))):=fun b o q _ nb=>⟨fun _=>(oth b nb).trans q,o.slots,(oth b nb).trans q⟩
   refine entry_ok (s1:={ s with heap:=s.heap.update T (Obj.mapFields (·.setIfInBounds 3 Value.none)) }) hA hL (mv.ff ff x0.fe x0.fT) ((oth e (Ne.symm nT)).trans he) hc hx hd h1 fun h' T' q1 q2 q3 q4=>hQ h' T' (.inr ?_) q3 fun b o q ne nb=>?_
   ·have:(s.heap.update T (Obj.mapFields (·.setIfInBounds 3 Value.none))).objs.size=s.heap.objs.size:=Heap.size_after_update ..
    rw [← this];exact q2
   ·exact q4 b o ((oth b nb).trans q) ne ne
theorem flight_ok {v:Value} {fr:Option Addr} (x:Xc s.heap e C dx T (some v))
  (hQ:∀ h',Xc h' e C dx T (some (fr.elim .none fun f=>rawInt f))->Mv [] e T s.heap h'->Q () { s with heap:=h' }):wpAny M A (setFlight (.ref e) fr) Q E s:=by
 obtain⟨oe,vs,he,hc,hx,hd,h1,⟨z,_⟩|⟨oT,ts,v',_,nT,hv,hT,hdT,h3⟩⟩:=x
 ·cases z
 have hsz:=(Array.getElem?_eq_some_iff.mp h3).1
 unfold setFlight
 refine wpAny_bind (wpAny_field he hd hv ?_)
 rw [if_pos (show (Value.ref T != Value.none)=true from by simp)]
 refine wpAny_setField hT hdT hsz (hQ _ ?_ fun b o q _ nb=>?_)
 ·exact⟨oe,vs,(Heap.get?_update_other _ _ nT).trans he,hc,hx,hd,h1,.inr ⟨_,_,_,rfl,nT,hv,Heap.get?_update_self _ hT (Obj.isFreed_of_fields (Obj.data_mapFields hdT _)),Obj.data_mapFields hdT _,by simp [hsz]⟩⟩
 ·have:=(Heap.get?_update_other s.heap (Obj.mapFields (·.setIfInBounds 3 (fr.elim Value.none fun f=>rawInt f))) (Ne.symm nb)).trans q
  exact⟨fun _=>this,o.slots,this⟩
theorem Mv.trans {S S':List Addr} {e T T':Addr} {h h1 h2:Heap} (a:Mv S e T h h1) (b:Mv S' e T' h1 h2) (hT:T'=T\/h.get? T'=none) (hS:∀ x ∈ S',x ∈ S):Mv S e T h h2:=fun c o q ne nT=>by
 obtain⟨k1,sl,k2⟩:=a c o q ne nT
 have nT':c ≠ T':=fun z=>by
  rcases hT with y|y
  ·exact nT (z.trans y)
  ·rw [← z,q] at y;cases y
 refine⟨fun nS=>(b c o (k1 nS) ne nT').1 fun z=>nS (hS c z),?_⟩
 obtain⟨_,sl',k3⟩:=b c _ k2 ne nT'
 exact⟨sl',k3⟩
theorem leave_ok (hA:A.frames=some (env::outer)) (hL:env.frame=some L) (ff:s.heap.FunFrames base (env::outer)) (x:Xc s.heap e C dx T fl) (hf:fl=none\/fl=some .none\/fl=some (rawInt L))
  (hQ:∀ h' T',(T'=T\/s.heap.objs.size<=T')->Xc h' e C dx T' (some .none)->Mv ((env::outer).filterMap (·.frame)) e T s.heap h'->Q () { s with heap:=h' }) :
  wpAny M A (leaving env (.ref e)) Q E s:=by
 unfold leaving
 refine wpAny_bind (note_ok hA hL ff x hf fun h1 T1 q1 x1 m1=>flight_ok x1 fun h2 x2 m2=>hQ h2 T1 q1 x2 (m1.trans m2 ?_ (by simp)))
 exact q1.imp id fun z=>Heap.get?_none_of_le z
end
structure XTail (bm:List Value):Prop where
 v:bm.contains (.type "ValueError")=true
 b:bm.contains (.type "BaseException")=true
 a:bm.contains (.type "AttributeError")=false
 n:bm.contains (.type "NameError")=false
section
variable {prog:Program} {w:World} {M:Model} {A:Around} {E:Value->Shared->Prop} {h:Heap} {g:Array GenState} {d:Drawn} {t:Nat} {os:OsState}
 {nm qn:Str} {C N:Addr} {bs bm:List Value} {hdct:Bool} {sn:List Str} {sub:List Value} {ab:Bool} {col:Option Bool} {dd:Option Addr} {k0 k1 k2 k3 k5:Option Value}
abbrev xcls (nm qn:Str) (C N:Addr) (bs bm:List Value) (hdct:Bool) (sn:List Str) (sub:List Value) (ab:Bool) (col:Option Bool) (dd:Option Addr) (k0 k1 k2 k3 k5:Option Value):Obj :=
 excClassObj nm qn C N bs bm hdct sn sub ab col dd k0 k1 k2 k3 k5 "ValueError.__new__"
theorem XTail.cv (x:XTail bm):(Value.ref C::bm).contains (.type "ValueError")=true:=by rw [List.contains_cons,x.v,Bool.or_true]
theorem XTail.cb (x:XTail bm):(Value.ref C::bm).contains (.type "BaseException")=true:=by rw [List.contains_cons,x.b,Bool.or_true]
theorem XTail.ca (x:XTail bm):(Value.ref C::bm).contains (.type "AttributeError")=false:=by rw [List.contains_cons,x.a];rfl
theorem XTail.cn (x:XTail bm):(Value.ref C::bm).contains (.type "NameError")=false:=by rw [List.contains_cons,x.n];rfl
theorem xnew_check (x:XTail bm) {rest:List Value} {Q:Unit->Shared->Prop} (hC:h.get? C=some (xcls nm qn C N bs bm hdct sn sub ab col dd k0 k1 k2 k3 k5)) (hq:Q () ⟨h,g,d,t,os⟩) :
  wpAny M A (checkBuiltinCall "ValueError.__new__" ⟨.ref C::rest,[]⟩) Q E ⟨h,g,d,t,os⟩:=by
 have c1:=x.cv (C:=C)
 have B:=PySem.F.excBase_ValueError
 have c2:=B.noStar
 simp only [checkBuiltinCall,B.newSplit,B.newKind,B.newRow]
 repeat (first
  | refine wpAny_loadPart_at hC ?_
  | (refine wpAny_isSubtype_exc hC ?_;rw [c1])
  | refine wpAny_madeBy_exc hC ?_
  | refine wpAny_staticBase_exc hC ?_
  | simp only [bne_self_eq_false,if_false,Bool.false_eq_true]
  | wp_step)
 exact hq
theorem xnew_run (x:XTail bm) {rest:List Value} {R:Result->Shared->Prop} (hC:h.get? C=some (xcls nm qn C N bs bm hdct sn sub ab col dd k0 k1 k2 k3 k5)) (hz:rest.length<=sizeLine)
  (hq:R (.ok (.ret (.ref (h.objs.size + 1)))) ⟨(h.push { cls:=.type "tuple",data:=.seq rest.toArray }).push { cls:=.ref C,data:=.fields #[.ref h.objs.size,.none,.none,.none,.bool false,.none] },g,d,t,os⟩) :
  codeAny (model prog w) A (.builtin "ValueError.__new__" ⟨.ref C::rest,[]⟩) R ⟨h,g,d,t,os⟩:=by
 have B:=PySem.F.excBase_ValueError
 have c0:=B.ends
 have c1:=x.cv (C:=C)
 have c2:=x.ca (C:=C)
 have c3:=x.cn (C:=C)
 refine codeAny_builtinAt B.entry ?_
 unfold Builtin.«BaseException.__new__»
 refine wpAt_bind ?_
 show wpAt _ _ _ (stack >>= _) _ _ _
 refine wpAt_bind (wpAt_stack fun p below=>wpAt_of_wpAny ?_)
 wp_walk
 refine wpAt_of_wpAny ?_
 rw [B.owner]
 repeat (first
  | with_reducible refine wpAny_loadPart_at hC ?_
  | with_reducible refine wpAny_madeHere_exc B.canon hC ?_
  | (with_reducible refine wpAny_isSubtype_exc hC ?_;first|rw [c1]|rw [c2]|rw [c3])
  | wp_step)
 show R _ _
 rw [Heap.size_push]
 exact hq
theorem xtype_call (x:XTail bm) {mN:Str->Option Value} {rest:List Value} {fI:Addr} {oI:Obj} {Q:Fin->Shared->Prop} (hC:h.get? C=some (xcls nm qn C N bs bm hdct sn sub ab col dd k0 k1 k2 k3 k5))
  (hn:h.Ns N mN) (hi:mN "__init__" = some (.ref fI)) (hf:h.get? fI=some oI) (hfc:oI.cls=.type "function") (hz:rest.length<=sizeLine)
  (hq:∀ h' e,Heap.MadeExcOf h h' e (.ref C) rest->h.objs.size<=e->wpAny (model prog w) A (call (.ref fI) (.ref e::rest)) (fun r s'=>r=.none/\Q (.done (.ret (.ref e))) s') E ⟨h',g,d,t,os⟩) :
  wpAny (model prog w) A (Builtin.«type.__call__» ⟨.ref C::rest,[]⟩) Q E ⟨h,g,d,t,os⟩:=by
 repeat (first
  | with_reducible refine wpAny_madeBy_exc hC ?_
  | with_reducible refine wpAny_loadPart_at hC ?_
  | wp_step)
 have B:=PySem.F.excBase_ValueError
 refine codeAny_call_builtin_code (Code.quiet_builtin _ B.quiet) (xnew_check x hC (xnew_run x hC hz ?_))
 show wpAny _ _ _ _ _ _
 generalize htu:({ cls:=.type "tuple",data:=.seq rest.toArray } : Obj)=otu
 generalize hex:({ cls:=.ref C,data:=.fields #[.ref h.objs.size,.none,.none,.none,.bool false,.none] } : Obj)=oex
 have kp:∀ b o,h.get? b=some o->((h.push otu).push oex).get? b=some o:=fun b o z=>Heap.get?_push_of_some _ (Heap.get?_push_of_some _ z)
 have ge:((h.push otu).push oex).get? (h.objs.size + 1)=some oex:=by
  have:=Heap.get?_push_size (h.push otu) (o:=oex) (by rw [← hex];rfl)
  rwa [Heap.size_push] at this
 have gt:((h.push otu).push oex).get? h.objs.size=some otu:=Heap.get?_push_of_some _ (Heap.get?_push_size h (by rw [← htu];rfl))
 have oc:oex.cls=.ref C:=by rw [← hex]
 have hC1:=kp _ _ hC
 have hn1:((h.push otu).push oex).Ns N mN:=let ⟨o,es,ep,z,r⟩:=hn; ⟨o,es,ep,kp _ _ z,r⟩
 have c0:(Value.ref C::bm).contains (.ref C)=true:=by simp
 unfold isInstance
 repeat (first
  | (with_reducible refine wpAny_loadPart_at ge ?_;rw [oc])
  | (with_reducible refine wpAny_isSubtype_exc hC1 ?_;rw [c0])
  | wp_step)
 show wpAny _ _ (typeLookup (.ref C) _) _ _ _
 rw [typeLookup_eq]
 refine wpAny_bind (wpAny_mroOf_exc hC1 ?_)
 rw [lookupAlong_cons]
 refine wpAny_bind (wpAny_classOwn_exc hC1 hn1 ?_)
 rw [hi]
 refine wpAny_pure (wpAny_holding (wpAny_bind ?_))
 unfold bindSpecial
 refine wpAny_bind (wpAny_typeOf (T:="function") ⟨_,kp _ _ hf,hfc⟩ ?_)
 rw [if_pos (by decide)]
 refine wpAny_pure (wpAny_bind (wpAny_mono (hq _ (h.objs.size + 1) ⟨kp,Heap.get?_none_of_le (Nat.le_succ _),h.objs.size,by rw [ge,← hex],Heap.get?_none_of_le (Nat.le_refl _),by rw [gt,← htu]⟩ (Nat.le_succ _)) (fun r s' z=>?_) fun _ _ y=>y))
 obtain⟨rfl,z⟩:=z
 wp_walk
 exact z
theorem xmake (x:XTail bm) {mN:Str->Option Value} {rest:List Value} {fI:Addr} {oI:Obj} {Q:Value->Shared->Prop} (hC:h.get? C=some (xcls nm qn C N bs bm hdct sn sub ab col dd k0 k1 k2 k3 k5))
  (hn:h.Ns N mN) (hi:mN "__init__" = some (.ref fI)) (hf:h.get? fI=some oI) (hfc:oI.cls=.type "function") (hz:rest.length<=sizeLine)
  (hq:∀ h' e,Heap.MadeExcOf h h' e (.ref C) rest->h.objs.size<=e->wpAny (model prog w) (A.under (.builtin "type.__call__" ⟨.ref C::rest,[]⟩)) (call (.ref fI) (.ref e::rest)) (fun r s'=>r=.none/\Q (.ref e) s') E ⟨h',g,d,t,os⟩) :
  wpAny (model prog w) A (call (.ref C) rest) Q E ⟨h,g,d,t,os⟩:=by
 have b1:=tc_lookup
 have b2:=tc_bind (.ref C)
 have b3:(⟨h,g,d,t,os⟩ : Shared).TypeIs (.ref C) "type":=⟨_,hC,rfl⟩
 refine wpAny_call (codeAny_of_tree ?_)
 show wpAny _ _ (callAny (.ref C) _) _ _ _
 repeat (any_goals (first|assumption|with_reducible refine wpAny_loadPart_at hC ?_|wp_step))
 refine⟨rfl,codeAny_call_builtin_at (Code.quiet_builtin _ (by decide +kernel)) entry_typeCall (wpAny_check_type_call_sub hC (xtype_call x hC hn hi hf hfc hz hq))⟩
theorem xraise {s:Shared} {env:Env} {x:Sem Value} {Q:Flow->Shared->Prop} (hh:A.handled=none)
  (hx:wpAny M A x (fun v s1=>∃ (e C N:Addr) (nm qn:Str) (bs bm:List Value) (hdct:Bool) (sn:List Str) (sub:List Value) (ab:Bool) (col:Option Bool) (dd:Option Addr) (k0 k1 k2 k3 k5:Option Value) (dx:Option Addr) (vs:Array Value) (sl:Array (Option Value)),
   v=.ref e/\XTail bm/\s1.heap.get? C=some (xcls nm qn C N bs bm hdct sn sub ab col dd k0 k1 k2 k3 k5)/\s1.heap.get? e=some ⟨.ref C,dx,.fields vs,sl⟩/\vs[1]?=some .none/\E (.ref e) s1) E s) :
  wpAny M A (raiseStmt env (some x) none) Q E s:=by
 unfold raiseStmt
 refine wpAny_bind (wpAny_mono hx (fun v s1 z=>?_) fun _ _ y=>y)
 obtain⟨e,C,N,nm,qn,bs,bm,hdct,sn,sub,ab,col,dd,k0,k1,k2,k3,k5,dx,vs,sl,rfl,xt,hC,he,hv,hE⟩:=z
 have c1:=xt.cb (C:=C)
 obtain⟨hp,g,d,tk,os⟩:=s1
 repeat (first
  | with_reducible refine wpAny_loadPart_at he ?_
  | with_reducible refine wpAny_loadPart_at hC ?_
  | with_reducible refine wpAny_field he rfl hv ?_
  | (with_reducible refine wpAny_isSubtype_exc hC ?_;rw [c1])
  | wp_step)
 exact wpAny_raiseNew_none hh hE
theorem xRaise {s:Shared} {env:Env} {x:Expr} {pos:Pos} {Q:Flow->Shared->Prop} (hh:A.handled=none)
  (hx:wpAny M A (eval x env) (fun v s1=>∃ (e C N:Addr) (nm qn:Str) (bs bm:List Value) (hdct:Bool) (sn:List Str) (sub:List Value) (ab:Bool) (col:Option Bool) (dd:Option Addr) (k0 k1 k2 k3 k5:Option Value) (dx:Option Addr) (vs:Array Value) (sl:Array (Option Value)),
   v=.ref e/\XTail bm/\s1.heap.get? C=some (xcls nm qn C N bs bm hdct sn sub ab col dd k0 k1 k2 k3 k5)/\s1.heap.get? e=some ⟨.ref C,dx,.fields vs,sl⟩/\vs[1]?=some .none/\E (.ref e) s1) E s) :
  wpAny M A (exec (.Raise (some x) none pos) env) Q E s:=by
 rw [arm_exec_Raise]
 have key:=xraise (Q:=Q) (env:=env) (x:=do let v ← eval x env;standAt pos;pure v) hh (wpAny_bind (wpAny_mono hx (fun v s1 z=>wpAny_bind (wpAny_standAt (wpAny_pure z))) fun _ _ y=>y))
 first
  | exact wpAny_bind (wpAny_standAt key)
  | (simp only [evalOpt,Option.map];exact wpAny_bind (wpAny_standAt key))
theorem xinit_check (x:XTail bm) {e:Addr} {oe:Obj} {rest:List Value} {Q:Unit->Shared->Prop} (hC:h.get? C=some (xcls nm qn C N bs bm hdct sn sub ab col dd k0 k1 k2 k3 k5)) (he:h.get? e=some oe) (oc:oe.cls=.ref C)
  (hq:Q () ⟨h,g,d,t,os⟩):wpAny M A (checkBuiltinCall "ValueError.__init__" ⟨.ref e::rest,[]⟩) Q E ⟨h,g,d,t,os⟩:=by
 have c1:=x.cv (C:=C)
 have B:=PySem.F.excBase_ValueError
 have c2:=B.noStar
 simp only [checkBuiltinCall,B.initSplit,B.initKind,B.initRow]
 repeat (first
  | with_reducible refine wpAny_loadPart_at hC ?_
  | (with_reducible refine wpAny_loadPart_at he ?_;rw [oc])
  | (with_reducible refine wpAny_isSubtype_exc hC ?_;rw [c1])
  | wp_step)
 refine wpAny_onRaise ?_
 rw [show ∀ (a b:String) (n:Nat),Bind.check ⟨.positional,"*","ValueError",.self,[⟨"args",.varPos,false⟩]⟩ a b n (List.map (fun y=>y.fst) ({ pos:=Value.ref e::rest } : Args).kw)=pure () from fun a b n=>check_star_args _ _ _ _ _ _]
 exact wpAny_pure hq
theorem xinit (x:XTail bm) {e:Addr} {oe:Obj} {vs:Array Value} {v:Value} {Q:Value->Shared->Prop} (hC:h.get? C=some (xcls nm qn C N bs bm hdct sn sub ab col dd k0 k1 k2 k3 k5)) (he:h.get? e=some oe) (oc:oe.cls=.ref C)
  (hd:oe.data=.fields vs) (h1 : 1 < vs.size)
  (hq:∀ h' oe' vs',(∀ b o,b ≠ e->h.get? b=some o->h'.get? b=some o)->h'.get? e=some oe'->oe'.cls=oe.cls->oe'.dict=oe.dict->oe'.data=.fields vs'->vs'.size=vs.size->vs'[1]?=vs[1]?->Q .none ⟨h',g,d,t,os⟩) :
  wpAny (model prog w) A (call (.builtin "ValueError.__init__") [.ref e,v]) Q E ⟨h,g,d,t,os⟩:=by
 have B:=PySem.F.excBase_ValueError
 refine wpAny_call (codeAny_call_builtin B.init.plain B.initEntry (xinit_check x hC he oc ?_))
 obtain⟨c,dx,dt,sl⟩:=oe
 cases hd
 wp_walk
 have h0:vs[0]?=some vs[0]:=by simp
 rw [h0]
 refine wpAny_pure (wpAny_bind (wpAny_setField (Heap.get?_push_of_some _ he) rfl (by omega) ?_))
 have e2:=Heap.get?_push_of_some { cls:=Value.type "tuple",data:=Data.seq #[v] } he
 have fin:=hq _ _ _ (fun b o nb z=>(Heap.get?_update_other (h.push { cls:=Value.type "tuple",data:=Data.seq #[v] }) (Obj.mapFields (·.setIfInBounds 0 (Value.ref h.objs.size))) (Ne.symm nb)).trans (Heap.get?_push_of_some _ z))
  (Heap.get?_update_self (Obj.mapFields (·.setIfInBounds 0 (Value.ref h.objs.size))) e2 rfl) rfl rfl rfl (by simp) (by simp)
 generalize vs[0]=a0
 cases a0 <;> first
  | exact wpAny_pure (wpAny_pure fin)
  | exact wpAny_letGo (wpAny_pure fin)
theorem xmatch {e Cn:Addr} {oe:Obj} {b:Bool} {Q:Bool->Shared->Prop} {nm1 q1 nm2 q2:Str} {N1 N2:Addr} {bs1 bm1 bs2 bm2:List Value} {hd1 hd2:Bool} {sn1 sn2:List Str} {sub1 sub2:List Value} {ab1 ab2:Bool} {co1 co2:Option Bool} {dd1 dd2:Option Addr}
  {j0 j1 j2 j3 j5 l0 l1 l2 l3 l5:Option Value} {ni1 ni2:String} (hC:h.get? C=some (excClassObj nm1 q1 C N1 bs1 bm1 hd1 sn1 sub1 ab1 co1 dd1 j0 j1 j2 j3 j5 ni1)) (hD:h.get? Cn=some (excClassObj nm2 q2 Cn N2 bs2 bm2 hd2 sn2 sub2 ab2 co2 dd2 l0 l1 l2 l3 l5 ni2))
  (hb:bm2.contains (.type "BaseException")=true) (he:h.get? e=some oe) (oc:oe.cls=.ref C) (hs:(Value.ref C::bm1).contains (.ref Cn)=b) (hq:Q b ⟨h,g,d,t,os⟩):wpAny M A (excMatches (.ref e) (.ref Cn)) Q E ⟨h,g,d,t,os⟩:=by
 have c1:(Value.ref Cn::bm2).contains (.type "BaseException")=true:=by rw [List.contains_cons,hb,Bool.or_true]
 have c2:=tc_notTuple
 unfold excMatches
 repeat (first
  | with_reducible refine wpAny_loadPart_at hD ?_
  | (with_reducible refine wpAny_loadPart_at he ?_;rw [oc])
  | (with_reducible refine wpAny_isSubtype_exc hD ?_;rw [c1])
  | (with_reducible refine wpAny_isSubtype_exc hC ?_;rw [hs])
  | wp_step)
 cases b <;> (wp_walk;exact hq)
end
end L2
namespace L2
open PySem PyProof.Rows
abbrev VB:List Value:=[.type "ValueError",.type "Exception",.type "BaseException",.type "object"]
structure ExCl (K:Frag) (C R fI:Addr):Prop where
 obj:∃ (nm qn:Str) (N:Addr) (bs:List Value) (sn:List Str) (sub:List Value) (ab:Bool) (col:Option Bool) (dd:Option Addr) (k0 k1 k2 k3 k5:Option Value),
  K.lookup C=some (xcls nm qn C N bs (.ref R::VB) true sn sub ab col dd k0 k1 k2 k3 k5)/\PySem.W.nsOkIn K N=true/\nsIn K N "__init__" = some (some (.ref fI))
 fn:isFn K (.ref fI)=true
 kp:keepIn K (.ref C)=true
 sa:findIn K (.ref C) "__setattr__" = some (some (.builtin "object.__setattr__"))
 ga:findIn K (.ref C) "__getattribute__" = some (some (.builtin "BaseException.__getattribute__"))
 gh:findIn K (.ref C) "__getattr__" = some none
theorem xtail (R:Addr):XTail (.ref R::VB):=⟨rfl,rfl,rfl,rfl⟩
theorem ns_some_of {K:Frag} {h:Heap} {N:Addr} {m:Str->Option Value} {n:Str} {v:Value} (X:K.In h) (G:h.Ns N m) (e:nsIn K N n=some (some v)):m n=some v:=by
 obtain⟨o,es,ep,ho,hd,_,hf⟩:=G
 unfold nsIn at e
 cases q:K.lookup N with
 | none=>rw [q] at e;cases e
 | some o' =>
  have z:=X _ _ q
  rw [ho] at z;cases z
  rw [q] at e
  obtain⟨c,d,dt,sl⟩:=o
  cases hd
  rw [← hf]
  unfold nsFind findBy
  rw [← Array.find?_toList]
  dsimp only at e
  cases q2:es.toList.find? (fun x=>x.key.isStr n) with
  | some y =>
   rw [q2] at e
   exact congrArg (fun z:Option (Option Value)=>z.getD none) e
  | none =>
   rw [q2] at e
   dsimp only at e
   split at e <;> cases e
theorem ExCl.cls {K:Frag} {C R fI:Addr} (c:ExCl K C R fI) {h:Heap} (X:K.In h) :
  ∃ (nm qn:Str) (N:Addr) (bs:List Value) (sn:List Str) (sub:List Value) (ab:Bool) (col:Option Bool) (dd:Option Addr) (k0 k1 k2 k3 k5:Option Value) (mN:Str->Option Value) (oI:Obj),
   h.get? C=some (xcls nm qn C N bs (.ref R::VB) true sn sub ab col dd k0 k1 k2 k3 k5)/\h.Ns N mN/\mN "__init__" = some (.ref fI)/\h.get? fI=some oI/\oI.cls=.type "function":=by
 obtain⟨nm,qn,N,bs,sn,sub,ab,col,dd,k0,k1,k2,k3,k5,lk,nsok,nsi⟩:=c.obj
 have hN:=Heap.Ns.of_isNs (PySem.W.isNs_of_in X nsok)
 have hf:=c.fn
 unfold isFn PySem.W.typeIn at hf
 have hf':=beq_iff_eq.mp hf
 obtain⟨oI,q,r⟩:=Option.map_eq_some_iff.mp hf'
 exact⟨nm,qn,N,bs,sn,sub,ab,col,dd,k0,k1,k2,k3,k5,_,oI,X _ _ lk,hN,ns_some_of X hN nsi,X _ _ q,r⟩
section
variable {prog:Program} {w:World} {A:Around} {E:Value->Shared->Prop} {s:Shared} {K:Frag} {e C R fI:Addr} {oe:Obj} {vs:Array Value} {name:Str} {v:Value}
theorem inst_of {od:Option Obj} (he:s.heap.get? e=some oe) (oc:oe.cls=.ref C) (hd:oe.data=.fields vs) (hx:match oe.dict,od with|some dx,some o=>s.heap.get? dx=some o|none,none=>True|_,_=>False):PySem.W.InstAt s.heap e oe C od :=
 ⟨he,oc,by unfold PySem.W.notCls;rw [hd],hx⟩
theorem ExCl.clsIn (c:ExCl K C R fI):∃ cd,PySem.W.clsIn K C=some cd/\cd.mro=.ref C :: .ref R::VB/\cd.hasDict=true:=by
 obtain⟨nm,qn,N,bs,sn,sub,ab,col,dd,k0,k1,k2,k3,k5,lk,_⟩:=c.obj
 exact⟨_,by unfold PySem.W.clsIn;rw [lk],rfl,rfl⟩
theorem xset_open {od:Option Obj} {Q:Unit->Shared->Prop} (X:K.In s.heap) (c:ExCl K C R fI) (I:PySem.W.InstAt s.heap e oe C od) (hf:findIn K (.ref C) name=some none)
  (h:wpAny (model prog w) A.in1 (Builtin.ObjectAttr.storeInOwnDict (.ref e) (.ref C) (.str name s.toks) name v false)
   (fun fin s'=>match fin with | .done (.ret _)=>Q () s'|_=>False) (fun _ _=>False) { s with toks:=s.toks + 1 }) :
  wpAny (model prog w) A (setAttr (.ref e) name v) Q E s:=by
 have SF:=PySem.F.store_ValueError
 obtain⟨cd,hcd,hm,hh⟩:=c.clsIn
 refine PySem.W.set_plain X I c.sa ?_
 have mro:PySem.W.Looks (model prog w) s.heap (mroOf (.ref C)) (.ref C :: .ref R::VB):=hm ▸ (PySem.W.looks_clsIn X hcd).andThen .now
 have isO:PySem.W.Looks (model prog w) s.heap (isInstance (.ref e) (.type "object")) true:=I.type.andThen (PySem.W.looks_mroIn X (by
  unfold PySem.W.mroIn
  rw [hcd,Option.bind_some,hm,if_neg (by intro z;cases z)]
  rfl))
 refine codeAny_call_builtin SF.slot.plain SF.entry (@PySem.W.check_slot (model prog w) _ _ { s with toks:=s.toks + 1 } "object.__setattr__" "object" "__setattr__" (.ref e) [.str name s.toks,v] [] _ SF.kind SF.split isO (SF.args (.ref e) (.str name s.toks) v) ?_)
 rw [PySem.W.osa_eq,refuse_eq]
 refine wpAny_bind (wpAny_bind (PySem.W.Looks.here (s:={ s with toks:=s.toks + 1 }) I.type (wpAny_bind (PySem.W.Looks.here (s:={ s with toks:=s.toks + 1 }) mro ?_))))
 rw [refuseLoop_ref,refuseLoop_ref,SF.passes]
 refine wpAny_pure (wpAny_bind (PySem.W.Looks.here (s:={ s with toks:=s.toks + 1 }) I.type (wpAny_bind (PySem.W.Looks.here (s:={ s with toks:=s.toks + 1 }) (PySem.W.looks_findIn X hf) (wpAny_bind (wpAny_pure ?_))))))
 refine wpAny_mono h (fun fin s' z=>?_) fun _ _ z=>z.elim
 rcases fin with (_|_|_|_)|_ <;> first|exact z|exact z.elim
theorem xset_first {Q:Unit->Shared->Prop} (X:K.In s.heap) (c:ExCl K C R fI) (he:s.heap.get? e=some oe) (oc:oe.cls=.ref C) (hd:oe.data=.fields vs) (hx:oe.dict=none) (hf:findIn K (.ref C) name=some none)
  (h:∀ h' dx tk,s.heap.objs.size<=dx->dx ≠ e->h'.get? e=some { oe with dict:=some dx }->h'.Ns1 dx (fun y=>if y=name then some v else none)->(∀ b o,b ≠ e->s.heap.get? b=some o->h'.get? b=some o)->Q () { s with heap:=h',toks:=tk }) :
  wpAny (model prog w) A (setAttr (.ref e) name v) Q E s:=by
 obtain⟨cd,hcd,hm,hh⟩:=c.clsIn
 refine xset_open X c (inst_of (od:=none) he oc hd (by rw [hx];trivial)) hf ?_
 obtain⟨cc,dd,dt,sl⟩:=oe
 cases oc;cases hd;cases hx
 have ne:s.heap.objs.size ≠ e:=Nat.ne_of_gt (Heap.lt_size he)
 unfold Builtin.ObjectAttr.storeInOwnDict Builtin.ObjectAttr.ownDictForStores instanceDict
 refine wpAny_bind (wpAny_pure ?_)
 refine wpAny_bind (wpAny_bind (wpAny_loadPart he (wpAny_bind (PySem.W.Looks.here (s:={ s with toks:=s.toks + 1 }) (PySem.W.looks_clsIn X hcd) ?_))))
 rw [hh]
 refine wpAny_bind (wpAny_alloc ?_)
 have he1:=Heap.get?_push_of_some ({ cls:=.type "dict",data:=.dict #[] } : Obj) he
 refine wpAny_bind (wpAny_update he1 ?_)
 refine wpAny_pure (a:=some s.heap.objs.size) ?_
 have hg:((s.heap.push ({ cls:=.type "dict",data:=.dict #[] } : Obj)).update e fun o=>{ o with dict:=some s.heap.objs.size }).get? s.heap.objs.size=some ({ cls:=.type "dict",data:=.dict #[] } : Obj):=(Heap.get?_update_ne _ _ _ _ ne).trans (Heap.get?_push_at rfl rfl)
 have hE:((s.heap.push ({ cls:=.type "dict",data:=.dict #[] } : Obj)).update e fun o=>{ o with dict:=some s.heap.objs.size }).Ns s.heap.objs.size (fun _=>none):=⟨_,#[],_,hg,rfl,fun y hy=>absurd hy (by simp),fun _=>rfl⟩
 refine wpAny_bind (wpAny_pure (wpAny_bind (wpAny_nsSet1 (Heap.Ns1.of_empty hE) fun h' hn hs=>?_)))
 obtain⟨oD,esD,epD,hoD,hdD,hcD⟩:=hn.count (PySem.Within.cons name v PySem.Within.nil)
 refine wpAny_bind (wpAny_lookBehind hoD (by rw [hdD];exact pastItsLine_dict (Nat.le_trans hcD (by rw [List.length_cons,List.length_nil];omega))) ?_)
 refine wpAny_pure (h h' s.heap.objs.size _ (Nat.le_refl _) ne ((hs.2 _ (Ne.symm ne)).trans (Heap.get?_update_self _ he1 rfl)) hn fun b o hb q=>?_)
 exact (hs.2 b (Nat.ne_of_lt (Heap.lt_size q))).trans ((Heap.get?_update_ne _ _ _ _ hb).trans (Heap.get?_push_of_some _ q))
theorem xset_next {dx:Addr} {mA:Str->Option Value} {ns:List Str} {Q:Unit->Shared->Prop} (X:K.In s.heap) (c:ExCl K C R fI) (he:s.heap.get? e=some oe) (oc:oe.cls=.ref C) (hd:oe.data=.fields vs) (hx:oe.dict=some dx) (hN:s.heap.Ns1 dx mA) (hw:PySem.Within mA ns) (hz:ns.length<=sizeLine) (hf:findIn K (.ref C) name=some none)
  (h:∀ h',h'.Ns1 dx (fun y=>if y=name then some v else mA y)->Heap.SameBut dx s.heap h'->Q () { s with heap:=h',toks:=s.toks + 2 }) :
  wpAny (model prog w) A (setAttr (.ref e) name v) Q E s:=by
 obtain⟨cd,hcd,hm,hh⟩:=c.clsIn
 obtain⟨o1,es1,ep1,ho1,_⟩:=id hN
 refine xset_open X c (inst_of (od:=some o1) he oc hd (by rw [hx];exact ho1)) hf ?_
 obtain⟨cc,dd,dt,sl⟩:=oe
 cases oc;cases hd;cases hx
 unfold Builtin.ObjectAttr.storeInOwnDict Builtin.ObjectAttr.ownDictForStores instanceDict
 refine wpAny_bind (wpAny_pure ?_)
 refine wpAny_bind (wpAny_bind (wpAny_loadPart he (wpAny_bind (PySem.W.Looks.here (s:={ s with toks:=s.toks + 1 }) (PySem.W.looks_clsIn X hcd) ?_))))
 rw [hh]
 refine wpAny_pure (a:=some dx) (wpAny_bind (wpAny_pure (wpAny_bind (wpAny_nsSet1 (s:={ s with toks:=s.toks + 1 }) hN fun h' hn hs=>?_))))
 obtain⟨oD,esD,epD,hoD,hdD,hcD⟩:=hn.count (PySem.Within.cons name v hw)
 refine wpAny_bind (wpAny_lookBehind hoD (by rw [hdD];exact pastItsLine_dict (Nat.le_trans hcD (by rw [List.length_cons];omega))) ?_)
 exact wpAny_pure (h _ hn hs)
end
section
variable {prog:Program} {w:World} {A:Around} {E:Value->Shared->Prop} {s:Shared} {K:Frag} {e C R fI:Addr} {oe:Obj} {vs:Array Value} {name:Str} {v:Value}
theorem xget {expr:Bool} {od:Option Obj} {Q:Value->Shared->Prop} (X:K.In s.heap) (c:ExCl K C R fI) (I:PySem.W.InstAt s.heap e oe C od) (hf:PySem.W.findObj K C od name=some (.value v)) (hh:PySem.W.handedIn v=true) (h:Q v { s with toks:=s.toks + 1 }) :
  wpAny (model prog w) A (getAttr (.ref e) name expr) Q E s:=by
 obtain⟨cd,hcd,hm,_⟩:=c.clsIn
 have isB:PySem.W.Looks (model prog w) s.heap (isInstance (.ref e) (.type "BaseException")) true:=I.type.andThen (PySem.W.looks_mroIn X (by
  unfold PySem.W.mroIn
  rw [hcd,Option.bind_some,hm,if_neg (by intro z;cases z)]
  rfl))
 have L0:=I.type (M:=model prog w)
 have L1:=PySem.W.looks_findIn (M:=model prog w) X c.ga
 have L2:=PySem.W.looks_findIn (M:=model prog w) X c.gh
 have L3:=PySem.W.looks_find (M:=model prog w) X I hf
 have hx0:(expr && onTheHeap (Value.builtin "BaseException.__getattribute__"))=false:=by cases expr <;> rfl
 obtain⟨hp,g,d,t,os⟩:=s
 unfold getAttr getAttrBy
 refine wpAny_bind (wpAny_mkText (wpAny_holding (wpAny_bind (L0.at (wpAny_bind (L1.at ?_))))))
 show wpAny _ _ (getAttrByItsOwn _ _ _ _ _ _) _ _ _
 unfold getAttrByItsOwn
 refine wpAny_bind (show wpAny _ _ (typeLookup (.ref C) "__getattr__") _ _ _ from L2.at ?_)
 have FB:=PySem.F.attr_ValueError.ga
 have hk:builtinKind "BaseException.__getattribute__" = some .slot:=by decide +kernel
 have hs:splitId "BaseException.__getattribute__" = some ("BaseException","__getattribute__"):=by decide +kernel
 refine wpAny_bind (wpAny_attempt (wpAny_holding ?_))
 unfold callGetattribute
 rw [hx0,if_neg Bool.false_ne_true]
 unfold boundAndCalled
 rw [FB.bind]
 refine wpAny_bind (wpAny_pure (wpAny_call ?_))
 show codeAny _ _ (.call (.builtin "BaseException.__getattribute__") ⟨[.ref e,.str name t],[]⟩) _ _
 refine codeAny_call_builtin FB.plain PySem.F.entry_bexc_ga ?_
 refine @PySem.W.check_slot (model prog w) _ _ _ "BaseException.__getattribute__" "BaseException" "__getattribute__" (.ref e) [.str name t] [] _ hk hs isB (PySem.F.args_bexc_ga _ _) ?_
 unfold Builtin.«object.__getattribute__» slotArgs
 refine wpAny_bind (wpAny_pure ?_)
 refine wpAny_bind (wpAny_pure ?_)
 refine wpAny_bind (L0.at ?_)
 refine wpAny_bind (L3.at ?_)
 refine wpAny_pure ?_
 show wpAny _ _ (handedOut v) _ _ _
 rw [PySem.W.handedOut_of hh]
 exact wpAny_pure h
end
end L2
namespace L2
open PySem PySem.Spec PyProof.Rows
def Ex0 (e C:Addr) (dx:Option Addr):HO:=.ext fun h=>∃ oe vs,h.get? e=some oe/\oe.cls=.ref C/\oe.dict=dx/\oe.data=.fields vs/\1 < vs.size/\vs[1]?=some .none
def ExF (e C:Addr) (dx:Option Addr):HO:=.ext fun h=>∃ oe vs,h.get? e=some oe/\oe.cls=.ref C/\oe.dict=dx/\oe.data=.fields vs
theorem Ex0.ok {P:Program} {w:World} {H:Hp} {h:Heap} {e C:Addr} {dx:Option Addr} {oe:Obj} {vs:Array Value} (he:h.get? e=some oe) (hc:oe.cls=.ref C) (hx:oe.dict=dx) (hd:oe.data=.fields vs) (h1 : 1 < vs.size) (hv:vs[1]?=some .none):ObjOk P w H h e (Ex0 e C dx) :=
 ⟨⟨oe,vs,he,hc,hx,hd,h1,hv⟩,⟨oe,he⟩,fun _ _ ⟨oe,vs,a,b⟩ k=>⟨oe,vs,k _ a,b⟩⟩
theorem ExF.ok {P:Program} {w:World} {H:Hp} {h:Heap} {e C:Addr} {dx:Option Addr} {oe:Obj} {vs:Array Value} (he:h.get? e=some oe) (hc:oe.cls=.ref C) (hx:oe.dict=dx) (hd:oe.data=.fields vs):ObjOk P w H h e (ExF e C dx) :=
 ⟨⟨oe,vs,he,hc,hx,hd⟩,⟨oe,he⟩,fun _ _ ⟨oe,vs,a,b⟩ k=>⟨oe,vs,k _ a,b⟩⟩
theorem Xc.ok {P:Program} {w:World} {H:Hp} {h:Heap} {e C:Addr} {dx:Option Addr} {T:Addr} {fl:Option Value} (x:Xc h e C dx T fl):ObjOk P w H h e (ExF e C dx):=by
 obtain⟨oe,vs,he,hc,hx,hd,_⟩:=x
 exact ExF.ok he hc hx hd
structure Fly (X:Cx) (pins:List (Addr × Obj)) (σ:St) (H:Hp) (s:Shared) (e C:Addr) (dx:Option Addr) (T:Addr) (fl:Option Value):Prop where
 inv:Inv X pins σ H s
 at_:H e=some (ExF e C dx)
 xc:Xc s.heap e C dx T fl
 ye:X.s₀.heap.objs.size<=e
 fp:T=e\/FpOk X pins H T
section
variable {X:Cx} {pins:List (Addr × Obj)} {σ:St} {H H':Hp} {s s':Shared} {e C:Addr} {dx:Option Addr} {T:Addr} {fl:Option Value}
theorem Fly.moved (f:Fly X pins σ H s e C dx T fl) {h':Heap} {T':Addr} {fl':Option Value} (m:Mv (frs X.stack) e T s.heap h') (hT:T'=T\/s.heap.objs.size<=T') (x':Xc h' e C dx T' fl') :
  Fly X pins σ H { s with heap:=h' } e C dx T' fl':=by
 have I:=f.inv
 have nT:∀ b u,H b=some u->b ≠ e->b ≠ T:=fun b u q ne z=>by
  rcases f.fp with y|y
  ·exact ne (z.trans y)
  ·rw [z,y.1] at q;cases q
 have hok:HOk X.prog X.w H h':=fun b u q=>by
  by_cases hb:b=e
  ·subst hb;rw [f.at_] at q;cases q;exact x'.ok
  ·refine (I.hok b u q).stay (fun c v hc z=>?_) (fun _ z=>z) fun _ _ z=>z
   have hc':∃ u',H c=some u'/\c ≠ e:=by
    rcases hc with rfl|hc
    ·exact⟨u,q,hb⟩
    ·exact⟨_,hc,fun y=>by rw [y,f.at_] at hc;cases hc⟩
   obtain⟨u',qc,nc⟩:=hc'
   exact (m c v z nc (nT c u' qc nc)).1 fun y=>by rw [I.stkFree c y] at qc;cases qc
 obtain⟨oe,vs,he,_⟩:=id x'
 have un:Un (frs X.stack) [T] H H s.heap h':=by
  have nn:∀ b,H b=none->b ≠ e:=fun b n z=>by rw [z,f.at_] at n;cases n
  refine⟨fun b o q n hb hx=>(m b o q (nn b n) (fun z=>hx (by simp [z]))).1 hb,fun b o q n _ hx=>(m b o q (nn b n) (fun z=>hx (by simp [z]))).2,fun _ _ _ n _=>n,fun b o q hx=>?_,fun _ _ q=>q,fun _ _ _ q=>q,fun _ ps q=>⟨#[],by rw [q];simp⟩⟩
  by_cases hb:b=e
  ·exact⟨oe,hb ▸ he⟩
  ·obtain⟨_,sl,z⟩:=m b o q hb (fun z=>hx (by simp [z]))
   exact⟨_,z⟩
 have hch:∀ b ∈ [T],(b ∈ X.ex\/X.s₀.heap.objs.size<=b)/\b ≠ X.env.locals/\(∀ x c,X.env.cells.lookup x=some c->c ≠ b)/\∀ p ∈ X.pn++pins,p.1 ≠ b:=fun b hb=>by
  obtain rfl:b=T:=by simpa using hb
  rcases f.fp with y|y
  ·subst y
   refine⟨.inr f.ye,fun z=>?_,fun x c q z=>?_,fun p hp z=>?_⟩
   ·have:=I.free;rw [← z,f.at_] at this;cases this
   ·have:=I.freeC x c q;rw [z,f.at_] at this;cases this
   ·have:=(I.pin p hp).2.1;rw [z,f.at_] at this;cases this
  ·exact⟨y.2.2.2.1,y.2.1,y.2.2.2.2.1,y.2.2.2.2.2⟩
 refine⟨I.call (g':=s.gens) (t':=s.toks) (d':=s.drawn) un hok I.bare hch,f.at_,x',f.ye,?_⟩
 rcases hT with z|z
 ·rw [z];exact f.fp
 ·exact .inr (I.fpOk z (I.hok.fresh z))
theorem Xc.neT {h:Heap} {v:Value} (x:Xc h e C dx T (some v)):T ≠ e:=by
 obtain⟨oe,vs,_,_,_,_,_,⟨z,_⟩|⟨_,_,_,_,n,_⟩⟩:=x
 ·cases z
 ·exact n
def CXE (P:Program) (w:World):CXT:=fun outer H s E ev s'=>∃ (e C:Addr) (dx:Option Addr) (T:Addr) (H':Hp),ev=.ref e/\s'.os=s.os/\AllBare s'.gens/\Un (frs outer) [] H H' s.heap s'.heap/\HOk P w H' s'.heap ∧
 H' e=some (ExF e C dx)/\Xc s'.heap e C dx T (some .none)/\s.heap.objs.size<=e/\s.heap.objs.size<=T/\H' T=none/\E ev none H'
theorem Fly.of_call {E:XK} {ev:Value} (I:Inv X pins σ H s) (h:CXE X.prog X.w X.stack H s E ev s'):∃ e C dx T H',ev=.ref e/\Fly X pins σ H' s' e C dx T (some .none)/\E ev none H':=by
 obtain⟨e,C,dx,T,H',rfl,os,ba,un,hok,at_,xc,ye,yT,hT,hE⟩:=h
 have I':=I.call' (ch:=[]) os un hok ba (fun b hb=>absurd hb (by simp))
 exact⟨e,C,dx,T,H',rfl,⟨I',at_,xc,Nat.le_trans I.sz ye,.inr (I.fpOk yT hT)⟩,hE⟩
end
section
variable {P:Program} {w:World} {K:Frag} {mg:Str->Option Value} {base:Heap} {N:List Str} {qual:Str} {scope:Scope} {f:Addr} {cd:Value} {A:Around} {outer:List Env} {s₀ : Shared} {H₀ : Hp} {E E':XK}
theorem leave_cx {pins:List (Addr × Obj)} {σ:St} {H:Hp} {s:Shared} {e C:Addr} {dx:Option Addr} {T:Addr} {fl:Option Value} (y:Fly (cxOf (CXE P w) P w K mg base N qual scope f cd A outer s₀ H₀ E) pins σ H s e C dx T fl)
  (hf:fl=none\/fl=some .none\/fl=some (rawInt s₀.heap.objs.size)) (hE:E (.ref e) none H):(cxOf (CXE P w) P w K mg base N qual scope f cd A outer s₀ H₀ E).xe (.ref e) s:=by
 have I:=y.inv
 refine leave_ok (base:=base) (env:=envOfC qual scope s₀.heap.objs.size f cd) (outer:=outer) I.ok.frames rfl I.stack y.xc hf fun h' T' hT x' m=>?_
 have y':=y.moved m hT x'
 have I':=y'.inv
 rcases y'.fp with z|z
 ·exact absurd z x'.neT
 refine⟨e,C,dx,T',H,rfl,I'.os,I'.bare,I'.base,I'.hok,y.at_,x',y.ye,?_,z.1,hE⟩
 rcases z.2.2.2.1 with q|q
 ·exact absurd (show T' ∈ ([]:List Addr) from q) (by simp)
 ·exact q
theorem passE (hE:∀ v d H',E' v d H'->E v d H'):Passes (CXE P w) (cxOf (CXE P w) P w K mg base N qual scope f cd A outer s₀ H₀ E) E':=by
 intro pins σ H s ev s' I h
 obtain⟨e,C,dx,T,H',rfl,y,q⟩:=Fly.of_call (X:=cxOf (CXE P w) P w K mg base N qual scope f cd A outer s₀ H₀ E) I h
 exact leave_cx y (.inr (.inl rfl)) (hE _ _ _ q)
theorem passX {P:Program} {w:World} {X:Cx} : Passes (CXE P w) X E0:=fun _ _ _ _ _ _ _ h=>by
 obtain⟨_,_,_,_,_,_,_,_,_,_,_,_,_,_,_,q⟩:=h
 exact q.elim
def Raises (X:Cx) (S:St->Prop) (E:XK):Prop:=∀ (pins:List (Addr × Obj)) (σ:St) (H:Hp) (s:Shared) (e C:Addr) (dx:Option Addr),S σ->Inv X pins σ H s->H e=some (Ex0 e C dx)->X.s₀.heap.objs.size<=e->E (.ref e) none (upd H e (ExF e C dx))->X.xe (.ref e) s
theorem Fly.start {X:Cx} {pins:List (Addr × Obj)} {σ:St} {H:Hp} {s:Shared} {e C:Addr} {dx:Option Addr} (I:Inv X pins σ H s) (he:H e=some (Ex0 e C dx)) (ye:X.s₀.heap.objs.size<=e) :
  Fly X pins σ (upd H e (ExF e C dx)) s e C dx e none:=by
 obtain⟨⟨oe,vs,q,hc,hx,hd,h1,hv⟩,_⟩:=I.hok e _ he
 have I':Inv X pins σ (upd H e (ExF e C dx)) s:=by
  have:=I.write (x:=e) (e:=e) (o:=ExF e C dx) (t':=s.toks) (h':=s.heap) (by rw [he];exact True.intro) (.inl rfl) (fun _ _ _ z=>z) ⟨_,q⟩ (ExF.ok q hc hx hd)
  exact this
 exact⟨I',upd_same,⟨oe,vs,q,hc,hx,hd,h1,.inl ⟨rfl,rfl,hv⟩⟩,ye,.inl rfl⟩
theorem raisesE:Raises (cxOf (CXE P w) P w K mg base N qual scope f cd A outer s₀ H₀ E) (fun _=>True) E:=fun pins σ H s e C dx _ I he ye hE=>leave_cx (Fly.start I he ye) (.inl rfl) hE
theorem ownE:PassesOwn (model P w) (A.deeper (envOfC qual scope s₀.heap.objs.size f cd)) (envOfC qual scope s₀.heap.objs.size f cd) (cxOf (CXE P w) P w K mg base N qual scope f cd A outer s₀ H₀ E).xe:=PassesOwn.leaving
end
theorem Fun.okE {P:Program} {w:World} {K:Frag} {mg:Str->Option Value} {base:Heap} {x qual:Str} {st:Stmt} {f:Addr} {fd:FuncData} {N ps:List Str} {k:Nat} {sp:Sp} (F:Fun K x qual st f fd) (S:FnScope N ps (defScope st)) (len:∀ vs H Q E,sp vs H Q E->vs.length=ps.length)
  (hbody:∀ (cdv:Value) (A:Around) (outer:List Env) (s:Shared) (H:Hp) (vs:List V) (Q:VK) (E:XK),Room k (A.deeper (envOfC qual (defScope st) s.heap.objs.size f cdv))->sp vs H Q E →
   ∃ t,PSs (cxOf (CXE P w) P w K mg base N qual (defScope st) f cdv A outer s H E) (defBody st) t/\t { nx:=fun _ H'=>Q .non H',rt:=Q } (start N vs) H):FnOk P w K mg base (CXE P w) (k + 1) f fd ps sp:=by
 obtain⟨oc,od,kV,doc,pm,an,cdv,ct,osl,rfl,lk,hcd⟩:=F.ex
 exact fn_of lk hcd S len fun A outer s H vs Q E hr hsp=>hbody cdv A outer s H vs Q E hr hsp
theorem Cx.Ok.re {X:Cx} (ok:X.Ok) (pn:List (Addr × Obj)) (E:Value->Shared->Prop):Cx.Ok { X with pn:=pn,xe:=E } :=
 ⟨ok.mod,ok.kind,ok.glob,ok.blt,ok.above,ok.inj,ok.has,ok.cab,ok.hd,ok.frames,ok.stk,ok.exf,ok.bs,ok.bsz,ok.noex,ok.exfs,ok.funs,ok.frf⟩
theorem Cx.Ok.back {X:Cx} {pn:List (Addr × Obj)} {E:Value->Shared->Prop} (ok:Cx.Ok { X with pn:=pn,xe:=E }):X.Ok :=
 ⟨ok.mod,ok.kind,ok.glob,ok.blt,ok.above,ok.inj,ok.has,ok.cab,ok.hd,ok.frames,ok.stk,ok.exf,ok.bs,ok.bsz,ok.noex,ok.exfs,ok.funs,ok.frf⟩
section
variable {X:Cx} {pins:List (Addr × Obj)} {σ:St} {H:Hp} {s:Shared}
theorem Inv.re (I:Inv X pins σ H s) (pn pins':List (Addr × Obj)) (E:Value->Shared->Prop) (h:∀ p ∈ pn++pins',p ∈ X.pn++pins):Inv { X with pn:=pn,xe:=E } pins' σ H s :=
 ⟨I.ok.re pn E,I.os,I.bare,I.base,I.loc,I.cell,I.free,I.freeC,fun p hp=>I.pin p (h p hp),I.hok,I.len⟩
theorem Inv.back {pn:List (Addr × Obj)} {E:Value->Shared->Prop} {pins':List (Addr × Obj)} (I:Inv { X with pn:=pn,xe:=E } pins' σ H s) (h:∀ p ∈ X.pn++pins,p ∈ pn++pins'):Inv X pins σ H s :=
 ⟨I.ok.back,I.os,I.bare,I.base,I.loc,I.cell,I.free,I.freeC,fun p hp=>I.pin p (h p hp),I.hok,I.len⟩
def XT (X:Cx) (pn:List (Addr × Obj)) (S:St->Prop) (W:XK):Value->Shared->Prop:=fun ev s=>∃ (e C:Addr) (dx:Option Addr) (T:Addr) (fl:Option Value) (σ:St) (H:Hp),
 ev=.ref e/\Fly { X with pn:=pn,xe:=fun _ _=>False } [] σ H s e C dx T fl/\(fl=none\/fl=some .none)/\S σ/\W ev none H
abbrev XB (X:Cx) (pn:List (Addr × Obj)) (S:St->Prop) (W:XK):Cx:={ X with pn:=pn,xe:=XT X pn S W }
theorem Fly.re {pn:List (Addr × Obj)} {E E':Value->Shared->Prop} {e C:Addr} {dx:Option Addr} {T:Addr} {fl:Option Value} (f:Fly { X with pn:=pn,xe:=E } pins σ H s e C dx T fl):Fly { X with pn:=pn,xe:=E' } [] σ H s e C dx T fl:=by
 refine⟨?_,f.at_,f.xc,f.ye,?_⟩
 ·exact Inv.re (X:={ X with pn:=pn,xe:=E }) f.inv pn [] E' (fun p hp=>by
   rw [List.append_nil] at hp
   exact List.mem_append_left _ hp)
 ·rcases f.fp with z|⟨a1,a2,a3,a4,a5,a6⟩
  ·exact .inl z
  ·exact .inr ⟨a1,a2,a3,a4,a5,fun p hp=>a6 p (by
    have hp':p ∈ pn++[]:=hp
    rw [List.append_nil] at hp'
    exact List.mem_append_left _ hp')⟩
def PassesS (CX:CXT) (X:Cx) (S:St->Prop) (E:XK):Prop:=∀ (pins:List (Addr × Obj)) (σ:St) (H:Hp) (s:Shared) (e:Value) (s':Shared),S σ->Inv X pins σ H s->CX X.stack H s E e s'->X.xe e s'
theorem passT {pn:List (Addr × Obj)} {S:St->Prop} {W:XK} : PassesS (CXE X.prog X.w) (XB X pn S W) S W:=by
 intro pins σ H s ev s' hS I h
 obtain⟨e,C,dx,T,H',rfl,y,q⟩:=Fly.of_call (X:=XB X pn S W) I h
 exact⟨e,C,dx,T,_,σ,H',rfl,y.re,.inr rfl,hS,q⟩
end
section
variable {X:Cx} {CX:CXT} {k:Nat} {f C:Addr} {fd:FuncData} {ps:List Str} {sp:Sp} {dvs:List V} {ds:List Value} {E:XK} {S:St->Prop} {x m:Str} {p pos apos:Pos} {e o:Expr} {es:List Expr} {ta:TE} {t:TA}
theorem run_fnS {pins:List (Addr × Obj)} {σ:St} {H:Hp} {s:Shared} {Q:VK} {us:List Value} {vs:List V} (F:FnOk X.prog X.w X.K X.mg X.base CX k f fd ps sp) (hr:Room k X.A) (hb:Binds X.K fd ps ds) (hd:Vals dvs ds) (hx:PassesS CX X S E) (hS:S σ)
  (I:Inv X pins σ H s) (r:Vals vs us) (h:sp (vs++dvs) H Q E):wpAny (model X.prog X.w) X.A (call (.ref f) us) (EP X pins σ Q) X.xe s:=by
 have r2:Vals (vs++dvs) (us++ds):=r.append hd
 have hl:(us++ds).length=ps.length:=by rw [← r2.length];exact F.len _ _ _ _ h
 refine wpAny_call (codeAny_mono (F.run X.A X.stack s H ⟨us,[]⟩ (us++ds) (vs++dvs) Q E hr I.env0 (hb s us I.kIn hl) r2 h) fun r s' hq=>?_)
 cases r with
 | error e=>exact hx pins σ H s e s' hS I hq
 | ok fl =>
  cases fl with
  | ret u=>exact I.after hq
  | next=>exact False.elim hq
  | brk=>exact False.elim hq
  | cont=>exact False.elim hq
def tCallS (S:St->Prop) (sp:Sp) (dvs:List V) (E:XK) (t:TA):TE:=fun σ H Q=>t σ H fun vs H1=>S σ/\sp (vs++dvs) H1 Q E
theorem pe_callS (F:FnOk X.prog X.w X.K X.mg X.base CX k f fd ps sp) (hr:Room k X.A) (hg:Gl X x) (hm:X.mg x=some (.ref f)) (hk:keepIn X.K (.ref f)=true) (hb:Binds X.K fd ps ds) (hd:Vals dvs ds) (hx:PassesS CX X S E)
  (ha:PA X (e::es) t) (hdb:(x == ("__debug__" : Str))=false:=by decide) (he:starEach (e::es) X.env=(false,eval e X.env)::starEach es X.env:=by rfl) (hpl:(backTo pos (starEach es X.env)).any (·.1)=false:=by rfl) :
  PE X (.Call (.Name x p) (e::es) [] pos) (tCallS S sp dvs E t):=by
 intro pins s σ H Q I h
 refine wpAny_Call_Name_kw (ld_glob I hg hm ?_ hdb)
 refine PySem.W.callWith_K (h₀:=X.base) I.ok.mod.kin hk (thn (ha pos pins s σ H _ I h) fun us s1 ⟨vs,H1,I1,r,hS,q⟩=>⟨I1.kIn,?_⟩) he hpl
 exact run_fnS F hr hb hd hx hS I1 r q
end
structure XCls (K:Frag) (C:Addr) (bm:List Value):Prop where
 obj:∃ (nm q:Str) (N:Addr) (bs:List Value) (hd:Bool) (sn:List Str) (sub:List Value) (ab:Bool) (col:Option Bool) (dd:Option Addr) (k0 k1 k2 k3 k5:Option Value) (ni:String),K.lookup C=some (excClassObj nm q C N bs bm hd sn sub ab col dd k0 k1 k2 k3 k5 ni)
 b:bm.contains (.type "BaseException")=true
abbrev XH (X:Cx) (e:Addr):Cx:={ X with A:=X.A.mark (some (.ref e)),calm:=false,xe:=fun _ _=>False }
section
variable {X:Cx} {pins:List (Addr × Obj)} {σ:St} {H:Hp} {s:Shared}
theorem Inv.toH (I:Inv X pins σ H s) (e:Addr):Inv (XH X e) pins σ H s :=
 ⟨⟨I.ok.mod,I.ok.kind,I.ok.glob,I.ok.blt,I.ok.above,I.ok.inj,I.ok.has,I.ok.cab,(fun z=>by cases z),I.ok.frames,I.ok.stk,I.ok.exf,I.ok.bs,I.ok.bsz,I.ok.noex,I.ok.exfs,I.ok.funs,I.ok.frf⟩,I.os,I.bare,I.base,I.loc,I.cell,I.free,I.freeC,I.pin,I.hok,I.len⟩
theorem Inv.ofH {e:Addr} (hd:X.calm=true->X.A.handled=none) (I:Inv (XH X e) pins σ H s):Inv X pins σ H s :=
 ⟨⟨I.ok.mod,I.ok.kind,I.ok.glob,I.ok.blt,I.ok.above,I.ok.inj,I.ok.has,I.ok.cab,hd,I.ok.frames,I.ok.stk,I.ok.exf,I.ok.bs,I.ok.bsz,I.ok.noex,I.ok.exfs,I.ok.funs,I.ok.frf⟩,I.os,I.bare,I.base,I.loc,I.cell,I.free,I.freeC,I.pin,I.hok,I.len⟩
theorem Inv.unbound {h':Heap} {m:Str->Option Value} {u:Option Value} {i:Nat} {n:Str} (I:Inv X pins σ H s) (hN:X.N.Nodup) (hi:X.N[i]?=some n) (hn:s.heap.Ns X.env.locals m)
  (hm:∀ (j:Nat) (x:Str) (v:V),X.N[j]?=some x->σ[j]?=some (some v)->Vis X.env.scope x->∃ u,RelV v u/\Look X.env s.heap m x u)
  (hn':h'.Ns X.env.locals (fun x=>if x=n then u else m x)) (sb:Heap.SameBut X.env.locals s.heap h'):Inv X pins (σ.set i none) H { s with heap:=h' }:=by
 have kp:∀ b o,b ≠ X.env.locals->s.heap.get? b=some o->h'.get? b=some o:=fun b o nb q=>(sb.2 b nb).trans q
 have neL:∀ b o,X.s₀.heap.get? b=some o->b ≠ X.env.locals:=fun b o e=>Nat.ne_of_lt (Nat.lt_of_lt_of_le (Heap.lt_size e) I.ok.above)
 have B:=I.base
 refine⟨I.ok,I.os,I.bare,⟨fun b o q n1 hb hx=>kp b o (neL b o q) (B.keep b o q n1 hb hx),fun b o q n1 hb hx=>?_,B.free,fun b o q hx=>?_,B.tups,B.frzs,B.tbls⟩,⟨_,hn',fun j x v e1 e2 e3=>?_⟩,fun x c e=>?_,I.free,I.freeC,fun p hp=>?_,?_,?_⟩
 ·obtain⟨sl,z⟩:=B.slot b o q n1 hb hx
  exact⟨sl,kp b _ (neL b o q) z⟩
 ·obtain⟨o',z⟩:=B.there b o q hx
  exact⟨o',kp b _ (neL b o q) z⟩
 ·have hj:j ≠ i:=fun z=>by
   subst z
   rw [List.getElem?_set_self' ] at e2
   cases hz : σ[j]? with
   | none=>rw [hz] at e2;cases e2
   | some _=>rw [hz] at e2;cases e2
  rw [List.getElem?_set_ne (Ne.symm hj)] at e2
  obtain⟨u',ru,l⟩:=hm j x v e1 e2 e3
  have xn:x ≠ n:=fun z=>hj (nodup_ix hN e1 (z ▸ hi))
  refine⟨u',ru,?_⟩
  rcases l with⟨k1,k2⟩|⟨k1,c,k2,o,ho,hd⟩
  ·exact .inl ⟨k1,by show (if x=n then u else m x)=some u';rw [if_neg xn];exact k2⟩
  ·exact .inr ⟨k1,c,k2,o,kp c o (I.cne x c k2) ho,hd⟩
 ·obtain⟨v,o,ho,hd⟩:=I.cell x c e
  exact⟨v,o,kp c o (I.cne x c e) ho,hd⟩
 ·obtain⟨a1,a2,a3,a4,a5⟩:=I.pin p hp
  exact⟨kp _ _ a3 a1,a2,a3,a4,a5⟩
 ·intro b o q
  refine (I.hok b o q).stay (fun c v hc z=>kp c v ?_ z) (fun _ z=>z) fun _ _ z=>z
  rintro rfl
  rcases hc with z|z
  ·rw [← z,I.free] at q;cases q
  ·rw [I.free] at z;cases z
 ·rw [List.length_set];exact I.len
def tTry (tb:(St->Prop)->XK->TS) (K:Frag) (Cn:Addr) (i:Nat) (ts:TS):TS:=fun D σ H=>∃ (S:St->Prop) (W:XK),tb S W D σ H ∧
 ∀ (σ':St) (e:Addr) (H':Hp),S σ'->W (.ref e) none H'->∃ C dx bm,H' e=some (ExF e C dx)/\XCls K C bm/\(Value.ref C::bm).contains (.ref Cn)=true ∧
  ts { nx:=fun σ2 H2=>D.nx (σ2.set i none) H2,rt:=D.rt,bk:=fun σ2 H2=>D.bk (σ2.set i none) H2,ct:=fun σ2 H2=>D.ct (σ2.set i none) H2 } (σ'.set i (some (.ref e))) H'
theorem ps_try {body:List Stmt} {b0:Stmt} {suite:List Stmt} {rest:List ExceptHandler} {cn n:Str} {Cn:Addr} {i:Nat} {tb:(St->Prop)->XK->TS} {ts:TS} {p hp pos:Pos} (hcalm:X.calm=true) (hst:X.stack=X.env::X.outer) (hfr:X.env.frame=some X.env.locals)
  (hg:Gl X cn) (hm:X.mg cn=some (.ref Cn)) {bmn:List Value} (hcl:XCls X.K Cn bmn)
  (hN:X.N.Nodup) (hi:X.N[i]?=some n) (hn:X.env.scope.names.lookup n=some .local)
  (hb:∀ pn S W,PSs (XB X pn S W) body (tb S W)) (hs:∀ e,PSs (XH X e) (b0::suite) ts) (hdb:(cn == ("__debug__" : Str))=false:=by decide) :
  PS X (.Try body (.ExceptHandler (some (.Name cn p)) (some n) (b0::suite) hp::rest) [] [] pos) (tTry tb X.K Cn i ts):=by
 intro pins s σ H D I h
 obtain⟨S,W,hbody,hh⟩:=h
 refine wpAny_Try_except (wpAny_mono (hb (X.pn++pins) S W [] s σ H D (I.re (X.pn++pins) [] _ (fun q hq=>by rwa [List.append_nil] at hq)) hbody) (fun f s1 hf=>?_) fun ev s1 hx=>?_)
 ·have bk:∀ {σ':St} {H':Hp},Inv (XB X (X.pn++pins) S W) [] σ' H' s1->Inv X pins σ' H' s1:=fun {σ' H'} J=>J.back (fun q hq=>by rw [List.append_nil];exact hq)
  cases f with
  | next =>
   obtain⟨σ',H',J,q⟩:=hf
   exact wpAny_execs_nil ⟨σ',H',bk J,q⟩
  | brk=>obtain⟨σ',H',J,q⟩:=hf;exact⟨σ',H',bk J,q⟩
  | cont=>obtain⟨σ',H',J,q⟩:=hf;exact⟨σ',H',bk J,q⟩
  | ret u=>obtain⟨v,σ',H',J,r,q⟩:=hf;exact⟨v,σ',H',bk J,r,q⟩
 ·obtain⟨e,C,dx,T,fl,σ',H',rfl,y,hfl,hS,hW⟩:=hx
  have hA:X.A.frames=some (X.env::X.outer):=hst ▸ I.ok.frames
  have ff:s1.heap.FunFrames X.base (X.env::X.outer):=hst ▸ y.inv.stack
  refine note_ok hA hfr ff y.xc (hfl.imp id .inl) fun h1 T1 q1 x1 m1=>?_
  have y1:=y.moved (by show Mv (frs X.stack) _ _ _ _;rw [hst];exact m1) q1 x1
  refine flight_ok x1 fun h2 x2 m2=>?_
  have y2:=y1.moved (h':=h2) (fun b o q ne nT=>⟨fun _=>(m2 b o q ne nT).1 (by simp),(m2 b o q ne nT).2⟩) (.inl rfl) x2
  obtain⟨C',dx',bm,hat,hxc,hmro,hsu⟩:=hh σ' e H' hS hW
  have eqs:C'=C/\dx'=dx:=by
   have z:=y.at_.symm.trans hat
   obtain⟨⟨oe,vs,a1,a2,a3,_⟩,_⟩:=y.inv.hok e _ y.at_
   obtain⟨⟨oe',vs',b1,b2,b3,_⟩,_⟩:=y.inv.hok e _ hat
   rw [a1] at b1
   cases b1
   exact⟨by rw [a2] at b2;exact (Value.ref.inj b2).symm,b3.symm.trans a3⟩
  obtain⟨rfl,rfl⟩:=eqs
  have I2:Inv X pins σ' H' { s1 with heap:=h2 }:=y2.inv.back (fun q hq=>by rw [List.append_nil];exact hq)
  refine wpAny_handleBy_cons (codeAny_handlers_test ?_) (by intro z;cases z)
  refine ld_glob (X:=XH X e) (I2.toH e) hg hm ?_ hdb
  obtain⟨oe,vs,he,oc,_⟩:=id x2
  have match_:∀ {Q:Bool->Shared->Prop} {E:Value->Shared->Prop},Q true { s1 with heap:=h2 }->wpAny (model X.prog X.w) (X.A.mark (some (.ref e))) (excMatches (.ref e) (.ref Cn)) Q E { s1 with heap:=h2 }:=fun {Q E} q=>by
   obtain⟨nm1,q1,N1,bs1,hd1,sn1,su1,ab1,co1,dd1,j0,j1,j2,j3,j5,ni1,lk1⟩:=hxc.obj
   obtain⟨nm2,q2,N2,bs2,hd2,sn2,su2,ab2,co2,dd2,l0,l1,l2,l3,l5,ni2,lk2⟩:=hcl.obj
   exact xmatch (I2.kIn _ _ lk1) (I2.kIn _ _ lk2) hcl.b he oc hmro q
  refine match_ ?_
  refine codeAny_handlers_suite_as ?_
  refine flight_ok x2 fun h3 x3 m3=>?_
  have y3:=y2.moved (h':=h3) (fun b o q ne nT=>⟨fun _=>(m3 b o q ne nT).1 (by simp),(m3 b o q ne nT).2⟩) (.inl rfl) x3
  have I3:Inv X pins σ' H' { s1 with heap:=h3 }:=y3.inv.back (fun q hq=>by rw [List.append_nil];exact hq)
  refine store_ok2 (X:=XH X e) (I3.toH e) hN hi (.inl hn) (v:=.ref e) rfl (fun s4 I4 _=>?_) (.inr hn)
  refine wpAny_mono (hs e pins s4 _ H' _ I4 hsu) (fun fl5 s5 hf=>?_) fun _ _ z=>z.elim
  have fin:∀ {σ5:St} {H5:Hp} {P5:Shared->Prop},Inv (XH X e) pins σ5 H5 s5->(∀ s6,Inv X pins (σ5.set i none) H5 s6->P5 s6) →
    wpAny (model X.prog X.w) X.A (do bindName X.env n .none;unbindBehindTheSuite X.env n hp) (fun _ s6=>P5 s6) X.xe s5:=fun {σ5 H5 P5} J q=>by
   have J':Inv X pins σ5 H5 s5:=J.ofH I.ok.hd
   refine wpAny_bind (wpAny_bindName (store_ok2 (X:=X) J' hN hi (.inl hn) (v:=.non) rfl (fun s6 J6 _=>?_) (.inr hn)))
   obtain⟨m,hm6,hl6⟩:=id J6.loc
   have hv:∃ v,m n=some v:=by
    have hiσ:i < σ5.length:=by rw [J'.len];exact (List.getElem?_eq_some_iff.mp hi).1
    obtain⟨u,_,l⟩:=hl6 i n .non hi (by rw [List.getElem?_set_self hiσ]) (.inl hn)
    rcases l with⟨_,z⟩|⟨z,_⟩
    ·exact⟨u,z⟩
    ·have hn':X.env.kindOf n=some .local:=hn
     rcases z with z|z <;> (rw [hn'] at z;cases z)
   obtain⟨v,hv⟩:=hv
   unfold unbindBehindTheSuite
   refine wpAny_onRaise (wpAny_unbindName_local hn hm6 hv (by rw [J'.ok.kind];rfl) fun h7 u7 hn7 sb7=>?_)
   have:=J6.unbound hN hi hm6 hl6 hn7 sb7
   rw [List.set_set] at this
   exact q _ this
  cases fl5 with
  | next=>obtain⟨σ5,H5,J,q⟩:=hf;exact fin J fun s6 J6=>⟨_,H5,J6,q⟩
  | brk=>obtain⟨σ5,H5,J,q⟩:=hf;exact fin J fun s6 J6=>⟨_,H5,J6,q⟩
  | cont=>obtain⟨σ5,H5,J,q⟩:=hf;exact fin J fun s6 J6=>⟨_,H5,J6,q⟩
  | ret u=>obtain⟨v,σ5,H5,J,r,q⟩:=hf;exact fin J fun s6 J6=>⟨v,_,H5,J6,r,q⟩
end
def XD (dx:Addr) (fs:List (Str × V)):HO:=.ext fun h=>∃ mA,h.Ns1 dx mA/\(∀ f,RelO (fs.lookup f) (mA f))/\PySem.Within mA (fs.map (·.1))
theorem XD.ok {P:Program} {w:World} {H:Hp} {h:Heap} {dx:Addr} {fs:List (Str × V)} (a:∃ mA,h.Ns1 dx mA/\(∀ f,RelO (fs.lookup f) (mA f))/\PySem.Within mA (fs.map (·.1))):ObjOk P w H h dx (XD dx fs):=by
 obtain⟨mA,⟨o,es,ep,ho,z⟩,r⟩:=id a
 exact⟨a,⟨o,ho⟩,fun h1 h2 ⟨mA,⟨o,es,ep,ho,z⟩,r⟩ k=>⟨mA,⟨o,es,ep,k _ ho,z⟩,r⟩⟩
theorem upd_id {H:Hp} {a:Addr} {o:HO} (e:H a=some o):upd H a o=H:=by
 funext b
 unfold upd
 split
 ·rename_i q;rw [q,e]
 ·rfl
section
variable {X:Cx} {pins:List (Addr × Obj)} {σ:St} {H:Hp} {s:Shared} {e C R fI dx:Addr}
theorem Inv.xfirst {h':Heap} {t':Nat} {oe:Obj} {vs:Array Value} {fs:List (Str × V)} (I:Inv X pins σ H s) (he:H e=some (Ex0 e C none)) (hx:s.heap.objs.size<=dx) (ne:dx ≠ e) (g:h'.get? e=some oe) (oc:oe.cls=.ref C) (od:oe.dict=some dx) (hd:oe.data=.fields vs) (h1 : 1 < vs.size) (hv:vs[1]?=some .none)
  (hn:∃ mA,h'.Ns1 dx mA/\(∀ f,RelO (fs.lookup f) (mA f))/\PySem.Within mA (fs.map (·.1))) (k:∀ b o,b ≠ e->s.heap.get? b=some o->h'.get? b=some o) :
  Inv X pins σ (upd (upd H dx (XD dx fs)) e (Ex0 e C (some dx))) { s with heap:=h',toks:=t' }:=by
 have nx:H dx=none:=I.hok.fresh hx
 have eqs:∀ b u,H b=some u->b ≠ e->upd (upd H dx (XD dx fs)) e (Ex0 e C (some dx)) b=some u:=fun b u q nb=>by
  rw [upd_ne nb,upd_ne (ne_of_none q nx)];exact q
 refine I.un ⟨fun b o q n _ _=>k b o (ne_of_none he n).symm q,fun b o q n _ _=>⟨o.slots,k b o (ne_of_none he n).symm q⟩,fun b o q n _=>?_,fun b o q _=>?_,fun b xs q=>?_,fun b o u q=>?_,fun b ps q=>⟨#[],?_⟩⟩ fun b u q=>?_
 ·rw [upd_ne (ne_of_none he n).symm,upd_ne (Nat.ne_of_lt (Nat.lt_of_lt_of_le (Heap.lt_size q) hx))];exact n
 ·by_cases hb:b=e
  ·exact⟨oe,hb ▸ g⟩
  ·exact⟨o,k b o hb q⟩
 ·exact eqs b _ q fun z=>by rw [z,he] at q;cases q
 ·exact eqs b _ q fun z=>by rw [z,he] at q;cases q
 ·rw [eqs b _ q fun z=>by rw [z,he] at q;cases q];simp
 ·by_cases hb:b=e
  ·subst hb;rw [upd_same] at q;cases q;exact Ex0.ok g oc od hd h1 hv
  ·rw [upd_ne hb] at q
   by_cases hb2:b=dx
   ·subst hb2;rw [upd_same] at q;cases q;exact XD.ok hn
   ·rw [upd_ne hb2] at q
    refine (I.hok b u q).stay (fun c v hc z=>k c v ?_ z) (fun c z=>eqs c _ z fun y=>by rw [y,he] at z;cases z) fun c xs z=>eqs c _ z fun y=>by rw [y,he] at z;cases z
    rcases hc with y|y
    ·rw [y];exact hb
    ·intro z;rw [z,he] at y;cases y
def sXfld (K:Frag) (ta tv:TE) (f:Str):TS:=fun D σ H=>tv σ H fun y H1=>ta σ H1 fun x H2=>∃ e C R fI,x=.ref e/\ExCl K C R fI/\findIn K (.ref C) f=some none ∧
 ((H2 e=some (Ex0 e C none)/\∀ dx,H2 dx=none->D.nx σ (upd (upd H2 dx (XD dx [(f,y)])) e (Ex0 e C (some dx)))) ∨
   ∃ dx fs,H2 e=some (Ex0 e C (some dx))/\H2 dx=some (XD dx fs)/\fs.length < 1000/\D.nx σ (upd H2 dx (XD dx (putF f y fs))))
theorem xstore {y:V} {u:Value} {f:Str} {A:Around} {E:Value->Shared->Prop} {Q:Unit->Shared->Prop} (I:Inv X pins σ H s) (c:ExCl X.K C R fI) (hf:findIn X.K (.ref C) f=some none) (ry:RelV y u) {N:Hp->Prop}
  (h:(H e=some (Ex0 e C none)/\∀ dx,H dx=none->N (upd (upd H dx (XD dx [(f,y)])) e (Ex0 e C (some dx))))\/∃ dx fs,H e=some (Ex0 e C (some dx))/\H dx=some (XD dx fs)/\fs.length < 1000/\N (upd H dx (XD dx (putF f y fs))))
  (q:∀ s' H',Inv X pins σ H' s'->N H'->Q () s'):wpAny (model X.prog X.w) A (setAttr (.ref e) f u) Q E s:=by
 rcases h with⟨he,hN⟩|⟨dx,fs,he,hd,hl,hN⟩
 ·obtain⟨⟨oe,vs,g,oc,ox,od,h1,hv⟩,_⟩:=I.hok e _ he
  refine xset_first I.kIn c g oc od ox hf fun h' dx tk hx ne g' hn k=>?_
  refine q _ _ (I.xfirst he hx ne g' oc rfl od h1 hv ⟨_,hn,fun z=>?_,fun z hz=>?_⟩ k) (hN dx (I.hok.fresh hx))
  ·show RelO (List.lookup z [(f,y)]) (if z=f then some u else none)
   by_cases hz:z=f
   ·rw [if_pos hz,hz];simp only [List.lookup,beq_self_eq_true];exact ry
   ·have hb:(z == f)=false:=beq_eq_false_iff_ne.mpr hz
    rw [if_neg hz];simp only [List.lookup,hb];exact True.intro
  ·by_cases hz':z=f
   ·rw [hz'];exact List.mem_singleton.mpr rfl
   ·exact absurd (if_neg hz') hz
 ·obtain⟨⟨oe,vs,g,oc,ox,od,h1,hv⟩,_⟩:=I.hok e _ he
  obtain⟨⟨mA,hn,r,wi⟩,_⟩:=I.hok dx _ hd
  refine xset_next I.kIn c g oc od ox hn wi (by rw [List.length_map,sizeLine_eq];omega) hf fun h' hn' sb=>?_
  have ho:∃ o,h'.get? dx=some o:=let ⟨o,_,_,e',_⟩:=hn'; ⟨o,e'⟩
  refine q _ _ (I.write (x:=dx) (e:=dx) (o:=XD dx (putF f y fs)) (by rw [hd];exact True.intro) (.inl rfl) (fun b o hb z=>(sb.2 b hb).trans z) ho (XD.ok ⟨_,hn',fun z=>?_,fun z hz=>?_⟩)) hN
  ·show RelO ((putF f y fs).lookup z) (if z=f then some u else mA z)
   rw [lookup_putF]
   by_cases q:z=f
   ·rw [if_pos q,if_pos q];exact ry
   ·rw [if_neg q,if_neg q];exact r z
  ·by_cases q:z=f
   ·rw [q];exact (keys_putF f y fs).1
   ·refine (keys_putF f y fs).2 z (wi z fun y'=>hz ?_)
    show (if z=f then some u else mA z)=none
    rw [if_neg q];exact y'
theorem ps_xfld {o value:Expr} {f:Str} {pos pos':Pos} {ta tv:TE} (ha:PE X o ta) (hv:PE X value tv) (hs:swapsWith value (some (.Attribute o f pos')) pos.line X.env=pure false:=by rfl):PS X (.Assign [.Attribute o f pos'] value pos) (sXfld X.K ta tv f):=by
 intro pins s σ H D I h
 refine plainObj_wpAny_Assign_Attribute (thn (hv pins s σ H _ I h) fun u s1 ⟨y,H1,I1,ry,h1⟩=>thn (ha pins s1 σ H1 _ I1 h1) fun ov s2 zq=>?_) hs
 obtain⟨x,H2,I2,rx,e,C,R,fI,ex,c,hf,h2⟩:=zq
 subst ex
 obtain rfl:ov=Value.ref e:=rx
 exact xstore I2 c hf ry h2 fun s' H' I' q=>⟨σ,H',I',q⟩
def tXfld (K:Frag) (ta:TE) (f:Str):TE:=fun σ H Q=>ta σ H fun x H1=>∃ e C R fI dx fs v,x=.ref e/\(H1 e=some (ExF e C (some dx))\/H1 e=some (Ex0 e C (some dx)))/\H1 dx=some (XD dx fs)/\ExCl K C R fI/\findIn K (.ref C) f=some none/\fs.lookup f=some v/\Q v H1
theorem pe_xfld {o:Expr} {f:Str} {pos:Pos} {ta:TE} (he:PE X o ta) (hb:attributeBase o f X.env (eval o X.env)=eval o X.env):PE X (.Attribute o f pos) (tXfld X.K ta f):=by
 intro pins s σ H Q I h
 refine attr_of hb (thn (he pins s σ H _ I h) fun u s1 zq=>?_)
 obtain⟨x,H1,I1,rx,e,C,R,fI,dx,fs,v,ex,ea,ed,c,hf,l,q⟩:=zq
 subst ex
 obtain rfl:u=Value.ref e:=rx
 obtain⟨⟨mA,hn,r,wi⟩,_⟩:=I1.hok dx _ ed
 obtain⟨u',hu,ru⟩:=RelO.some_of (v:=v) (o:=mA f) (by rw [← l];exact r f)
 obtain⟨oe,vs,g,oc,ox,od⟩ : ∃ oe vs,s1.heap.get? e=some oe/\oe.cls=.ref C/\oe.dict=some dx/\oe.data=.fields vs:=by
  rcases ea with ea|ea
  ·obtain⟨⟨oe,vs,g,oc,ox,od⟩,_⟩:=I1.hok e _ ea;exact⟨oe,vs,g,oc,ox,od⟩
  ·obtain⟨⟨oe,vs,g,oc,ox,od,_⟩,_⟩:=I1.hok e _ ea;exact⟨oe,vs,g,oc,ox,od⟩
 obtain⟨o1,ho,hl⟩:=lookIn_ns hn
 obtain⟨cd,hcd,hm,hh⟩:=c.clsIn
 have hh':PySem.W.hasDictIn X.K C=true:=by unfold PySem.W.hasDictIn;rw [hcd];exact hh
 exact xget I1.kIn c (inst_of (od:=some o1) g oc od (by rw [ox];exact ho)) (PySem.W.findObj_own hh' hf rfl (by rw [hl,hu])) (handed_of ru) ⟨v,H1,I1.tok _,ru,q⟩
end
structure CInit (K:Frag) (B f:Addr):Prop where
 r:PySem.W.readsIn K B (.type "type")=true
 fd:PySem.W.findCls K (.ref B) (.type "type") "__init__" = some (.val (.ref f))
 g:PySem.W.specialIn K (.ref B) "__getattribute__" = some (some (.builtin "type.__getattribute__"))
 k:keepIn K (.ref f)=true
structure VInit (K:Frag):Prop where
 ga:findIn K (.type "type") "__getattribute__" = some (some (.builtin "type.__getattribute__"))
 sub:PySem.W.subIn K (.type "type") (.type "type")=some true
 f:PySem.W.findCls K (.type "ValueError") (.type "type") "__init__" = some (.val (.builtin "ValueError.__init__"))
theorem tov_VE:typeOf (.type "ValueError")=pure (.type "type"):=by kernel_rfl
theorem oca_VE:opaqueClassAbove (.type "ValueError")=pure none:=by kernel_rfl
theorem hkb_type:hookBefore (.type "type")=pure none:=by kernel_rfl
theorem tga_type:typeLookup (.type "type") "__getattribute__" = pure (some (.builtin "type.__getattribute__")):=by rw [typeLookup_type,builtinLookup_eq_fast];kernel_rfl
theorem spv_VE:specialOf (.type "ValueError") "__getattribute__" = pure (some (.builtin "type.__getattribute__")):=by
 unfold specialOf
 rw [tov_VE]
 show typeLookup (.type "type") "__getattribute__" = _
 exact tga_type
section
variable {X:Cx} {CX:CXT} {k:Nat} {f B C R:Addr} {fd:FuncData} {ps:List Str} {sp:Sp} {dvs:List V} {ds:List Value} {E:XK} {x:Str} {p pos apos:Pos} {e o:Expr} {es:List Expr} {t:TA}
theorem pe_cinit {pl:Sem Bool} (c:CInit X.K B f) (ho:PE X o (tC (.ref B))) (F:FnOk X.prog X.w X.K X.mg X.base CX k f fd ps sp) (hr:Room k X.A) (hb:Binds X.K fd ps ds) (hd:Vals dvs ds) (hx:Passes CX X E) (ha:PA X (e::es) t)
  (hst:starEach (e::es) X.env=(false,eval e X.env)::starEach es X.env:=by rfl) (hpl:(backTo pos (starEach es X.env)).any (·.1)=false:=by rfl)
  (ht:eval (.Call (.Attribute o "__init__" apos) (e::es) [] pos) X.env=(do
   let ov ← eval o X.env
   standAt apos.atName
   let (f,first) ← holding [ov] (getMethod ov "__init__" pl)
   callWith pos f first (backTo pos (starEach (e::es) X.env)) (backToKw pos (keywordEach [] X.env))):=by rfl) :
  PE X (.Call (.Attribute o "__init__" apos) (e::es) [] pos) (tCall sp dvs E t):=by
 intro pins s σ H Q I h
 refine PySem.W.methodCall_KW (pl:=pl) (thn (ho pins s σ H (fun v H1=>v=.ref B/\tCall sp dvs E t σ H1 Q) I ⟨rfl,h⟩) fun u s1 zq=>?_) ht
 obtain⟨x,H1,I1,rx,ex,q⟩:=zq
 subst ex
 obtain rfl:u=Value.ref B:=rx
 refine PySem.W.method_cls I1.kIn c.g (PySem.W.cls_value I1.kIn c.r c.fd rfl ?_)
 refine PySem.W.callWith_K (first:=[]) (h₀:=X.base) I.ok.mod.kin c.k (thn (ha pos pins _ σ H1 _ (I1.tok _) q) fun us s2 ⟨vs,H2,I2,r,q2⟩=>⟨I2.kIn,?_⟩) hst hpl
 exact run_fn F hr hb hd hx I2 r q2
def tVinit (K:Frag) (t:TA):TE:=fun σ H Q=>t σ H fun vs H1=>∃ e v C R fI dx,vs=[.ref e,v]/\H1 e=some (Ex0 e C dx)/\ExCl K C R fI/\Q .non H1
theorem pe_vinit {pl:Sem Bool} (c:VInit X.K) (ho:PE X o (tC (.ty "ValueError"))) (ha:PA X (e::es) t)
  (hst:starEach (e::es) X.env=(false,eval e X.env)::starEach es X.env:=by rfl) (hpl:(backTo pos (starEach es X.env)).any (·.1)=false:=by rfl)
  (ht:eval (.Call (.Attribute o "__init__" apos) (e::es) [] pos) X.env=(do
   let ov ← eval o X.env
   standAt apos.atName
   let (f,first) ← holding [ov] (getMethod ov "__init__" pl)
   callWith pos f first (backTo pos (starEach (e::es) X.env)) (backToKw pos (keywordEach [] X.env))):=by rfl) :
  PE X (.Call (.Attribute o "__init__" apos) (e::es) [] pos) (tVinit X.K t):=by
 intro pins s σ H Q I h
 refine PySem.W.methodCall_KW (pl:=pl) (thn (ho pins s σ H (fun v H1=>v=.ty "ValueError"/\tVinit X.K t σ H1 Q) I ⟨rfl,h⟩) fun u s1 zq=>?_) ht
 obtain⟨x,H1,I1,rx,ex,q⟩:=zq
 subst ex
 obtain rfl:u=Value.type "ValueError":=rx
 have key:∀ {Q':Value × List Value->Shared->Prop},Q' (.builtin "ValueError.__init__",[]) { s1 with toks:=s1.toks + 1 }->wpAny (model X.prog X.w) X.A (getMethod (.type "ValueError") "__init__" pl) Q' X.xe s1:=fun {Q'} q'=>by
  unfold getMethod
  refine wpAny_bind ((PySem.W.Looks.of_pure spv_VE).here ?_)
  dsimp only
  rw [if_pos PySem.W.canon_tga]
  refine wpAny_bind (PySem.W.cls_open (hook:=none) I1.kIn (PySem.W.Looks.of_pure oca_VE) (PySem.W.Looks.of_pure tov_VE) c.ga (PySem.W.Looks.of_pure hkb_type) c.sub c.f (wpAny_pure ?_))
  show wpAny _ _ (handedOut (.builtin "ValueError.__init__")) _ _ _
  rw [PySem.W.handedOut_of (v:=.builtin "ValueError.__init__") rfl]
  exact wpAny_pure (wpAny_pure q')
 refine key ?_
 refine PyProof.Rows.callWith_builtin1 (thn (ha pos pins _ σ H1 _ (I1.tok _) q) fun us s2 zq=>?_) hst hpl
 obtain⟨vs,H2,I2,r,e',v,C,R,fI,dx,ev,he,cx,q2⟩:=zq
 subst ev
 cases r with
 | cons r1 r2 =>
  cases r2 with
  | cons r3 r4 =>
   cases r4
   cases r1
   obtain⟨⟨oe,vs,g,oc,ox,od,h1,hv⟩,_⟩:=I2.hok e' _ he
   obtain⟨nm,qn,N,bs,sn,sub,ab,col,dd,k0,k1,k2,k3,k5,mN,oI,hC,_⟩:=cx.cls I2.kIn
   obtain⟨hh,gg,d,tk,os⟩:=s2
   refine xinit (xtail R) hC g oc od h1 fun h' oe' vs' kp g' oc' ox' od' sz hv'=>?_
   have I3:=I2.write (x:=e') (e:=e') (o:=Ex0 e' C dx) (t':=tk) (h':=h') (by rw [he];exact True.intro) (.inl rfl) (fun b o nb z=>kp b o nb z) ⟨_,g'⟩ (Ex0.ok g' (oc'.trans oc) (ox'.trans ox) od' (by rw [sz];exact h1) (hv'.trans hv))
   rw [upd_id he] at I3
   exact⟨.non,H2,I3,rfl,q2⟩
theorem run_makeX {pins:List (Addr × Obj)} {σ:St} {H:Hp} {s:Shared} {Q:VK} {us:List Value} {vs:List V} (c:ExCl X.K C R f) (F:FnOk X.prog X.w X.K X.mg X.base CX k f fd ps sp) (hr:Room (k + 1) X.A) (hb:Binds X.K fd ps ds) (hd:Vals dvs ds)
  (hx:Passes CX X E) (I:Inv X pins σ H s) (r:Vals vs us) (hz:vs.length<=sizeLine) (h:∀ e,H e=none->sp (.ref e::(vs++dvs)) (upd H e (Ex0 e C none)) (fun v H2=>v=.non/\Q (.ref e) H2) E) :
  wpAny (model X.prog X.w) X.A (call (.ref C) us) (fun u s'=>∃ e H',u=.ref e/\X.s₀.heap.objs.size<=e/\Inv X pins σ H' s'/\Q (.ref e) H') X.xe s:=by
 obtain⟨nm,qn,N,bs,sn,sub,ab,col,dd,k0,k1,k2,k3,k5,mN,oI,hC,hN,hi,hf,hfc⟩:=c.cls I.kIn
 obtain⟨hh,g,d,t,os⟩:=s
 refine xmake (xtail R) hC hN hi hf hfc (by rw [← r.length];exact hz) fun h' e mk ye=>?_
 obtain⟨kp,en,t0,e1,tn,e2⟩:=mk
 have hE:H e=none:=I.hok.fresh ye
 have I2:Inv X pins σ (upd H e (Ex0 e C none)) ⟨h',g,d,t,os⟩:=I.laid (a:=e) (o:=Ex0 e C none) (t':=t) kp ye (Ex0.ok e1 rfl rfl rfl (by show 1 < 6;decide) rfl)
 have hq:=h e hE
 have r2:Vals (V.ref e::(vs++dvs)) (Value.ref e::(us++ds)):=.cons rfl (r.append hd)
 have hl:(Value.ref e::us++ds).length=ps.length:=by
  have e':=r2.length
  rw [F.len _ _ _ _ hq] at e'
  exact e'.symm
 refine wpAny_call (codeAny_mono (F.run _ X.stack _ _ ⟨Value.ref e::us,[]⟩ (Value.ref e::(us++ds)) _ _ E (hr.make C us []) (I2.env0.make C us []) (hb _ (Value.ref e::us) I2.kIn hl) r2 hq) fun rr s' hq'=>?_)
 cases rr with
 | error ev=>exact hx pins σ _ _ ev s' I2 hq'
 | ok fl =>
  cases fl with
  | ret u =>
   obtain⟨v,H',I3,rv,ev,q3⟩:=I2.after hq'
   subst ev
   exact⟨rv,e,H',rfl,Nat.le_trans I.sz ye,I3,q3⟩
  | next=>exact False.elim hq'
  | brk=>exact False.elim hq'
  | cont=>exact False.elim hq'
def tRaise (S:St->Prop) (C:Addr) (sp:Sp) (dvs:List V) (E:XK) (t:TA):TS:=fun _ σ H=>S σ/\t σ H fun vs H1=>vs.length<=1000/\∀ e,H1 e=none →
 sp (.ref e::(vs++dvs)) (upd H1 e (Ex0 e C none)) (fun v H2=>v=.non/\∃ e' dx,V.ref e=.ref e'/\H2 e'=some (Ex0 e' C dx)/\E (.ref e') none (upd H2 e' (ExF e' C dx))) E0
theorem ps_raise {S:St->Prop} {rpos:Pos} (c:ExCl X.K C R f) (F:FnOk X.prog X.w X.K X.mg X.base (CXE X.prog X.w) k f fd ps sp) (hr:Room (k + 1) X.A) (hg:Gl X x) (hm:X.mg x=some (.ref C)) (hb:Binds X.K fd ps ds) (hd:Vals dvs ds) (hra:Raises X S E) (ha:PA X (e::es) t)
  (hdb:(x == ("__debug__" : Str))=false:=by decide) (he:starEach (e::es) X.env=(false,eval e X.env)::starEach es X.env:=by rfl) (hpl:(backTo pos (starEach es X.env)).any (·.1)=false:=by rfl) :
  PS X (.Raise (some (.Call (.Name x p) (e::es) [] pos)) none rpos) (tRaise S C sp dvs E t):=by
 intro pins s σ H D I h
 obtain⟨hS,h⟩:=h
 refine xRaise hr.hd ?_
 refine wpAny_Call_Name_kw (ld_glob I hg hm ?_ hdb)
 refine PySem.W.callWith_K (h₀:=X.base) I.ok.mod.kin c.kp (thn (ha pos pins s σ H _ I h) fun us s1 ⟨vs,H1,I1,r,hz,q⟩=>⟨I1.kIn,?_⟩) he hpl
 refine thn (run_makeX (E:=E0) (Q:=fun v H2=>∃ e' dx,v=.ref e'/\H2 e'=some (Ex0 e' C dx)/\E (.ref e') none (upd H2 e' (ExF e' C dx))) c F hr hb hd passX I1 r (by rw [sizeLine_eq];omega) q) fun u s2 zq=>?_
 obtain⟨e',H2,eu,ye,I2,e'',dx,e3,h2,hE⟩:=zq
 ·cases e3
  obtain⟨⟨oe,vs',g,oc,ox,od,h1,hv⟩,_⟩:=I2.hok e' _ h2
  obtain⟨nm,qn,N,bs,sn,sub,ab,col,dd,k0,k1,k2,k3,k5,mN,oI,hC,_⟩:=c.cls I2.kIn
  obtain⟨c1,d1,dt1,sl1⟩:=oe
  cases oc;cases ox;cases od
  exact⟨e',C,N,nm,qn,bs,_,true,sn,sub,ab,col,dd,k0,k1,k2,k3,k5,_,vs',sl1,eu,xtail R,hC,g,hv,hra pins σ H2 s2 e' C _ hS I2 h2 ye hE⟩
end
theorem se_sub {v i p} {es:List Expr} {env:Env} : starEach (.Subscript v i p::es) env=(false,eval (.Subscript v i p) env)::starEach es env:=rfl
section
variable {X:Cx}
theorem pstx_if {c:Expr} {a b:List Stmt} {tc:TT} {t u:TS} {pos:Pos} (hc:PT X c tc) (ha:PSx X a t) (hb:PSs X b u):PStx X (.If c a b pos) (tIfS tc t u):=⟨ps_if hc ha.h hb⟩
end
section
variable {X:Cx}
def tyM (K:Frag) (x:V) (H:Hp) (t:String):Prop:=tyN K x H t\/(t = "dict"/\∃ p kvs,x=.ref p/\H p=some (.dK kvs))
end
def SelfV (v:V):Prop:=flatV v=true\/∃ r,v=.ref r
theorem eqV_self:∀ {v:V},flatV v=true->eqV v v=true
 | .non,_=>rfl
 | .bl b,_=>by cases b <;> rfl
 | .int i,_=>by simp [eqV]
 | .str x,_=>by simp [eqV]
theorem eqAt_self {A:Around} {s:Shared} {v:V} {u u':Value} (h:SelfV v) (r:RelV v u) (r':RelV v u'):SeqAt.EqAt A s u u' true:=by
 rcases h with h|⟨a,rfl⟩
 ·have:=eqAt_V (A:=A) (s:=s) r r' h h
  rw [eqV_self h] at this
  exact this
 ·cases r
  cases r'
  exact SeqAt.EqAt.same _
end L2
namespace L2
open PySem PyProof.Rows
section
variable {prog:Program} {w:World} {A:Around} {E:Value->Shared->Prop} {s:Shared} {K:Frag} {e C R fI:Addr} {oe:Obj}
theorem xclass {od:Option Obj} {Q:Option Value->Shared->Prop} (X:K.In s.heap) (c:ExCl K C R fI) (I:PySem.W.InstAt s.heap e oe C od) (hf:PySem.W.findObj K C od "__class__" = some (.bind (.builtin "getset_descriptor.__get__") (.builtin "object.__class__"))) (hmo:PySem.W.mroIn K C (.type "object")=some true) (h:Q (some (.ref C)) { s with toks:=s.toks + 1 }) :
  wpAny (model prog w) A (getAttr? (.ref e) "__class__") Q E s:=by
 obtain⟨cd,hcd,hm,_⟩:=c.clsIn
 have isB:PySem.W.Looks (model prog w) s.heap (isInstance (.ref e) (.type "BaseException")) true:=I.type.andThen (PySem.W.looks_mroIn X (by
  unfold PySem.W.mroIn
  rw [hcd,Option.bind_some,hm,if_neg (by intro z;cases z)]
  rfl))
 have L0:=I.type (M:=model prog w)
 have L1:=PySem.W.looks_findIn (M:=model prog w) X c.ga
 have L2:=PySem.W.looks_findIn (M:=model prog w) X c.gh
 have L3:=PySem.W.looks_find (M:=model prog w) X I hf
 obtain⟨hp,g,d,t,os⟩:=s
 unfold getAttr? getAttrBy? getAttrBy
 refine wpAny_bind (wpAny_mkText (wpAny_bind (wpAny_attempt (wpAny_holding (wpAny_bind (L0.at (wpAny_bind (L1.at ?_))))))))
 show wpAny _ _ (getAttrByItsOwn _ _ _ _ _ _) _ _ _
 unfold getAttrByItsOwn
 refine wpAny_bind (show wpAny _ _ (typeLookup (.ref C) "__getattr__") _ _ _ from L2.at ?_)
 have FB:=PySem.F.attr_ValueError.ga
 have hk:builtinKind "BaseException.__getattribute__" = some .slot:=by decide +kernel
 have hs:splitId "BaseException.__getattribute__" = some ("BaseException","__getattribute__"):=by decide +kernel
 refine wpAny_bind (wpAny_attempt (wpAny_holding ?_))
 unfold callGetattribute
 rw [if_neg (by intro z;cases z)]
 unfold boundAndCalled
 rw [FB.bind]
 refine wpAny_bind (wpAny_pure (wpAny_call ?_))
 show codeAny _ _ (.call (.builtin "BaseException.__getattribute__") ⟨[.ref e,.str "__class__" t],[]⟩) _ _
 refine codeAny_call_builtin FB.plain PySem.F.entry_bexc_ga ?_
 refine @PySem.W.check_slot (model prog w) _ _ _ "BaseException.__getattribute__" "BaseException" "__getattribute__" (.ref e) [.str "__class__" t] [] _ hk hs isB (PySem.F.args_bexc_ga _ _) ?_
 unfold Builtin.«object.__getattribute__» slotArgs
 refine wpAny_bind (wpAny_pure ?_)
 refine wpAny_bind (wpAny_pure ?_)
 refine wpAny_bind (L0.at ?_)
 refine wpAny_bind (L3.at ?_)
 show wpAny _ _ (holding [Value.builtin "object.__class__"] (call (.builtin "getset_descriptor.__get__") [.builtin "object.__class__",.ref e,.ref C]) >>= ret) _ _ _
 refine wpAny_bind (wpAny_holding (wpAny_call ?_))
 refine PySem.W.class_get (s:=⟨hp,g,d,t + 1,os⟩) X I hmo ?_
 refine wpAny_pure ?_
 show wpAny _ _ (handedOut (.ref C)) _ _ _
 rw [PySem.W.handedOut_of rfl]
 exact wpAny_pure (wpAny_pure h)
theorem xisnt {od:Option Obj} {D:Addr} {dep:Int} {tk:Tok} {Q:Fin->Shared->Prop} (X:K.In s.heap) (c:ExCl K C R fI) (I:PySem.W.InstAt s.heap e oe C od) (hf:PySem.W.findObj K C od "__class__" = some (.bind (.builtin "getset_descriptor.__get__") (.builtin "object.__class__"))) (hmo:PySem.W.mroIn K C (.type "object")=some true)
  (hn:PySem.W.kin_not K C D=true) (h:Q (.done (.ret (.bool false))) { s with toks:=s.toks + 1 }) :
  wpAny (model prog w) A (Builtin.«isinstance.nested» ⟨[.ref e,.ref D,.int dep tk],[]⟩) Q E s:=by
 unfold PySem.W.kin_not at hn
 rw [Bool.and_eq_true,Bool.and_eq_true,Bool.and_eq_true] at hn
 obtain⟨⟨⟨e0,e1⟩,e2⟩,e3⟩:=hn
 have hty:=PySem.W.looks_typeIn (M:=model prog w) X (beq_iff_eq.mp e2)
 have hsub:=PySem.W.looks_subIn (M:=model prog w) X (beq_iff_eq.mp e3)
 have isT:∀ {B:Addr},(PySem.W.clsIn K B).isSome=true->PySem.W.Looks (model prog w) s.heap (isType (.ref B)) true:=fun {B} hB=>by
  unfold PySem.W.clsIn at hB
  split at hB
  ·rename_i c' d' cd' sl' ho
   intro A' Q' E' s' k q
   unfold isType loadHead
   exact wpAny_bind (wpAny_loadPart (k _ _ (X _ _ ho)) (wpAny_pure q))
  ·cases hB
 have his:=isT e1
 obtain⟨cd,hcd,_⟩:=c.clsIn
 have hisD:=isT (B:=C) (by rw [hcd];rfl)
 have hne:(Value.ref C == Value.ref D)=false:=Bool.eq_false_iff.mpr fun q=>of_decide_eq_true e0 (Value.ref.inj (beq_iff_eq.mp q))
 obtain⟨h0,g,d,tt,os⟩:=s
 have L0:=I.type (M:=model prog w)
 have LI:PySem.W.Looks (model prog w) h0 (isInstance (.ref e) (.ref D)) false:=L0.andThen hsub
 unfold Builtin.«isinstance.nested»
 refine wpAny_bind (L0.at ?_)
 rw [if_neg (fun q=>by rw [hne] at q;exact Bool.noConfusion q)]
 refine wpAny_bind (hty.at ?_)
 rw [if_pos (by decide)]
 k_delta "plainIsInstance"
 refine wpAny_bind (wpAny_bind (his.at ?_))
 simp only [Bool.not_true,Bool.false_eq_true,if_false]
 refine wpAny_bind (LI.at ?_)
 simp only [Bool.false_eq_true,if_false]
 refine wpAny_bind (xclass X c I hf hmo ?_)
 refine wpAny_bind (hisD.at ?_)
 simp only [Bool.not_true,Bool.false_eq_true,if_false]
 refine wpAny_bind (wpAny_rule ?_)
 refine hsub.at ?_
 first
  | exact wpAny_pure h
  | exact wpAny_pure (wpAny_pure h)
  | exact wpAny_bind (wpAny_pure (wpAny_pure h))
end
structure XNot (K:Frag) (C D:Addr):Prop where
 ha:findIn K (.ref C) "__class__" = some (some (.builtin "object.__class__"))
 hg:PySem.W.specialIn K (.builtin "object.__class__") "__get__" = some (some (.builtin "getset_descriptor.__get__"))
 ht:PySem.W.takesIn K (.builtin "object.__class__")=some true
 hm:PySem.W.mroIn K C (.type "object")=some true
 nt:PySem.W.kin_not K C D=true
end L2
namespace L2
open PySem PySem.Spec PyProof.Rows
section
variable {X:Cx} {pins:List (Addr × Obj)} {σ:St} {H:Hp} {s:Shared} {h':Heap}
theorem Inv.turned2 {t':Nat} {e it p:Addr} {o:HO} (I:Inv X pins σ H s) (k:∀ b u,b ≠ e->b ≠ it->s.heap.get? b=some u->h'.get? b=some u) (fe:FpOk X pins H e) (fi:FpOk X pins H it)
  (hp:s.heap.objs.size<=p) (new:ObjOk X.prog X.w (upd H p o) h' p o):Inv X pins σ (upd H p o) { s with heap:=h',toks:=t' }:=by
 have hn:=I.hok.fresh hp
 have ne:∀ b u,H b=some u->b ≠ e:=fun b u q=>ne_of_none q fe.1
 have ni:∀ b u,H b=some u->b ≠ it:=fun b u q=>ne_of_none q fi.1
 have nx:∀ b,b ∉ [e,it]->b ≠ e/\b ≠ it:=fun b hb=>⟨fun z=>hb (by simp [z]),fun z=>hb (by simp [z])⟩
 have np:∀ b u,s.heap.get? b=some u->b ≠ p:=fun b u q=>Nat.ne_of_lt (Nat.lt_of_lt_of_le (Heap.lt_size q) hp)
 have u:Un (frs X.stack) [e,it] H (upd H p o) s.heap h':=by
  refine⟨fun b u q _ _ hx=>k b u (nx b hx).1 (nx b hx).2 q,fun b u q _ _ hx=>⟨u.slots,k b u (nx b hx).1 (nx b hx).2 q⟩,fun b u q n _=>?_,fun b u q hx=>⟨u,k b u (nx b hx).1 (nx b hx).2 q⟩,fun b xs q=>?_,fun b o' u q=>?_,fun b ps q=>⟨#[],?_⟩⟩
  ·rw [upd_ne (np b u q)];exact n
  ·rw [upd_ne (ne_of_none q hn)];exact q
  ·rw [upd_ne (ne_of_none q hn)];exact q
  ·rw [upd_ne (ne_of_none q hn),q];simp
 have hok:HOk X.prog X.w (upd H p o) h':=fun b v eb=>by
  by_cases hb:b=p
  ·subst hb;rw [upd_same] at eb;cases eb;exact new
  ·rw [upd_ne hb] at eb
   refine (I.hok b v eb).stay (fun c w hc q=>k c w ?_ ?_ q) (fun c q=>by rw [upd_ne (ne_of_none q hn)];exact q) fun c xs q=>by rw [upd_ne (ne_of_none q hn)];exact q
   ·rcases hc with z|z
    ·rw [z];exact ne b v eb
    ·exact ne c _ z
   ·rcases hc with z|z
    ·rw [z];exact ni b v eb
    ·exact ni c _ z
 refine I.call (g':=s.gens) (d':=s.drawn) (t':=t') (ch:=[e,it]) u hok I.bare fun b hb=>?_
 have:b=e\/b=it:=by simpa using hb
 rcases this with rfl|rfl
 ·exact⟨fe.2.2.2.1,fe.2.1,fe.2.2.2.2.1,fe.2.2.2.2.2⟩
 ·exact⟨fi.2.2.2.1,fi.2.1,fi.2.2.2.2.1,fi.2.2.2.2.2⟩
end
def Ite (K:Frag) (a:Addr):It :=
 ⟨fun i H=>∃ xs x,SqL K H a xs/\xs[i]?=some x,fun i H x H'=>∃ y p,x=.ref p/\H p=none/\H'=upd H p (.tup [.int (i:Int),y])/\∀ xs,SqL K H a xs->xs[i]?=some y,fun i H=>∃ xs,SqL K H a xs/\xs.length<=i⟩
theorem turn_enum {P:Program} {w:World} {K:Frag} {elts:List Expr} {x1:Nat} {pos:Pos} (a e it:Addr) (hne:e ≠ it):Turn P w K (.Tuple elts x1 pos) (Ite K a) [e,it] e (fun i h=>(∃ old,IsEnum h e it (i:Int) old)/\h.IsListIter it a i) where
 mem:=by simp
 obj:=fun i h st b hb=>by
  have:b=e\/b=it:=by simpa using hb
  obtain⟨⟨old,he⟩,o,ho,hc,hd⟩:=st
  rcases this with rfl|rfl
  ·exact⟨_,he,fun v z=>by cases z⟩
  ·exact⟨o,ho,fun v z=>by rw [hd] at z;cases z⟩
 keep:=fun i h h' st k=>by
  obtain⟨⟨old,he⟩,o,ho,r⟩:=st
  exact⟨⟨old,k e (by simp) _ he⟩,o,k it (by simp) _ ho,r⟩
 item:=by
  intro X hP hw hK hc i pins s σ H E I hf st hg
  subst hP hw hK
  obtain⟨xs,x,hq,hx⟩:=hg
  obtain⟨its,rv,p,hz⟩:=I.list hq
  obtain⟨u,hu,ru⟩:=rv.get hx
  have fe:=hf e (by simp)
  have fi:=hf it (by simp)
  obtain⟨⟨old,he⟩,hit⟩:=st
  refine wpAny_pyNext_enum_item he hit p.isList (x:=u) (by simpa using hu) hne fun h1 heo hit1 ht1 hz1 hk1=>⟨_,rfl,?_⟩
  refine wpAny_letOwnedTupleGo_enum heo fun h2 he2 hs2=>?_
  replace hs2:Heap.SameBut e h1 h2:=hs2
  have ne:s.heap.objs.size ≠ e:=Nat.ne_of_gt (Heap.lt_size he)
  have ht2:h2.get? s.heap.objs.size=some { cls:=.type "tuple",data:=.seq #[.int i s.toks,u] }:=(hs2.2 _ ne).trans ht1
  have k2:∀ b v,b ≠ e->b ≠ it->s.heap.get? b=some v->h2.get? b=some v:=fun b v n1 n2 q=>(hs2.2 b n1).trans (hk1 b v n1 n2 q)
  refine⟨.ref s.heap.objs.size,upd H s.heap.objs.size (.tup [.int (i:Int),x]),I.turned2 (t':=s.toks + 1) k2 fe fi (Nat.le_refl _) ⟨(by show 2<=sizeLine;decide),[.int i s.toks,u],.cons ⟨_,rfl⟩ (.cons ru .nil),_,ht2,rfl,_,rfl⟩,rfl,⟨x,_,rfl,I.hok.fresh (Nat.le_refl _),rfl,fun ys hy=>by rw [I.list_inj hy hq];exact hx⟩,⟨⟨_,he2⟩,?_⟩,fun b hb=>?_⟩
  ·obtain⟨o,ho,r⟩:=hit1
   exact⟨o,(hs2.2 it (Ne.symm hne)).trans ho,r⟩
  ·have:b=e\/b=it:=by simpa using hb
   obtain⟨oi,hoi,_⟩:=hit
   rcases this with rfl|rfl
   ·rw [upd_ne (Ne.symm ne)];exact fe.1
   ·rw [upd_ne (Nat.ne_of_lt (Heap.lt_size hoi))];exact fi.1
 done:=by
  intro X hP hw hK hc i pins s σ H E I hf st hg
  subst hP hw hK
  obtain⟨xs,hq,hl⟩:=hg
  obtain⟨its,rv,p,hz⟩:=I.list hq
  have hlen:=rv.length
  obtain⟨f0,f1,f2,f3,f4,f5⟩:=hf it (by simp)
  obtain⟨⟨old,he⟩,hit⟩:=st
  exact wpAny_pyNext_enum_end (I.ok.hd hc) he hit p.isList (by simp;omega) fun h' eb=>⟨rfl,I.turned (t':=s.toks) (fun b o hb e=>eb b o hb e) f0 f1 f3 f4 f5⟩
 self:=fun _ _ _ _ _ st h=>by
  obtain⟨⟨old,he⟩,_⟩:=st
  exact wpAny_pyIter_enum he h
def iEnum (K:Frag) (ta:TA):TI:=fun σ H R=>ta σ H fun vs H1=>∃ a xs,vs=[.ref a]/\SqL K H1 a xs/\R (Ite K a) H1
theorem pi_enum {X:Cx} {elts:List Expr} {x1:Nat} {tpos:Pos} {a:Expr} {ta:TA} {p pos:Pos} (hg:Gl X "enumerate") (hm:X.mg "enumerate" = none) (ha:PA X [a] ta) (hs:starEach [a] X.env=[(false,eval a X.env)]:=by rfl):PI X (.Tuple elts x1 tpos) (.Call (.Name "enumerate" p) [a] [] pos) (iEnum X.K ta):=by
 intro pins s σ H R I h
 refine Call_ (ld_blt I hg hm boot_enumerate (PyProof.Rows.callWith_type1 (thn (ha pos pins s σ H _ I h) fun us s1 zq=>?_) hs rfl))
 obtain⟨vs,H1,I1,r1,q1⟩:=zq
 obtain⟨l,xs,e,hl,q⟩:=q1
 subst e
 obtain⟨u,rfl,rx⟩:=vals1 r1
 cases rx
 obtain⟨its,rv,pl,hz⟩:=I1.list hl
 refine call_enumerate_list pl.isList fun h' he hit hsz hk=>wpAny_pyIter_enum he ?_
 refine⟨s1.heap.objs.size + 1,[s1.heap.objs.size + 1,s1.heap.objs.size],_,_,H1,rfl,I1.kept (t':=s1.toks) hk,turn_enum l _ _ (Nat.succ_ne_self _),⟨⟨_,he⟩,hit⟩,fun b hb=>?_,q⟩
 have:b=s1.heap.objs.size + 1\/b=s1.heap.objs.size:=by simpa using hb
 rcases this with rfl|rfl
 ·exact I1.fpOk (Nat.le_succ _) (I1.hok.fresh (Nat.le_succ _))
 ·exact I1.fpOk (Nat.le_refl _) (I1.hok.fresh (Nat.le_refl _))
theorem for_enum {K:Frag} {a:Addr} {xs:List V} {g:TG} {tb:TS} {D:Ends} {σ:St} {H:Hp} (Pv:Nat->St->Hp->Prop) (h0:Pv 0 σ H) (hl:∀ i σ H,i<=xs.length->Pv i σ H->SqL K H a xs)
  (hs:∀ i x σ H p,xs[i]?=some x->Pv i σ H->H p=none->g (.ref p) σ (upd H p (.tup [.int (i:Int),x])) fun σ2 H2=>tb { D with nx:=Pv (i + 1),ct:=Pv (i + 1),bk:=D.nx } σ2 H2) (hd:∀ σ H,Pv xs.length σ H->D.nx σ H) :
  ∃ W:Nat->Nat->St->Hp->Prop,(∃ m,W 0 m σ H)/\∀ i m σ H,W i m σ H →
   ((Ite K a).stop i H/\D.nx σ H)\/((Ite K a).go i H/\∃ N:St->Hp->Prop,(∀ σ' H',N σ' H'->∃ m',m' < m/\W (i + 1) m' σ' H')/\∀ x H',(Ite K a).yld i H x H'->g x σ H' fun σ2 H2=>tb { D with nx:=N,ct:=N,bk:=D.nx } σ2 H2):=by
 refine⟨fun i m σ H=>m=xs.length - i/\i<=xs.length/\Pv i σ H,⟨xs.length,by simp,Nat.zero_le _,h0⟩,?_⟩
 rintro i m σ H ⟨rfl,hi,p⟩
 have q:=hl i σ H hi p
 by_cases hlt:i < xs.length
 ·refine .inr ⟨⟨xs,xs[i],q,by simp [hlt]⟩,Pv (i + 1),fun σ' H' p'=>⟨xs.length - (i + 1),by omega,rfl,hlt,p'⟩,fun x H' y=>?_⟩
  obtain⟨y',pa,rfl,hn,rfl,hy⟩:=y
  exact hs i y' σ H pa (hy xs q) p hn
 ·have e:i=xs.length:=by omega
  subst e
  exact .inl ⟨⟨xs,q,Nat.le_refl _⟩,hd σ H p⟩
end L2
namespace L2
open PySem
theorem Room.units1 {k:Nat} {A:Around} (r:Room k A):A.units + 1 < cLine:=by
 have:=r.units
 omega
end L2
namespace L2
open PySem PySem.Spec PyProof.Rows
def DatT (K:Frag) (H:Hp) (x:V) (d:PyData):Prop:=Dat K H x d\/(∃ a kvs,x=.ref a/\H a=some (.dK kvs))/\d=.dict []
def tyD:PyData->String
 | .none=>"NoneType"
 | .bool _=>"bool"
 | .int _=>"int"
 | .str _=>"str"
 | .list _=>"list"
 | .tuple _=>"tuple"
 | .dict _=>"dict"
theorem Dat.ty {K:Frag} {H:Hp} {x:V} {d:PyData} (h:Dat K H x d):tyN K x H (tyD d):=by
 cases h with
 | lst h _=>exact .inl ⟨rfl,_,h⟩
 | tup h _=>exact .inr ⟨rfl,_,h⟩
 | _=>rfl
theorem DatT.ty {K:Frag} {H:Hp} {x:V} {d:PyData} (h:DatT K H x d):tyM K x H (tyD d):=by
 rcases h with h|⟨⟨a,kvs,rfl,h⟩,rfl⟩
 ·exact .inl h.ty
 ·exact .inr ⟨rfl,a,kvs,rfl,h⟩
theorem DatT.same {K:Frag} {H H':Hp} {x:V} {d:PyData} (h:DatT K H x d) (g:Same H H'):DatT K H' x d:=by
 rcases h with h|⟨⟨a,kvs,rfl,h⟩,rfl⟩
 ·exact .inl (h.same g)
 ·exact .inr ⟨⟨a,kvs,rfl,g _ _ h⟩,rfl⟩
theorem DatAll.length {K:Frag} {H:Hp} : ∀ {xs:List V} {ds:List PyData},DatAll K H xs ds->xs.length=ds.length
 | _,_,.nil=>rfl
 | _,_,.cons _ t=>congrArg (· + 1) (DatAll.length t)
theorem DatAll.get {K:Frag} {H:Hp} : ∀ {xs:List V} {ds:List PyData} {i:Nat} {x:V},DatAll K H xs ds->xs[i]?=some x->∃ d,ds[i]?=some d/\Dat K H x d
 | _,_,_,_,.nil,e=>by simp at e
 | _,_,0,_,.cons h _,e=>by simp at e;subst e;exact⟨_,rfl,h⟩
 | _,_,i + 1,x,.cons _ t,e=>by
  obtain⟨d,h1,h2⟩:=DatAll.get (i:=i) (x:=x) t (by simpa using e)
  exact⟨d,by simpa using h1,h2⟩
theorem DatAll.app {K:Frag} {H:Hp} : ∀ {xs ys:List V} {ds es:List PyData},DatAll K H xs ds->DatAll K H ys es->DatAll K H (xs++ys) (ds++es)
 | _,_,_,_,.nil,s=>s
 | _,_,_,_,.cons h t,s=>.cons h (DatAll.app t s)
theorem DatAll.take {K:Frag} {H:Hp} : ∀ {xs:List V} {ds:List PyData} (n:Nat),DatAll K H xs ds->DatAll K H (xs.take n) (ds.take n)
 | _,_,0,_=>.nil
 | _,_,_ + 1,.nil=>.nil
 | _,_,n + 1,.cons h t=>.cons h (DatAll.take n t)
theorem DatAll.drop {K:Frag} {H:Hp} : ∀ {xs:List V} {ds:List PyData} (n:Nat),DatAll K H xs ds->DatAll K H (xs.drop n) (ds.drop n)
 | _,_,0,h=>h
 | _,_,_ + 1,.nil=>.nil
 | _,_,n + 1,.cons _ t=>DatAll.drop n t
end L2
namespace L2
open PySem
theorem new_facts {H H1:Hp} {p:Addr} {o:HO} (e:upd H p o=H1) (hp:H p=none):Same H H1/\H1 p=some o:=by
 subst e
 exact⟨fun b u q=>by rw [upd_ne (ne_of_none q hp)];exact q,upd_same⟩
theorem chg_facts {H H1:Hp} {p:Addr} {o:HO} (e:upd H p o=H1):But p H H1/\H1 p=some o:=by
 subst e
 exact⟨But.upd,upd_same⟩
theorem Same.at {H H1:Hp} {a:Addr} {o:HO} (g:Same H H1) (h:H a=some o):H1 a=some o:=g _ _ h
theorem Same.tp {K:Frag} {H H':Hp} {a:Addr} {xs:List V} (e:Same H H') (h:SqT K H a xs):SqT K H' a xs:=by
 rcases h with (h|⟨o,h⟩)|h
 ·exact .inl (.inl (e _ _ h))
 ·exact .inl (.inr ⟨o,e _ _ h⟩)
 ·exact .inr h
theorem Same.dt {K:Frag} {H H':Hp} {x:V} {d:PyData} (g:Same H H') (h:Dat K H x d):Dat K H' x d:=h.same g
theorem Same.dts {K:Frag} {H H':Hp} {xs:List V} {ds:List PyData} (g:Same H H') (h:DatAll K H xs ds):DatAll K H' xs ds:=h.same g
theorem Same.dtt {K:Frag} {H H':Hp} {x:V} {d:PyData} (g:Same H H') (h:DatT K H x d):DatT K H' x d:=h.same g
theorem join {v:V} {H':Hp} {R:VK} {t:TT} {ta tb:TE} {σ:St} {H:Hp} (hk:R v H') (h:∀ Q:VK,Q v H'->tIf t ta tb σ H Q):tIf t ta tb σ H R:=h R hk
theorem joinQ (P:St->Hp->Prop) {D:Ends} {rest:TS} {c:TT} {t u:TS} {σ:St} {H:Hp} (hk:∀ σ' H',P σ' H'->rest D σ' H') (h:∀ nx:St->Hp->Prop,(∀ σ' H',P σ' H'->nx σ' H')->tIfS c t u { D with nx:=nx } σ H):tSeq (tIfS c t u) rest D σ H:=h (rest D) hk
end L2
local macro_rules | `(tactic| walk_at "hp") => `(tactic| first
 | assumption
 | exact L2.upd_same
 | exact L2.Same.refl _
 | (refine' L2.Same.at ?k1 ?_; (case k1=>assumption);walk_at "hp";done)
 | (refine L2.SqL.of ?_;walk_at "hp";done)
 | (refine L2.SqT.of ?_;walk_at "hp";done)
 | (refine' L2.Same.seq ?k1 ?_; (case k1=>assumption);walk_at "hp";done)
 | (refine' L2.Same.tp ?k1 ?_; (case k1=>assumption);walk_at "hp";done)
 | (refine' L2.Same.dt ?k1 ?_; (case k1=>assumption);walk_at "hp";done)
 | (refine' L2.Same.dts ?k1 ?_; (case k1=>assumption);walk_at "hp";done)
 | (refine' L2.Same.dtt ?k1 ?_; (case k1=>assumption);walk_at "hp";done)
 | (refine' L2.Same.trans ?_ ?k1; (case k1=>assumption);walk_at "hp";done))
local macro_rules | `(tactic| walk_at "al") => `(tactic| (intro pX hX; generalize eX : L2.upd _ pX _ = HX; obtain ⟨gX,kX⟩ := L2.new_facts eX hX; clear eX))
local macro_rules | `(tactic| o_unpack $r:ident) => `(tactic| (intro $r:ident hX; generalize eX : L2.upd _ $r:ident _ = HX; obtain ⟨gX,kX⟩ := L2.new_facts eX hX; clear eX))
local macro_rules | `(tactic| walk_at "ch") => `(tactic| (generalize eX : L2.upd _ _ _ = HX; obtain ⟨gX,kX⟩ := L2.chg_facts eX; clear eX))
local macro_rules | `(tactic| walk_at "rd") => `(tactic| repeat first
 | (refine⟨_,rfl,?_⟩)
 | (refine⟨_,_,rfl,rfl,?_⟩)
 | (refine⟨_,_,rfl,rfl,⟨by decide,by decide⟩,?_⟩)
 | (refine' ⟨_,_,rfl,.inl ?k1,?_⟩; (case k1=>walk_at "hp"))
 | (refine' ⟨_,_,_,_,rfl,rfl,?k1,?k2,?_⟩; (case k1=>walk_at "hp"); (case k2=>rfl)))
namespace L2
open PySem PySem.Spec PyProof.Rows
section
variable {X:Cx}
def Exc (K:Frag) (H:Hp) (e C:Addr) (fs:List (Str × V)):Prop:=∃ dx R fI,(H e=some (ExF e C (some dx))\/H e=some (Ex0 e C (some dx)))/\H dx=some (XD dx fs)/\ExCl K C R fI
theorem Exc.obj {pins:List (Addr × Obj)} {σ:St} {H:Hp} {s:Shared} {e C:Addr} {fs:List (Str × V)} (I:Inv X pins σ H s) (h:Exc X.K H e C fs) :
  ∃ dx R fI oe vs o1,s.heap.get? e=some oe/\oe.cls=.ref C/\oe.dict=some dx/\oe.data=.fields vs/\s.heap.get? dx=some o1/\ExCl X.K C R fI:=by
 obtain⟨dx,R,fI,he,hd,c⟩:=h
 obtain⟨⟨mA,hn,_⟩,_⟩:=I.hok dx _ hd
 obtain⟨o1,ho,_⟩:=lookIn_ns hn
 rcases he with he|he
 ·obtain⟨⟨oe,vs,g,oc,ox,od⟩,_⟩:=I.hok e _ he
  exact⟨dx,R,fI,oe,vs,o1,g,oc,ox,od,ho,c⟩
 ·obtain⟨⟨oe,vs,g,oc,ox,od,_⟩,_⟩:=I.hok e _ he
  exact⟨dx,R,fI,oe,vs,o1,g,oc,ox,od,ho,c⟩
structure ExP (K:Frag) (e C dx:Addr) (s:Shared):Prop where
 k:K.In s.heap
 o:∃ oe vs o1,s.heap.get? e=some oe/\oe.cls=.ref C/\oe.dict=some dx/\oe.data=.fields vs/\s.heap.get? dx=some o1
theorem ansSame {K:Frag} {e C dx:Addr} : Answers (ExP K e C dx) (.ref e) (.ref C) true:=fun dep tk=>Meets.of_wp fun prog w A R s hs=>by
 obtain⟨⟨_,oe,vs,o1,g,oc,_⟩,h⟩:=hs
 unfold Builtin.«isinstance.nested»
 refine wpAny_bind (m:=typeOf (.ref e)) (wpAny_typeOf_ref g ?_)
 rw [oc]
 show wpAny _ _ (if (Value.ref C == Value.ref C)=true then _ else _) _ _ s
 rw [if_pos (by simp)]
 repeat (first|refine wpAny_pure ?_|refine wpAny_rule ?_|refine wpAny_bind ?_)
 exact⟨_,rfl,h s.toks⟩
theorem ansNot {K:Frag} {e C D R fI dx:Addr} (c:ExCl K C R fI) (x:XNot K C D):Answers (ExP K e C dx) (.ref e) (.ref D) false:=fun dep tk=>Meets.of_wp fun prog w A Rs s hs=>by
 obtain⟨⟨k,oe,vs,o1,g,oc,ox,od,ho⟩,h⟩:=hs
 obtain⟨cd,hcd,_⟩:=c.clsIn
 exact xisnt (od:=some o1) k c (inst_of g oc od (by rw [ox];exact ho)) (PySem.W.findObj_data (by rw [hcd];rfl) x.ha x.hg x.ht) x.hm x.nt ⟨_,rfl,h _⟩
theorem call_isE {K:Frag} (hK:X.K=K):CallR X (.builtin "isinstance") (fun xs H Q=>∃ e C D fs b,xs=[.ref e,.ref D]/\Exc K H e C fs/\((D=C/\b=true)\/(XNot K C D/\b=false))/\Q (.bl b) H):=by
 subst hK
 intro pins s σ H xs us Q I r h
 obtain⟨e,C,D,fs,b,rfl,he,hb,q⟩:=h
 obtain⟨u,v,rfl,ru,rv⟩:=vals2 r
 cases ru
 cases rv
 obtain⟨dx,R,fI,oe,vs,o1,g,oc,ox,od,ho,c⟩:=he.obj I
 have fin:Answers (ExP X.K e C dx) (.ref e) (.ref D) b:=by
  rcases hb with⟨rfl,rfl⟩|⟨hn,rfl⟩
  ·exact ansSame
  ·exact ansNot c hn
 refine call_isinstance_of ?_ (by intro z;cases z)
 exact fin 0 _ X.prog X.w X.A (fun r s'=>match r with | .ok (.ret v)=>EP X pins σ Q v s' | .ok _=>False | .error e=>X.xe e s') s ⟨⟨I.kIn,oe,vs,o1,g,oc,ox,od,ho⟩,fun tk=>⟨.bl b,H,I.tok _,rfl,q⟩⟩
end
inductive EqS (K:Frag) (H:Hp):Nat->V->V->Prop
 | same {n:Nat} {v:V} : SelfV v->EqS K H n v v
 | lst {n:Nat} {a b:Addr} {xs ys:List V} : SqL K H a xs->SqL K H b ys->xs.length=ys.length->(∀ (i:Nat) x y,xs[i]?=some x->ys[i]?=some y->EqS K H n x y)->EqS K H (n + 1) (.ref a) (.ref b)
 | tup {n:Nat} {a b:Addr} {xs ys:List V} : SqT K H a xs->SqT K H b ys->xs.length=ys.length->(∀ (i:Nat) x y,xs[i]?=some x->ys[i]?=some y->EqS K H n x y)->EqS K H (n + 1) (.ref a) (.ref b)
section
variable {X:Cx}
theorem all_true {n:Nat} : ((List.range n).all fun _=>true)=true:=by simp
theorem arr_get {us:List Value} {j:Nat} {u:Value} (h:us[j]?=some u) (hj:j < us.toArray.size):us.toArray[j]=u:=by
 have:=(List.getElem?_eq_some_iff.mp h).2
 simpa using this
theorem Inv.eqs {pins:List (Addr × Obj)} {σ:St} {H:Hp} {s:Shared} (I:Inv X pins σ H s):∀ {n:Nat} {x y:V},EqS X.K H n x y->∀ {A:Around} {u v:Value},RelV x u->RelV y v->A.units + n < cLine->SeqAt.EqAt A s u v true:=by
 intro n x y h
 induction h with
 | same hs=>intro A u v ru rv _;exact eqAt_self hs ru rv
 | @lst n a b xs ys ha hb hl _ ih =>
  intro A u v ru rv hu
  cases ru
  cases rv
  by_cases hab:a=b
  ·subst hab;exact SeqAt.EqAt.same _
  obtain⟨i1,r1,p1,_⟩:=I.list ha
  obtain⟨i2,r2,p2,_⟩:=I.list hb
  have l1:=r1.length
  have l2:=r2.length
  refine SeqAt.EqAt.of_refs hab ?_
  have:=SeqAt.RcAt.lists (A:=A) (e:=fun _=>true) p1.isList p2.isList (by rw [List.size_toArray,List.size_toArray];omega) (by omega) (fun j h1 h2=>by
   have hj:j < xs.length:=by rw [List.size_toArray] at h1;omega
   have hj2:j < ys.length:=by omega
   obtain⟨u1,e1,q1⟩:=r1.get (List.getElem?_eq_getElem hj)
   obtain⟨u2,e2,q2⟩:=r2.get (List.getElem?_eq_getElem hj2)
   rw [arr_get e1,arr_get e2]
   exact ih j _ _ (List.getElem?_eq_getElem hj) (List.getElem?_eq_getElem hj2) q1 q2 (by show A.units + 1 + n < cLine;omega))
  rw [all_true] at this
  exact this
 | @tup n a b xs ys ha hb hl _ ih =>
  intro A u v ru rv hu
  cases ru
  cases rv
  by_cases hab:a=b
  ·subst hab;exact SeqAt.EqAt.same _
  obtain⟨i1,r1,p1,_⟩:=I.tuple ha
  obtain⟨i2,r2,p2,_⟩:=I.tuple hb
  have l1:=r1.length
  have l2:=r2.length
  refine SeqAt.EqAt.of_refs hab ?_
  have:=SeqAt.RcAt.tuples (A:=A) (e:=fun _=>true) (show s.heap.IsTuple a i1.toArray from p1) (show s.heap.IsTuple b i2.toArray from p2) (by omega) (fun j h1 h2=>by
   have hj:j < xs.length:=by rw [List.size_toArray] at h1;omega
   have hj2:j < ys.length:=by omega
   obtain⟨u1,e1,q1⟩:=r1.get (List.getElem?_eq_getElem hj)
   obtain⟨u2,e2,q2⟩:=r2.get (List.getElem?_eq_getElem hj2)
   rw [arr_get e1,arr_get e2]
   exact ih j _ _ (List.getElem?_eq_getElem hj) (List.getElem?_eq_getElem hj2) q1 q2 (by show A.units + 1 + n < cLine;omega))
  rw [all_true,show (i1.toArray.size == i2.toArray.size)=true by rw [List.size_toArray,List.size_toArray,show i1.length=i2.length by omega];simp] at this
  exact this
end
end L2
namespace L2
open PySem
theorem log2_lt100 {n:Nat} (h:n < 2 ^ 100):n.log2 < 100:=by
 by_cases h0:n=0
 ·subst h0;decide
 ·exact (Nat.log2_lt h0).mpr h
end L2
namespace L2
open PySem PySem.Spec PyProof.Rows
section
variable {X:Cx} {e:Expr} {es:List Expr} {te:TE} {t:TA}
theorem pex_tup {x1} {pos:Pos} (h:PAx X es t):PEx X (.Tuple es x1 pos) (tTup t):=⟨pe_tup h.h⟩
theorem pex_lst {pos:Pos} (h:PAx X es t):PEx X (.List es pos) (tLst t):=⟨pe_lst h.h⟩
theorem pstx_ret {pos:Pos} (h:PEx X e te):PStx X (.Return (some e) pos) (tRet te):=⟨ps_ret h.h⟩
theorem pstx_lst {i:Nat} {x:Str} {pos' pos p1:Pos} (hN:X.N.Nodup) (hi:X.N[i]?=some x) (hx:X.env.scope.names.lookup x=some .local) (he:PEx X (.List es p1) te) :
  PStx X (.Assign [.Name x pos'] (.List es p1) pos) (tAsg te (gName i)):=⟨ps_set hN hi (.inl hx) he.h rfl (.inr hx)⟩
end
structure RoomH (k:Nat) (A:Around):Prop where
 dp:A.depth + 3 * k + 5 < recursionLimit
 un:A.units + 16 * k + 200 < cLine
 gd:A.guards=some []
theorem RoomH.mono {j k:Nat} {A:Around} (r:RoomH k A) (h:j<=k):RoomH j A:=⟨by have:=r.dp;omega,by have:=r.un;omega,r.gd⟩
theorem RoomH.deeper {k:Nat} {A:Around} (r:RoomH (k + 1) A) (env:Env):RoomH k (A.deeper env) :=
 ⟨by have:=r.dp;show A.depth + 1 + 3 * k + 5 < _;omega,by have:=r.un;show A.units + 3 + 16 * k + 200 < _;omega,r.gd⟩
theorem RoomH.depth {k:Nat} {A:Around} (r:RoomH k A):A.depth < recursionLimit:=by have:=r.dp;omega
theorem RoomH.units {k:Nat} {A:Around} (r:RoomH k A):A.units + 64 < cLine:=by have:=r.un;omega
theorem Room.toH {k:Nat} {A:Around} (r:Room k A):RoomH k A:=⟨r.dp,r.un,r.gd⟩
theorem Room.mark {k:Nat} {A:Around} (r:Room k A) (v:Option Value):RoomH k (A.mark v):=⟨r.dp,r.un,r.gd⟩
structure VRow (P:Program) (w:World) (K:Frag) (mg:Str->Option Value) (base:Heap) (CX:CXT) (k:Nat) (m:Str) (C:Addr) (sp:Sp):Prop where
 cl:Cls K C
 ex:∃ f fd ps,Meth K C m f/\FnOk P w K mg base CX k f fd ps sp/\Binds K fd ps []
section
variable {X:Cx} {CX:CXT} {k:Nat} {E:XK} {m:Str} {pos apos:Pos} {e o:Expr} {es:List Expr} {ta:TE} {t:TA} {T:Addr->Sp->Prop}
def tMethV (T:Addr->Sp->Prop) (m:Str) (E:XK) (ta:TE) (t:TA):TE:=fun σ H Q=>ta σ H fun x H1=>∃ a C dx fs sp,x=.ref a/\H1 a=some (.ins C dx fs)/\fs.lookup m=none/\T C sp/\t σ H1 fun vs H2=>sp (x::vs) H2 Q E
theorem pe_methV {pl:Sem Bool} (he:PE X o ta) (hT:∀ C sp,T C sp->VRow X.prog X.w X.K X.mg X.base CX k m C sp) (hr:Room k X.A) (hx:Passes CX X E) (ha:PA X (e::es) t)
  (hst:starEach (e::es) X.env=(false,eval e X.env)::starEach es X.env:=by rfl) (hpl:(backTo pos (starEach es X.env)).any (·.1)=false:=by rfl)
  (ht:eval (.Call (.Attribute o m apos) (e::es) [] pos) X.env=(do
   let ov ← eval o X.env
   standAt apos.atName
   let (f,first) ← holding [ov] (getMethod ov m pl)
   callWith pos f first (backTo pos (starEach (e::es) X.env)) (backToKw pos (keywordEach [] X.env))):=by rfl) :
  PE X (.Call (.Attribute o m apos) (e::es) [] pos) (tMethV T m E ta t):=by
 intro pins s σ H Q I h
 refine PySem.W.methodCall_KW (pl:=pl) (thn (he pins s σ H _ I h) fun u s1 zq=>?_) ht
 obtain⟨x,H1,I1,rx,a,C,dx,fs,sp,ex,ea,l,hC,q⟩:=zq
 subst ex
 obtain rfl:u=Value.ref a:=rx
 obtain⟨c,f,fd,ps,hm,F,hb⟩:=hT C sp hC
 refine getmeth_ok I1 ea c hm l ?_
 refine PySem.W.callWith_K (first:=[.ref a]) (h₀:=X.base) I.ok.mod.kin hm.kp (thn (ha pos pins s1 σ H1 _ I1 q) fun us s2 ⟨vs,H2,I2,r,q2⟩=>⟨I2.kIn,?_⟩) hst hpl
 exact run_fn (us:=.ref a::us) (vs:=.ref a::vs) (dvs:=[]) F hr hb .nil hx I2 (.cons rfl r) (by rw [List.append_nil];exact q2)
theorem pe_methV0 {pl:Sem Bool} (he:PE X o ta) (hT:∀ C sp,T C sp->VRow X.prog X.w X.K X.mg X.base CX k m C sp) (hr:Room k X.A) (hx:Passes CX X E)
  (ht:eval (.Call (.Attribute o m apos) [] [] pos) X.env=(do
   let ov ← eval o X.env
   standAt apos.atName
   let (f,first) ← holding [ov] (getMethod ov m pl)
   callWith pos f first (backTo pos (starEach [] X.env)) (backToKw pos (keywordEach [] X.env))):=by rfl) :
  PE X (.Call (.Attribute o m apos) [] [] pos) (tMethV T m E ta tNil):=by
 intro pins s σ H Q I h
 refine PySem.W.methodCall_KW (pl:=pl) (thn (he pins s σ H _ I h) fun u s1 zq=>?_) ht
 obtain⟨x,H1,I1,rx,a,C,dx,fs,sp,ex,ea,l,hC,q⟩:=zq
 subst ex
 obtain rfl:u=Value.ref a:=rx
 obtain⟨c,f,fd,ps,hm,F,hb⟩:=hT C sp hC
 refine getmeth_ok I1 ea c hm l ?_
 exact PySem.W.callWith_K0 (first:=[.ref a]) I1.kIn hm.kp (run_fn (us:=[.ref a]) (vs:=[.ref a]) (dvs:=[]) F hr hb .nil hx I1 (.cons rfl .nil) q)
end
def txtV:V->Option Str
 | .str x=>some x
 | .int i=>if i.natAbs < 2 ^ 100 then some (toString i) else none
 | _=>none
def TJ:=St->Hp->Str->(Str->Hp->Prop)->Prop
def PJ (X:Cx) (es:List Expr) (t:TJ):Prop:=∀ (pins:List (Addr × Obj)) (s:Shared) (σ:St) (H:Hp) (acc:Str) (Q:Str->Hp->Prop),Inv X pins σ H s->t σ H acc Q →
 wpAny (model X.prog X.w) X.A (joinParts acc (evalEach es X.env)) (EP X pins σ fun v H'=>∃ z,v=.str z/\Q z H') X.xe s
section
variable {X:Cx} {e e1 e2:Expr} {es:List Expr} {te:TE} {t:TJ} {pos p:Pos} {x:Str}
def jNil:TJ:=fun _ H acc Q=>acc.length<=sizeLine/\Q acc H
theorem pj_nil:PJ X [] jNil:=fun _ s _ H acc Q I h=>joinParts_nil ⟨.str acc,H,I.tok _,⟨_,rfl⟩,acc,rfl,h.2⟩ h.1
def jStr (x:Str) (t:TJ):TJ:=fun σ H acc Q=>(acc++x).length<=sizeLine/\t σ H (acc++x) Q
theorem pj_str {j} (ht:PJ X es t):PJ X (.Constant (.str x) j p::es) (jStr x t):=by
 intro pins s σ H acc Q I h
 refine joinParts_cons (Calls.Constant_str ⟨h.1,ht pins _ σ H _ Q (I.tok _) h.2⟩)
theorem fmt_ok {pins:List (Addr × Obj)} {s:Shared} {σ:St} {H:Hp} {v:V} {u:Value} {y:Str} {E:Value->Shared->Prop} {R:Value->Shared->Prop} (I:Inv X pins σ H s) (r:RelV v u) (hy:txtV v=some y) (hl:y.length<=sizeLine)
  (h:∀ t' tk,Inv X pins σ H { s with toks:=tk }->R (.str y t') { s with toks:=tk }):wpAny (model X.prog X.w) X.A (formatField u Str.empty) R E s:=by
 cases v with
 | str x =>
  obtain⟨t,rfl⟩:=r
  cases hy
  exact formatField_str (fun t' tk=>h t' tk (I.kept fun _ _ q=>q)) hl
 | int i =>
  obtain⟨t,rfl⟩:=r
  have hy':(if i.natAbs < 2 ^ 100 then some (Str.ofString (toString i)) else none)=some y:=hy
  by_cases hi:i.natAbs < 2 ^ 100
  ·rw [if_pos hi] at hy'
   cases hy'
   refine formatField_int_small ?_ (h _ _ (I.kept fun _ _ q=>q))
   have:=log2_lt100 hi
   omega
  ·rw [if_neg hi] at hy'
   cases hy'
 | _=>cases hy
def jVal (te:TE) (t:TJ):TJ:=fun σ H acc Q=>te σ H fun v H1=>∃ y,txtV v=some y/\y.length<=sizeLine/\(acc++y).length<=sizeLine/\t σ H1 (acc++y) Q
theorem pj_val (he:PE X e te) (ht:PJ X es t):PJ X (.FormattedValue e (-1) none p::es) (jVal te t):=by
 intro pins s σ H acc Q I h
 refine joinParts_cons (FormattedValue_plain (thn (he pins s σ H _ I h) fun u s1 zq=>?_))
 obtain⟨v,H1,I1,r,y,hy,hl,ha,q⟩:=zq
 exact fmt_ok I1 r hy hl fun t' tk I2=>⟨ha,ht pins _ σ H1 _ Q I2 q⟩
def tJoin (t:TJ):TE:=fun σ H Q=>t σ H Str.empty fun z H1=>Q (.str z) H1
theorem pe_join (h:PJ X (e1::e2::es) t):PE X (.JoinedStr (e1::e2::es) pos) (tJoin t):=by
 intro pins s σ H Q I hq
 exact JoinedStr_many (thn (h pins s σ H Str.empty _ I hq) fun u s1 ⟨v,H1,I1,r,z,ez,q⟩=>⟨v,H1,I1,r,by rw [ez];exact q⟩)
def tJoin1 (te:TE):TE:=fun σ H Q=>te σ H fun v H1=>∃ y,txtV v=some y/\y.length<=sizeLine/\Q (.str y) H1
theorem pe_join1 (he:PE X e te):PE X (.JoinedStr [.FormattedValue e (-1) none p] pos) (tJoin1 te):=by
 intro pins s σ H Q I h
 refine JoinedStr_one (FormattedValue_plain (thn (he pins s σ H _ I h) fun u s1 zq=>?_))
 obtain⟨v,H1,I1,r,y,hy,hl,q⟩:=zq
 exact fmt_ok I1 r hy hl fun t' tk I2=>⟨.str y,H1,I2,⟨_,rfl⟩,q⟩
end
end L2
namespace L2
open PySem
def jn (c:Nat):List (List Nat)->List Nat
 | []=>[]
 | [p]=>p
 | p::q::r=>p++c::jn c (q::r)
theorem jn_head {c:Nat} : ∀ {p1 p2 t1 t2:List Nat},c ∉ p1->c ∉ p2->p1++c::t1=p2++c::t2->p1=p2/\t1=t2
 | [],[],t1,t2,_,_,h=>⟨rfl,(List.cons.inj h).2⟩
 | [],b::p2,t1,t2,_,h2,h=>absurd (List.mem_cons.mpr (.inl (List.cons.inj h).1)) h2
 | a::p1,[],t1,t2,h1,_,h=>absurd (List.mem_cons.mpr (.inl (List.cons.inj h).1.symm)) h1
 | a::p1,b::p2,t1,t2,h1,h2,h=>by
  obtain⟨e1,e2⟩:=List.cons.inj h
  obtain⟨e3,e4⟩:=jn_head (fun z=>h1 (List.mem_cons_of_mem _ z)) (fun z=>h2 (List.mem_cons_of_mem _ z)) e2
  exact⟨by rw [e1,e3],e4⟩
theorem jn_inj {c:Nat} : ∀ {ps qs:List (List Nat)},ps ≠ []->qs ≠ []->(∀ p ∈ ps,c ∉ p)->(∀ q ∈ qs,c ∉ q)->jn c ps=jn c qs->ps=qs
 | [],_,h,_,_,_,_=>absurd rfl h
 | _,[],_,h,_,_,_=>absurd rfl h
 | [p],[q],_,_,_,_,h=>by rw [show p=q from h]
 | [p],q::q2::qs,_,_,hp,_,h=>by
  have e:p=q++c::jn c (q2::qs):=h
  exact absurd (by rw [e];simp) (hp p (List.mem_cons_self ..))
 | p::p2::ps,[q],_,_,_,hq,h=>by
  have e:p++c::jn c (p2::ps)=q:=h
  exact absurd (by rw [← e];simp) (hq q (List.mem_cons_self ..))
 | p::p2::ps,q::q2::qs,_,_,hp,hq,h=>by
  obtain⟨e1,e2⟩:=jn_head (hp p (List.mem_cons_self ..)) (hq q (List.mem_cons_self ..)) h
  have ih:=jn_inj (by simp) (by simp) (fun z hz=>hp z (List.mem_cons_of_mem _ hz)) (fun z hz=>hq z (List.mem_cons_of_mem _ hz)) e2
  rw [e1,ih]
theorem join_jn (c:Nat):∀ ys:List Str,(Str.join ⟨#[c]⟩ ys).cps.toList=jn c (ys.map fun y=>y.cps.toList)
 | []=>rfl
 | [y]=>rfl
 | y::z::ys=>by
  show (y++⟨#[c]⟩++Str.join ⟨#[c]⟩ (z::ys)).cps.toList=_
  rw [Str.cps_append,Str.cps_append,Array.toList_append,Array.toList_append,join_jn c (z::ys),List.append_assoc]
  rfl
theorem split_ne (x y:Str):Txt.split x y ≠ []:=fun h=>by
 unfold Txt.split at h
 split at h
 ·cases h
 ·split at h
  ·cases h
  ·rw [StrLaws.partsBetween_eq] at h
   obtain⟨p,r,e⟩:=StrLaws.partsFrom_ne x y.length 0 (Builtin.Str.occurrences x y 0 x.length (x.length + 1))
   rw [e] at h
   cases h
theorem split_join {c:Nat} {ys:List Str} (hne:ys ≠ []) (hf:∀ y ∈ ys,c ∉ y.cps.toList):Txt.split (Str.join ⟨#[c]⟩ ys) ⟨#[c]⟩=ys:=by
 have h1:=StrLaws.join_split (Str.join ⟨#[c]⟩ ys) ⟨#[c]⟩
 have h2:=congrArg (fun z:Str=>z.cps.toList) h1
 simp only [join_jn] at h2
 have h3:=jn_inj (by simpa using split_ne _ _) (by simpa using hne) (fun p hp=>by
  obtain⟨y,hy,rfl⟩:=List.mem_map.mp hp
  exact StrLaws.split_free _ c y hy) (fun p hp=>by
  obtain⟨y,hy,rfl⟩:=List.mem_map.mp hp
  exact hf y hy) h2
 have hi:∀ {as bs:List Str},(as.map fun y=>y.cps.toList)=(bs.map fun y=>y.cps.toList)->as=bs:=by
  intro as
  induction as with
  | nil=>intro bs h;cases bs with
   | nil=>rfl
   | cons b bs=>cases h
  | cons a as ih=>intro bs h;cases bs with
   | nil=>cases h
   | cons b bs =>
    obtain⟨e1,e2⟩:=List.cons.inj h
    rw [ih e2,Str.ext' (Array.toList_inj.mp e1)]
 exact hi h3
end L2
namespace L2
open PySem PySem.Spec PyProof.Rows
section
variable {X:Cx}
theorem mt_splitT:MtR X "str.split" (fun x vs H Q=>∃ z y:Str,x=.str z/\vs=[.str y]/\(y.length == 0)=false/\z.length + 2<=sizeLine/\∀ p,H p=none->Q (.ref p) (upd H p (.lst ((Txt.split z y).map V.str)))):=by
 intro pins s σ H x vs v us Q I rx rv h
 obtain⟨z,y,rfl,rfl,h2,h4,q⟩:=h
 have hn:(Builtin.Str.partsBetween z (Builtin.Str.occurrences z y 0 z.length (z.length + 1)) y.length).length<=sizeLine:=by
  have e1:=StrLaws.occ_length_le z y 0 z.length (z.length + 1)
  rw [length_partsBetween];omega
 obtain⟨t,rfl⟩:=rx
 obtain⟨u,rfl,ru⟩:=vals1 rv
 obtain⟨t',rfl⟩:=ru
 have fin:∀ (tk:Nat) (ws:List Value),Vals ((Txt.split z y).map V.str) ws->(Txt.split z y).length<=sizeLine →
   EP X pins σ Q (.ref s.heap.objs.size) { s with toks:=tk,heap:=s.heap.push { cls:=.type "list",data:=.seq ws.toArray } }:=fun tk ws rw' hl=>by
  refine⟨.ref s.heap.objs.size,_,I.laid (o:=.lst ((Txt.split z y).map V.str)) (fun b o e=>Heap.get?_push_of_some _ e) (Nat.le_refl _) ?_,rfl,q _ (I.hok.fresh (Nat.le_refl _))⟩
  exact⟨by rw [List.length_map];exact hl,_,0,rw',Heap.get?_push_size _ rfl⟩
 cases h1:(decide (z.length < y.length) || decide (Builtin.Str.strKind z < Builtin.Str.strKind y))
 ·cases hf:(Builtin.Str.occurrences z y 0 z.length (z.length + 1)).isEmpty
  ·refine call_meets F.slot_str_split (typeIs_str _ _ _) F.entry_str_split (F.args_str_split_2 _ _) (meets_str_split_sep z y t t' h1 h2 hf (by omega) hn) ?_
   have e:Txt.split z y=Builtin.Str.partsBetween z (Builtin.Str.occurrences z y 0 z.length (z.length + 1)) y.length:=(if_neg (ne_true_of_eq_false h1)).trans (if_neg (ne_true_of_eq_false hf))
   exact fin _ _ (by rw [e];exact vals_strs _ _) (by rw [e];exact hn)
  ·have e:Txt.split z y=[z]:=(if_neg (ne_true_of_eq_false h1)).trans (if_pos hf)
   exact call_meets F.slot_str_split (typeIs_str _ _ _) F.entry_str_split (F.args_str_split_2 _ _) (meets_str_split_not_found z y t t' h1 h2 hf) (fin s.toks [.str z t] (by rw [e];exact .cons ⟨_,rfl⟩ .nil) (by rw [e];show 1<=sizeLine;decide))
 ·have e:Txt.split z y=[z]:=if_pos h1
  exact call_meets F.slot_str_split (typeIs_str _ _ _) F.entry_str_split (F.args_str_split_2 _ _) (meets_str_split_cannot_occur z y t t' h1) (fin s.toks [.str z t] (by rw [e];exact .cons ⟨_,rfl⟩ .nil) (by rw [e];show 1<=sizeLine;decide))
theorem mt_joinT:MtR X "str.join" (fun x vs H Q=>∃ (sep:Str) (a:Addr) (ys:List Str),x=.str sep/\vs=[.ref a]/\SqL X.K H a (ys.map V.str)/\(ys.map (·.length)).sum + ys.length * sep.length<=16777216/\Q (.str (Str.join sep ys)) H):=by
 intro pins s σ H x vs v us Q I rx rv h
 obtain⟨sep,a,ys,rfl,rfl,ha,hz,q⟩:=h
 obtain⟨t,rfl⟩:=rx
 obtain⟨u,rfl,ru⟩:=vals1 rv
 cases ru
 obtain⟨its,r,pl,_⟩:=I.list ha
 refine PyProof.Rows.join_list pl.isList (strsAre_of (by simpa using r)) hz fun t' k=>⟨.str _,H,I.tok _,⟨_,rfl⟩,?_⟩
 rw [show Txt.join sep ys=Str.join sep ys from StrLaws.glued_eq_join sep ys]
 exact q
end
section
variable {X:Cx}
theorem argBest_max (f:Nat->Int):∀ k,argBest (fun i j=>decide (f i > f j)) k<=k/\∀ j,j<=k->f j<=f (argBest (fun i j=>decide (f i > f j)) k)
 | 0=>⟨Nat.le_refl _,fun j hj=>by rw [show j=0 by omega];exact Int.le_refl _⟩
 | k + 1=>by
  obtain⟨h1,h2⟩:=argBest_max f k
  unfold argBest
  by_cases h:f (k + 1) > f (argBest (fun i j=>decide (f i > f j)) k)
  ·rw [if_pos (decide_eq_true h)]
   refine⟨Nat.le_refl _,fun j hj=>?_⟩
   by_cases e:j=k + 1
   ·rw [e];exact Int.le_refl _
   ·have:=h2 j (by omega);omega
  ·rw [if_neg (by rw [decide_eq_false h];exact Bool.false_ne_true)]
   refine⟨by omega,fun j hj=>?_⟩
   by_cases e:j=k + 1
   ·rw [e];omega
   ·exact h2 j (by omega)
theorem call_maxL (hc:X.calm=true):CallR X (.builtin "max") (fun xs H Q=>∃ (a:Addr) (ns:List Int),xs=[.ref a]/\SqL X.K H a (ns.map V.int)/\ns ≠ []/\∀ m:Int,m ∈ ns->(∀ n ∈ ns,n<=m)->Q (.int m) H):=by
 intro pins s σ H xs us Q I r h
 obtain⟨a,ns,rfl,ha,hne,q⟩:=h
 obtain⟨u,rfl,rx⟩:=vals1 r
 cases rx
 obtain⟨its,rv,pl,_⟩:=I.list ha
 have hi:=intsAre_of rv
 obtain⟨ys,hy⟩:=hi.allInts.items
 have e1:ns=ys.toList.map (·.1):=by
  rw [← nums_intItems,← hy]
  exact (show numsOf its.toArray.toList=ns from hi.numsOf).symm
 have hsz:ys.size=ns.length:=by rw [e1,List.length_map,Array.length_toList]
 have hpos : 0 < ns.length:=List.length_pos_iff.mpr hne
 have hat:∀ j,ns[j]?=ys[j]?.map (fun x:Int × Tok=>x.1):=fun j=>by rw [e1,List.getElem?_map,Array.getElem?_toList]
 have hnum:∀ j,j < ns.length->ns[j]?=some (numAt ys j):=fun j hj=>by
  have hj2:j < ys.size:=by omega
  rw [hat,Array.getElem?_eq_getElem hj2]
  unfold numAt
  rw [Array.getElem?_eq_getElem hj2]
  rfl
 refine max_intList (I.ok.hd hc) (hy ▸ pl.isList) (by omega) fun v h' tk hv hk=>?_
 obtain⟨t,rfl⟩:=intItems_at hv
 obtain⟨b1,b2⟩:=argBest_max (numAt ys) (ys.size - 1)
 refine⟨.int _,H,I.kept hk,⟨_,rfl⟩,q _ (List.mem_of_getElem? (hnum _ (by omega))) fun n hn=>?_⟩
 obtain⟨j,hj⟩:=List.mem_iff_getElem?.mp hn
 have hjl:j < ns.length:=(List.getElem?_eq_some_iff.mp hj).1
 rw [hnum j hjl] at hj
 cases hj
 exact b2 j (by omega)
theorem op_neT (hu:X.A.units + 64 < cLine):OpR X (compareOp .NotEq) (fun x y H Q=>∃ (a b:Addr) (xs ys:List V),x=.ref a/\y=.ref b/\SqT X.K H a xs/\SqT X.K H b ys/\xs.length=ys.length/\(∀ (i:Nat) x y,xs[i]?=some x->ys[i]?=some y->EqS X.K H 8 x y)/\Q (.bl false) H):=by
 intro pins s σ H x y v u Q I rx ry h
 obtain⟨a,b,xs,ys,rfl,rfl,ha,hb,hl,he,q⟩:=h
 cases rx
 cases ry
 obtain⟨i1,r1,p1,_⟩:=I.tuple ha
 obtain⟨i2,r2,p2,_⟩:=I.tuple hb
 have l1:=r1.length
 have l2:=r2.length
 show wpAny _ _ (richCompare .NotEq (.ref a) (.ref b)) _ _ _
 refine SeqAt.RcNeAt.tuples (e:=fun _=>true) (show s.heap.IsTuple a i1.toArray from p1) (show s.heap.IsTuple b i2.toArray from p2) (by omega) (fun j h1 h2=>?_) _ _ _ _ ?_
 ·have hj:j < xs.length:=by rw [List.size_toArray] at h1;omega
  have hj2:j < ys.length:=by omega
  obtain⟨u1,e1,q1⟩:=r1.get (List.getElem?_eq_getElem hj)
  obtain⟨u2,e2,q2⟩:=r2.get (List.getElem?_eq_getElem hj2)
  rw [arr_get e1,arr_get e2]
  exact I.eqs (he j _ _ (List.getElem?_eq_getElem hj) (List.getElem?_eq_getElem hj2)) q1 q2 (by show X.A.units + 1 + 8 < cLine;omega)
 ·rw [all_true,show (i1.toArray.size == i2.toArray.size)=true by rw [List.size_toArray,List.size_toArray,show i1.length=i2.length by omega];simp]
  exact⟨.bl false,H,I,rfl,q⟩
end
def DCompR (J:It) (k:Nat) (js:List Nat) (g:TG) (tc:TT) (tk tv:TE) (σ:St) (Q:VK) (H1:Hp):Prop:=∀ D,H1 D=none →
 ∃ W:Nat->Nat->St->List (Key × V)->Hp->Prop,(∃ m,W 0 m (capSt k js σ) [] (upd H1 D (.dK [])))/\∀ i m σ' kvs H',W i m σ' kvs H' →
  (J.stop i H'/\Q (.ref D) H') ∨
  (J.go i H'/\∃ N:St->List (Key × V)->Hp->Prop,(∀ σ' ys H',N σ' ys H'->∃ m',m' < m/\W (i + 1) m' σ' ys H') ∧
   ∀ x H2,J.yld i H' x H2->g x σ' H2 fun σ3 H3=>tc σ3 H3 fun b H4=>if b=true then tk σ3 H4 fun y H5=>tv σ3 H5 fun v H6=>∃ key,y=kV key/\H6 D=some (.dK kvs)/\kvs.length < sizeLine/\N σ3 (putK kvs key v) (upd H6 D (.dK (putK kvs key v))) else N σ3 kvs H4)
def tDComp (wi:TI) (k:Nat) (js:List Nat) (g:TG) (tc:TT) (tk tv:TE):TE:=fun σ H Q=>wi σ H fun J H1=>DCompR J k js g tc tk tv σ Q H1
section
variable {prog:Program} {w:World} {A:Around} {R:Result->Shared->Prop} {s:Shared}
theorem compLoop_genD {kx vx target iter:Expr} {ifs:List Expr} {scope:Scope} {pos:Pos} {it:Value} {D:Addr} {env:Env} (I:Nat->Shared->Prop)
  (turn:∀ n s,I n s->wpAny (model prog w) A (pyNext it) (fun r s₁=>match r with
   | none=>R (.ok .next) s₁
   | some v=>wpAny (model prog w) A (letOwnedTupleGo target it v) (fun _ s₀=>wpAny (model prog w) A (assign target env v) (fun _ s₂ =>
     wpAny (model prog w) A (forIn ifs true fun c r=>if r=true then do let ok ← isTrue c env (eval c env);pure (ForInStep.yield ok) else pure (ForInStep.yield r)) (fun ok s₃ =>
      if ok=true then wpAny (model prog w) A (eval kx env) (fun kv s₄=>wpAny (model prog w) A (eval vx env) (fun vv s₅ =>
       wpAny (model prog w) A (dictSet D kv vv) (fun _ s₆=>∃ m,m < n/\I m s₆) (fun _ _=>False) s₅) (fun _ _=>False) s₄) (fun _ _=>False) s₃
      else ∃ m,m < n/\I m s₃) (fun _ _=>False) s₂) (fun _ _=>False) s₀) (fun _ _=>False) s₁) (fun _ _=>False) s)
  (n:Nat) (h:I n s):codeAny (model prog w) A (.compLoop (.DictComp kx vx [⟨target,iter,ifs,0⟩] scope pos) 0 it (.ref D) env) R s:=by
 refine codeAny_loop rfl I (fun n s hI=>?_) n h
 show wpAny _ A ((compTurn (.DictComp kx vx [⟨target,iter,ifs,0⟩] scope pos) 0 it (.ref D) env).onRaise (fun x=>do noteFrame x env;theTreesLotGoes x)) _ _ s
 refine wpAny_noted ?_
 rw [compTurn_dict]
 refine wpAny_bind (wpAny_standAt (wpAny_bind (wpAny_mono (turn n s hI) (fun r s₁ h₁=>?_) fun _ _ z=>False.elim z)))
 cases r with
 | none=>exact wpAny_pure h₁
 | some v =>
  refine wpAny_bind (wpAny_mono h₁ (fun _ s₀ h₀=>?_) fun _ _ z=>False.elim z)
  refine wpAny_bind (wpAny_mono h₀ (fun _ s₂ h₂=>wpAny_bind (wpAny_mono h₂ (fun ok s₃ h₃=>?_) fun _ _ z=>False.elim z)) fun _ _ z=>False.elim z)
  cases ok with
  | false=>exact wpAny_pure ⟨rfl,h₃⟩
  | true =>
   exact wpAny_bind (wpAny_bind (wpAny_mono h₃ (fun kv s₄ h₄=>wpAny_bind (wpAny_holding (wpAny_mono h₄ (fun vv s₅ h₅=>wpAny_bind (wpAny_standAt (wpAny_holding (wpAny_mono h₅ (fun _ s₆ h₆=>wpAny_pure ⟨rfl,h₆⟩) fun _ _ z=>False.elim z)))) fun _ _ z=>False.elim z))) fun _ _ z=>False.elim z))
end
section
variable {X:Cx} {elt tg iter:Expr} {ifs:List Expr} {scope:Scope} {cl:List (Str × Addr)} {ts ys:List Str} {js:List Nat} {pos:Pos} {wi:TI} {g:TG} {tc:TT} {te:TE}
theorem comp_endD {pins pins':List (Addr × Obj)} {σ σ':St} {H2 H3:Hp} {s2 s4:Shared} {fp:List Addr} {C:Addr} {N:List Str} {h':Heap} (I2:Inv X pins σ H2 s2) (f2:∀ b ∈ fp,FpOk X pins H2 b)
  (I4:Inv (X.comp scope cl N s2 H2 fp C) pins' σ' H3 s4) (hC:s2.heap.objs.size<=C) (hs':Heap.SameBut C s4.heap h'):Inv X pins σ H3 { s4 with heap:=h' }:=by
 have ext:=hs'.extBut
 have neC:∀ b o,s2.heap.get? b=some o->b ≠ C:=fun b o e=>Nat.ne_of_lt (Nat.lt_of_lt_of_le (Heap.lt_size e) hC)
 have hok:HOk X.prog X.w H3 h':=HOk.but (C:=C) I4.hok I4.free fun b o hb e=>ext b o hb e
 have B:Un (frs X.stack) fp H2 H3 s2.heap s4.heap:=I4.base
 have u:Un (frs X.stack) fp H2 H3 s2.heap h':=by
  refine⟨fun b o e q hb hx=>ext b o (neC b o e) (B.keep b o e q hb hx),fun b o e q hb hx=>?_,B.free,fun b o e hx=>?_,B.tups,B.frzs,B.tbls⟩
  ·obtain⟨sl,e1⟩:=B.slot b o e q hb hx
   exact⟨sl,ext b _ (neC b o e) e1⟩
  ·obtain⟨o',e1⟩:=B.there b o e hx
   exact⟨o',ext b _ (neC b o e) e1⟩
 have os:s4.os=s2.os:=I4.os
 have gb:=I4.bare
 obtain⟨hh,gg,dd,tt,os'⟩:=s4
 obtain rfl:os'=s2.os:=os
 have fin:=I2.call (h':=h') (g':=gg) (d':=dd) (t':=tt) (ch:=fp) u hok gb fun b hb=>⟨(f2 b hb).2.2.2.1,(f2 b hb).2.1,(f2 b hb).2.2.2.2.1,(f2 b hb).2.2.2.2.2⟩
 exact fin
theorem pe_dcomp {kx vx:Expr} {tk tv:TE} (ts ys:List Str) (js:List Nat) (hc:X.calm=true) (hi:PI X tg iter wi) (hclos:closureFor scope X.env=pure cl) (hsub:subCl X.env cl) (hcap:capt X scope cl ys js)
  (hg:∀ s H fp C,PG (X.comp scope cl (ts++ys) s H fp C) tg g) (ht:∀ s H fp C,PIf (X.comp scope cl (ts++ys) s H fp C) ifs tc) (hek:∀ s H fp C,PE (X.comp scope cl (ts++ys) s H fp C) kx tk) (hev:∀ s H fp C,PE (X.comp scope cl (ts++ys) s H fp C) vx tv)
  (hkind:scope.kind=.function:=by rfl) (hcell:(scope.names.all fun y=>y.2 != .cell)=true:=by rfl)
  (hnames:(scope.names.all fun y=>y.2 != .local || scope.names.lookup y.1 == some .local)=true:=by rfl)
  (hhas:((relabel scope X.env).names.all fun p=>(p.2 != .cell && p.2 != .free) || (cl.lookup p.1).isSome)=true:=by rfl)
  (hs:∀ x,foldedSetIterable iter X.env x=pure x:=by intro _;rfl):PE X (.DictComp kx vx [⟨tg,iter,ifs,0⟩] scope pos) (tDComp wi ts.length js g tc tk tv):=by
 intro pins s σ H Q I h
 have hcell':∀ y ∈ scope.names,y.2 ≠ .cell:=fun y hy z=>by
  have:=List.all_eq_true.mp hcell y hy
  rw [z] at this
  exact absurd this (by decide)
 have hnames':∀ y ∈ scope.names,y.2=.local->scope.names.lookup y.1=some .local:=fun y hy z=>by
  have:=List.all_eq_true.mp hnames y hy
  rw [z] at this
  simpa using this
 have hhas':∀ x,((relabel scope X.env).names.lookup x=some .cell\/(relabel scope X.env).names.lookup x=some .free)->∃ c,cl.lookup x=some c:=fun x hx=>by
  rcases hx with hx|hx
  ·have:=List.all_eq_true.mp hhas _ (PySem.mem_of_lookup hx)
   exact Option.isSome_iff_exists.mp (by simpa using this)
  ·have:=List.all_eq_true.mp hhas _ (PySem.mem_of_lookup hx)
   exact Option.isSome_iff_exists.mp (by simpa using this)
 rw [arm_eval_DictComp]
 refine wpAny_comprehension_free (use:=none) rfl hs hclos hkind hnames' (thn (hi pins s σ H _ I h) fun v s1 h1=>thn h1 fun itv s2 h2=>?_)
 obtain⟨it,fp,tn,J,H2,e,I2,T,st2,f2,hD⟩:=h2
 subst e
 have fl:∀ b ∈ fp,b < s2.heap.objs.size:=fun b hb=>by
  obtain⟨o,e,_⟩:=T.obj _ _ st2 b hb
  exact Heap.lt_size e
 refine wpAny_newObj_type (wpAny_newFunctionEnv hcell' (by intro y hy;simp at hy) (fun h₁ hns₁ hsb₁=>?_) hkind)
 dsimp only at hns₁ hsb₁ ⊢
 have hn2:H2 s2.heap.objs.size=none:=I2.hok.fresh (Nat.le_refl _)
 obtain⟨W,⟨m0,w0⟩,turn⟩:=hD _ hn2
 have I2d:Inv X pins σ (upd H2 s2.heap.objs.size (.dK [])) { s2 with heap:=s2.heap.push { cls:=.type "dict",data:=.dict #[] } } :=
  I2.laid (a:=s2.heap.objs.size) (o:=.dK []) (h':=s2.heap.push { cls:=.type "dict",data:=.dict #[] }) (t':=s2.toks) (fun _ _ q=>Heap.get?_push_of_some _ q) (Nat.le_refl _) (dk_empty s2.heap I2.big)
 generalize hHH:s2.heap.push { cls:=.type "dict",dict:=none,data:=.dict #[] }=HH at hns₁ hsb₁ I2d ⊢
 have hC:HH.objs.size=s2.heap.objs.size + 1:=by rw [← hHH,Heap.size_push]
 have hlt:s2.heap.objs.size < HH.objs.size:=by rw [hC];exact Nat.lt_succ_self _
 have f2d:∀ b ∈ fp,FpOk X pins (upd H2 s2.heap.objs.size (.dK [])) b:=fun b hb=>⟨by rw [upd_ne (Nat.ne_of_lt (fl b hb))];exact (f2 b hb).1,(f2 b hb).2⟩
 have fld:∀ b ∈ fp,b < HH.objs.size:=fun b hb=>Nat.lt_trans (fl b hb) hlt
 have old:∀ b o,HH.get? b=some o->h₁.get? b=some o:=fun b o e=>hsb₁.extBut b o (Nat.ne_of_lt (Heap.lt_size e)) (Heap.get?_push_of_some _ e)
 have I':Inv (X.comp scope cl (ts++ys) { s2 with heap:=HH } (upd H2 s2.heap.objs.size (.dK [])) fp HH.objs.size) [] (capSt ts.length js σ) (upd H2 s2.heap.objs.size (.dK [])) { s2 with heap:=h₁,toks:=s2.toks + ([]:List (Str × Value)).length } :=
  inv_comp (s:={ s2 with heap:=HH }) I2d hsub hcap hkind hhas' f2d fld (Nat.le_refl _) hns₁ old
 have stat:∀ {H':Hp},(∀ b ∈ fp,H' b=none)->∀ b ∈ fp,FpOk (X.comp scope cl (ts++ys) { s2 with heap:=HH } (upd H2 s2.heap.objs.size (.dK [])) fp HH.objs.size) [] H' b:=fun {H'} hn b hb =>
  ⟨hn b hb,Nat.ne_of_lt (fld b hb),I'.ok.exfs b hb,.inl hb,(I'.ok.exf b hb).2,fun p hq=>absurd (show p ∈ ([]:List (Addr × Obj)) from by simpa using hq) (by simp)⟩
 have tn1:tn 0 h₁:=T.keep _ _ _ st2 fun b _ o e=>old b o (hHH ▸ Heap.get?_push_of_some _ e)
 have loop:∀ s₃ : Shared,s₃ = { s2 with heap:=h₁,toks:=s2.toks + ([]:List (Str × Value)).length } →
   codeAny (model X.prog X.w) X.A (.compLoop (.DictComp kx vx [⟨tg,iter,ifs,0⟩] scope pos) 0 (.ref it) (.ref s2.heap.objs.size) (compEnvC scope cl HH.objs.size X.env))
    (compPost (model X.prog X.w) X.A X.xe none (EP X pins σ Q) (.ref s2.heap.objs.size) HH.objs.size) s₃:=by
  rintro s₃ rfl
  refine compLoop_genD (fun n s'=>∃ i σ' kvs H',Inv (X.comp scope cl (ts++ys) { s2 with heap:=HH } (upd H2 s2.heap.objs.size (.dK [])) fp HH.objs.size) [] σ' H' s'/\tn i s'.heap/\(∀ b ∈ fp,H' b=none)/\W i n σ' kvs H') ?_ m0 ⟨0,_,[],_,I',tn1,fun b hb=>(f2d b hb).1,w0⟩
  rintro n s3 ⟨i,σ3,kvs,H3,I3,st3,fr3,w3⟩
  rcases turn i n σ3 kvs H3 w3 with⟨stop,qn⟩|⟨go,N,hN,step⟩
  ·refine thn (T.done (X.comp scope cl (ts++ys) { s2 with heap:=HH } (upd H2 s2.heap.objs.size (.dK [])) fp HH.objs.size) rfl rfl rfl hc i _ s3 σ3 H3 (fun _ _=>False) I3 (stat fr3) st3 stop) fun r s4 zq=>?_
   obtain⟨hr,I4⟩:=zq
   subst hr
   obtain⟨m,hn,_⟩:=I4.loc
   exact⟨m,hn,fun h' hs'=>⟨.ref s2.heap.objs.size,_,comp_endD (s2:={ s2 with heap:=HH }) I2d f2d I4 (Nat.le_refl _) hs',rfl,qn⟩⟩
  ·refine thn (T.item (X.comp scope cl (ts++ys) { s2 with heap:=HH } (upd H2 s2.heap.objs.size (.dK [])) fp HH.objs.size) rfl rfl rfl hc i _ s3 σ3 H3 (fun _ _=>False) I3 (stat fr3) st3 go) fun r s4 zq=>?_
   obtain⟨u,hr,h4⟩:=zq
   subst hr
   refine thn h4 fun _ s5 zq=>?_
   obtain⟨x,H5,I5,r5,y5,st5,fr5⟩:=zq
   have I5':=I5.pinned (stat fr5) (T.obj _ _ st5)
   refine thn (hg _ _ _ _ _ s5 σ3 H5 x u _ I5' r5 (step x H5 y5)) fun _ s6 zq=>?_
   obtain⟨σ6,H6,I6,q6⟩:=zq
   refine thn (ht _ _ _ _ _ s6 σ6 H6 _ I6 q6) fun b s7 zq=>?_
   obtain⟨H7,I7,q7⟩:=zq
   have facts:∀ {σ':St} {H':Hp} {s':Shared},Inv (X.comp scope cl (ts++ys) { s2 with heap:=HH } (upd H2 s2.heap.objs.size (.dK [])) fp HH.objs.size) ([]++pinsAt fp s5.heap) σ' H' s'->tn (i + 1) s'.heap/\(∀ b ∈ fp,H' b=none):=fun {σ' H' s'} J=>by
    refine⟨T.keep _ _ _ st5 fun b hb o e=>(J.pin (b,o) (List.mem_append_right _ (List.mem_append_right _ (mem_pinsAt hb e)))).1,fun b hb=>?_⟩
    obtain⟨o,e,d⟩:=T.obj _ _ st5 b hb
    exact (J.pin (b,o) (List.mem_append_right _ (List.mem_append_right _ (mem_pinsAt hb e)))).2.1
   have bare:∀ {σ':St} {H':Hp} {s':Shared},Inv (X.comp scope cl (ts++ys) { s2 with heap:=HH } (upd H2 s2.heap.objs.size (.dK [])) fp HH.objs.size) ([]++pinsAt fp s5.heap) σ' H' s'->Inv (X.comp scope cl (ts++ys) { s2 with heap:=HH } (upd H2 s2.heap.objs.size (.dK [])) fp HH.objs.size) [] σ' H' s':=fun J=>J.pins_of fun p hp=>absurd hp (by simp)
   cases b with
   | false =>
    have q7':N σ6 kvs H7:=by simpa using q7
    obtain⟨m',hm,w7⟩:=hN _ _ _ q7'
    obtain⟨a3,a4⟩:=facts I7
    show ∃ m,m < n/\_
    exact⟨m',hm,i + 1,σ6,kvs,H7,bare I7,a3,a4,w7⟩
   | true =>
    rw [if_pos rfl] at q7
    show wpAny _ _ (eval kx _) _ _ s7
    refine thn (hek _ _ _ _ _ s7 σ6 H7 _ I7 q7) fun kv s8 zq=>?_
    obtain⟨y,H8,I8,r8,q8⟩:=zq
    refine thn (hev _ _ _ _ _ s8 σ6 H8 _ I8 q8) fun vv s9 zq=>?_
    obtain⟨v,H9,I9,r9,key,ek,eD,hl,n9⟩:=zq
    subst ek
    obtain⟨m',hm,w9⟩:=hN _ _ _ n9
    obtain⟨a3,a4⟩:=facts I9
    have I9':=bare I9
    obtain⟨z,hd,vs,rel,dd⟩:=dk_of I9'.hok eD
    have hz:vs.length<=sizeLine:=by rw [← rel.length];exact z
    have hlp:(putK kvs key v).length<=sizeLine:=by have:=length_putK kvs key v;omega
    refine wpAny_dictSet_pairs (hsz:=hz) (kV_is r8) dd fun h' dd' hs=>?_
    have he:∃ q,h'.get? s2.heap.objs.size=some q:=let ⟨q,_,_,hq,_⟩:=dd'; ⟨q,hq⟩
    exact⟨m',hm,i + 1,σ6,putK kvs key v,_,d_write I9' (by rw [eD];exact True.intro) hs he (dk_new hlp hd (rel.put key r9) dd'),T.keep _ _ _ a3 fun b hb o e=>(hs.2 b (Nat.ne_of_lt (fl b hb))).trans e,fun b hb=>by rw [upd_ne (Nat.ne_of_lt (fl b hb))];exact a4 b hb,w9⟩
 exact codeAny_compStart_dict (loop _ rfl) (T.self _ 0 _ _ _ tn1 (loop _ rfl))
end
def DCompN (P:Nat->List (Key × V)->Hp->Prop) (i:Nat) (js:List Nat) (σ:St):St->List (Key × V)->Hp->Prop:=fun σ' ys H=>P (i + 1) ys H/\∃ o,σ'=o::capV js σ
theorem dcomp_list {K:Frag} {a:Addr} {xs:List V} {k:Nat} {js:List Nat} {tc:TT} {tk tv:TE} {σ:St} {Q:VK} {H1:Hp} (P:Addr->Nat->List (Key × V)->Hp->Prop) (h0:∀ D,H1 D=none->P D 0 [] (upd H1 D (.dK []))) (hl:∀ D i ys H,i<=xs.length->P D i ys H->SqL K H a xs)
  (hs:∀ D i x ys H,xs[i]?=some x->P D i ys H->tc (some x::capV js σ) H fun b H2=>if b=true then tk (some x::capV js σ) H2 fun y H3=>tv (some x::capV js σ) H3 fun v H4=>∃ key,y=kV key/\H4 D=some (.dK ys)/\ys.length < sizeLine/\DCompN (P D) i js σ (some x::capV js σ) (putK ys key v) (upd H4 D (.dK (putK ys key v))) else DCompN (P D) i js σ (some x::capV js σ) ys H2)
  (hd:∀ D ys H,P D xs.length ys H->Q (.ref D) H) (hk:k=1:=by rfl) :
  DCompR (Itl K a) k js (gName 0) tc tk tv σ Q H1:=by
 subst hk
 intro D hD
 refine⟨fun i m σ' ys H=>m=xs.length - i/\i<=xs.length/\P D i ys H/\∃ o,σ'=o::capV js σ,⟨xs.length,by simp,Nat.zero_le _,h0 D hD,none,rfl⟩,?_⟩
 rintro i m σ' ys H ⟨rfl,hi,p,o,rfl⟩
 have q:=hl D i ys H hi p
 by_cases hlt:i < xs.length
 ·refine .inr ⟨⟨xs,xs[i],q,by simp [hlt]⟩,DCompN (P D) i js σ,fun σ3 zs H3 z=>⟨xs.length - (i + 1),by omega,rfl,hlt,z.1,z.2⟩,fun x H' y=>?_⟩
  obtain⟨e,y⟩:=y
  subst e
  exact hs D i x ys _ (y xs q) p
 ·have e:i=xs.length:=by omega
  subst e
  exact .inl ⟨⟨xs,q,Nat.le_refl _⟩,hd D ys H p⟩
section
variable {X:Cx} {tg:Expr}
def iSeq (K:Frag) (tl:TE):TI:=fun σ H R=>tl σ H fun x H1=>∃ a,x=.ref a/\(((∃ xs,SqL K H1 a xs)/\R (Itl K a) H1)\/((∃ xs,SqT K H1 a xs)/\R (Itt K a) H1))
theorem pi_seq {l:Expr} {tl:TE} (hl:PE X l tl):PI X tg l (iSeq X.K tl):=by
 intro pins s σ H R I h
 refine thn (hl pins s σ H _ I h) fun v s1 zq=>?_
 obtain⟨x,H1,I1,r1,q1⟩:=zq
 obtain⟨a,e,q1⟩:=q1
 subst e
 cases r1
 rcases q1 with⟨⟨xs,hq⟩,q⟩|⟨⟨xs,hq⟩,q⟩
 ·obtain⟨its,rv,p,hz⟩:=I1.list hq
  refine wpAny_pyIter_list p.isList ?_
  refine⟨s1.heap.objs.size,[s1.heap.objs.size],_,_,H1,rfl,I1.kept (t':=s1.toks) fun b o e=>Heap.get?_push_of_some _ e,turn_list a _,⟨_,Heap.get?_push_size _ rfl,rfl,rfl⟩,fun b hb=>?_,q⟩
  have e:b=s1.heap.objs.size:=by simpa using hb
  subst e
  exact I1.fpOk (Nat.le_refl _) (I1.hok.fresh (Nat.le_refl _))
 ·obtain⟨its,rv,p,hz⟩:=I1.tuple hq
  refine wpAny_pyIter_tuple (show s1.heap.IsTuple a its.toArray from p) ?_
  refine⟨s1.heap.objs.size,[s1.heap.objs.size],_,_,H1,rfl,I1.kept (t':=s1.toks) fun b o e=>Heap.get?_push_of_some _ e,turn_tuple a _,⟨_,Heap.get?_push_size _ rfl,rfl,rfl⟩,fun b hb=>?_,q⟩
  have e:b=s1.heap.objs.size:=by simpa using hb
  subst e
  exact I1.fpOk (Nat.le_refl _) (I1.hok.fresh (Nat.le_refl _))
theorem pe_fldK {K:Frag} {e:Expr} {ta:TE} {f:Str} {pos:Pos} (hK:X.K=K) (he:PE X e ta) (hb:attributeBase e f X.env (eval e X.env)=eval e X.env):PE X (.Attribute e f pos) (tFld K ta f):=hK ▸ pe_fld he hb
theorem op_catT1:OpR X (binaryOp .Add) (fun x y H Q=>∃ a b xs ys,x=.ref a/\y=.ref b/\SqT X.K H a xs/\SqT X.K H b ys/\ys ≠ []/\xs.length + ys.length<=sizeLine ∧
  (xs=[]->Q (.ref b) H)/\(xs ≠ []->∀ p,H p=none->Q (.ref p) (upd H p (.tup (xs++ys))))):=by
 intro pins s σ H x y v u Q I rx ry h
 obtain⟨a,b,xs,ys,rfl,rfl,ha,hb,hx,hz,q1,q2⟩:=h
 by_cases hxs:xs=[]
 ·cases rx
  cases ry
  obtain⟨its,r1,p1,_⟩:=I.tuple ha
  obtain⟨its2,r2,p2,_⟩:=I.tuple hb
  have e1:its=[]:=r1.nil_iff.mpr hxs
  subst e1
  obtain⟨⟨cls,dd,data,sl⟩,ho,hc,n,hd⟩:=id p1
  obtain⟨⟨cls2,dd2,data2,sl2⟩,ho2,hc2,n2,hd2⟩:=id p2
  simp only at hc hd hc2 hd2
  subst hc hd hc2 hd2
  exact concat_meets ⟨_,ho,rfl⟩ ⟨_,ho2,rfl⟩ noFill_tuple_add seq_tuple_add PySem.F.slot_tuple_add PySem.F.entry_tuple_add (PySem.F.args_tuple_add_2 _ _)
   (tuple_addW0 a b _ _ n n2 dd dd2 sl sl2 rfl) ⟨ho,ho2,.ref b,H,I,rfl,q1 hxs⟩
 ·exact op_catT pins s σ H _ _ v u Q I rx ry ⟨a,b,xs,ys,rfl,rfl,ha,hb,hxs,hz,fun z=>absurd z hx,fun _=>q2 hxs⟩
end
theorem op_catT2 {X:Cx} : OpR X (binaryOp .Add) (fun x y H Q=>∃ a b xs ys,x=.ref a/\y=.ref b/\SqT X.K H a xs/\SqT X.K H b ys/\ys ≠ []/\xs.length + ys.length<=sizeLine/\∀ p H',Same H H'->SqT X.K H' p (xs++ys)->Q (.ref p) H'):=by
 intro pins s σ H x y v u Q I rx ry h
 obtain⟨a,b,xs,ys,rfl,rfl,ha,hb,hx,hz,q⟩:=h
 refine op_catT1 pins s σ H _ _ v u Q I rx ry ⟨a,b,xs,ys,rfl,rfl,ha,hb,hx,hz,fun e=>?_,fun _ p hp=>?_⟩
 ·subst e;exact q b H (fun _ _ z=>z) hb
 ·exact q p _ (fun b o z=>by rw [upd_ne (ne_of_none z hp)];exact z) (SqT.of upd_same)
theorem comp_tupM {K:Frag} {a:Addr} {xs:List V} {k:Nat} {js:List Nat} {g:TG} {tc:TT} {te:TE} {σ:St} {Q:VK} {H1:Hp} (P:Nat->List V->Hp->Prop) (h0:P 0 [] H1) (hl:∀ i ys H,i<=xs.length->P i ys H->SqT K H a xs/\ys.length<=i) (hz:xs.length < sizeLine)
  (hs:∀ i x ys H (os:St),os.length=k->xs[i]?=some x->P i ys H->g x (os++capV js σ) H fun σ3 H3=>tc σ3 H3 fun b H2=>if b=true then te σ3 H2 fun v H3=>CompM P i k js σ σ3 (ys++[v]) H3 else CompM P i k js σ σ3 ys H2)
  (hd:∀ ys H,P xs.length ys H->∀ p,H p=none->Q (.ref p) (upd H p (.lst ys))) :
  CompR (Itt K a) k js g tc te σ Q H1:=by
 refine⟨fun i m σ' ys H=>m=xs.length - i/\i<=xs.length/\P i ys H/\∃ os:St,os.length=k/\σ'=os++capV js σ,⟨xs.length,by simp,Nat.zero_le _,h0,List.replicate k none,List.length_replicate,rfl⟩,?_⟩
 rintro i m σ' ys H ⟨rfl,hi,p,os,ho,rfl⟩
 obtain⟨q,hy⟩:=hl i ys H hi p
 by_cases hlt:i < xs.length
 ·refine .inr ⟨⟨xs,xs[i],q,by simp [hlt]⟩,by omega,CompM P i k js σ,fun σ3 zs H3 z=>⟨xs.length - (i + 1),by omega,rfl,hlt,z.1,z.2⟩,fun x H' y=>?_⟩
  obtain⟨e,y⟩:=y
  subst e
  exact hs i x ys _ os ho (y xs q) p
 ·have e:i=xs.length:=by omega
  subst e
  exact .inl ⟨⟨xs,q,Nat.le_refl _⟩,hd ys H p⟩
end L2
namespace L2
open PySem
inductive Kd where
 | num (w:Nat)
 | nest (i:Nat)
 | many (n:Nat) (k:Kd)
 | pick (is:List Nat)
abbrev Shp:=Str × List (Str × Kd)
abbrev Un3:=Str × Nat × Str
def maxL:List Nat->Nat
 | []=>0
 | x::xs=>max x (maxL xs)
theorem maxL_le {n:Nat} : ∀ {xs:List Nat},n ∈ xs->n<=maxL xs
 | x::xs,h=>by
  rcases List.mem_cons.mp h with rfl|h
  ·exact Nat.le_max_left _ _
  ·exact Nat.le_trans (maxL_le h) (Nat.le_max_right _ _)
theorem maxL_mem:∀ {xs:List Nat},xs ≠ []->maxL xs ∈ xs
 | [],h=>absurd rfl h
 | [x],_=>by show max x 0 ∈ [x];rw [Nat.max_zero];exact List.mem_singleton.mpr rfl
 | x::y::xs,_=>by
  have ih:=maxL_mem (xs:=y::xs) (by simp)
  show max x (maxL (y::xs)) ∈ _
  by_cases h:x<=maxL (y::xs)
  ·rw [Nat.max_eq_right h];exact List.mem_cons_of_mem _ ih
  ·rw [Nat.max_eq_left (by omega)];exact List.mem_cons_self ..
theorem maxL_eq {m:Nat} {xs:List Nat} (h1:m ∈ xs) (h2:∀ n ∈ xs,n<=m):m=maxL xs :=
 Nat.le_antisymm (maxL_le h1) (h2 _ (maxL_mem fun z=>by rw [z] at h1;cases h1))
def Kd.size (sz:List Nat):Kd->Nat
 | .num w=>w
 | .nest i=>sz.getD i 0
 | .many n k=>n * k.size sz
 | .pick is=>1 + maxL (is.map fun i=>sz.getD i 0)
def Kd.depth (dp:List Nat):Kd->Nat
 | .num _=>0
 | .nest i=>dp.getD i 0
 | .many _ k=>k.depth dp
 | .pick is=>maxL (is.map fun i=>dp.getD i 0)
def pj (p x:Str):Str:=if p.length=0 then x else p++Str.ofString "." ++ x
def Kd.units (sz:List Nat) (ut:List (Str->List Un3)):Kd->Str->List Un3
 | .num w,p=>[(p,w,Str.ofString "num")]
 | .nest i,p=>(ut.getD i fun _=>[]) p
 | .many n k,p=>(List.range n).flatMap fun j=>k.units sz ut (pj p (Str.ofString (toString j)))
 | .pick is,p=>[(pj p (Str.ofString "tag"),1,Str.ofString "tag"),(p,maxL (is.map fun i=>sz.getD i 0),Str.ofString "pick")]
structure Tab where
 sz:List Nat
 dp:List Nat
 ut:List (Str->List Un3)
def Tab.more (t:Tab) (s:Shp):Tab:=⟨t.sz++[(s.2.map fun f=>f.2.size t.sz).sum],t.dp++[1 + maxL (s.2.map fun f=>f.2.depth t.dp)],t.ut++[fun p=>s.2.flatMap fun f=>f.2.units t.sz t.ut (pj p f.1)]⟩
def tabs (S:List Shp):Tab:=S.foldl Tab.more ⟨[],[],[]⟩
theorem tabs_snoc (S:List Shp) (s:Shp):tabs (S++[s])=(tabs S).more s:=by unfold tabs;rw [List.foldl_append];rfl
def Tab.Ok (t:Tab):Prop:=t.ut.length=t.sz.length/\∀ i p,(((t.ut.getD i fun _=>[]) p).map (·.2.1)).sum=t.sz.getD i 0
theorem sum_flat (f:Nat->List Un3) (m:Nat) (h:∀ j,((f j).map (·.2.1)).sum=m):∀ n,((((List.range n).flatMap f)).map (·.2.1)).sum=n * m
 | 0=>by simp
 | n + 1=>by
  rw [List.range_succ,List.flatMap_append,List.map_append,List.sum_append,sum_flat f m h n,List.flatMap_singleton,h n,Nat.succ_mul]
theorem Kd.units_sum {t:Tab} (h:t.Ok):∀ (k:Kd) (p:Str),((k.units t.sz t.ut p).map (·.2.1)).sum=k.size t.sz
 | .num w,p=>by simp [Kd.units,Kd.size]
 | .nest i,p=>h.2 i p
 | .many n k,p=>sum_flat _ _ (fun j=>Kd.units_sum h k _) n
 | .pick is,p=>by simp [Kd.units,Kd.size]
theorem fields_sum {t:Tab} (h:t.Ok) (p:Str):∀ fs:List (Str × Kd),((fs.flatMap fun f=>f.2.units t.sz t.ut (pj p f.1)).map (·.2.1)).sum=(fs.map fun f=>f.2.size t.sz).sum
 | []=>rfl
 | f::fs=>by
  rw [List.flatMap_cons,List.map_append,List.sum_append,Kd.units_sum h,fields_sum h p fs,List.map_cons,List.sum_cons]
theorem Tab.Ok.more {t:Tab} (h:t.Ok) (s:Shp):(t.more s).Ok:=by
 refine⟨by show (t.ut++[_]).length=(t.sz++[_]).length;rw [List.length_append,List.length_append,h.1];rfl,fun i p=>?_⟩
 show ((((t.ut++[_]).getD i fun _=>[]) p).map (fun u:Un3=>u.2.1)).sum=(t.sz++[_]).getD i 0
 rw [List.getD_eq_getElem?_getD,List.getD_eq_getElem?_getD]
 by_cases hi:i < t.ut.length
 ·rw [List.getElem?_append_left hi,List.getElem?_append_left (by rw [← h.1];exact hi)]
  have:=h.2 i p
  rw [List.getD_eq_getElem?_getD,List.getD_eq_getElem?_getD] at this
  exact this
 ·rw [List.getElem?_append_right (by omega),List.getElem?_append_right (by rw [← h.1];omega),← h.1]
  by_cases e:i - t.ut.length=0
  ·rw [e]
   exact fields_sum h p s.2
  ·obtain⟨n,hn⟩ : ∃ n,i - t.ut.length=n + 1:=⟨i - t.ut.length - 1,by omega⟩
   rw [hn]
   rfl
def Kd.Below (n:Nat):Kd->Prop
 | .num _=>True
 | .nest i=>i < n
 | .many _ k=>k.Below n
 | .pick is=>∀ i ∈ is,i < n
theorem getD_app {α : Type} {xs ys:List α} {d : α} {i:Nat} (h:i < xs.length):(xs++ys).getD i d=xs.getD i d:=by
 rw [List.getD_eq_getElem?_getD,List.getD_eq_getElem?_getD,List.getElem?_append_left h]
theorem Kd.Below.mono {n m:Nat} (h:n<=m):∀ {k:Kd},k.Below n->k.Below m
 | .num _,_=>True.intro
 | .nest i,q=>Nat.lt_of_lt_of_le (show i < n from q) h
 | .many _ k,q=>Kd.Below.mono (k:=k) h q
 | .pick is,q=>fun i hi=>Nat.lt_of_lt_of_le (q i hi) h
theorem map_app {xs ys is:List Nat} (h:∀ i ∈ is,i < xs.length):(is.map fun i=>(xs++ys).getD i 0)=is.map fun i=>xs.getD i 0 :=
 List.map_congr_left fun i hi=>getD_app (h i hi)
theorem Kd.size_app {sz more:List Nat} : ∀ {k:Kd},k.Below sz.length->k.size (sz++more)=k.size sz
 | .num _,_=>rfl
 | .nest i,q=>getD_app q
 | .many n k,q=>by show n * _=n * _;rw [Kd.size_app (k:=k) q]
 | .pick is,q=>by show 1 + maxL _=1 + maxL _;rw [map_app q]
theorem Kd.depth_app {dp more:List Nat} : ∀ {k:Kd},k.Below dp.length->k.depth (dp++more)=k.depth dp
 | .num _,_=>rfl
 | .nest i,q=>getD_app q
 | .many n k,q=>Kd.depth_app (k:=k) q
 | .pick is,q=>by show maxL _=maxL _;rw [map_app q]
theorem Kd.units_app {sz more:List Nat} {ut um:List (Str->List Un3)} (e:ut.length=sz.length):∀ {k:Kd},k.Below sz.length->∀ p,k.units (sz++more) (ut++um) p=k.units sz ut p
 | .num _,_,_=>rfl
 | .nest i,q,p=>by show ((ut++um).getD i _) p=(ut.getD i _) p;rw [getD_app (by rw [e];exact q)]
 | .many n k,q,p=>by
  show (List.range n).flatMap _=(List.range n).flatMap _
  congr 1
  funext j
  exact Kd.units_app e (k:=k) q _
 | .pick is,q,p=>by
  show [_,(p,maxL _,_)]=[_,(p,maxL _,_)]
  rw [map_app q]
theorem tabs_len:∀ S:List Shp,(tabs S).sz.length=S.length/\(tabs S).dp.length=S.length/\(tabs S).ut.length=S.length:=fun S=>by
 have:∀ (S:List Shp) (t:Tab) (n:Nat),(t.sz.length=n/\t.dp.length=n/\t.ut.length=n)->((S.foldl Tab.more t).sz.length=n + S.length/\(S.foldl Tab.more t).dp.length=n + S.length/\(S.foldl Tab.more t).ut.length=n + S.length):=by
  intro S
  induction S with
  | nil=>intro t n h;exact h
  | cons s S ih =>
   intro t n h
   have:=ih (t.more s) (n + 1) ⟨by show (t.sz++[_]).length=_;rw [List.length_append,h.1];rfl,by show (t.dp++[_]).length=_;rw [List.length_append,h.2.1];rfl,by show (t.ut++[_]).length=_;rw [List.length_append,h.2.2];rfl⟩
   rw [List.length_cons,show n + (S.length + 1)=n + 1 + S.length by omega]
   exact this
 have h:=this S ⟨[],[],[]⟩ 0 ⟨rfl,rfl,rfl⟩
 rw [Nat.zero_add] at h
 exact h
theorem tabs_app (S:List Shp):∀ R:List Shp,∃ a b c,(tabs (S++R)).sz=(tabs S).sz++a/\(tabs (S++R)).dp=(tabs S).dp++b/\(tabs (S++R)).ut=(tabs S).ut++c:=fun R=>by
 have:∀ (R:List Shp) (t:Tab),∃ a b c,(R.foldl Tab.more t).sz=t.sz++a/\(R.foldl Tab.more t).dp=t.dp++b/\(R.foldl Tab.more t).ut=t.ut++c:=by
  intro R
  induction R with
  | nil=>intro t;exact⟨[],[],[],by simp,by simp,by simp⟩
  | cons s R ih =>
   intro t
   obtain⟨a,b,c,h1,h2,h3⟩:=ih (t.more s)
   exact⟨[_]++a,[_]++b,[_]++c,h1.trans (List.append_assoc _ _ _),h2.trans (List.append_assoc _ _ _),h3.trans (List.append_assoc _ _ _)⟩
 unfold tabs
 rw [List.foldl_append]
 exact this R _
structure Cl5 where
 num:Addr
 nest:Addr
 many:Addr
 pick:Addr
 shape:Addr
inductive KO (c:Cl5) (K:Frag) (H:Hp) (sa:List Addr):Addr->Kd->Prop
 | num {a dx:Addr} {w:Nat} : H a=some (.ins c.num dx [("width",.int w)])->KO c K H sa a (.num w)
 | nest {a dx s:Addr} {i:Nat} : sa[i]?=some s->H a=some (.ins c.nest dx [("shape",.ref s)])->KO c K H sa a (.nest i)
 | many {a dx b:Addr} {n:Nat} {k:Kd} : H a=some (.ins c.many dx [("count",.int n),("kind",.ref b)])->KO c K H sa b k->KO c K H sa a (.many n k)
 | pick {a dx t:Addr} {is:List Nat} {ss:List Addr} : H a=some (.ins c.pick dx [("shapes",.ref t)])->SqT K H t (ss.map V.ref)->ss.length=is.length->(∀ (j i:Nat) (s:Addr),is[j]?=some i->ss[j]?=some s->sa[i]?=some s)->KO c K H sa a (.pick is)
theorem KO.same {c:Cl5} {K:Frag} {H H':Hp} {sa:List Addr} {a:Addr} {k:Kd} (h:KO c K H sa a k) (g:Same H H'):KO c K H' sa a k:=by
 induction h with
 | num h=>exact .num (g _ _ h)
 | nest e h=>exact .nest e (g _ _ h)
 | many h _ ih=>exact .many (g _ _ h) ih
 | pick h t l e=>exact .pick (g _ _ h) (g.tp t) l e
theorem get_app {sa more:List Addr} {i:Nat} {s:Addr} (h:sa[i]?=some s):(sa++more)[i]?=some s:=by
 rw [List.getElem?_append_left (List.getElem?_eq_some_iff.mp h).1];exact h
theorem KO.more {c:Cl5} {K:Frag} {H:Hp} {sa:List Addr} {a:Addr} {k:Kd} (h:KO c K H sa a k) (more:List Addr):KO c K H (sa++more) a k:=by
 induction h with
 | num h=>exact .num h
 | nest e h=>exact .nest (get_app e) h
 | many h _ ih=>exact .many h ih
 | pick h t l e=>exact .pick h t l fun j i s h1 h2=>get_app (e j i s h1 h2)
theorem KO.ahead {c:Cl5} {K:Frag} {H:Hp} {sa:List Addr} {a:Addr} {k:Kd} (h:KO c K H sa a k):k.Below sa.length:=by
 induction h with
 | num h=>exact True.intro
 | nest e h=>exact (List.getElem?_eq_some_iff.mp e).1
 | many h _ ih=>exact ih
 | @pick a dx t is ss h t' l e =>
  intro i hi
  obtain⟨j,hj⟩:=List.mem_iff_getElem?.mp hi
  have hj1:j < is.length:=(List.getElem?_eq_some_iff.mp hj).1
  exact (List.getElem?_eq_some_iff.mp (e j i _ hj (List.getElem?_eq_getElem (by omega)))).1
inductive FO (c:Cl5) (K:Frag) (H:Hp) (sa:List Addr):List Addr->List (Str × Kd)->Prop
 | nil:FO c K H sa [] []
 | cons {p k:Addr} {ps:List Addr} {nm:Str} {kd:Kd} {fs:List (Str × Kd)} : SqT K H p [.str nm,.ref k]->KO c K H sa k kd->FO c K H sa ps fs->FO c K H sa (p::ps) ((nm,kd)::fs)
theorem FO.same {c:Cl5} {K:Frag} {H H':Hp} {sa ps:List Addr} {fs:List (Str × Kd)} (h:FO c K H sa ps fs) (g:Same H H'):FO c K H' sa ps fs:=by
 induction h with
 | nil=>exact .nil
 | cons t k _ ih=>exact .cons (g.tp t) (k.same g) ih
theorem FO.len {c:Cl5} {K:Frag} {H:Hp} {sa ps:List Addr} {fs:List (Str × Kd)} (h:FO c K H sa ps fs):ps.length=fs.length:=by
 induction h with
 | nil=>rfl
 | cons _ _ _ ih=>rw [List.length_cons,List.length_cons,ih]
theorem FO.snoc {c:Cl5} {K:Frag} {H:Hp} {sa ps:List Addr} {fs:List (Str × Kd)} {p k:Addr} {nm:Str} {kd:Kd} (h:FO c K H sa ps fs) (t:SqT K H p [.str nm,.ref k]) (hk:KO c K H sa k kd):FO c K H sa (ps++[p]) (fs++[(nm,kd)]):=by
 induction h with
 | nil=>exact .cons t hk .nil
 | cons t' k' _ ih=>exact .cons t' k' ih
theorem FO.get {c:Cl5} {K:Frag} {H:Hp} {sa ps:List Addr} {fs:List (Str × Kd)} (h:FO c K H sa ps fs):∀ {i:Nat} {p:Addr},ps[i]?=some p->∃ nm kd k,fs[i]?=some (nm,kd)/\SqT K H p [.str nm,.ref k]/\KO c K H sa k kd:=by
 induction h with
 | nil=>intro i p e;simp at e
 | cons t k _ ih =>
  intro i p e
  cases i with
  | zero=>cases e;exact⟨_,_,_,rfl,t,k⟩
  | succ i=>exact ih e
def SO (c:Cl5) (K:Frag) (H:Hp) (sa:List Addr) (a:Addr) (s:Shp):Prop:=∃ dx t ps,H a=some (.ins c.shape dx [("name",.str s.1),("fields",.ref t)])/\SqT K H t (ps.map V.ref)/\FO c K H sa ps s.2
theorem SO.same {c:Cl5} {K:Frag} {H H':Hp} {sa:List Addr} {a:Addr} {s:Shp} (h:SO c K H sa a s) (g:Same H H'):SO c K H' sa a s:=by
 obtain⟨dx,t,ps,h1,h2,h3⟩:=h
 exact⟨dx,t,ps,g _ _ h1,g.tp h2,h3.same g⟩
def SW (c:Cl5) (K:Frag) (H:Hp) (sa:List Addr) (S:List Shp):Prop:=sa.length=S.length/\∀ (i:Nat) (a:Addr) (s:Shp),sa[i]?=some a->S[i]?=some s->SO c K H (sa.take i) a s
theorem SW.same {c:Cl5} {K:Frag} {H H':Hp} {sa:List Addr} {S:List Shp} (h:SW c K H sa S) (g:Same H H'):SW c K H' sa S:=⟨h.1,fun i a s h1 h2=>(h.2 i a s h1 h2).same g⟩
theorem SW.nil {c:Cl5} {K:Frag} {H:Hp} : SW c K H [] []:=⟨rfl,fun i a s h _=>by simp at h⟩
theorem SW.snoc {c:Cl5} {K:Frag} {H:Hp} {sa:List Addr} {S:List Shp} {a:Addr} {s:Shp} (h:SW c K H sa S) (x:SO c K H sa a s):SW c K H (sa++[a]) (S++[s]):=by
 have hl:sa.length=S.length:=h.1
 refine⟨by rw [List.length_append,List.length_append,h.1];rfl,fun i b u h1 h2=>?_⟩
 by_cases hi:i < sa.length
 ·rw [List.getElem?_append_left hi] at h1
  rw [List.getElem?_append_left (by rw [← h.1];exact hi)] at h2
  rw [List.take_append_of_le_length (by omega)]
  exact h.2 i b u h1 h2
 ·have hi2:i < (sa++[a]).length:=(List.getElem?_eq_some_iff.mp h1).1
  have e:i=sa.length:=by rw [List.length_append,List.length_singleton] at hi2;omega
  subst e
  rw [List.getElem?_append_right (Nat.le_refl _),Nat.sub_self] at h1
  rw [List.getElem?_append_right (by omega),show sa.length - S.length=0 by omega] at h2
  cases h1
  cases h2
  rw [List.take_left' rfl]
  exact x
abbrev spS:Str:=⟨#[32]⟩
abbrev nlS:Str:=⟨#[10]⟩
def Kd.words (nm:Nat->Str):Kd->List Str
 | .num w=>[Str.ofString "num",Str.ofString (toString (w:Int))]
 | .nest i=>[nm i]
 | .many n k=>Str.ofString "row" :: Str.ofString (toString (n:Int))::k.words nm
 | .pick is=>Str.ofString "pick" :: is.map nm
theorem Kd.words_ne (nm:Nat->Str):∀ k:Kd,k.words nm ≠ []
 | .num _=>by simp [Kd.words]
 | .nest _=>by simp [Kd.words]
 | .many _ _=>by simp [Kd.words]
 | .pick _=>by simp [Kd.words]
def nmOf (S:List Shp) (i:Nat):Str:=(S.getD i (Str.empty,[])).1
def shLines (nm:Nat->Str) (s:Shp):List (List Str):=[Str.ofString "shape",s.1]::s.2.map fun f=>f.1::f.2.words nm
def txLines (S:List Shp):List (List Str):=S.flatMap (shLines (nmOf S))
def Pln (w:Str):Prop:=32 ∉ w.cps.toList/\10 ∉ w.cps.toList
theorem jn_free {c d:Nat} (ne:d ≠ c):∀ {ps:List (List Nat)},(∀ p ∈ ps,d ∉ p)->d ∉ jn c ps
 | [],_=>by simp [jn]
 | [p],h=>h p (List.mem_singleton.mpr rfl)
 | p::q::r,h=>by
  have ih:=jn_free ne (ps:=q::r) fun x hx=>h x (List.mem_cons_of_mem _ hx)
  have hp:=h p (List.mem_cons_self ..)
  show d ∉ p++c::jn c (q::r)
  simp only [List.mem_append,List.mem_cons,not_or]
  exact⟨hp,ne,ih⟩
theorem split_line {ws:List Str} (hne:ws ≠ []) (h:∀ w ∈ ws,Pln w):Txt.split (Str.join spS ws) spS=ws:=split_join hne fun w hw=>(h w hw).1
theorem split_lines {ls:List (List Str)} (hne:ls ≠ []) (h:∀ l ∈ ls,∀ w ∈ l,Pln w):Txt.split (Str.join nlS (ls.map (Str.join spS))) nlS=ls.map (Str.join spS):=by
 refine split_join (by simpa using hne) fun y hy=>?_
 obtain⟨l,hl,rfl⟩:=List.mem_map.mp hy
 rw [join_jn]
 refine jn_free (by decide) fun p hp=>?_
 obtain⟨w,hw,rfl⟩:=List.mem_map.mp hp
 exact (h l hl w hw).2
theorem pln_num {n:Nat} (h:n<=9):Pln (Str.ofString (toString (n:Int))):=by
 have:∀ m:Fin 10,Pln (Str.ofString (toString ((m.val:Nat):Int))):=by
  intro m
  unfold Pln
  revert m
  decide +kernel
 exact this ⟨n,by omega⟩
def Kd.Fit (n:Nat):Kd->Prop
 | .num w=>1<=w/\w<=4
 | .nest i=>i < n
 | .many m k=>1<=m/\m<=6/\((∃ w,k=.num w/\1<=w/\w<=4)\/∃ i,k=.nest i/\i < n)
 | .pick is=>2<=is.length/\is.length<=4/\is.Nodup/\∀ i ∈ is,i < n
theorem Kd.Fit.below {n:Nat} : ∀ {k:Kd},k.Fit n->k.Below n
 | .num _,_=>True.intro
 | .nest _,h=>h
 | .many _ k,h=>by
  rcases h.2.2 with⟨w,rfl,_⟩|⟨i,rfl,hi⟩
  ·exact True.intro
  ·exact hi
 | .pick _,h=>h.2.2.2
theorem Kd.Fit.plain {n:Nat} {nm:Nat->Str} (hnm:∀ i,i < n->Pln (nm i)):∀ {k:Kd},k.Fit n->∀ w ∈ k.words nm,Pln w:=by
 have hnum:∀ w:Nat,1<=w/\w<=4->∀ x ∈ (Kd.num w).words nm,Pln x:=fun w hw x hx=>by
  simp only [Kd.words,List.mem_cons,List.not_mem_nil,or_false] at hx
  rcases hx with rfl|rfl
  ·unfold Pln;decide +kernel
  ·exact pln_num (by omega)
 intro k h
 cases k with
 | num w=>exact hnum w h
 | nest i =>
  intro x hx
  rw [List.mem_singleton.mp (show x ∈ [nm i] from hx)]
  exact hnm i h
 | many m k =>
  intro x hx
  simp only [Kd.words,List.mem_cons] at hx
  rcases hx with rfl|rfl|hx
  ·unfold Pln;decide +kernel
  ·exact pln_num (by have:=h.2.1;omega)
  ·rcases h.2.2 with⟨w,rfl,hw⟩|⟨i,rfl,hi⟩
   ·exact hnum w hw x hx
   ·rw [List.mem_singleton.mp (show x ∈ [nm i] from hx)]
    exact hnm i hi
 | pick is =>
  intro x hx
  simp only [Kd.words,List.mem_cons,List.mem_map] at hx
  rcases hx with rfl|⟨i,hi,rfl⟩
  ·unfold Pln;decide +kernel
  ·exact hnm i (h.2.2.2 i hi)
def Kd.Rk (r:Nat):Kd->Prop
 | .num _=>True
 | .nest i=>2 * i + 2<=r
 | .many _ k=>(∃ w,k=.num w/\1<=r)\/∃ i,k=.nest i/\2 * i + 3<=r
 | .pick is=>∀ i ∈ is,2 * i + 3<=r
theorem Kd.Fit.rk {n:Nat} : ∀ {k:Kd},k.Fit n->k.Rk (2 * n + 1)
 | .num _,_=>True.intro
 | .nest i,h=>by have:i < n:=h;show 2 * i + 2<=2 * n + 1;omega
 | .many m k,h=>by
  rcases h.2.2 with⟨w,e,_⟩|⟨i,e,hi⟩
  ·exact .inl ⟨w,e,by omega⟩
  ·exact .inr ⟨i,e,by omega⟩
 | .pick is,h=>fun i hi=>by have:=h.2.2.2 i hi;omega
theorem Kd.Rk.mono {r q:Nat} (h:r<=q):∀ {k:Kd},k.Rk r->k.Rk q
 | .num _,_=>True.intro
 | .nest i,g=>Nat.le_trans (show 2 * i + 2<=r from g) h
 | .many m k,g=>by
  rcases g with⟨w,e,hw⟩|⟨i,e,hi⟩
  ·exact .inl ⟨w,e,by omega⟩
  ·exact .inr ⟨i,e,by omega⟩
 | .pick is,g=>fun i hi=>Nat.le_trans (g i hi) h
theorem Kd.Fit.mono {n m:Nat} (h:n<=m):∀ {k:Kd},k.Fit n->k.Fit m
 | .num _,g=>g
 | .nest i,g=>Nat.lt_of_lt_of_le (show i < n from g) h
 | .many _ k,g=>⟨g.1,g.2.1,by
  rcases g.2.2 with g|⟨i,e,hi⟩
  ·exact .inl g
  ·exact .inr ⟨i,e,by omega⟩⟩
 | .pick is,g=>⟨g.1,g.2.1,g.2.2.1,fun i hi=>Nat.lt_of_lt_of_le (g.2.2.2 i hi) h⟩
structure Good (S:List Shp):Prop where
 ne:∀ (i:Nat) (s:Shp),S[i]?=some s->s.2 ≠ []
 few:∀ (i:Nat) (s:Shp),S[i]?=some s->s.2.length<=6
 fit:∀ (i:Nat) (s:Shp),S[i]?=some s->∀ f ∈ s.2,f.2.Fit i/\1<=f.1.length/\f.1.length<=6
 sz:∀ i:Nat,(tabs S).sz.getD i 0<=1000
theorem split_at {α : Type} {S:List α} {i:Nat} {s : α} (h:S[i]?=some s):S=S.take i++s::S.drop (i + 1)/\(S.take i).length=i:=by
 obtain⟨hi,e⟩:=List.getElem?_eq_some_iff.mp h
 refine⟨?_,by rw [List.length_take];omega⟩
 conv=>lhs;rw [← List.take_append_drop i S]
 rw [List.drop_eq_getElem_cons hi,e]
theorem getD_mid {α : Type} {xs zs:List α} {y d : α} : (xs++y::zs).getD xs.length d=y:=by
 rw [List.getD_eq_getElem?_getD,List.getElem?_append_right (Nat.le_refl _),Nat.sub_self];rfl
theorem tabs_lo {S R:List Shp} {i:Nat} (h:i < S.length):(tabs (S++R)).sz.getD i 0=(tabs S).sz.getD i 0/\(tabs (S++R)).dp.getD i 0=(tabs S).dp.getD i 0/\((tabs (S++R)).ut.getD i fun _=>[])=(tabs S).ut.getD i fun _=>[]:=by
 obtain⟨a,b,c,e1,e2,e3⟩:=tabs_app S R
 obtain⟨l1,l2,l3⟩:=tabs_len S
 rw [e1,e2,e3]
 exact⟨getD_app (by omega),getD_app (by omega),getD_app (by omega)⟩
theorem tabs_at (S:List Shp) (s:Shp) (R:List Shp):(tabs (S++s::R)).sz.getD S.length 0=(s.2.map fun f=>f.2.size (tabs S).sz).sum/\(tabs (S++s::R)).dp.getD S.length 0=1 + maxL (s.2.map fun f=>f.2.depth (tabs S).dp)/\∀ p,((tabs (S++s::R)).ut.getD S.length fun _=>[]) p=s.2.flatMap fun f=>f.2.units (tabs S).sz (tabs S).ut (pj p f.1):=by
 have e:S++s::R=(S++[s])++R:=by rw [List.append_assoc];rfl
 obtain⟨h1,h2,h3⟩:=tabs_lo (S:=S++[s]) (R:=R) (i:=S.length) (by rw [List.length_append];exact Nat.lt_succ_self _)
 obtain⟨l1,l2,l3⟩:=tabs_len S
 rw [e,h1,h2,h3,tabs_snoc]
 refine⟨?_,?_,fun p=>?_⟩
 ·show ((tabs S).sz++[_]).getD _ _=_
  rw [← l1,getD_mid]
 ·show ((tabs S).dp++[_]).getD _ _=_
  rw [← l2,getD_mid]
 ·show ((tabs S).ut++[_]).getD _ _ p=_
  rw [← l3,getD_mid]
theorem Kd.tab_lo {S R:List Shp} {k:Kd} (h:k.Below S.length):k.size (tabs (S++R)).sz=k.size (tabs S).sz/\k.depth (tabs (S++R)).dp=k.depth (tabs S).dp/\∀ p,k.units (tabs (S++R)).sz (tabs (S++R)).ut p=k.units (tabs S).sz (tabs S).ut p:=by
 obtain⟨a,b,c,e1,e2,e3⟩:=tabs_app S R
 obtain⟨l1,l2,l3⟩:=tabs_len S
 rw [e1,e2,e3]
 exact⟨Kd.size_app (by rw [l1];exact h),Kd.depth_app (by rw [l2];exact h),fun p=>Kd.units_app (by omega) (by rw [l1];exact h) p⟩
theorem fm_congr {α β : Type} {f g : α->List β} : ∀ {xs:List α},(∀ x ∈ xs,f x=g x)->xs.flatMap f=xs.flatMap g
 | [],_=>rfl
 | x::xs,h=>by rw [List.flatMap_cons,List.flatMap_cons,h x (List.mem_cons_self ..),fm_congr fun y hy=>h y (List.mem_cons_of_mem _ hy)]
theorem tab_at {S:List Shp} {i:Nat} {s:Shp} (h:S[i]?=some s) (hF:∀ f ∈ s.2,f.2.Below i):(tabs S).sz.getD i 0=(s.2.map fun f=>f.2.size (tabs S).sz).sum/\(tabs S).dp.getD i 0=1 + maxL (s.2.map fun f=>f.2.depth (tabs S).dp)/\∀ p,((tabs S).ut.getD i fun _=>[]) p=s.2.flatMap fun f=>f.2.units (tabs S).sz (tabs S).ut (pj p f.1):=by
 obtain⟨e,hl⟩:=split_at h
 generalize S.take i=A at e hl
 generalize S.drop (i + 1)=B at e
 subst e
 subst hl
 obtain⟨h1,h2,h3⟩:=tabs_at A s B
 have q:=fun f hf=>Kd.tab_lo (R:=s::B) (hF f hf)
 refine⟨?_,?_,fun p=>?_⟩
 ·rw [h1,List.map_congr_left fun f hf=>(q f hf).1]
 ·rw [h2,List.map_congr_left fun f hf=>(q f hf).2.1]
 ·rw [h3 p,fm_congr fun f hf=>(q f hf).2.2 _]
theorem Kd.units_len {sz:List Nat} {ut:List (Str->List Un3)} {n:Nat} (h:∀ i,i < n->1<=sz.getD i 0/\∀ p,((ut.getD i fun _=>[]) p).length<=sz.getD i 0):∀ {k:Kd},k.Fit n->1<=k.size sz/\∀ p,(k.units sz ut p).length<=k.size sz:=by
 have hn:∀ w,1<=w->1<=(Kd.num w).size sz/\∀ p,((Kd.num w).units sz ut p).length<=(Kd.num w).size sz:=fun w hw=>⟨hw,fun p=>hw⟩
 intro k hk
 cases k with
 | num w=>exact hn w hk.1
 | nest i=>exact h i hk
 | many m k =>
  have hs : 1<=k.size sz/\∀ p,(k.units sz ut p).length<=k.size sz:=by
   rcases hk.2.2 with⟨w,rfl,hw,_⟩|⟨i,rfl,hi⟩
   ·exact hn w hw
   ·exact h i hi
  refine⟨Nat.mul_pos hk.1 hs.1,fun p=>?_⟩
  show ((List.range m).flatMap _).length<=m * _
  have:∀ m,((List.range m).flatMap fun j=>k.units sz ut (pj p (Str.ofString (toString j)))).length<=m * k.size sz:=by
   intro m
   induction m with
   | zero=>exact Nat.zero_le _
   | succ m ih =>
    rw [List.range_succ,List.flatMap_append,List.length_append,List.flatMap_singleton,Nat.succ_mul]
    exact Nat.add_le_add ih (hs.2 _)
  exact this m
 | pick is =>
  refine⟨by show 1<=1 + _;omega,fun p=>?_⟩
  show 2<=1 + maxL _
  cases is with
  | nil=>exact absurd hk.1 (by decide)
  | cons i r =>
   have:=(h i (hk.2.2.2 i (List.mem_cons_self ..))).1
   have g:=maxL_le (n:=sz.getD i 0) (xs:=(i::r).map fun i=>sz.getD i 0) (List.mem_cons_self ..)
   omega
theorem fields_len {sz:List Nat} {ut:List (Str->List Un3)} (p:Str):∀ {fs:List (Str × Kd)},(∀ f ∈ fs,1<=f.2.size sz/\∀ p,(f.2.units sz ut p).length<=f.2.size sz)->(fs.flatMap fun f=>f.2.units sz ut (pj p f.1)).length<=(fs.map fun f=>f.2.size sz).sum/\fs.length<=(fs.map fun f=>f.2.size sz).sum
 | [],_=>⟨Nat.le_refl _,Nat.le_refl _⟩
 | f::fs,h=>by
  have ih:=fields_len p (fs:=fs) fun g hg=>h g (List.mem_cons_of_mem _ hg)
  have h0:=h f (List.mem_cons_self ..)
  rw [List.flatMap_cons,List.length_append,List.map_cons,List.sum_cons,List.length_cons]
  exact⟨Nat.add_le_add (h0.2 _) ih.1,by omega⟩
theorem Good.len {S:List Shp} (h:Good S):∀ n i,i < n->i < S.length->1<=(tabs S).sz.getD i 0/\∀ p,(((tabs S).ut.getD i fun _=>[]) p).length<=(tabs S).sz.getD i 0
 | 0,i,hi,_=>absurd hi (Nat.not_lt_zero _)
 | n + 1,i,hi,hl=>by
  have hs:S[i]?=some S[i]:=List.getElem?_eq_getElem hl
  have hF:=h.fit i _ hs
  obtain⟨e1,e2,e3⟩:=tab_at hs fun f hf=>(hF f hf).1.below
  have q:∀ f ∈ S[i].2,1<=f.2.size (tabs S).sz/\∀ p,(f.2.units (tabs S).sz (tabs S).ut p).length<=f.2.size (tabs S).sz:=fun f hf =>
   Kd.units_len (fun j hj=>Good.len h n j (by omega) (by omega)) (hF f hf).1
  have hne:=h.ne i _ hs
  have : 1<=S[i].2.length:=by
   cases e:S[i].2 with
   | nil=>exact absurd e hne
   | cons _ _=>exact Nat.succ_le_succ (Nat.zero_le _)
  refine⟨?_,fun p=>?_⟩
  ·rw [e1];exact Nat.le_trans this (fields_len Str.empty q).2
  ·rw [e1,e3 p];exact (fields_len p q).1
theorem Good.kd {S:List Shp} (h:Good S) {k:Kd} (hk:k.Fit S.length) : 1<=k.size (tabs S).sz/\∀ p,(k.units (tabs S).sz (tabs S).ut p).length<=k.size (tabs S).sz:=Kd.units_len (fun j hj=>h.len S.length j hj hj) hk
theorem maxL_bd {m:Nat} : ∀ {xs:List Nat},(∀ x ∈ xs,x<=m)->maxL xs<=m
 | [],_=>Nat.zero_le _
 | x::xs,h=>Nat.max_le.mpr ⟨h x (List.mem_cons_self ..),maxL_bd fun y hy=>h y (List.mem_cons_of_mem _ hy)⟩
theorem Kd.size_bd {sz:List Nat} {m n:Nat} (h:∀ i,sz.getD i 0<=m) (hm : 4<=m):∀ {k:Kd},k.Fit n->k.size sz<=6 * m
 | .num w,hk=>by have:=hk.2;show w<=_;omega
 | .nest i,_=>by have:=h i;show sz.getD i 0<=_;omega
 | .many c k,hk=>by
  have:k.size sz<=m:=by
   rcases hk.2.2 with⟨w,rfl,_,hw⟩|⟨i,rfl,hi⟩
   ·show w<=m;omega
   ·exact h i
  exact Nat.mul_le_mul hk.2.1 this
 | .pick is,_=>by
  have:maxL (is.map fun i=>sz.getD i 0)<=m:=maxL_bd fun x hx=>by obtain⟨i,_,rfl⟩:=List.mem_map.mp hx;exact h i
  show 1 + _<=_
  omega
def Kd.parts (S:List Shp):Kd->List (Str × Kd)
 | .nest i=>(S.getD i (Str.empty,[])).2
 | .many n k=>(List.range n).map fun j=>(Str.ofString (toString j),k)
 | _=>[]
theorem Kd.parts_units {S:List Shp} (h:Good S) {k:Kd} (hk:k.Fit S.length) (hs:(∃ i,k=.nest i)\/∃ n q,k=.many n q) (p:Str):k.units (tabs S).sz (tabs S).ut p=(k.parts S).flatMap fun f=>f.2.units (tabs S).sz (tabs S).ut (pj p f.1):=by
 rcases hs with⟨i,rfl⟩|⟨n,q,rfl⟩
 ·have hi:i < S.length:=hk
  have hs:S[i]?=some S[i]:=List.getElem?_eq_getElem hi
  have e:(Kd.nest i).parts S=S[i].2:=by show (S.getD i _).2=_;rw [List.getD_eq_getElem?_getD,hs];rfl
  rw [e]
  exact (tab_at hs fun f hf=>((h.fit i _ hs) f hf).1.below).2.2 p
 ·show (List.range n).flatMap _=((List.range n).map _).flatMap _
  rw [List.flatMap_map]
def Kd.isNum:Kd->Bool
 | .num _=>true
 | _=>false
def Kd.isNest:Kd->Bool
 | .nest _=>true
 | _=>false
def Kd.isMany:Kd->Bool
 | .many _ _=>true
 | _=>false
def Kd.isPick:Kd->Bool
 | .pick _=>true
 | _=>false
def Nolk (m:Str):Prop:=∀ v w:V,[(("width" : Str),v)].lookup m=none/\[(("shape" : Str),v)].lookup m=none/\[(("count" : Str),v),(("kind" : Str),w)].lookup m=none/\[(("shapes" : Str),v)].lookup m=none
def spV (c:Cl5) (K:Frag) (r:Nat) (F:Kd->Bool) (val:Kd->Tab->Nat):Sp:=fun vs H Q _=>∃ (a:Addr) (kd:Kd) (sa:List Addr) (S:List Shp),vs=[.ref a]/\F kd=true/\kd.Rk r/\kd.Fit S.length/\KO c K H sa a kd/\SW c K H sa S/\Good S/\∀ H',Same H H'->Q (.int (val kd (tabs S))) H'
def TV (c:Cl5) (K:Frag) (r:Nat) (val:Kd->Tab->Nat):Addr->Sp->Prop:=fun C sp=>(C=c.num/\sp=spV c K r Kd.isNum val)\/(C=c.nest/\sp=spV c K r Kd.isNest val)\/(C=c.many/\sp=spV c K r Kd.isMany val)\/(C=c.pick/\sp=spV c K r Kd.isPick val)
theorem callV {c:Cl5} {K:Frag} {r:Nat} {val:Kd->Tab->Nat} {H:Hp} {a:Addr} {kd:Kd} {sa:List Addr} {S:List Shp} {Q:VK} {E:XK} {m:Str} (hm:Nolk m) (hr:kd.Rk r) (hf:kd.Fit S.length) (ho:KO c K H sa a kd) (hw:SW c K H sa S) (hg:Good S)
  (q:∀ H',Same H H'->Q (.int (val kd (tabs S))) H'):∃ a' C dx fs sp,V.ref a=.ref a'/\H a'=some (.ins C dx fs)/\fs.lookup m=none/\TV c K r val C sp/\sp [.ref a] H Q E:=by
 cases id ho with
 | num h=>exact⟨_,_,_,_,_,rfl,h,(hm _ .non).1,.inl ⟨rfl,rfl⟩,a,_,sa,S,rfl,rfl,hr,hf,ho,hw,hg,q⟩
 | nest e h=>exact⟨_,_,_,_,_,rfl,h,(hm _ .non).2.1,.inr (.inl ⟨rfl,rfl⟩),a,_,sa,S,rfl,rfl,hr,hf,ho,hw,hg,q⟩
 | many h _=>exact⟨_,_,_,_,_,rfl,h,(hm _ _).2.2.1,.inr (.inr (.inl ⟨rfl,rfl⟩)),a,_,sa,S,rfl,rfl,hr,hf,ho,hw,hg,q⟩
 | pick h _ _ _=>exact⟨_,_,_,_,_,rfl,h,(hm _ .non).2.2.2,.inr (.inr (.inr ⟨rfl,rfl⟩)),a,_,sa,S,rfl,rfl,hr,hf,ho,hw,hg,q⟩
def spShV (c:Cl5) (K:Frag) (r:Nat) (val:Nat->Tab->Nat):Sp:=fun vs H Q _=>∃ (a:Addr) (i:Nat) (sa:List Addr) (S:List Shp),vs=[.ref a]/\sa[i]?=some a/\2 * i + 1<=r/\SW c K H sa S/\Good S/\∀ H',Same H H'->Q (.int (val i (tabs S))) H'
inductive UR (K:Frag) (H:Hp):List Addr->List Un3->Prop
 | nil:UR K H [] []
 | cons {t:Addr} {ts:List Addr} {u:Un3} {us:List Un3} : SqT K H t [.str u.1,.int u.2.1,.str u.2.2]->UR K H ts us->UR K H (t::ts) (u::us)
theorem UR.same {K:Frag} {H H':Hp} {ts:List Addr} {us:List Un3} (h:UR K H ts us) (g:Same H H'):UR K H' ts us:=by
 induction h with
 | nil=>exact .nil
 | cons t _ ih=>exact .cons (g.tp t) ih
theorem UR.len {K:Frag} {H:Hp} {ts:List Addr} {us:List Un3} (h:UR K H ts us):ts.length=us.length:=by
 induction h with
 | nil=>rfl
 | cons _ _ ih=>rw [List.length_cons,List.length_cons,ih]
theorem UR.app {K:Frag} {H:Hp} {ts ts':List Addr} {us us':List Un3} (h:UR K H ts us) (h':UR K H ts' us'):UR K H (ts++ts') (us++us'):=by
 induction h with
 | nil=>exact h'
 | cons t _ ih=>exact .cons t ih
theorem UR.get {K:Frag} {H:Hp} {ts:List Addr} {us:List Un3} (h:UR K H ts us):∀ {i:Nat} {t:Addr},ts[i]?=some t->∃ u,us[i]?=some u/\SqT K H t [.str u.1,.int u.2.1,.str u.2.2]:=by
 induction h with
 | nil=>intro i t e;simp at e
 | cons t _ ih =>
  intro i a e
  cases i with
  | zero=>cases e;exact⟨_,rfl,t⟩
  | succ i=>exact ih e
theorem UR.but {K:Frag} {H H':Hp} {l:Addr} {zs:List V} {ts:List Addr} {us:List Un3} (h:UR K H ts us) (g:But l H H') (hl:H l=some (.lst zs)):UR K H' ts us:=by
 induction h with
 | nil=>exact .nil
 | cons t _ ih=>exact .cons (g.tup hl t) ih
def UL (K:Frag) (H:Hp) (l:Addr) (us:List Un3):Prop:=∃ ts:List Addr,H l=some (.lst (ts.map V.ref))/\UR K H ts us
abbrev un (kd:Kd) (S:List Shp) (p:Str):List Un3:=kd.units (tabs S).sz (tabs S).ut p
theorem Kd.parts_un {S:List Shp} (h:Good S) {k:Kd} (hk:k.Fit S.length) (hs:(∃ i,k=.nest i)\/∃ n q,k=.many n q) {p:Str} : un k S p=(k.parts S).flatMap fun f=>un f.2 S (pj p f.1):=Kd.parts_units h hk hs p
def spU (c:Cl5) (K:Frag) (r:Nat) (F:Kd->Bool):Sp:=fun vs H Q _=>∃ (a:Addr) (p:Str) (kd:Kd) (sa:List Addr) (S:List Shp),vs=[.ref a,.str p]/\p.length + 8 * r<=200/\F kd=true/\kd.Rk r/\kd.Fit S.length/\KO c K H sa a kd/\SW c K H sa S/\Good S ∧
 ∀ l H',Same H H'->H l=none->UL K H' l (un kd S p)->Q (.ref l) H'
def TU (c:Cl5) (K:Frag) (r:Nat):Addr->Sp->Prop:=fun C sp=>(C=c.num/\sp=spU c K r Kd.isNum)\/(C=c.nest/\sp=spU c K r Kd.isNest)\/(C=c.many/\sp=spU c K r Kd.isMany)\/(C=c.pick/\sp=spU c K r Kd.isPick)
theorem kdU {c:Cl5} {K:Frag} {r:Nat} {H:Hp} {a:Addr} {kd:Kd} {sa:List Addr} {S:List Shp} {m:Str} (hm:Nolk m) (hr:kd.Rk r) (hf:kd.Fit S.length) (ho:KO c K H sa a kd) (hw:SW c K H sa S) (hg:Good S) :
  ∃ C dx fs sp,H a=some (.ins C dx fs)/\fs.lookup m=none/\TU c K r C sp/\∀ (p:Str) (Q:VK) (E:XK),p.length + 8 * r<=200->(∀ l H',Same H H'->H l=none->UL K H' l (un kd S p)->Q (.ref l) H')->sp [.ref a,.str p] H Q E:=by
 cases id ho with
 | num h=>exact⟨_,_,_,_,h,(hm _ .non).1,.inl ⟨rfl,rfl⟩,fun p Q E hp q=>⟨a,p,_,sa,S,rfl,hp,rfl,hr,hf,ho,hw,hg,q⟩⟩
 | nest e h=>exact⟨_,_,_,_,h,(hm _ .non).2.1,.inr (.inl ⟨rfl,rfl⟩),fun p Q E hp q=>⟨a,p,_,sa,S,rfl,hp,rfl,hr,hf,ho,hw,hg,q⟩⟩
 | many h _=>exact⟨_,_,_,_,h,(hm _ _).2.2.1,.inr (.inr (.inl ⟨rfl,rfl⟩)),fun p Q E hp q=>⟨a,p,_,sa,S,rfl,hp,rfl,hr,hf,ho,hw,hg,q⟩⟩
 | pick h _ _ _=>exact⟨_,_,_,_,h,(hm _ .non).2.2.2,.inr (.inr (.inr ⟨rfl,rfl⟩)),fun p Q E hp q=>⟨a,p,_,sa,S,rfl,hp,rfl,hr,hf,ho,hw,hg,q⟩⟩
inductive PR (c:Cl5) (K:Frag) (H:Hp) (sa:List Addr):List Addr->List (Str × Kd)->Prop
 | nil:PR c K H sa [] []
 | cons {t k:Addr} {x:V} {y:Str} {kd:Kd} {ts:List Addr} {ps:List (Str × Kd)} : SqT K H t [x,.ref k]->txtV x=some y->KO c K H sa k kd->PR c K H sa ts ps->PR c K H sa (t::ts) ((y,kd)::ps)
theorem PR.same {c:Cl5} {K:Frag} {H H':Hp} {sa ts:List Addr} {ps:List (Str × Kd)} (h:PR c K H sa ts ps) (g:Same H H'):PR c K H' sa ts ps:=by
 induction h with
 | nil=>exact .nil
 | cons t x k _ ih=>exact .cons (g.tp t) x (k.same g) ih
theorem PR.len {c:Cl5} {K:Frag} {H:Hp} {sa ts:List Addr} {ps:List (Str × Kd)} (h:PR c K H sa ts ps):ts.length=ps.length:=by
 induction h with
 | nil=>rfl
 | cons _ _ _ _ ih=>rw [List.length_cons,List.length_cons,ih]
theorem PR.snoc {c:Cl5} {K:Frag} {H:Hp} {sa ts:List Addr} {ps:List (Str × Kd)} {t k:Addr} {x:V} {y:Str} {kd:Kd} (h:PR c K H sa ts ps) (t1:SqT K H t [x,.ref k]) (h2:txtV x=some y) (h3:KO c K H sa k kd):PR c K H sa (ts++[t]) (ps++[(y,kd)]):=by
 induction h with
 | nil=>exact .cons t1 h2 h3 .nil
 | cons t x k _ ih=>exact .cons t x k ih
theorem PR.get {c:Cl5} {K:Frag} {H:Hp} {sa ts:List Addr} {ps:List (Str × Kd)} (h:PR c K H sa ts ps):∀ {i:Nat} {t:Addr},ts[i]?=some t->∃ x y kd k,ps[i]?=some (y,kd)/\SqT K H t [x,.ref k]/\txtV x=some y/\KO c K H sa k kd:=by
 induction h with
 | nil=>intro i t e;simp at e
 | cons t x k _ ih =>
  intro i a e
  cases i with
  | zero=>cases e;exact⟨_,_,_,_,rfl,t,x,k⟩
  | succ i=>exact ih e
theorem FO.parts {c:Cl5} {K:Frag} {H:Hp} {sa ps:List Addr} {fs:List (Str × Kd)} (h:FO c K H sa ps fs) (more:List Addr):PR c K H (sa++more) ps fs:=by
 induction h with
 | nil=>exact .nil
 | cons t k _ ih=>exact .cons t rfl (k.more more) ih
def PL (c:Cl5) (K:Frag) (H:Hp) (sa:List Addr) (l:Addr) (ps:List (Str × Kd)):Prop:=∃ ts:List Addr,H l=some (.lst (ts.map V.ref))/\PR c K H sa ts ps
def spP (c:Cl5) (K:Frag) (F:Kd->Bool):Sp:=fun vs H Q _=>∃ (a:Addr) (kd:Kd) (sa:List Addr) (S:List Shp),vs=[.ref a]/\F kd=true/\kd.Fit S.length/\KO c K H sa a kd/\SW c K H sa S/\Good S/\∀ l H',Same H H'->H l=none->PL c K H' sa l (kd.parts S)->Q (.ref l) H'
def TPt (c:Cl5) (K:Frag):Addr->Sp->Prop:=fun C sp=>(C=c.nest/\sp=spP c K Kd.isNest)\/(C=c.many/\sp=spP c K Kd.isMany)
theorem callP {c:Cl5} {K:Frag} {H:Hp} {a:Addr} {kd:Kd} {sa:List Addr} {S:List Shp} {Q:VK} {E:XK} {m:Str} (hm:Nolk m) (hs:(∃ i,kd=.nest i)\/∃ n q,kd=.many n q) (hf:kd.Fit S.length) (ho:KO c K H sa a kd) (hw:SW c K H sa S) (hg:Good S)
  (q:∀ l H',Same H H'->H l=none->PL c K H' sa l (kd.parts S)->Q (.ref l) H'):∃ a' C dx fs sp,V.ref a=.ref a'/\H a'=some (.ins C dx fs)/\fs.lookup m=none/\TPt c K C sp/\sp [.ref a] H Q E:=by
 cases id ho with
 | num h=>rcases hs with⟨_,z⟩|⟨_,_,z⟩ <;> cases z
 | nest e h=>exact⟨_,_,_,_,_,rfl,h,(hm _ .non).2.1,.inl ⟨rfl,rfl⟩,a,_,sa,S,rfl,rfl,hf,ho,hw,hg,q⟩
 | many h _=>exact⟨_,_,_,_,_,rfl,h,(hm _ _).2.2.1,.inr ⟨rfl,rfl⟩,a,_,sa,S,rfl,rfl,hf,ho,hw,hg,q⟩
 | pick h _ _ _=>rcases hs with⟨_,z⟩|⟨_,_,z⟩ <;> cases z
theorem SW.at {c:Cl5} {K:Frag} {H:Hp} {sa:List Addr} {S:List Shp} (h:SW c K H sa S) {i:Nat} {a:Addr} (e:sa[i]?=some a):∃ s,S[i]?=some s/\SO c K H (sa.take i) a s:=by
 have hi:i < S.length:=by rw [← h.1];exact (List.getElem?_eq_some_iff.mp e).1
 exact⟨S[i],List.getElem?_eq_getElem hi,h.2 i a _ e (List.getElem?_eq_getElem hi)⟩
theorem SO.fields {c:Cl5} {K:Frag} {H:Hp} {sa:List Addr} {i:Nat} {a:Addr} {s:Shp} (h:SO c K H (sa.take i) a s):∃ dx t ps,H a=some (.ins c.shape dx [("name",.str s.1),("fields",.ref t)])/\SqT K H t (ps.map V.ref)/\PR c K H sa ps s.2:=by
 obtain⟨dx,t,ps,h1,h2,h3⟩:=h
 refine⟨dx,t,ps,h1,h2,?_⟩
 have:=h3.parts (sa.drop i)
 rw [List.take_append_drop] at this
 exact this
theorem small_len:∀ j:Nat,j < 6->(Str.ofString (toString j)).length=1:=by decide +kernel
theorem Kd.parts_ok {S:List Shp} (h:Good S) {k:Kd} {r:Nat} (hk:k.Fit S.length) (hr:k.Rk (r + 1)) {f:Str × Kd} (hf:f ∈ k.parts S):f.2.Rk r/\f.2.Fit S.length/\1<=f.1.length/\f.1.length<=6:=by
 cases k with
 | num w=>cases hf
 | nest i =>
  have hi:i < S.length:=hk
  have hs:S[i]?=some S[i]:=List.getElem?_eq_getElem hi
  have e:(Kd.nest i).parts S=S[i].2:=by show (S.getD i _).2=_;rw [List.getD_eq_getElem?_getD,hs];rfl
  rw [e] at hf
  obtain⟨g1,g2,g3⟩:=h.fit i _ hs f hf
  exact⟨g1.rk.mono (by have : 2 * i + 2<=r + 1:=hr;omega),g1.mono (by omega),g2,g3⟩
 | many n q =>
  obtain⟨j,hj,rfl⟩:=List.mem_map.mp hf
  have hj':j < 6:=Nat.lt_of_lt_of_le (List.mem_range.mp hj) hk.2.1
  have:=small_len j hj'
  refine⟨?_,?_,by show 1<=(Str.ofString (toString j)).length;omega,by show (Str.ofString (toString j)).length<=6;omega⟩
  ·rcases hr with⟨w,rfl,_⟩|⟨i,rfl,hi⟩
   ·exact True.intro
   ·show 2 * i + 2<=r;omega
  ·rcases hk.2.2 with⟨w,rfl,hw⟩|⟨i,rfl,hi⟩
   ·exact hw
   ·exact hi
 | pick is=>cases hf
def Kd.lv:Kd->Nat
 | .many _ _=>1
 | _=>0
def vSz (kd:Kd) (t:Tab):Nat:=kd.size t.sz
def vDp (kd:Kd) (t:Tab):Nat:=kd.depth t.dp
def sSz (i:Nat) (t:Tab):Nat:=t.sz.getD i 0
def sDp (i:Nat) (t:Tab):Nat:=t.dp.getD i 0
theorem KO.but {c:Cl5} {K:Frag} {H H':Hp} {l:Addr} {zs:List V} (g:But l H H') (hl:H l=some (.lst zs)) {sa:List Addr} {a:Addr} {k:Kd} (h:KO c K H sa a k):KO c K H' sa a k:=by
 have n:∀ {a C dx fs},H a=some (.ins C dx fs)->H' a=some (.ins C dx fs):=fun h=>g _ _ (ne_of h hl (by intro z;cases z)) h
 induction h with
 | num h=>exact .num (n h)
 | nest e h=>exact .nest e (n h)
 | many h _ ih=>exact .many (n h) ih
 | pick h t l e=>exact .pick (n h) (g.tup hl t) l e
theorem FO.but {c:Cl5} {K:Frag} {H H':Hp} {l:Addr} {zs:List V} (g:But l H H') (hl:H l=some (.lst zs)) {sa ps:List Addr} {fs:List (Str × Kd)} (h:FO c K H sa ps fs):FO c K H' sa ps fs:=by
 induction h with
 | nil=>exact .nil
 | cons t k _ ih=>exact .cons (g.tup hl t) (k.but g hl) ih
theorem SO.but {c:Cl5} {K:Frag} {H H':Hp} {l:Addr} {zs:List V} (g:But l H H') (hl:H l=some (.lst zs)) {sa:List Addr} {a:Addr} {s:Shp} (h:SO c K H sa a s):SO c K H' sa a s:=by
 obtain⟨dx,t,ps,h1,h2,h3⟩:=h
 exact⟨dx,t,ps,g _ _ (ne_of h1 hl (by intro z;cases z)) h1,g.tup hl h2,h3.but g hl⟩
theorem SW.but {c:Cl5} {K:Frag} {H H':Hp} {l:Addr} {zs:List V} (g:But l H H') (hl:H l=some (.lst zs)) {sa:List Addr} {S:List Shp} (h:SW c K H sa S):SW c K H' sa S:=⟨h.1,fun i a s h1 h2=>(h.2 i a s h1 h2).but g hl⟩
theorem But.from {l:Addr} {H H1 H2:Hp} (g:Same H H1) (hl:H l=none) (b:But l H1 H2):Same H H2:=fun x o q=>b x o (ne_of_none q hl) (g x o q)
theorem madeS {H:Hp} {x dx:Addr} {o u:HO} (hx:H x=none) (hd:H dx=none):Same H (upd (upd H dx o) x u):=fun b v q=>by
 rw [upd_ne (ne_of_none q hx),upd_ne (ne_of_none q hd)];exact q
theorem Same.putn {H H1:Hp} {a:Addr} {o:HO} (g:Same H H1) (h:H a=none):Same H (upd H1 a o):=fun b v q=>by
 rw [upd_ne (ne_of_none q h)];exact g _ _ q
theorem get_refs {ss:List Addr} {i:Nat} {x:V} (h:(ss.map V.ref)[i]?=some x):∃ s,ss[i]?=some s/\x=.ref s:=by
 rw [List.getElem?_map] at h
 cases e:ss[i]? with
 | none=>rw [e] at h;cases h
 | some c=>rw [e] at h;cases h;exact⟨c,rfl,rfl⟩
theorem map_snoc {α β : Type} {f : α->β} {l:List α} {i:Nat} {a : α} (h:l[i]?=some a):(l.take (i + 1)).map f=(l.take i).map f++[f a]:=by
 rw [List.take_add_one,h,List.map_append];rfl
theorem fm_snoc {α β : Type} {f : α->List β} {l:List α} {i:Nat} {a : α} (h:l[i]?=some a):(l.take (i + 1)).flatMap f=(l.take i).flatMap f++f a:=by
 rw [List.take_add_one,h,List.flatMap_append]
 show _++[a].flatMap f=_
 rw [List.flatMap_singleton]
theorem take_len {α : Type} {l:List α} : l.take l.length=l:=List.take_length
theorem maxI {ns:List Nat} {m:Int} (h1:m ∈ ns.map fun n:Nat=>(n:Int)) (h2:∀ n ∈ ns.map fun n:Nat=>(n:Int),n<=m):m=((maxL ns:Nat):Int):=by
 obtain⟨n,hn,rfl⟩:=List.mem_map.mp h1
 rw [← maxL_eq hn fun k hk=>by have:=h2 (k:Int) (List.mem_map_of_mem hk);omega]
theorem sumI:∀ ns:List Nat,(ns.map fun n:Nat=>(n:Int)).sum=((ns.sum:Nat):Int)
 | []=>rfl
 | n::ns=>by rw [List.map_cons,List.sum_cons,List.sum_cons,sumI ns];omega
theorem Kd.Rk.zero {n:Nat} : ∀ {k:Kd},k.Rk 0->k.Fit n->k.isNum=true
 | .num _,_,_=>rfl
 | .nest i,h,_=>by have : 2 * i + 2<=0:=h;omega
 | .many _ _,h,_=>by
  rcases h with⟨_,_,h⟩|⟨i,_,h⟩ <;> omega
 | .pick is,h,q=>by
  cases is with
  | nil=>exact absurd q.1 (by decide)
  | cons i _=>have:=h i (List.mem_cons_self ..);omega
theorem Kd.Rk.sub {n r:Nat} {k:Kd} (h:(Kd.many n k).Rk (r + 1)):k.Rk r:=by
 rcases h with⟨w,rfl,_⟩|⟨i,rfl,hi⟩
 ·exact True.intro
 ·show 2 * i + 2<=r;omega
theorem Kd.Fit.sub {n m:Nat} {k:Kd} (h:(Kd.many n k).Fit m):k.Fit m:=by
 rcases h.2.2 with⟨w,rfl,hw⟩|⟨i,rfl,hi⟩
 ·exact hw
 ·exact hi
theorem len2 {os:St} (h:os.length=2):∃ a b,os=[a,b]:=by
 match os,h with
 | [a,b],_=>exact⟨a,b,rfl⟩
theorem nolk {m:Str} (h:m = "size" ∨ m = "depth" ∨ m = "units_at" ∨ m = "parted"):Nolk m:=by
 rcases h with rfl|rfl|rfl|rfl <;> exact fun _ _=>⟨rfl,rfl,rfl,rfl⟩
theorem VRow.mono {P:Program} {w:World} {K:Frag} {mg:Str->Option Value} {base:Heap} {CX:CXT} {j k:Nat} {m:Str} {C:Addr} {sp:Sp} (h:VRow P w K mg base CX j m C sp) (hk:j<=k):VRow P w K mg base CX k m C sp:=by
 obtain⟨c,f,fd,ps,h1,h2,h3⟩:=h
 exact⟨c,f,fd,ps,h1,h2.mono hk,h3⟩
theorem noFn {P:Program} {w:World} {K:Frag} {mg:Str->Option Value} {base:Heap} {CX:CXT} {k:Nat} {f:Addr} {fd:FuncData} {ps:List Str} {sp:Sp} (h:∀ vs H Q E,sp vs H Q E->False):FnOk P w K mg base CX k f fd ps sp:=⟨fun vs H Q E q=>(h vs H Q E q).elim,fun _ _ _ H _ _ vs Q E _ _ _ _ q=>(h vs H Q E q).elim⟩
theorem noV {c:Cl5} {K:Frag} {F:Kd->Bool} {val:Kd->Tab->Nat} (hF:∀ k,F k=true->k.isNum=true->False):∀ vs H Q E,spV c K 0 F val vs H Q E->False:=fun vs H Q E ⟨a,kd,sa,S,_,h1,h2,h3,_⟩=>hF kd h1 (h2.zero h3)
theorem noU {c:Cl5} {K:Frag} {F:Kd->Bool} (hF:∀ k,F k=true->k.isNum=true->False):∀ vs H Q E,spU c K 0 F vs H Q E->False:=fun vs H Q E ⟨a,p,kd,sa,S,_,_,h1,h2,h3,_⟩=>hF kd h1 (h2.zero h3)
theorem nn1:∀ k:Kd,k.isNest=true->k.isNum=true->False:=fun k h g=>by cases k <;> first|exact Bool.false_ne_true h|exact Bool.false_ne_true g
theorem nn2:∀ k:Kd,k.isMany=true->k.isNum=true->False:=fun k h g=>by cases k <;> first|exact Bool.false_ne_true h|exact Bool.false_ne_true g
theorem nn3:∀ k:Kd,k.isPick=true->k.isNum=true->False:=fun k h g=>by cases k <;> first|exact Bool.false_ne_true h|exact Bool.false_ne_true g
theorem ff1:∀ k:Kd,k.isNest=true->(∃ i,k=.nest i)\/∃ n q,k=.many n q:=fun k h=>by
 cases k <;> first|exact .inl ⟨_,rfl⟩|cases h
theorem ff2:∀ k:Kd,k.isMany=true->(∃ i,k=.nest i)\/∃ n q,k=.many n q:=fun k h=>by
 cases k <;> first|exact .inr ⟨_,_,rfl⟩|cases h
inductive Itm where
 | sh (n:Str)
 | fd (n:Str) (k:Kd)
def itm1 (s:Shp):List Itm:=.sh s.1::s.2.map fun f=>.fd f.1 f.2
def itms (S:List Shp):List Itm:=S.flatMap itm1
def Itm.line (nm:Nat->Str):Itm->List Str
 | .sh n=>[Str.ofString "shape",n]
 | .fd n k=>n::k.words nm
theorem itms_lines (S:List Shp):txLines S=(itms S).map (Itm.line (nmOf S)):=by
 unfold txLines itms
 rw [List.map_flatMap]
 congr 1
 funext s
 unfold shLines itm1
 rw [List.map_cons,List.map_map]
 rfl
theorem itms_app (A B:List Shp):itms (A++B)=itms A++itms B:=List.flatMap_append
def StAt (S:List Shp) (j:Nat) (T:List Shp):Prop:=(∃ S2,S=T++S2/\j=(itms T).length)\/∃ S1 s S2 f1 f2,S=S1++s::S2/\s.2=f1++f2/\T=S1++[(s.1,f1)]/\j=(itms S1).length + 1 + f1.length
theorem StAt.start (S:List Shp):StAt S 0 []:=.inl ⟨S,rfl,rfl⟩
theorem StAt.next {S:List Shp} {j:Nat} {T:List Shp} (h:StAt S j T) (hj:j < (itms S).length):∃ S1 s S2,S=S1++s::S2 ∧
  (((itms S)[j]?=some (.sh s.1)/\T=S1/\StAt S (j + 1) (S1++[(s.1,[])]))\/∃ f1 n k f2,s.2=f1++(n,k)::f2/\(itms S)[j]?=some (.fd n k)/\T=S1++[(s.1,f1)]/\StAt S (j + 1) (S1++[(s.1,f1++[(n,k)])])):=by
 have one:∀ {T:List Shp} {S2:List Shp},S=T++S2->j=(itms T).length->∃ S1 s S2,S=S1++s::S2 ∧
  (((itms S)[j]?=some (.sh s.1)/\T=S1/\StAt S (j + 1) (S1++[(s.1,[])]))\/∃ f1 n k f2,s.2=f1++(n,k)::f2/\(itms S)[j]?=some (.fd n k)/\T=S1++[(s.1,f1)]/\StAt S (j + 1) (S1++[(s.1,f1++[(n,k)])])):=by
  intro T S2 e ej
  cases S2 with
  | nil=>rw [e,List.append_nil,← ej] at hj;exact absurd hj (Nat.lt_irrefl _)
  | cons s S2 =>
   refine⟨T,s,S2,e,.inl ⟨?_,rfl,.inr ⟨T,s,S2,[],s.2,e,rfl,rfl,by rw [ej];rfl⟩⟩⟩
   rw [e,itms_app,List.getElem?_append_right (by omega),ej,Nat.sub_self]
   rfl
 rcases h with⟨S2,e,ej⟩|⟨S1,s,S2,f1,f2,e,ef,eT,ej⟩
 ·exact one e ej
 ·cases f2 with
  | nil =>
   rw [List.append_nil] at ef
   have e2:T=S1++[s]:=by rw [eT,← ef]
   refine one (S2:=S2) (by rw [e,e2,List.append_assoc];rfl) ?_
   rw [e2,itms_app,List.length_append,ej]
   show _=_ + ([s].flatMap itm1).length
   rw [List.flatMap_singleton]
   unfold itm1
   rw [List.length_cons,List.length_map,ef]
   omega
  | cons f f2 =>
   refine⟨S1,s,S2,e,.inr ⟨f1,f.1,f.2,f2,ef,?_,eT,.inr ⟨S1,s,S2,f1++[(f.1,f.2)],f2,e,by rw [ef,List.append_assoc];rfl,rfl,by rw [ej,List.length_append];rfl⟩⟩⟩
   rw [e,itms_app,List.getElem?_append_right (by omega),show j - (itms S1).length=f1.length + 1 by omega]
   show ((itm1 s)++itms S2)[f1.length + 1]?=_
   unfold itm1
   rw [List.cons_append,List.getElem?_cons_succ,List.getElem?_append_left (by rw [List.length_map,ef,List.length_append,List.length_cons];omega),List.getElem?_map,ef,List.getElem?_append_right (Nat.le_refl _),Nat.sub_self]
   rfl
theorem itms_ne {A:List Shp} (h:A ≠ []) : 0 < (itms A).length:=by
 cases A with
 | nil=>exact absurd rfl h
 | cons a A=>exact Nat.succ_pos _
theorem StAt.done {S:List Shp} {T:List Shp} (h:StAt S (itms S).length T):T=S:=by
 rcases h with⟨S2,e,ej⟩|⟨S1,s,S2,f1,f2,e,ef,eT,ej⟩
 ·cases S2 with
  | nil=>rw [e,List.append_nil]
  | cons s S2 =>
   rw [e,itms_app,List.length_append] at ej
   have:=itms_ne (A:=s::S2) (by simp)
   omega
 ·rw [e,itms_app,List.length_append,show itms (s::S2)=itm1 s++itms S2 from rfl,List.length_append] at ej
  unfold itm1 at ej
  rw [List.length_cons,List.length_map,ef,List.length_append] at ej
  have h2:f2=[]:=List.length_eq_zero_iff.mp (by omega)
  have h3:S2=[]:=by
   cases S2 with
   | nil=>rfl
   | cons a A=>have:=itms_ne (A:=a::A) (by simp);omega
  rw [eT,e,h3]
  subst h2
  rw [List.append_nil] at ef
  rw [← ef]
theorem atI_lastR (sa:List Addr) (z:Addr):atI ((sa++[z]).map V.ref) (-1)=some (.ref z):=by
 have l:((sa++[z]).map V.ref).length=sa.length + 1:=by rw [List.length_map,List.length_append];rfl
 have e:ixN (sa.length + 1) (-1)=some sa.length:=by
  unfold ixN
  rw [if_neg (by omega),if_pos (by omega)]
  congr 1
  omega
 unfold atI
 rw [l,e]
 show ((sa++[z]).map V.ref)[sa.length]?=_
 rw [List.map_append,List.getElem?_append_right (by rw [List.length_map];exact Nat.le_refl _),List.length_map,Nat.sub_self]
 rfl
theorem ixN_last (sa:List Addr) (z:Addr):ixN ((sa++[z]).map V.ref).length (-1)=some sa.length:=by
 rw [List.length_map,List.length_append,List.length_singleton]
 unfold ixN
 rw [if_neg (by omega),if_pos (by omega)]
 congr 1
 omega
theorem set_last (sa:List Addr) (z y:Addr):((sa++[z]).map V.ref).set sa.length (.ref y)=(sa++[y]).map V.ref:=by
 rw [List.map_append,List.map_append,List.set_append_right _ _ (by rw [List.length_map];exact Nat.le_refl _),List.length_map,Nat.sub_self]
 rfl
theorem cutA (xs:List V) (k:Nat):cutV xs (some (k:Int)) none=xs.drop k:=by
 unfold cutV
 rw [HT.sIx_none,HT.sIx_nat]
 have e:xs.drop (min k xs.length)=xs.drop k:=by
  by_cases h:k<=xs.length
  ·rw [Nat.min_eq_left h]
  ·rw [Nat.min_eq_right (by omega),List.drop_length,List.drop_eq_nil_of_le (by omega)]
 rw [e,List.take_of_length_le]
 rw [List.length_drop]
 omega
theorem cutA1 (x:V) (xs:List V):cutV (x::xs) (some 1) none=xs:=cutA (x::xs) 1
theorem cutA2 (x y:V) (xs:List V):cutV (x::y::xs) (some 2) none=xs:=cutA (x::y::xs) 2
theorem at0 {x:V} {xs:List V} : atI (x::xs) 0=some x:=atI_nat (j:=0) rfl
theorem at1 {x y:V} {xs:List V} : atI (x::y::xs) 1=some y:=atI_nat (j:=1) rfl
theorem cutB (xs:List V) (k:Nat):cutV xs none (some (k:Int))=xs.take k:=by
 unfold cutV
 rw [HT.sIx_none,HT.sIx_nat,List.drop_zero,Nat.sub_zero]
 by_cases h:k<=xs.length
 ·rw [Nat.min_eq_left h]
 ·rw [Nat.min_eq_right (by omega),List.take_length,List.take_of_length_le (by omega)]
theorem cutC (sa:List Addr) (z:Addr):cutV ((sa++[z]).map V.ref) none (some (-1))=sa.map V.ref:=by
 unfold cutV
 rw [HT.sIx_none,List.drop_zero,Nat.sub_zero]
 have l:((sa++[z]).map V.ref).length=sa.length + 1:=by rw [List.length_map,List.length_append];rfl
 have e:HT.sIx ((sa++[z]).map V.ref).length ((sa++[z]).map V.ref).length (some (-1))=(sa.map V.ref).length:=by
  rw [l,List.length_map]
  show (if (-1:Int) < 0 then ((-1:Int) + ((sa.length + 1:Nat):Int)).toNat else min (-1:Int).toNat (sa.length + 1))=_
  rw [if_pos (by decide)]
  omega
 rw [e,List.map_append,List.take_left' rfl]
def dk (T:List Shp) (sa:List Addr):List (Key × V):=List.zipWith (fun (s:Shp) (a:Addr)=>((.inr s.1:Key),V.ref a)) T sa
theorem dk_get {T:List Shp} {sa:List Addr} (hn:(T.map (·.1)).Nodup):∀ {i:Nat} {s:Shp} {a:Addr},T[i]?=some s->sa[i]?=some a->valV (dk T sa) (.inr s.1)=some (.ref a):=by
 induction T generalizing sa with
 | nil=>intro i s a h;simp at h
 | cons t T ih =>
  intro i s a h1 h2
  cases sa with
  | nil=>simp at h2
  | cons b sa =>
   cases i with
   | zero =>
    cases h1
    cases h2
    unfold dk valV
    rw [List.zipWith_cons_cons,List.find?_cons_of_pos (by simp)]
    rfl
   | succ i =>
    have hn':=List.nodup_cons.mp (show (t.1::T.map (·.1)).Nodup from hn)
    have:=ih hn'.2 (sa:=sa) h1 h2
    unfold dk valV at this ⊢
    rw [List.zipWith_cons_cons,List.find?_cons_of_neg]
    ·exact this
    ·intro z
     have z2:t.1=s.1:=Sum.inr.inj (show (Sum.inr t.1:Key)=.inr s.1 from of_decide_eq_true z)
     have h1':T[i]?=some s:=h1
     exact hn'.1 (by rw [z2];exact List.mem_map_of_mem (List.mem_of_getElem? h1'))
theorem putK_newK {kvs:List (Key × V)} {k:Key} {v:V} (h:∀ x ∈ kvs,x.1 ≠ k):putK kvs k v=kvs++[(k,v)]:=by
 unfold putK
 first
 | rw [if_neg (by simp only [List.any_eq_true,not_exists];rintro x ⟨hx,z⟩;exact h x hx (of_decide_eq_true z))]
 | (split
    · rename_i z
      simp only [List.any_eq_true] at z
      obtain⟨x,hx,z⟩:=z
      exact absurd (by simpa using z) (h x hx)
    · rfl)
theorem zip_snoc {α β γ : Type} (f : α->β->γ):∀ {xs:List α} {ys:List β} {x : α} {y : β},xs.length=ys.length->List.zipWith f (xs++[x]) (ys++[y])=List.zipWith f xs ys++[f x y]
 | [],[],_,_,_=>rfl
 | a::xs,b::ys,x,y,h=>by
  rw [List.cons_append,List.cons_append,List.zipWith_cons_cons,List.zipWith_cons_cons,zip_snoc f (Nat.succ.inj h)];rfl
theorem dk_snoc {T:List Shp} {sa:List Addr} {j:Nat} {s:Shp} {a:Addr} (h1:T[j]?=some s) (h2:sa[j]?=some a):dk (T.take (j + 1)) (sa.take (j + 1))=dk (T.take j) (sa.take j)++[(.inr s.1,.ref a)]:=by
 unfold dk
 rw [List.take_add_one,List.take_add_one,h1,h2]
 refine zip_snoc _ ?_
 rw [List.length_take,List.length_take]
 have:=(List.getElem?_eq_some_iff.mp h1).1
 have:=(List.getElem?_eq_some_iff.mp h2).1
 omega
theorem dk_keys {T:List Shp} {sa:List Addr} : ∀ x ∈ dk T sa,∃ s ∈ T,x.1=.inr s.1:=by
 induction T generalizing sa with
 | nil=>intro x hx;cases sa <;> simp [dk] at hx
 | cons t T ih =>
  intro x hx
  cases sa with
  | nil=>simp [dk] at hx
  | cons a sa =>
   unfold dk at hx
   rw [List.zipWith_cons_cons] at hx
   rcases List.mem_cons.mp hx with rfl|hx
   ·exact⟨t,List.mem_cons_self ..,rfl⟩
   ·obtain⟨s,hs,e⟩:=ih x hx
    exact⟨s,List.mem_cons_of_mem _ hs,e⟩
theorem SW.init {c:Cl5} {K:Frag} {H:Hp} {sa:List Addr} {z:Addr} {T:List Shp} {s:Shp} (h:SW c K H (sa++[z]) (T++[s])):SW c K H sa T/\SO c K H sa z s:=by
 have hl:sa.length=T.length:=by have:=h.1;rw [List.length_append,List.length_append] at this;exact Nat.succ.inj this
 refine⟨⟨hl,fun i a u h1 h2=>?_⟩,?_⟩
 ·have hi:i < sa.length:=(List.getElem?_eq_some_iff.mp h1).1
  have:=h.2 i a u (get_app h1) (by rw [List.getElem?_append_left (by omega)];exact h2)
  rw [List.take_append_of_le_length (by omega)] at this
  exact this
 ·have:=h.2 sa.length z s (by rw [List.getElem?_append_right (Nat.le_refl _),Nat.sub_self];rfl) (by rw [hl,List.getElem?_append_right (Nat.le_refl _),Nat.sub_self];rfl)
  rw [List.take_left' rfl] at this
  exact this
theorem jn_len (c:Nat):∀ ps:List (List Nat),(jn c ps).length<=(ps.map (·.length)).sum + ps.length
 | []=>Nat.le_refl _
 | [p]=>by show p.length<=(p.length + 0) + 1;omega
 | p::q::r=>by
  have ih:=jn_len c (q::r)
  show (p++c::jn c (q::r)).length<=_
  rw [List.length_append,List.length_cons,List.map_cons,List.sum_cons,List.length_cons]
  omega
theorem sum_le {α : Type} {f : α->Nat} {m:Nat} : ∀ {l:List α},(∀ x ∈ l,f x<=m)->(l.map f).sum<=l.length * m
 | [],_=>Nat.zero_le _
 | x::l,h=>by
  have h1:=h x (List.mem_cons_self ..)
  have h2:=sum_le (f:=f) (l:=l) fun y hy=>h y (List.mem_cons_of_mem _ hy)
  rw [List.map_cons,List.sum_cons,List.length_cons,Nat.succ_mul]
  omega
theorem join_len {c:Nat} {ws:List Str} {m:Nat} (h:∀ w ∈ ws,w.length<=m):(Str.join ⟨#[c]⟩ ws).length<=ws.length * (m + 1):=by
 have e:(Str.join ⟨#[c]⟩ ws).length=(jn c (ws.map fun w=>w.cps.toList)).length:=by
  rw [← join_jn];exact (Array.length_toList).symm
 rw [e]
 refine Nat.le_trans (jn_len _ _) ?_
 rw [List.map_map,List.length_map,Nat.mul_add,Nat.mul_one]
 exact Nat.add_le_add_right (sum_le fun w hw=>by show w.cps.toList.length<=m;rw [Array.length_toList];exact h w hw) _
theorem at_str {ss:List Str} {i:Nat} {s:Str} (h:ss[i]?=some s):atI (ss.map V.str) (i:Int)=some (.str s):=atI_nat (by rw [List.getElem?_map,h];rfl)
abbrev Hold:=Str × Nat
abbrev Row4:=Str × Nat × Nat × List Hold
def lj (p x:Str):Str:=if p.length=0 then x else if x.length=0 then p else p++Str.ofString "." ++ x
def ahd (st:Str) (m:Int) (x:Row4):Row4:=(lj st x.1,x.2.1,((x.2.2.1:Int) + m).toNat,x.2.2.2.map fun h=>(lj st h.1,h.2))
def ahead (st:Str) (rows:List Row4) (m:Int):List Row4:=rows.map (ahd st m)
def insF (S:List Shp) (f:Kd->List Row4):Nat->List (Str × Kd)->List Row4
 | _,[]=>[]
 | o,x::xs=>ahead x.1 (f x.2) o++insF S f (o + x.2.size (tabs S).sz) xs
def pickR (n:Nat) (x:Row4):Row4:=(x.1,x.2.1,x.2.2.1,(Str.empty,n)::x.2.2.2)
def ins (S:List Shp):Nat->Kd->List Row4
 | 0,.num w=>[(Str.empty,w,0,[])]
 | 0,_=>[]
 | r + 1,.num w=>[(Str.empty,w,0,[])]
 | r + 1,.nest i=>insF S (ins S r) 0 ((Kd.nest i).parts S)
 | r + 1,.many n k=>insF S (ins S r) 0 ((Kd.many n k).parts S)
 | r + 1,.pick is=>(Str.ofString "tag",1,0,[])::(List.range is.length).flatMap fun n=>(ahead (nmOf S (is.getD n 0)) (ins S r (.nest (is.getD n 0))) 1).map (pickR n)
end L2
namespace L2
open PySem PySem.Spec PyProof.Rows
theorem KV.get:∀ {kvs:List (Key × V)} {vs:List (Key × Value)},KV kvs vs->∀ {i:Nat} {kv:Key × V},kvs[i]?=some kv->∃ u,vs[i]?=some (kv.1,u)
 | _,_,.nil,_,_,e=>by simp at e
 | _,_,.cons (a:=p) (b:=q) r _,0,kv,e=>by
  simp at e;subst e
  exact⟨q.2,by simp [r.1]⟩
 | _,_,.cons _ t,i + 1,kv,e=>by
  obtain⟨u,h⟩:=KV.get t (i:=i) (kv:=kv) (by simpa using e)
  exact⟨u,by simpa using h⟩
end L2
namespace L2.TX
open PySem PySem.Spec PyProof.Rows
section
variable {prog:Program} {w:World} {A:Around} {R:Result->Shared->Prop} {I:Addr} {fp wr:List Addr} {G:Array GenState->Array GenState->Prop} {n:Nat} {P:Nat->Value->Prop} {St:Nat->Shared->Prop}
end
end L2.TX
namespace L2
open PySem PySem.Spec PyProof.Rows
theorem op_eqT {X:Cx} (hu:X.A.units + 64 < cLine):OpR X (compareOp .Eq) (fun x y H Q=>∃ (a b:Addr) (xs ys:List V),x=.ref a/\y=.ref b/\SqT X.K H a xs/\SqT X.K H b ys/\xs.length=ys.length/\(∀ (i:Nat) x y,xs[i]?=some x->ys[i]?=some y->EqS X.K H 8 x y)/\Q (.bl true) H):=by
 intro pins s σ H x y v u Q I rx ry h
 obtain⟨a,b,xs,ys,rfl,rfl,ha,hb,hl,he,q⟩:=h
 cases rx
 cases ry
 obtain⟨i1,r1,p1,_⟩:=I.tuple ha
 obtain⟨i2,r2,p2,_⟩:=I.tuple hb
 have l1:=r1.length
 have l2:=r2.length
 refine SeqAt.eq_tupleAt (e:=fun _=>true) (show s.heap.IsTuple a i1.toArray from p1) (show s.heap.IsTuple b i2.toArray from p2) (by omega) (fun j h1 h2=>?_) ?_
 ·have hj:j < xs.length:=by rw [List.size_toArray] at h1;omega
  have hj2:j < ys.length:=by omega
  obtain⟨u1,e1,q1⟩:=r1.get (List.getElem?_eq_getElem hj)
  obtain⟨u2,e2,q2⟩:=r2.get (List.getElem?_eq_getElem hj2)
  rw [arr_get e1,arr_get e2]
  exact I.eqs (he j _ _ (List.getElem?_eq_getElem hj) (List.getElem?_eq_getElem hj2)) q1 q2 (by show X.A.units + 1 + 8 < cLine;omega)
 ·rw [all_true,show (i1.toArray.size == i2.toArray.size)=true by rw [List.size_toArray,List.size_toArray,show i1.length=i2.length by omega];simp]
  exact⟨.bl true,H,I,rfl,q⟩
end L2
namespace K13
open PySem L2
set_option hygiene false in
local macro_rules | `(tactic| walk_at "sc") => `(tactic| exact ⟨rfl, rfl, rfl, by decide +kernel, rfl, by decide +kernel, by decide +kernel⟩)
set_option hygiene false in
local macro_rules | `(tactic| walk_at "hr") => `(tactic| have hr := hr0.mono (Nat.le_succ _))
set_option hygiene false in
local macro_rules | `(tactic| walk_at "b1") => `(tactic| exact fun _ _ _ _ _ _ us hl => by obtain ⟨a0, rfl⟩ := ls1 hl; rfl)
set_option hygiene false in
local macro_rules | `(tactic| walk_at "b2") => `(tactic| exact fun _ _ _ _ _ _ us hl => by obtain ⟨a0, a1, rfl⟩ := ls2 hl; rfl)
set_option hygiene false in
local macro_rules | `(tactic| walk_at "b3") => `(tactic| exact fun _ _ _ _ _ _ us hl => by obtain ⟨a0, a1, a2, rfl⟩ := ls3 hl; rfl)
set_option hygiene false in
local macro_rules | `(tactic| walk_at "o") => `(tactic| first | exact Or.inl rfl | exact Or.inr rfl)
set_option hygiene false in
local macro_rules | `(tactic| w_cond $s:ident) => `(tactic| (obtain ⟨M, C, Ua, Ub, Uc, Ud, Ue, Uf, tRE, VI, T_NamedTwice, T_NoShapes, T_TooMuch, T_UnknownShape⟩ := Z; first | refine F.ok $s (fun vs H Q E h => ?_) (fun cdv A outer s0 H vs Q E hr0 h => ?_) | refine F.okE $s (fun vs H Q E h => ?_) (fun cdv A outer s0 H vs Q E hr0 h => ?_)))
def top (i : Nat) : Stmt := PySem.Challenge.pw_roomslaid_k13_too_much.main.body.getD i (.Pass ⟨0,0,0,0⟩)
def inClass:Stmt->Nat->Stmt
 | .ClassDef _ _ _ body _ _ _ _ _ _ _,j=>body.getD j (.Pass ⟨0,0,0,0⟩)
 | s,_=>s
theorem iteP {c A B:Prop} [Decidable c] (hc:c) (h:A):if c then A else B:=by rw [if_pos hc];exact h
theorem iteN {c A B:Prop} [Decidable c] (hc:¬ c) (h:B):if c then A else B:=by rw [if_neg hc];exact h
structure Blt (mg:Str->Option Value):Prop where
 range:mg "range" = none
 len:mg "len" = none
 isinstance:mg "isinstance" = none
 int:mg "int" = none
 bool:mg "bool" = none
 list:mg "list" = none
 all:mg "all" = none
 max:mg "max" = none
 min:mg "min" = none
 reversed:mg "reversed" = none
 tuple:mg "tuple" = none
 divmod:mg "divmod" = none
 str:mg "str" = none
 sum:mg "sum" = none
 zip:mg "zip" = none
 enumerate:mg "enumerate" = none
 dict:mg "dict" = none
 ValueError:mg "ValueError" = none
 repr:mg "repr" = none
structure Df (K:Frag) (mg:Str->Option Value) (x:Str) (f:Addr) (fd:FuncData) (ps:List Str):Prop where
 m:mg x=some (.ref f)
 k:keepIn K (.ref f)=true
 b:Binds K fd ps []
def St3 (H:Hp) (p:Addr):Prop:=∃ a b c:Int,H p=some (.lst [.int a,.int b,.int c])
def Drawn (p:Addr) (H H':Hp):Prop:=St3 H' p/\∀ b o,b ≠ p->H b=some o->H' b=some o
theorem Drawn.trans {p:Addr} {H H1 H2:Hp} (a:Drawn p H H1) (b:Drawn p H1 H2):Drawn p H H2:=⟨b.1,fun c o n h=>b.2 c o n (a.2 c o n h)⟩
theorem Drawn.refl {p:Addr} {H:Hp} (h:St3 H p):Drawn p H H:=⟨h,fun _ _ _ q=>q⟩
theorem Drawn.new {p l:Addr} {H H1:Hp} {o:HO} (a:Drawn p H H1) (hl:H1 l=none):Drawn p H (upd H1 l o):=by
 obtain⟨⟨x,y,z,e⟩,h⟩:=a
 refine⟨⟨x,y,z,by rw [upd_ne (ne_of_none e hl)];exact e⟩,fun b u n q=>?_⟩
 have:=h b u n q
 rw [upd_ne (ne_of_none this hl)];exact this
theorem Drawn.same {p:Addr} {H H':Hp} (a:Drawn p H H') (hp:H p=none):Same H H':=fun b o h=>a.2 b o (ne_of_none h hp) h
theorem same_new {H:Hp} {p:Addr} (h:H p=none) (o:HO):Same H (upd H p o):=fun b u q=>by rw [upd_ne (ne_of_none q h)];exact q
theorem atI_ints (ns:List Int) {i:Int} (h0 : 0<=i) (h1:i < ns.length):∃ v:Int,atI (ns.map V.int) i=some (.int v):=by
 have hk:i.toNat < ns.length:=by omega
 have e:i=((i.toNat:Nat):Int):=by omega
 have q:atI (ns.map V.int) ((i.toNat:Nat):Int)=some (.int ns[i.toNat]):=atI_nat (by rw [List.getElem?_map,List.getElem?_eq_getElem hk] <;> rfl)
 rw [← e] at q
 exact⟨_,q⟩
theorem small {n:Nat} (h:n<=1000):n<=sizeLine:=Nat.le_of_lt (small1000 h)
def spCell (K:Frag):Sp:=fun vs H Q _=>∃ (a:Addr) (ns:List Int) (k:Int),vs=[.ref a,.int k]/\SqL K H a (ns.map V.int)/\0<=k/\k < 64/\∀ v:Int,Q (.int v) H
def spLaw (K:Frag):Sp:=fun vs H Q _=>∃ (a:Addr) (ns:List Int),vs=[.ref a]/\SqL K H a (ns.map V.int)/\ns.length<=63/\∀ H',Q (.bl true) H'
theorem Same.tup {K:Frag} {H H':Hp} {a:Addr} {xs:List V} (e:Same H H') (h:SqT K H a xs):SqT K H' a xs:=by
 rcases h with (h|⟨o,h⟩)|h
 ·exact .inl (.inl (e _ _ h))
 ·exact .inl (.inr ⟨o,e _ _ h⟩)
 ·exact .inr h
theorem Drawn.tup {K:Frag} {p:Addr} {H H':Hp} {a:Addr} {xs:List V} (hs:St3 H p) (e:Drawn p H H') (h:SqT K H a xs):SqT K H' a xs:=by
 obtain⟨x,y,z,hp⟩:=hs
 rcases h with (h|⟨o,h⟩)|h
 ·exact .inl (.inl (e.2 _ _ (ne_of h hp (by intro z;cases z)) h))
 ·exact .inl (.inr ⟨o,e.2 _ _ (ne_of h hp (by intro z;cases z)) h⟩)
 ·exact .inr h
structure TCls (K:Frag) (mg:Str->Option Value) (x:Str) (C fI:Addr) (as:List Str):Prop where
 m:mg x=some (.ref C)
 cl:Cls K C
 ma:Mk K C fI
 na:∀ a ∈ as,NoAttr K C a
structure DfM (K:Frag) (C:Addr) (m:Str) (f:Addr) (fd:FuncData) (ps:List Str):Prop where
 me:Meth K C m f
 b:Binds K fd ps []
structure DfI (K:Frag) (fd:FuncData) (ps:List Str):Prop where
 b:Binds K fd ps []
structure TX (K:Frag) (mg:Str->Option Value) (x:Str) (C R fI:Addr) (as:List Str):Prop where
 m:mg x=some (.ref C)
 c:ExCl K C R fI
 x:XCls K C (.ref R::VB)
 n:∀ a ∈ as,findIn K (.ref C) a=some none
structure TXB (K:Frag) (mg:Str->Option Value) (C fI:Addr):Prop where
 m:mg "RoomError" = some (.ref C)
 i:CInit K C fI
 x:XCls K C VB
def ownL:List Str:=["shape","num","row","pick","tag","room","things","part","tags","put","take","many","look","which","store","choose","copy","each","span","if","else","end","out"]
abbrev lettersS:Str:="abcdefghijklmnopqrstuvwxyz"
abbrev figuresS:Str:="0123456789"
structure Cst (K:Frag) (mg:Str->Option Value) (t1 t2 t3 t4 t5 t6 t7 t8 t9 t10 t11 t12 t13:Tok) (ts:Addr):Prop where
 SMALL_LETTERS:mg "SMALL_LETTERS" = some (.str "abcdefghijklmnopqrstuvwxyz" t1)
 FIGURES:mg "FIGURES" = some (.str "0123456789" t2)
 MOST_LETTERS:mg "MOST_LETTERS" = some (.int 6 t3)
 MOST_FIGURES:mg "MOST_FIGURES" = some (.int 10 t4)
 MOST_SHAPES:mg "MOST_SHAPES" = some (.int 8 t5)
 MOST_FIELDS:mg "MOST_FIELDS" = some (.int 6 t6)
 MOST_CELLS:mg "MOST_CELLS" = some (.int 64 t7)
 MOST_UNITS:mg "MOST_UNITS" = some (.int 40 t8)
 MOST_DEPTH:mg "MOST_DEPTH" = some (.int 4 t9)
 MOST_WIDTH:mg "MOST_WIDTH" = some (.int 4 t10)
 MOST_COUNT:mg "MOST_COUNT" = some (.int 6 t11)
 LEAST_PICKED:mg "LEAST_PICKED" = some (.int 2 t12)
 MOST_PICKED:mg "MOST_PICKED" = some (.int 4 t13)
 OWN_WORDS:mg "OWN_WORDS" = some (.ref ts)
 words:∀ H,SqT K H ts (ownL.map V.str)
def tyA (K:Frag) (x:V) (H:Hp) (t:String):Prop:=tyN K x H t\/(t = "dict"/\∃ p kvs,x=.ref p/\H p=some (.dK kvs))
theorem Same.tyA {K:Frag} {x:V} {H H':Hp} {t:String} (g:Same H H') (h:tyA K x H t):tyA K x H' t:=by
 rcases h with h|⟨e,p,kvs,ex,h⟩
 ·left
  cases x with
  | ref p =>
   rcases h with⟨e,xs,h⟩|⟨e,xs,h⟩
   ·exact .inl ⟨e,xs,g.seq h⟩
   ·exact .inr ⟨e,xs,Same.tup g h⟩
  | _=>exact h
 ·exact .inr ⟨e,p,kvs,ex,g _ _ h⟩
def within (x:Str) (most:Int):Bool:=decide (1<=(x.length:Int)) && decide ((x.length:Int)<=most)
def allIn (x signs:Str):Bool:=x.cps.toList.all fun c=>decide (c ∈ signs.cps.toList)
def nameB (x:Str):Bool:=within x 6 && allIn x lettersS && !decide (x ∈ ownL)
def leadB (x:Str):Bool:=decide (x.cps.toList[0]?=some 48) && decide (1 < (x.length:Int))
def numB (x:Str):Option Int:=if (within x 10 && allIn x figuresS && !leadB x)=true then some ((PySem.NumText.digitsVal x.cps.toList:Nat):Int) else none
def optV:Option Int->V
 | none=>.non
 | some n=>.int n
def boundV (o:Option Int) (lo hi:Int):Option Int:=match o with
 | none=>none
 | some n=>if lo<=n/\n<=hi then some n else none
def spTextOf (K:Frag):Sp:=fun vs H Q _=>∃ (x:V) (signs:Str) (most:Int),vs=[x,.str signs,.int most] ∧
 ((∃ z:Str,x=.str z/\z.length<=1000/\∀ H',Same H H'->Q (.bl (within z most && allIn z signs)) H')\/(∃ t,tyA K x H t/\t ≠ "str"/\Q (.bl false) H))
def spIsName (K:Frag):Sp:=fun vs H Q _=>∃ x:V,vs=[x] ∧
 ((∃ z:Str,x=.str z/\z.length<=1000/\∀ H',Same H H'->Q (.bl (nameB z)) H')\/(∃ t,tyA K x H t/\t ≠ "str"/\∀ H',Same H H'->Q (.bl false) H'))
def spNumberIn (K:Frag):Sp:=fun vs H Q _=>∃ (x:V) (lo hi:Int),vs=[x,.int lo,.int hi] ∧
 ((∃ z:Str,x=.str z/\z.length<=1000/\∀ H',Same H H'->Q (optV (boundV (numB z) lo hi)) H')\/(∃ t,tyA K x H t/\t ≠ "str"/\∀ H',Same H H'->Q .non H'))
theorem inV_strs (x:Str) (ys:List Str):inV (.str x) (ys.map V.str)=decide (x ∈ ys):=by
 rw [Bool.eq_iff_iff]
 simp only [inV,List.any_map,List.any_eq_true,Function.comp,decide_eq_true_eq,eqV,beq_iff_eq]
 constructor
 ·rintro ⟨y,hy,rfl⟩;exact hy
 ·intro h;exact⟨x,h,rfl⟩
theorem flat_strs (ys:List Str):(ys.map V.str).all flatV=true:=by
 rw [List.all_eq_true]
 intro x hx
 obtain⟨n,_,rfl⟩:=List.mem_map.mp hx
 rfl
theorem letters_list:lettersS.cps.toList=List.range' 97 26:=by decide +kernel
theorem figures_list:figuresS.cps.toList=List.range' 48 10:=by decide +kernel
theorem mem_letters (c:Nat):c ∈ lettersS.cps.toList ↔ 97<=c/\c<=122:=by
 rw [letters_list,List.mem_range'_1];omega
theorem mem_figures (c:Nat):c ∈ figuresS.cps.toList ↔ 48<=c/\c<=57:=by
 rw [figures_list,List.mem_range'_1];omega
theorem all_snoc (f:Nat->Bool) (l:List Nat) (i:Nat) {c:Nat} (h:l[i]?=some c):((l.take (i + 1)).map f)=(l.take i).map f++[f c]:=by
 rw [List.take_add_one,h,List.map_append] <;> rfl
theorem all_map (f:Nat->Bool) (l:List Nat):(l.map f).all id=l.all f:=by
 rw [List.all_map];rfl
theorem isa3 {t:String} (h:t ≠ "str"):isa t "str" = false:=by
 unfold isa
 simp [h]
theorem is_0 {c:Nat} : decide (V.str ⟨#[c]⟩=V.str (Str.ofString "0"))=decide (c=48):=by
 have e:(Str.ofString "0")=⟨#[48]⟩:=by decide +kernel
 rw [e,Bool.eq_iff_iff,decide_eq_true_eq,decide_eq_true_eq]
 constructor
 ·intro h;injection h with h;injection h with h;simpa using h
 ·rintro rfl;rfl
theorem Same.st3 {p:Addr} {H H':Hp} (g:Same H H') (h:St3 H p):St3 H' p:=by
 obtain⟨x,y,z,e⟩:=h
 exact⟨x,y,z,g _ _ e⟩
theorem Drawn.keep {p:Addr} {H H1 H2:Hp} (d:Drawn p H H1) (g:Same H1 H2):Drawn p H H2:=⟨Same.st3 g d.1,fun b o n e=>g _ _ (d.2 b o n e)⟩
theorem len_list (z:Str):z.cps.toList.length=z.length:=Array.length_toList
theorem emp_app (p:Str):Str.empty++p=p:=Str.ext' (by rw [Str.cps_append];simp [Str.empty])
theorem len_le {a:Nat} (h:a<=5000):a<=sizeLine:=by rw [sizeLine_eq];omega
def spJoined:Sp:=fun vs H Q _=>∃ (p:Str) (x:V) (y:Str),vs=[.str p,x]/\txtV x=some y/\p.length<=1000/\y.length<=1000/\Q (.str (pj p y)) H
def spTake:Sp:=fun vs H Q _=>∃ (p:Addr) (m:Int),vs=[.ref p,.int m]/\0 < m/\m < 1073741824/\St3 H p/\∀ (v:Nat) (H':Hp),(v:Int) < m->Drawn p H H'->Q (.int v) H'
def spBox:Sp:=fun vs H Q _=>∃ c:Int,vs=[.int c]/\∀ (p:Addr) (H':Hp),H p=none->Drawn p H H'->Q (.ref p) H'
structure Wds (K:Frag) (H:Hp) (a:Addr) (ws:List Str):Prop where
 l:SqL K H a (ws.map V.str)
 s:∀ w ∈ ws,w.length<=1000
 n:ws.length<=1000
theorem Wds.same {K:Frag} {H H':Hp} {a:Addr} {ws:List Str} (h:Wds K H a ws) (g:Same H H'):Wds K H' a ws:=⟨g.seq h.l,h.s,h.n⟩
def isShB:List Str->Bool
 | [x,y]=>decide (x=Str.ofString "shape") && nameB y
 | _=>false
def spShL (K:Frag):Sp:=fun vs H Q _=>∃ (a:Addr) (ws:List Str),vs=[.ref a]/\Wds K H a ws/\∀ H',Same H H'->Q (.bl (isShB ws)) H'
def spI1 (C:Addr) (n:Str):Sp:=fun vs H Q _=>∃ (a dx:Addr) (v:V) (H1:Hp),vs=[.ref a,v]/\H a=some (.ins C dx [])/\Same H1 H/\H1 a=none/\∀ H',Same H1 H'->H' a=some (.ins C dx [(n,v)])->Q .non H'
def spI2 (C:Addr) (n m:Str):Sp:=fun vs H Q _=>∃ (a dx:Addr) (v u:V) (H1:Hp),vs=[.ref a,v,u]/\H a=some (.ins C dx [])/\Same H1 H/\H1 a=none/\∀ H',Same H1 H'->H' a=some (.ins C dx [(n,v),(m,u)])->Q .non H'
def spIT (K:Frag) (C:Addr) (n:Str):Sp:=fun vs H Q _=>∃ (a dx l:Addr) (ys:List V) (H1:Hp),vs=[.ref a,.ref l]/\H a=some (.ins C dx [])/\Same H1 H/\H1 a=none/\SqL K H1 l ys/\∀ t H',Same H1 H'->H' a=some (.ins C dx [(n,.ref t)])->SqT K H' t ys->Q .non H'
def spShI (c:Cl5) (K:Frag):Sp:=fun vs H Q _=>∃ (a dx fl:Addr) (nm:Str) (ps:List Addr) (fs:List (Str × Kd)) (sa:List Addr) (H1:Hp),vs=[.ref a,.str nm,.ref fl]/\H a=some (.ins c.shape dx [])/\Same H1 H/\H1 a=none/\(SqL K H1 fl (ps.map V.ref)\/SqT K H1 fl (ps.map V.ref))/\FO c K H1 sa ps fs/\fs.length<=100 ∧
 ∀ t ps' H',Same H1 H'->H' a=some (.ins c.shape dx [("name",.str nm),("fields",.ref t)])->SqT K H' t (ps'.map V.ref)->FO c K H' sa ps' fs->Q .non H'
def spGr (c:Cl5) (K:Frag) (r:Nat):Sp:=fun vs H Q _=>∃ (a:Addr) (is:List Nat) (sa:List Addr) (S:List Shp),vs=[.ref a]/\(Kd.pick is).Rk r/\(Kd.pick is).Fit S.length/\KO c K H sa a (.pick is)/\SW c K H sa S/\Good S/\∀ H',Same H H'->Q (.int ((maxL (is.map fun i=>(tabs S).sz.getD i 0):Nat):Int)) H'
def spShU (c:Cl5) (K:Frag) (r:Nat):Sp:=fun vs H Q _=>∃ (a:Addr) (i:Nat) (sa:List Addr) (S:List Shp),vs=[.ref a]/\sa[i]?=some a/\2 * i + 2<=r/\8 * r<=200/\SW c K H sa S/\Good S/\∀ l H',Same H H'->H l=none->UL K H' l (un (.nest i) S Str.empty)->Q (.ref l) H'
theorem FO.insD {c:Cl5} {K:Frag} {H:Hp} {sa ps:List Addr} {fs:List (Str × Kd)} {a:Addr} {C dx:Addr} {x:V} {o:HO} (h:FO c K H sa ps fs) (ha:H a=some (.ins C dx [("name",x)])):FO c K (upd H a o) sa ps fs:=by
 have n:∀ {b C' dx' fs'},H b=some (.ins C' dx' fs')->fs'.head?.map (·.1) ≠ some ("name" : Str)->upd H a o b=some (.ins C' dx' fs'):=fun hb z=>by
  rw [upd_ne (fun e=>z (by rw [e,ha] at hb;cases hb;rfl))];exact hb
 have t:∀ {b xs},SqT K H b xs->SqT K (upd H a o) b xs:=fun h=>by
  rcases h with (h|⟨o',h⟩)|h
  ·exact .inl (.inl (by rw [upd_ne (ne_of h ha (by intro z;cases z))];exact h))
  ·exact .inl (.inr ⟨o',by rw [upd_ne (ne_of h ha (by intro z;cases z))];exact h⟩)
  ·exact .inr h
 have kk:∀ {b kd},KO c K H sa b kd->KO c K (upd H a o) sa b kd:=fun h=>by
  induction h with
  | num h=>exact .num (n h (by show some (Str.ofString "width") ≠ some (Str.ofString "name");decide))
  | nest e h=>exact .nest e (n h (by show some (Str.ofString "shape") ≠ some (Str.ofString "name");decide))
  | many h _ ih=>exact .many (n h (by show some (Str.ofString "count") ≠ some (Str.ofString "name");decide)) ih
  | pick h h2 l e=>exact .pick (n h (by show some (Str.ofString "shapes") ≠ some (Str.ofString "name");decide)) (t h2) l e
 induction h with
 | nil=>exact .nil
 | cons h1 h2 _ ih=>exact .cons (t h1) (kk h2) ih
def NOk (nm:Nat->Str) (n:Nat):Prop:=∀ i,i < n->nameB (nm i)=true
theorem name_len {x:Str} (h:nameB x=true) : 1<=x.length/\x.length<=6:=by
 unfold nameB within at h
 simp only [Bool.and_eq_true,decide_eq_true_eq] at h
 omega
theorem name_ne {x y:Str} (h:nameB x=true) (hy:y ∈ ownL):x ≠ y:=by
 rintro rfl
 unfold nameB at h
 simp only [Bool.and_eq_true,Bool.not_eq_true',decide_eq_false_iff_not] at h
 exact h.2 hy
theorem dig {w:Nat} (h:w<=9):numB (Str.ofString (toString (w:Int)))=some (w:Int)/\(Str.ofString (toString (w:Int))).length=1/\nameB (Str.ofString (toString (w:Int)))=false/\PySem.intText? (Str.ofString (toString (w:Int)))=some (w:Int):=by
 have:∀ m:Fin 10,numB (Str.ofString (toString ((m.val:Nat):Int)))=some ((m.val:Nat):Int)/\(Str.ofString (toString ((m.val:Nat):Int))).length=1/\nameB (Str.ofString (toString ((m.val:Nat):Int)))=false/\PySem.intText? (Str.ofString (toString ((m.val:Nat):Int)))=some ((m.val:Nat):Int):=by decide +kernel
 exact this ⟨w,by omega⟩
theorem own_rows:nameB (Str.ofString "num")=false/\nameB (Str.ofString "row")=false/\nameB (Str.ofString "pick")=false:=by decide +kernel
def Kd.named (nm:Nat->Str):Kd->List Str
 | .num _=>[]
 | .nest i=>[nm i]
 | .many _ k=>Kd.named nm k
 | .pick is=>is.map nm
theorem named_filter {nm:Nat->Str} {n:Nat} (hn:NOk nm n):∀ {k:Kd},k.Fit n->(k.words nm).filter nameB=Kd.named nm k:=by
 have hnum:∀ w,w<=9->((Kd.num w).words nm).filter nameB=[]:=fun w hw=>by
  show [Str.ofString "num",Str.ofString (toString (w:Int))].filter nameB=[]
  rw [List.filter_cons_of_neg (by rw [own_rows.1];decide),List.filter_cons_of_neg (by rw [(dig hw).2.2.1];decide)];rfl
 have hnest:∀ i,i < n->((Kd.nest i).words nm).filter nameB=[nm i]:=fun i hi=>by
  show [nm i].filter nameB=_
  rw [List.filter_cons_of_pos (hn i hi)];rfl
 intro k hk
 cases k with
 | num w=>exact hnum w (by have:=hk.2;omega)
 | nest i=>exact hnest i hk
 | many m k =>
  show (Str.ofString "row" :: Str.ofString (toString (m:Int))::k.words nm).filter nameB=Kd.named nm k
  rw [List.filter_cons_of_neg (by rw [own_rows.2.1];decide),List.filter_cons_of_neg (by rw [(dig (by have:=hk.2.1;omega)).2.2.1];decide)]
  rcases hk.2.2 with⟨w,rfl,hw⟩|⟨i,rfl,hi⟩
  ·exact hnum w (by omega)
  ·exact hnest i hi
 | pick is =>
  show (Str.ofString "pick" :: is.map nm).filter nameB=is.map nm
  rw [List.filter_cons_of_neg (by rw [own_rows.2.2];decide),List.filter_eq_self.mpr]
  intro x hx
  obtain⟨i,hi,rfl⟩:=List.mem_map.mp hx
  exact hn i (hk.2.2.2 i hi)
theorem words_len {nm:Nat->Str} {n:Nat} (hn:NOk nm n):∀ {k:Kd},k.Fit n->(∀ w ∈ k.words nm,w.length<=6)/\(k.words nm).length<=5:=by
 have hnum:∀ w,w<=9->∀ x ∈ (Kd.num w).words nm,x.length<=6:=fun w hw x hx=>by
  simp only [Kd.words,List.mem_cons,List.not_mem_nil,or_false] at hx
  rcases hx with rfl|rfl
  ·decide
  ·rw [(dig hw).2.1];decide
 have hnest:∀ i,i < n->∀ x ∈ (Kd.nest i).words nm,x.length<=6:=fun i hi x hx=>by
  rw [List.mem_singleton.mp (show x ∈ [nm i] from hx)];exact (name_len (hn i hi)).2
 intro k hk
 cases k with
 | num w=>exact⟨hnum w (by have:=hk.2;omega),by show 2<=5;decide⟩
 | nest i=>exact⟨hnest i hk,by show 1<=5;decide⟩
 | many m k =>
  have:(∀ x ∈ k.words nm,x.length<=6)/\(k.words nm).length<=2:=by
   rcases hk.2.2 with⟨w,rfl,hw⟩|⟨i,rfl,hi⟩
   ·exact⟨hnum w (by omega),by show 2<=2;decide⟩
   ·exact⟨hnest i hi,by show 1<=2;decide⟩
  refine⟨fun x hx=>?_,by show (k.words nm).length + 1 + 1<=5;omega⟩
  simp only [Kd.words,List.mem_cons] at hx
  rcases hx with rfl|rfl|hx
  ·decide
  ·rw [(dig (by have:=hk.2.1;omega)).2.1];decide
  ·exact this.1 x hx
 | pick is =>
  refine⟨fun x hx=>?_,by show (is.map nm).length + 1<=5;rw [List.length_map];have:=hk.2.1;omega⟩
  simp only [Kd.words,List.mem_cons,List.mem_map] at hx
  rcases hx with rfl|⟨i,hi,rfl⟩
  ·decide
  ·exact (name_len (hn i (hk.2.2.2 i hi))).2
def spSg (K:Frag):Sp:=fun vs H Q _=>∃ (a:Addr) (ws:List Str),vs=[.ref a]/\SqL K H a (ws.map V.str)/\((∃ w:Nat,1<=w/\w<=4/\ws=[Str.ofString "num",Str.ofString (toString (w:Int))])\/∃ x,nameB x=true/\ws=[x])/\∀ H',Same H H'->Q (.bl true) H'
def spKd (K:Frag):Sp:=fun vs H Q _=>∃ (a:Addr) (nm:Nat->Str) (n:Nat) (kd:Kd),vs=[.ref a]/\SqL K H a ((kd.words nm).map V.str)/\kd.Fit n/\NOk nm n/\∀ H',Same H H'->Q (.bl true) H'
def spFl (K:Frag):Sp:=fun vs H Q _=>∃ (a:Addr) (nm:Nat->Str) (n:Nat) (kd:Kd) (f:Str),vs=[.ref a]/\SqL K H a ((f::kd.words nm).map V.str)/\nameB f=true/\kd.Fit n/\NOk nm n/\∀ H',Same H H'->Q (.bl true) H'
def spNamed (K:Frag):Sp:=fun vs H Q _=>∃ (a:Addr) (nm:Nat->Str) (n:Nat) (kd:Kd) (f:Str),vs=[.ref a]/\SqL K H a ((f::kd.words nm).map V.str)/\kd.Fit n/\NOk nm n/\∀ l H',Same H H'->H l=none->H' l=some (.lst ((Kd.named nm kd).map V.str))->Q (.ref l) H'
theorem filt_snoc {f:Str->Bool} {l:List Str} {i:Nat} {a:Str} (h:l[i]?=some a):(l.take (i + 1)).filter f=(l.take i).filter f++(if f a=true then [a] else []):=by
 rw [List.take_add_one,h,List.filter_append]
 congr 1
 show [a].filter f=_
 by_cases z:f a=true
 ·rw [if_pos z,List.filter_cons_of_pos z];rfl
 ·rw [if_neg z,List.filter_cons_of_neg z];rfl
theorem get_strs {ns:List Str} {i:Nat} {x:V} (h:(ns.map V.str)[i]?=some x):∃ c,ns[i]?=some c/\x=.str c:=by
 rw [List.getElem?_map] at h
 cases e:ns[i]? with
 | none=>rw [e] at h;cases h
 | some c=>rw [e] at h;cases h;exact⟨c,rfl,rfl⟩
structure Wel (S:List Shp):Prop where
 good:Good S
 nm:∀ s ∈ S,nameB s.1=true
 fnm:∀ s ∈ S,∀ f ∈ s.2,nameB f.1=true
 nd:(S.map (·.1)).Nodup
 fnd:∀ s ∈ S,(s.2.map (·.1)).Nodup
 len:S.length<=8
 bd:∀ (i:Nat) (s:Shp),S[i]?=some s->(tabs S).sz.getD i 0<=64/\(un (.nest i) S Str.empty).length<=40/\(tabs S).dp.getD i 0<=4/\s.2.length<=6
theorem get_snoc {α : Type} {S:List α} {x y : α} {i:Nat} (h:(S++[x])[i]?=some y):S[i]?=some y\/(i=S.length/\y=x):=by
 by_cases hi:i < S.length
 ·rw [List.getElem?_append_left hi] at h;exact .inl h
 ·rw [List.getElem?_append_right (by omega)] at h
  have:i - S.length < 1:=(List.getElem?_eq_some_iff.mp h).1
  have e:i=S.length:=by omega
  subst e
  rw [Nat.sub_self] at h
  cases h
  exact .inr ⟨rfl,rfl⟩
theorem Good.snoc {S1:List Shp} {s:Shp} (h:Good S1) (h1:s.2 ≠ []) (h2:s.2.length<=6) (h3:∀ f ∈ s.2,f.2.Fit S1.length/\1<=f.1.length/\f.1.length<=6) (h4:(s.2.map fun f=>f.2.size (tabs S1).sz).sum<=1000):Good (S1++[s]):=by
 refine⟨fun i t e=>?_,fun i t e=>?_,fun i t e=>?_,fun i=>?_⟩
 ·rcases get_snoc e with e|⟨_,rfl⟩
  ·exact h.ne i t e
  ·exact h1
 ·rcases get_snoc e with e|⟨_,rfl⟩
  ·exact h.few i t e
  ·exact h2
 ·rcases get_snoc e with e|⟨rfl,rfl⟩
  ·exact h.fit i t e
  ·exact h3
 ·by_cases hi:i < S1.length
  ·rw [(tabs_lo hi).1];exact h.sz i
  ·by_cases e:i=S1.length
   ·subst e;rw [(tabs_at S1 s []).1];exact h4
   ·have hl:=(tabs_len (S1++[s])).1
    rw [List.length_append,List.length_singleton] at hl
    rw [List.getD_eq_getElem?_getD,List.getElem?_eq_none (by omega)];exact Nat.zero_le _
theorem Good.pre {S1 S2:List Shp} (h:Good (S1++S2)):Good S1:=by
 refine⟨fun i t e=>h.ne i t ?_,fun i t e=>h.few i t ?_,fun i t e=>h.fit i t ?_,fun i=>?_⟩
 ·rw [List.getElem?_append_left (List.getElem?_eq_some_iff.mp e).1];exact e
 ·rw [List.getElem?_append_left (List.getElem?_eq_some_iff.mp e).1];exact e
 ·rw [List.getElem?_append_left (List.getElem?_eq_some_iff.mp e).1];exact e
 ·by_cases hi:i < S1.length
  ·rw [← (tabs_lo (R:=S2) hi).1];exact h.sz i
  ·have hl:=(tabs_len S1).1
   rw [List.getD_eq_getElem?_getD,List.getElem?_eq_none (by omega)];exact Nat.zero_le _
def Smal (S:List Shp) (i:Nat):Prop:=(tabs S).sz.getD i 0<=64/\(un (.nest i) S Str.empty).length<=40/\(tabs S).dp.getD i 0<=4
theorem Wel.pre {S S1 S2:List Shp} {s:Shp} {f1 f2:List (Str × Kd)} (h:Wel S) (e:S=S1++s::S2) (ef:s.2=f1++f2) (hne:f1 ≠ []):Good (S1++[(s.1,f1)])/\Smal (S1++[(s.1,f1)]) S1.length/\f1.length<=6:=by
 subst e
 have hi:(S1++s::S2)[S1.length]?=some s:=by rw [List.getElem?_append_right (Nat.le_refl _),Nat.sub_self];rfl
 obtain⟨b1,b2,b3,b4⟩:=h.bd _ _ hi
 obtain⟨t1,t2,t3⟩:=tabs_at S1 s S2
 obtain⟨u1,u2,u3⟩:=tabs_at S1 (s.1,f1) []
 rw [ef,List.length_append] at b4
 have z1:(f1.map fun f=>f.2.size (tabs S1).sz).sum<=64:=by
  rw [t1,ef,List.map_append,List.sum_append] at b1;omega
 have hfit:=h.good.fit _ _ hi
 refine⟨Good.snoc (Good.pre h.good) hne (by show f1.length<=6;omega) (fun f hf=>hfit f (by rw [ef];exact List.mem_append_left _ hf)) (by show (f1.map _).sum<=1000;omega),⟨by rw [u1];exact z1,?_,?_⟩,by omega⟩
 ·have e1:un (.nest S1.length) (S1++[(s.1,f1)]) Str.empty=_:=u3 Str.empty
  have e2:un (.nest S1.length) (S1++s::S2) Str.empty=_:=t3 Str.empty
  rw [e2,ef,List.flatMap_append,List.length_append] at b2
  rw [e1]
  show (f1.flatMap _).length<=40
  omega
 ·rw [u2]
  rw [t2,ef,List.map_append] at b3
  have:maxL (f1.map fun f=>f.2.depth (tabs S1).dp)<=maxL ((f1.map fun f=>f.2.depth (tabs S1).dp)++(f2.map fun f=>f.2.depth (tabs S1).dp)):=maxL_bd fun x hx=>maxL_le (List.mem_append_left _ hx)
  show 1 + maxL (f1.map fun f=>f.2.depth (tabs S1).dp)<=4
  omega
theorem nmOf_get {S:List Shp} {i:Nat} {s:Shp} (h:S[i]?=some s):nmOf S i=s.1:=by
 unfold nmOf;rw [List.getD_eq_getElem?_getD,h];rfl
theorem nmOf_pre {S1 S2:List Shp} {i:Nat} (h:i < S1.length):nmOf (S1++S2) i=nmOf S1 i:=by
 have e:S1[i]?=some S1[i]:=List.getElem?_eq_getElem h
 rw [nmOf_get e,nmOf_get (by rw [List.getElem?_append_left h];exact e)]
theorem words_congr {nm nm':Nat->Str} {n:Nat} (h:∀ i,i < n->nm i=nm' i):∀ {k:Kd},k.Below n->k.words nm=k.words nm'
 | .num _,_=>rfl
 | .nest i,hk=>by show [nm i]=[nm' i];rw [h i hk]
 | .many m k,hk=>by show _::_::k.words nm=_::_::k.words nm';rw [words_congr h (k:=k) hk]
 | .pick is,hk=>by
  show _::is.map nm=_::is.map nm'
  rw [List.map_congr_left fun i hi=>h i (hk i hi)]
theorem nok_of {S:List Shp} (h:∀ s ∈ S,nameB s.1=true):NOk (nmOf S) S.length:=fun i hi=>by
 have e:S[i]?=some S[i]:=List.getElem?_eq_getElem hi
 rw [nmOf_get e];exact h _ (List.getElem_mem hi)
theorem nm_inj {S:List Shp} (h:(S.map (·.1)).Nodup) {i j:Nat} (hi:i < S.length) (hj:j < S.length) (e:nmOf S i=nmOf S j):i=j:=by
 have ei:S[i]?=some S[i]:=List.getElem?_eq_getElem hi
 have ej:S[j]?=some S[j]:=List.getElem?_eq_getElem hj
 rw [nmOf_get ei,nmOf_get ej] at e
 have hp:=List.pairwise_iff_getElem.mp h
 rcases Nat.lt_trichotomy i j with hl|hl|hl
 ·exact absurd (by rw [List.getElem_map,List.getElem_map];exact e) (hp i j (by rw [List.length_map];exact hi) (by rw [List.length_map];exact hj) hl)
 ·exact hl
 ·exact absurd (by rw [List.getElem_map,List.getElem_map];exact e.symm) (hp j i (by rw [List.length_map];exact hj) (by rw [List.length_map];exact hi) hl)
theorem named_nodup {S:List Shp} (h:(S.map (·.1)).Nodup):∀ {k:Kd},k.Fit S.length->(Kd.named (nmOf S) k).Nodup/\(Kd.named (nmOf S) k).length<=4/\∀ x ∈ Kd.named (nmOf S) k,∃ i,i < S.length/\x=nmOf S i:=by
 have hs:∀ {k:Kd},(∃ w,k=.num w/\1<=w/\w<=4)\/(∃ i,k=.nest i/\i < S.length)->(Kd.named (nmOf S) k).Nodup/\(Kd.named (nmOf S) k).length<=4/\∀ x ∈ Kd.named (nmOf S) k,∃ i,i < S.length/\x=nmOf S i:=by
  rintro k (⟨w,rfl,_⟩|⟨i,rfl,hi⟩)
  ·exact⟨List.Pairwise.nil,Nat.zero_le _,fun x hx=>by cases hx⟩
  ·exact⟨List.pairwise_singleton _ _,(by show 1<=4;decide),fun x hx=>⟨i,hi,List.mem_singleton.mp hx⟩⟩
 intro k hk
 cases k with
 | num w=>exact hs (.inl ⟨w,rfl,hk⟩)
 | nest i=>exact hs (.inr ⟨i,rfl,hk⟩)
 | many m k=>exact hs (k:=k) hk.2.2
 | pick is =>
  refine⟨?_,by show (is.map _).length<=4;rw [List.length_map];exact hk.2.1,fun x hx=>?_⟩
  ·show (is.map (nmOf S)).Pairwise (· ≠ ·)
   rw [List.pairwise_map]
   exact hk.2.2.1.imp_of_mem fun ha hb ne e=>ne (nm_inj h (hk.2.2.2 _ ha) (hk.2.2.2 _ hb) e)
  ·obtain⟨i,hi,rfl⟩:=List.mem_map.mp hx
   exact⟨i,hk.2.2.2 i hi,rfl⟩
theorem isSh_fd {n:Str} {ws:List Str} (h:nameB n=true):isShB (n::ws)=false:=by
 match ws with
 | []=>rfl
 | [y] =>
  show (decide (n=Str.ofString "shape") && nameB y)=false
  rw [decide_eq_false (name_ne h (by decide)),Bool.false_and]
 | _::_::_=>rfl
def spWh (c:Cl5) (K:Frag):Sp:=fun vs H Q _=>∃ (tl z:Addr) (sa:List Addr) (T:List Shp) (s:Shp),vs=[.ref tl]/\H tl=some (.lst ((sa++[z]).map V.ref))/\SW c K H (sa++[z]) (T++[s])/\(T.map (·.1)).Nodup/\T.length<=100/\∀ d H',Same H H'->H d=none->H' d=some (.dK (dk T sa))->Q (.ref d) H'
def spKin (c:Cl5) (K:Frag) (n:Nat):Sp:=fun vs H Q _=>∃ (a d:Addr) (kd:Kd) (sa:List Addr) (T:List Shp),vs=[.ref a,.ref d]/\kd.lv < n/\SqL K H a ((kd.words (nmOf T)).map V.str)/\H d=some (.dK (dk T sa))/\kd.Fit T.length/\NOk (nmOf T) T.length/\(T.map (·.1)).Nodup/\sa.length=T.length/\∀ k H',Same H H'->KO c K H' sa k kd->Q (.ref k) H'
def txt (S:List Shp):Str:=Str.join nlS ((txLines S).map (Str.join spS))
theorem name_pln {x:Str} (h:nameB x=true):Pln x:=by
 unfold nameB at h
 simp only [Bool.and_eq_true] at h
 have ha:x.cps.toList.all (fun c=>decide (c ∈ lettersS.cps.toList))=true:=h.1.2
 have hc:∀ c ∈ x.cps.toList,97<=c/\c<=122:=fun c hc=>(mem_letters c).mp (of_decide_eq_true (List.all_eq_true.mp ha c hc))
 exact⟨fun z=>by have:=hc _ z;omega,fun z=>by have:=hc _ z;omega⟩
theorem line_ok {S:List Shp} (hW:Wel S):∀ it ∈ itms S,(∀ w ∈ it.line (nmOf S),Pln w/\w.length<=6)/\(it.line (nmOf S)).length<=6/\it.line (nmOf S) ≠ []:=by
 intro it hit
 obtain⟨s,hs,hit⟩:=List.mem_flatMap.mp hit
 have hn:=nok_of hW.nm
 unfold itm1 at hit
 rcases List.mem_cons.mp hit with rfl|hit
 ·refine⟨fun w hw=>?_,(by show 2<=6;decide),(by simp [Itm.line])⟩
  simp only [Itm.line,List.mem_cons,List.not_mem_nil,or_false] at hw
  rcases hw with rfl|rfl
  ·exact⟨by unfold Pln;decide +kernel,by decide⟩
  ·exact⟨name_pln (hW.nm s hs),(name_len (hW.nm s hs)).2⟩
 ·obtain⟨f,hf,rfl⟩:=List.mem_map.mp hit
  obtain⟨i,hi⟩:=List.mem_iff_getElem?.mp hs
  have hfit:f.2.Fit S.length:=(hW.good.fit i s hi f hf).1.mono (Nat.le_of_lt (List.getElem?_eq_some_iff.mp hi).1)
  have hnm:=hW.fnm s hs f hf
  obtain⟨w6,w5⟩:=words_len hn hfit
  refine⟨fun w hw=>?_,(by show (f.2.words (nmOf S)).length + 1<=6;omega),(by simp [Itm.line])⟩
  rcases List.mem_cons.mp (show w ∈ f.1::f.2.words (nmOf S) from hw) with rfl|hw
  ·exact⟨name_pln hnm,(name_len hnm).2⟩
  ·exact⟨hfit.plain (fun j hj=>name_pln (hn j hj)) w hw,w6 w hw⟩
theorem txt_ok {S:List Shp} (hW:Wel S) (hne:S ≠ []):(itms S).length<=56/\(∀ it ∈ itms S,(Str.join spS (it.line (nmOf S))).length<=100/\Txt.split (Str.join spS (it.line (nmOf S))) spS=it.line (nmOf S))/\(txt S).length<=6000/\Txt.split (txt S) nlS=(itms S).map fun it=>Str.join spS (it.line (nmOf S)):=by
 have hl:=line_ok hW
 have h30:(itms S).length<=56:=by
  unfold itms
  rw [List.length_flatMap]
  have h1:(S.map fun s=>(itm1 s).length).sum<=S.length * 7:=sum_le fun s hs=>by
   obtain⟨i,hi⟩:=List.mem_iff_getElem?.mp hs
   have:=(hW.bd i s hi).2.2.2
   unfold itm1
   rw [List.length_cons,List.length_map];omega
  have:=hW.len
  omega
 have hrow:∀ it ∈ itms S,(Str.join spS (it.line (nmOf S))).length<=100:=fun it hit=>by
  obtain⟨h1,h2,_⟩:=hl it hit
  have h3:(Str.join spS (it.line (nmOf S))).length<=_:=join_len (c:=32) (m:=6) fun w hw=>(h1 w hw).2
  omega
 have e:(txLines S).map (Str.join spS)=(itms S).map fun it=>Str.join spS (it.line (nmOf S)):=by rw [itms_lines,List.map_map];rfl
 refine⟨h30,fun it hit=>⟨hrow it hit,split_line (hl it hit).2.2 fun w hw=>((hl it hit).1 w hw).1⟩,?_,?_⟩
 ·unfold txt
  rw [e]
  have h3:(Str.join nlS ((itms S).map fun it=>Str.join spS (it.line (nmOf S)))).length<=_:=join_len (c:=10) (m:=100) (ws:=(itms S).map fun it=>Str.join spS (it.line (nmOf S))) fun w hw=>by
   obtain⟨it,hit,rfl⟩:=List.mem_map.mp hw
   exact hrow it hit
  rw [List.length_map] at h3
  omega
 ·unfold txt
  rw [split_lines,e]
  ·rw [itms_lines]
   intro z
   have h0:=itms_ne hne
   rw [List.map_eq_nil_iff] at z
   rw [z] at h0
   exact absurd h0 (by decide)
  ·intro l hl' w hw
   rw [itms_lines] at hl'
   obtain⟨it,hit,rfl⟩:=List.mem_map.mp hl'
   exact ((hl it hit).1 w hw).1
theorem snoc_of {sa:List Addr} {T:List Shp} {s:Shp} (h:sa.length=(T++[s]).length):∃ sa0 z,sa=sa0++[z]:=by
 rcases List.eq_nil_or_concat sa with rfl|⟨sa0,z,rfl⟩
 ·rw [List.length_append] at h;exact absurd h (by simp)
 ·exact⟨sa0,z,List.concat_eq_append ..⟩
def rowT (S:List Shp) (it:Itm):Str:=Str.join spS (it.line (nmOf S))
def c1L:Str:=Str.ofString "bfgjkqvxyzwh"
def c1 (a k:Nat):Nat:=c1L.cps.toList.getD ((a + k) % 12) 0
def nm1 (tl:Str) (a:Nat):List Str:=(List.range 12).map fun k=>(⟨#[c1 a k]⟩ : Str)++tl++Str.ofString "x"
def nm2 (a:Nat):List Str:=((List.range 6).map fun k=>Txt.slice (Str.ofString "zyxwvu") none (some (1 + (((a + k) % 6:Nat):Int))))++(["yz","yyyyyy","y","yx","numz","tagszz"]:List Str)
theorem Drawn.free {p l:Addr} {H H1:Hp} (d:Drawn p H H1) (h:H1 l=none):H l=none:=by
 cases e:H l with
 | none=>rfl
 | some o =>
  by_cases z:l=p
  ·obtain⟨x,y,w,q⟩:=d.1
   rw [z,q] at h;cases h
  ·rw [d.2 l o z e] at h;cases h
theorem Wel.nil:Wel []:=⟨⟨fun i s h=>by simp at h,fun i s h=>by simp at h,fun i s h=>by simp at h,fun i=>by show (([]:List Nat).getD i 0)<=1000;simp⟩,fun s h=>by simp at h,fun s h=>by simp at h,List.Pairwise.nil,fun s h=>by simp at h,Nat.zero_le _,fun i s h=>by simp at h⟩
theorem Wel.snoc {S:List Shp} {nm:Str} {fs:List (Str × Kd)} (h:Wel S) (h1:nameB nm=true) (h2:nm ∉ S.map (·.1)) (h3:S.length<=7) (h4:fs ≠ []) (h5:fs.length<=6) (h6:∀ f ∈ fs,f.2.Fit S.length/\nameB f.1=true) (h7:(fs.map (·.1)).Nodup) (h8:Smal (S++[(nm,fs)]) S.length):Wel (S++[(nm,fs)]):=by
 have hz:=h8.1
 rw [(tabs_at S (nm,fs) []).1] at hz
 refine⟨Good.snoc h.good h4 (by show fs.length<=6;omega) (fun f hf=>⟨(h6 f hf).1,name_len (h6 f hf).2⟩) (by show (fs.map _).sum<=1000;exact Nat.le_trans hz (by decide)),fun s hs=>?_,fun s hs=>?_,?_,fun s hs=>?_,by rw [List.length_append,List.length_singleton];omega,fun i s e=>?_⟩
 ·rcases List.mem_append.mp hs with hs|hs
  ·exact h.nm s hs
  ·rw [List.mem_singleton.mp hs];exact h1
 ·rcases List.mem_append.mp hs with hs|hs
  ·exact h.fnm s hs
  ·rw [List.mem_singleton.mp hs];exact fun f hf=>(h6 f hf).2
 ·rw [List.map_append,List.nodup_append]
  refine⟨h.nd,List.pairwise_singleton _ _,fun a ha b hb e=>h2 ?_⟩
  rw [← show b=nm from List.mem_singleton.mp hb,← e];exact ha
 ·rcases List.mem_append.mp hs with hs|hs
  ·exact h.fnd s hs
  ·rw [List.mem_singleton.mp hs];exact h7
 ·rcases get_snoc e with e|⟨rfl,rfl⟩
  ·have hi:i < S.length:=(List.getElem?_eq_some_iff.mp e).1
   obtain⟨t1,t2,t3⟩:=tabs_lo (R:=[(nm,fs)]) hi
   obtain⟨b1,b2,b3,b4⟩:=h.bd i s e
   refine⟨by rw [t1];exact b1,?_,by rw [t2];exact b3,b4⟩
   have e1:un (.nest i) (S++[(nm,fs)]) Str.empty=un (.nest i) S Str.empty:=by
    show ((tabs (S++[(nm,fs)])).ut.getD i fun _=>[]) Str.empty=((tabs S).ut.getD i fun _=>[]) Str.empty
    rw [t3]
   rw [e1];exact b2
  ·exact⟨h8.1,h8.2.1,h8.2.2,h5⟩
theorem st_ex {p:Addr} {H:Hp} (h:St3 H p):∃ o,H p=some o:=by
 obtain⟨x,y,w,q⟩:=h
 exact⟨_,q⟩
theorem join_no {c d:Nat} (hcd:c ≠ d):∀ {ys:List Str},(∀ y ∈ ys,c ∉ y.cps.toList)->c ∉ (Str.join ⟨#[d]⟩ ys).cps.toList
 | [],_,h=>by cases h
 | [y],hy,h=>hy y (List.mem_cons_self ..) h
 | y::z::ys,hy,h=>by
  have e:(Str.join ⟨#[d]⟩ (y::z::ys)).cps.toList=y.cps.toList++([d]++(Str.join ⟨#[d]⟩ (z::ys)).cps.toList):=by
   show (y++⟨#[d]⟩++Str.join ⟨#[d]⟩ (z::ys)).cps.toList=_
   rw [Str.cps_append,Str.cps_append,Array.toList_append,Array.toList_append,List.append_assoc]
  rw [e] at h
  rcases List.mem_append.mp h with h|h
  ·exact hy y (List.mem_cons_self ..) h
  ·rcases List.mem_append.mp h with h|h
   ·exact hcd (List.mem_singleton.mp h)
   ·exact join_no hcd (fun w hw=>hy w (List.mem_cons_of_mem _ hw)) h
theorem pe_bmK {X:Cx} {K:Frag} {o e:Expr} {es:List Expr} {name:Str} {T id:String} {apos cpos:Pos} {r:V->List V->Hp->VK->Prop} {to:TE} {t:TA} (hK:X.K=K) (pa:PlainAttrs T) (slot:Slot T name id) (hty:typeOf (.builtin id)=pure (.type "method_descriptor")) (hm:MtR X id r) (ho:PE X o to) (ha:PA X (e::es) t)
  (hbase:attributeBase o name X.env (eval o X.env)=eval o X.env:=by rfl)
  (hfew:((backTo cpos (starEach (e::es) X.env)).all (fun x=>!x.1) && (backToKw cpos (keywordEach [] X.env)).all (fun x=>x.1.isSome)
   && decide ((e::es).length + ([]:List Keyword).length + (if ([]:List Keyword).isEmpty then 0 else 1) < 30))=true:=by rfl)
  (hline:(apos.endLine == cpos.line)=true:=by rfl) (hs:starEach (e::es) X.env=(false,eval e X.env)::starEach es X.env:=by rfl) (hplain:(backTo cpos (starEach es X.env)).any (·.1)=false:=by rfl) :
  PE X (.Call (.Attribute o name apos) (e::es) [] cpos) (tBM K T r to t):=by
 subst hK
 exact pe_bm pa slot hty hm ho ha hbase hfew hline hs hplain
theorem mt_joinTK {X:Cx} {K:Frag} (hK:X.K=K):MtR X "str.join" (fun x vs H Q=>∃ (sep:Str) (a:Addr) (ys:List Str),x=.str sep/\vs=[.ref a]/\SqL K H a (ys.map V.str)/\(ys.map (·.length)).sum + ys.length * sep.length<=16777216/\Q (.str (Str.join sep ys)) H):=hK ▸ mt_joinT
def RO (c:Cl5) (CS:Addr) (K:Frag) (H:Hp) (ra:Addr) (sa:List Addr) (S:List Shp):Prop:=∃ dx t,H ra=some (.ins CS dx [("shapes",.ref t)])/\SqT K H t (sa.map V.ref)/\SW c K H sa S
def spMn (c:Cl5) (CS:Addr) (K:Frag):Sp:=fun vs H Q _=>∃ (ra z:Addr) (sa:List Addr) (S:List Shp),vs=[.ref ra]/\RO c CS K H ra (sa++[z]) S/\Q (.ref z) H
theorem pe_xfldK {X:Cx} {K:Frag} {o:Expr} {f:Str} {pos:Pos} {ta:TE} (hK:X.K=K) (he:PE X o ta) (hb:attributeBase o f X.env (eval o X.env)=eval o X.env):PE X (.Attribute o f pos) (tXfld K ta f):=hK ▸ pe_xfld he hb
def spRE (K:Frag):Sp:=fun vs H Q _=>∃ (e:Addr) (v:V) (C R fI:Addr) (dx:Option Addr),vs=[.ref e,v]/\H e=some (Ex0 e C dx)/\ExCl K C R fI/\Q .non H
structure Fl (CN e dx:Addr) (H H':Hp) (fs:List (Str × V)):Prop where
 ne:dx ≠ e
 fr:H dx=none
 kp:∀ b o,b ≠ e->H b=some o->H' b=some o
 ae:H' e=some (Ex0 e CN (some dx))
 ad:H' dx=some (XD dx fs)
theorem Fl.first {CN e dx:Addr} {H:Hp} {f:Str} {y:V} (he:H e=some (Ex0 e CN none)) (hd:H dx=none):Fl CN e dx H (upd (upd H dx (XD dx [(f,y)])) e (Ex0 e CN (some dx))) [(f,y)]:=by
 have ne:dx ≠ e:=fun z=>by rw [z,he] at hd;cases hd
 refine⟨ne,hd,fun b o n q=>?_,upd_same,?_⟩
 ·rw [upd_ne n,upd_ne (ne_of_none q hd)];exact q
 ·rw [upd_ne ne,upd_same]
theorem Fl.next {CN e dx:Addr} {H H':Hp} {fs fs':List (Str × V)} (h:Fl CN e dx H H' fs):Fl CN e dx H (upd H' dx (XD dx fs')) fs' :=
 ⟨h.ne,h.fr,fun b o n q=>by rw [upd_ne (ne_of_none q h.fr)];exact h.kp b o n q,by rw [upd_ne (Ne.symm h.ne)];exact h.ae,upd_same⟩
def spXn (CN:Addr) (ns:List Str):Sp:=fun vs H Q _=>∃ (e:Addr) (xs:List V),vs=.ref e::xs/\xs.length=ns.length/\H e=some (Ex0 e CN none)/\∀ dx H',Fl CN e dx H H' (ns.zip xs)->Q .non H'
theorem Fl.from {CN e dx:Addr} {H H':Hp} {fs:List (Str × V)} (he:H e=none) (h:Fl CN e dx (upd H e (Ex0 e CN none)) H' fs):Same H H':=fun b o q=>by
 have n:=ne_of_none q he
 exact h.kp b o n (by rw [upd_ne n];exact q)
theorem Fl.fly {CN e dx:Addr} {H H':Hp} {fs:List (Str × V)} (he:H e=none) (h:Fl CN e dx (upd H e (Ex0 e CN none)) H' fs):Same H (upd H' e (ExF e CN (some dx)))/\upd H' e (ExF e CN (some dx)) e=some (ExF e CN (some dx))/\upd H' e (ExF e CN (some dx)) dx=some (XD dx fs):=by
 refine⟨fun b o q=>?_,upd_same,?_⟩
 ·rw [upd_ne (ne_of_none q he)];exact h.from he b o q
 ·rw [upd_ne h.ne];exact h.ad
def XAt (CN:Addr) (H:Hp) (e:Addr) (fs:List (Str × V)):Prop:=∃ dx,H e=some (ExF e CN (some dx))/\H dx=some (XD dx fs)
theorem fly_at {CN e dx:Addr} {H H1 H2:Hp} {fs:List (Str × V)} (g:Same H H1) (he:H1 e=none) (F:Fl CN e dx (upd H1 e (Ex0 e CN none)) H2 fs):Same H (upd H2 e (ExF e CN (some dx)))/\H e=none/\XAt CN (upd H2 e (ExF e CN (some dx))) e fs:=by
 obtain⟨g2,k1,k2⟩:=F.fly he
 exact⟨g.trans g2,g.free he,dx,k1,k2⟩
def Rz (CN:Addr) (H:Hp) (E:XK) (fs:List (Str × V)):Prop:=∀ e H',Same H H'->H e=none->XAt CN H' e fs->E (.ref e) none H'
def spNewX (c:Cl5) (CT CM:Addr) (K:Frag):Sp:=fun vs H Q E=>∃ (tl:Addr) (li:V) (nm:Str) (sa:List Addr) (T:List Shp),vs=[.ref tl,li,.str nm]/\H tl=some (.lst (sa.map V.ref))/\SW c K H sa T/\(∀ s ∈ T,s.2 ≠ [])/\T.length<=8 ∧
 (nm ∉ T.map (·.1)->T.length ≠ 8->∀ H',Same H H'->Q .non H')/\(nm ∈ T.map (·.1)->Rz CT H E [("line",li),("name",.str nm)])/\(nm ∉ T.map (·.1)->T.length=8->Rz CM H E [("line",li)])
def TooB (S:List Shp) (i:Nat):Prop:=64 < (tabs S).sz.getD i 0\/40 < (un (.nest i) S Str.empty).length\/4 < (tabs S).dp.getD i 0
def spTMX (c:Cl5) (K:Frag) (r:Nat):Sp:=fun vs H Q _=>∃ (a:Addr) (i:Nat) (sa:List Addr) (S:List Shp),vs=[.ref a]/\sa[i]?=some a/\SW c K H sa S/\(∀ s,S[i]?=some s->s.2.length<=100) ∧
 ((∃ s,S[i]?=some s/\6 < s.2.length/\∀ H',Same H H'->Q (.bl true) H') ∨
   (2 * i + 2<=r/\8 * r<=200/\Good S/\(Smal S i->∀ H',Same H H'->Q (.bl false) H')/\(TooB S i->∀ H',Same H H'->Q (.bl true) H')))
def spWFX (c:Cl5) (CM:Addr) (K:Frag) (r:Nat):Sp:=fun vs H Q E=>∃ (tl a z:Addr) (x:V) (sa:List Addr) (T:List Shp) (s:Shp) (fn:Str) (kd:Kd),vs=[.ref tl,x,.ref a]/\H tl=some (.lst ((sa++[z]).map V.ref))/\SW c K H (sa++[z]) (T++[s])/\SqL K H a ((fn::kd.words (nmOf T)).map V.str)/\kd.Fit T.length/\NOk (nmOf T) T.length/\(T.map (·.1)).Nodup/\T.length<=100/\s.2.length<=50 ∧
 ((6 < (s.2++[(fn,kd)]).length/\Rz CM H E [("line",x)]) ∨
   (2 * T.length + 2<=r/\8 * r<=200/\Good (T++[(s.1,s.2++[(fn,kd)])])/\(Smal (T++[(s.1,s.2++[(fn,kd)])]) T.length->∀ y H',Same H H'->SO c K H' sa y (s.1,s.2++[(fn,kd)])->Q (.ref y) H')/\(TooB (T++[(s.1,s.2++[(fn,kd)])]) T.length->Rz CM H E [("line",x)])))
def spNFX (c:Cl5) (CF CT CU:Addr) (K:Frag):Sp:=fun vs H Q E=>∃ (tl a z:Addr) (x:V) (sa:List Addr) (T:List Shp) (s:Shp) (ws:List Str),vs=[.ref tl,x,.ref a]/\H tl=some (.lst ((sa++[z]).map V.ref))/\SW c K H (sa++[z]) (T++[s])/\SqL K H a (ws.map V.str)/\s.2.length<=100/\NOk (nmOf T) T.length/\(T.map (·.1)).Nodup/\T.length<=100 ∧
 ((ws=(["vh","num","5"]:List Str)/\Rz CF H E [("line",x)]) ∨
   (ws=(["vh","nosh"]:List Str)/\("vh" : Str) ∉ s.2.map (·.1)/\("nosh" : Str) ∉ T.map (·.1)/\Rz CU H E [("line",x),("name",.str "nosh")]) ∨
   ∃ (fn:Str) (kd:Kd),ws=fn::kd.words (nmOf T)/\nameB fn=true/\kd.Fit T.length/\(fn ∉ s.2.map (·.1)->∀ H',Same H H'->Q .non H')/\(fn ∈ s.2.map (·.1)->Rz CT H E [("line",x),("name",.str fn)]))
def no5 (K:Frag) (pre:List Str):Sp:=fun vs H Q _=>∃ a:Addr,vs=[.ref a]/\SqL K H a ((pre++(["num","5"]:List Str)).map V.str)/\∀ H',Same H H'->Q (.bl false) H'
def spSgX (K:Frag):Sp:=fun vs H Q E=>spSg K vs H Q E\/no5 K [] vs H Q E
def spKdX (K:Frag):Sp:=fun vs H Q E=>spKd K vs H Q E\/no5 K [] vs H Q E
def spFlX (K:Frag):Sp:=fun vs H Q E=>spFl K vs H Q E\/no5 K ["vh"] vs H Q E
theorem five_no:boundV (numB (Str.ofString "5")) 1 4=none:=by decide +kernel
theorem dk_no {T:List Shp} {sa:List Addr} {x:Str} (h:x ∉ T.map (·.1)):valV (dk T sa) (.inr x)=none:=by
 unfold valV
 rw [List.find?_eq_none.mpr]
 ·rfl
 ·intro kv hkv z
  obtain⟨s,hs,e⟩:=dk_keys kv hkv
  have z2:kv.1=.inr x:=of_decide_eq_true z
  rw [e] at z2
  exact h (List.mem_map.mpr ⟨s,hs,Sum.inr.inj z2⟩)
theorem nosh_ok:nameB (Str.ofString "nosh")=true/\nameB (Str.ofString "vh")=true:=by decide +kernel
theorem Rz.from {CN:Addr} {H H1:Hp} {E:XK} {fs:List (Str × V)} (h:Rz CN H E fs) (g:Same H H1):Rz CN H1 E fs:=fun e H' g' he x=>h e H' (g.trans g') (g.free he) x
def Bad (CF CT CU CM:Addr) (S:List Shp) (bw:List Str) (H:Hp) (E:XK):Prop :=
 (∃ nm,bw=[Str.ofString "shape",nm]/\nameB nm=true/\((nm ∈ S.map (·.1)/\Rz CT H E [("line",.int (itms S).length),("name",.str nm)])\/(nm ∉ S.map (·.1)/\S.length=8/\Rz CM H E [("line",.int (itms S).length)]))) ∨
 (bw=(["vh","num","5"]:List Str)/\Rz CF H E [("line",.int (itms S).length)]) ∨
 (∃ T s,S=T++[s]/\bw=(["vh","nosh"]:List Str)/\("vh" : Str) ∉ s.2.map (·.1)/\("nosh" : Str) ∉ T.map (·.1)/\Rz CU H E [("line",.int (itms S).length),("name",.str "nosh")]) ∨
 ∃ (T:List Shp) (s:Shp) (fn:Str) (kd:Kd),S=T++[s]/\bw=fn::kd.words (nmOf T)/\nameB fn=true/\kd.Fit T.length/\((fn ∈ s.2.map (·.1)/\Rz CT H E [("line",.int (itms S).length),("name",.str fn)])\/(fn ∉ s.2.map (·.1)/\(6 < (s.2++[(fn,kd)]).length\/(Good (T++[(s.1,s.2++[(fn,kd)])])/\TooB (T++[(s.1,s.2++[(fn,kd)])]) T.length))/\Rz CM H E [("line",.int (itms S).length)]))
structure Deep (S:List Shp) (nm fn:Str) (kd:Kd) (rest tail:List Str):Prop where
 t:tail=Str.join spS [Str.ofString "shape",nm]::Str.join spS (fn::kd.words (nmOf S))::rest
 n:nameB nm=true
 nn:nm ∉ S.map (·.1)
 l:S.length < 8
 f:nameB fn=true
 ft:kd.Fit S.length
 g:Good (S++[(nm,[(fn,kd)])])
 m:TooB (S++[(nm,[(fn,kd)])]) S.length
def spRdX (c:Cl5) (CS CF CT CU CM:Addr) (K:Frag) (r:Nat):Sp:=fun vs H Q E=>∃ (S:List Shp) (tail:List Str),vs=[.str (Str.join nlS ((itms S).map (rowT S)++tail))]/\Wel S/\S ≠ []/\18<=r/\8 * r<=200/\tail.length<=20/\(∀ x ∈ tail,10 ∉ x.cps.toList/\x.length<=100) ∧
 ((tail=[]/\∀ (a dx t:Addr) (sa:List Addr) H',Same H H'->H' a=some (.ins CS dx [("shapes",.ref t)])->SqT K H' t (sa.map V.ref)->SW c K H' sa S->Q (.ref a) H') ∨
   (∃ bw rest,tail=Str.join spS bw::rest/\bw ≠ []/\bw.length<=10/\(∀ w ∈ bw,32 ∉ w.cps.toList/\w.length<=100)/\Bad CF CT CU CM S bw H E) ∨
   ∃ (nm fn:Str) (kd:Kd) (rest:List Str),Deep S nm fn kd rest tail/\Rz CM H E [("line",.int ((itms S).length + 1:Nat))])
theorem stAt_le {S:List Shp} {j:Nat} {T:List Shp} (h:StAt S j T):j<=(itms S).length:=by
 rcases h with⟨S2,e,ej⟩|⟨S1,s,S2,f1,f2,e,ef,_,ej⟩
 ·rw [e,ej];unfold itms;rw [List.flatMap_append,List.length_append];omega
 ·rw [e,ej]
  unfold itms
  rw [List.flatMap_append,List.length_append,List.flatMap_cons,List.length_append]
  have:(itm1 s).length=s.2.length + 1:=by unfold itm1;rw [List.length_cons,List.length_map]
  rw [this,ef,List.length_append]
  omega
theorem rows_ok {S:List Shp} {tail:List Str} (hW:Wel S) (hne:S ≠ []) (h20:tail.length<=20) (ht:∀ x ∈ tail,10 ∉ x.cps.toList/\x.length<=100):(Str.join nlS ((itms S).map (rowT S)++tail)).length<=8000/\Txt.split (Str.join nlS ((itms S).map (rowT S)++tail)) nlS=(itms S).map (rowT S)++tail:=by
 obtain⟨h56,hrow,_,_⟩:=txt_ok hW hne
 have hl:=line_ok hW
 have hall:∀ x ∈ (itms S).map (rowT S)++tail,10 ∉ x.cps.toList/\x.length<=100:=fun x hx=>by
  rcases List.mem_append.mp hx with hx|hx
  ·obtain⟨it,hit,rfl⟩:=List.mem_map.mp hx
   exact⟨join_no (by decide) fun y hy=>((hl it hit).1 y hy).1.2,(hrow it hit).1⟩
  ·exact ht x hx
 have h3:(Str.join nlS ((itms S).map (rowT S)++tail)).length<=_:=join_len (c:=10) (m:=100) fun w hw=>(hall w hw).2
 rw [List.length_append,List.length_map] at h3
 refine⟨by omega,split_join (c:=10) ?_ fun y hy=>(hall y hy).1⟩
 intro z
 have h0:=itms_ne hne
 rw [List.append_eq_nil_iff,List.map_eq_nil_iff] at z
 rw [z.1] at h0
 exact absurd h0 (by decide)
theorem too_smal {S:List Shp} {i:Nat} (h:Smal S i) (t:TooB S i):False:=by
 obtain⟨b1,b2,b3⟩:=h
 rcases t with h|h|h <;> omega
structure XN4 (K:Frag) (CF CT CU CM:Addr):Prop where
 mf:XNot K CM CF
 mu:XNot K CM CU
 mt:XNot K CM CT
 fm:XNot K CF CM
 fu:XNot K CF CU
 ft:XNot K CF CT
 um:XNot K CU CM
 uf:XNot K CU CF
 ut:XNot K CU CT
 tm:XNot K CT CM
 tf:XNot K CT CF
 tu:XNot K CT CU
def BadP (S:List Shp) (bw:List Str) (k:Str):Prop :=
 (∃ nm,bw=[Str.ofString "shape",nm]/\nameB nm=true/\((nm ∈ S.map (·.1)/\k = "twice")\/(nm ∉ S.map (·.1)/\S.length=8/\k = "much"))) ∨
 (bw=(["vh","num","5"]:List Str)/\k = "form") ∨
 (∃ T s,S=T++[s]/\bw=(["vh","nosh"]:List Str)/\("vh" : Str) ∉ s.2.map (·.1)/\("nosh" : Str) ∉ T.map (·.1)/\k = "unknown") ∨
 ∃ (T:List Shp) (s:Shp) (fn:Str) (kd:Kd),S=T++[s]/\bw=fn::kd.words (nmOf T)/\nameB fn=true/\kd.Fit T.length/\((fn ∈ s.2.map (·.1)/\k = "twice")\/(fn ∉ s.2.map (·.1)/\(6 < (s.2++[(fn,kd)]).length\/(Good (T++[(s.1,s.2++[(fn,kd)])])/\TooB (T++[(s.1,s.2++[(fn,kd)])]) T.length))/\k = "much"))
def KnX (CF CT CU CM:Addr) (n:Nat) (k:Str) (CN:Addr) (fs:List (Str × V)):Prop:=(k = "much"/\CM=CN/\fs=([("line",.int n)]:List (Str × V)))\/(k = "form"/\CF=CN/\fs=([("line",.int n)]:List (Str × V)))\/(∃ nm:Str,k = "unknown"/\CU=CN/\fs=([("line",.int n),("name",.str nm)]:List (Str × V)))\/(∃ nm:Str,k = "twice"/\CT=CN/\fs=([("line",.int n),("name",.str nm)]:List (Str × V)))
theorem bad_of {CF CT CU CM:Addr} {S:List Shp} {bw:List Str} {k:Str} {H:Hp} {E:XK} (h:BadP S bw k) (hE:∀ CN fs,KnX CF CT CU CM (itms S).length k CN fs->Rz CN H E fs):Bad CF CT CU CM S bw H E:=by
 rcases h with⟨nm,rfl,h1,h|⟨h2,h3,h⟩⟩|⟨rfl,h⟩|⟨T,s,e,rfl,h1,h2,h⟩|⟨T,s,fn,kd,e,rfl,h1,h2,⟨h3,h⟩|⟨h3,h4,h⟩⟩
 ·exact .inl ⟨nm,rfl,h1,.inl ⟨h.1,hE _ _ (.inr (.inr (.inr ⟨nm,h.2,rfl,rfl⟩)))⟩⟩
 ·exact .inl ⟨nm,rfl,h1,.inr ⟨h2,h3,hE _ _ (.inl ⟨h,rfl,rfl⟩)⟩⟩
 ·exact .inr (.inl ⟨rfl,hE _ _ (.inr (.inl ⟨h,rfl,rfl⟩))⟩)
 ·exact .inr (.inr (.inl ⟨T,s,e,rfl,h1,h2,hE _ _ (.inr (.inr (.inl ⟨_,h,rfl,rfl⟩)))⟩))
 ·exact .inr (.inr (.inr ⟨T,s,fn,kd,e,rfl,h1,h2,.inl ⟨h3,hE _ _ (.inr (.inr (.inr ⟨fn,h,rfl,rfl⟩)))⟩⟩))
 ·exact .inr (.inr (.inr ⟨T,s,fn,kd,e,rfl,h1,h2,.inr ⟨h3,h4,hE _ _ (.inl ⟨h,rfl,rfl⟩)⟩⟩))
def spTd (K:Frag):Sp:=fun vs H Q _=>∃ (a:Addr) (S:List Shp) (tail:List Str),vs=[.ref a]/\SqL K H a (((itms S).map (rowT S)++tail).map V.str)/\Wel S/\S ≠ []/\tail.length<=20/\(∀ x ∈ tail,10 ∉ x.cps.toList/\x.length<=100) ∧
 ((tail=[]/\∀ H',Same H H'->Q .non H') ∨
   (∃ bw rest k,tail=Str.join spS bw::rest/\bw ≠ []/\bw.length<=10/\(∀ w ∈ bw,32 ∉ w.cps.toList/\w.length<=100)/\BadP S bw k/\∀ t H',Same H H'->SqT K H' t [.str k,.int (itms S).length]->Q (.ref t) H') ∨
   ∃ (nm fn:Str) (kd:Kd) (rest:List Str),Deep S nm fn kd rest tail/\∀ t H',Same H H'->SqT K H' t [.str "much",.int ((itms S).length + 1:Nat)]->Q (.ref t) H')
end K13
namespace K13
open PySem L2
set_option hygiene false in
local macro_rules | `(tactic| walk_at "sc") => `(tactic| exact ⟨rfl, rfl, rfl, by decide +kernel, rfl, by decide +kernel, by decide +kernel⟩)
set_option hygiene false in
local macro_rules | `(tactic| walk_at "hr") => `(tactic| have hr := hr0.mono (Nat.le_succ _))
set_option hygiene false in
local macro_rules | `(tactic| walk_at "b1") => `(tactic| exact fun _ _ _ _ _ _ us hl => by obtain ⟨a0, rfl⟩ := ls1 hl; rfl)
set_option hygiene false in
local macro_rules | `(tactic| walk_at "b2") => `(tactic| exact fun _ _ _ _ _ _ us hl => by obtain ⟨a0, a1, rfl⟩ := ls2 hl; rfl)
set_option hygiene false in
local macro_rules | `(tactic| walk_at "b3") => `(tactic| exact fun _ _ _ _ _ _ us hl => by obtain ⟨a0, a1, a2, rfl⟩ := ls3 hl; rfl)
set_option hygiene false in
local macro_rules | `(tactic| walk_at "o") => `(tactic| first | exact Or.inl rfl | exact Or.inr rfl)
set_option hygiene false in
local macro_rules | `(tactic| w_cond $s:ident) => `(tactic| (obtain ⟨M, C, Ua, Ub, Uc, Ud, Ue, Uf, tRE, VI, T_NamedTwice, T_NoShapes, T_TooMuch, T_UnknownShape⟩ := Z; first | refine F.ok $s (fun vs H Q E h => ?_) (fun cdv A outer s0 H vs Q E hr0 h => ?_) | refine F.okE $s (fun vs H Q E h => ?_) (fun cdv A outer s0 H vs Q E hr0 h => ?_)))
def fit1 (n:Nat):Kd->Bool
 | .num w=>decide (1<=w/\w<=4)
 | .nest i=>decide (i < n)
 | _=>false
def fitBk (n:Nat):Kd->Bool
 | .num w=>decide (1<=w/\w<=4)
 | .nest i=>decide (i < n)
 | .many m k=>decide (1<=m/\m<=6) && fit1 n k
 | .pick is=>decide (2<=is.length/\is.length<=4) && decide is.Nodup && is.all fun i=>decide (i < n)
theorem fit_of {n:Nat} : ∀ {k:Kd},fitBk n k=true->k.Fit n
 | .num w,h=>(of_decide_eq_true h : 1<=w/\w<=4)
 | .nest i,h=>(of_decide_eq_true h:i < n)
 | .many m k,h=>by
  obtain⟨h1,h2⟩:=Bool.and_eq_true_iff.mp h
  have h1':=of_decide_eq_true h1
  refine⟨h1'.1,h1'.2,?_⟩
  cases k with
  | num w=>exact .inl ⟨w,rfl,of_decide_eq_true h2⟩
  | nest i=>exact .inr ⟨i,rfl,of_decide_eq_true h2⟩
  | many _ _=>cases h2
  | pick _=>cases h2
 | .pick is,h=>by
  obtain⟨h1,h3⟩:=Bool.and_eq_true_iff.mp h
  obtain⟨h1,h2⟩:=Bool.and_eq_true_iff.mp h1
  have h1':=of_decide_eq_true h1
  exact⟨h1'.1,h1'.2,of_decide_eq_true h2,fun i hi=>of_decide_eq_true (List.all_eq_true.mp h3 i hi)⟩
def welB (S:List Shp):Bool:=decide (S.length<=8) && (S.all (fun s=>nameB s.1) && (S.all (fun s=>s.2.all fun f=>nameB f.1) && (decide ((S.map (·.1)).Nodup) && (S.all (fun s=>decide ((s.2.map (·.1)).Nodup)) && ((List.range S.length).all fun i=>S[i]?.all fun s=>!s.2.isEmpty && (decide (s.2.length<=6) && (s.2.all (fun f=>fitBk i f.2) && (decide ((tabs S).sz.getD i 0<=64) && (decide ((un (.nest i) S Str.empty).length<=40) && decide ((tabs S).dp.getD i 0<=4))))))))))
theorem wel_of {S:List Shp} (h:welB S=true):Wel S:=by
 unfold welB at h
 simp only [Bool.and_eq_true,decide_eq_true_eq,List.all_eq_true,List.mem_range] at h
 obtain⟨h1,h2,h3,h4,h5,h6⟩:=h
 have at_:∀ (i:Nat) (s:Shp),S[i]?=some s->s.2 ≠ []/\s.2.length<=6/\(∀ f ∈ s.2,f.2.Fit i)/\(tabs S).sz.getD i 0<=64/\(un (.nest i) S Str.empty).length<=40/\(tabs S).dp.getD i 0<=4:=fun i s e=>by
  have hi:i < S.length:=(List.getElem?_eq_some_iff.mp e).1
  have:=h6 i hi
  rw [e] at this
  simp only [Option.all_some,Bool.and_eq_true,decide_eq_true_eq,List.all_eq_true,Bool.not_eq_true',List.isEmpty_eq_false_iff] at this
  obtain⟨a1,a2,a3,a4,a5,a6⟩:=this
  exact⟨a1,a2,fun f hf=>fit_of (a3 f hf),a4,a5,a6⟩
 have hsz:∀ i,(tabs S).sz.getD i 0<=1000:=fun i=>by
  by_cases hi:i < S.length
  ·exact Nat.le_trans (at_ i _ (List.getElem?_eq_getElem hi)).2.2.2.1 (by decide)
  ·rw [List.getD_eq_getElem?_getD,List.getElem?_eq_none (by rw [(tabs_len S).1];omega)];exact Nat.zero_le _
 exact⟨⟨fun i s e=>(at_ i s e).1,fun i s e=>(at_ i s e).2.1,fun i s e f hf=>⟨(at_ i s e).2.2.1 f hf,name_len (h3 s (List.mem_of_getElem? e) f hf)⟩,hsz⟩,h2,h3,h4,h5,h1,fun i s e=>⟨(at_ i s e).2.2.2.1,(at_ i s e).2.2.2.2.1,(at_ i s e).2.2.2.2.2,(at_ i s e).2.1⟩⟩
def sgL:List Str:=["a","c","d","e","f","g","h","i","j","k"]
def sg (k:Nat):Str:=sgL.getD k Str.empty
def shpT (m:Nat):List Shp:=(List.range m).map fun k=>(Str.ofString "b" ++ sg k,[(Str.ofString "v",Kd.num 1)])
theorem shp_wel:∀ m:Fin 9,welB (shpT m.val)=true:=by decide +kernel
def fldT (m:Nat):List Shp:=[(Str.ofString "a",(List.range m).map fun k=>(Str.ofString "v" ++ sg k,Kd.num 1))]
theorem fld_wel:∀ m:Fin 6,welB (fldT (m.val + 1))=true:=by decide +kernel
def shL (m:Nat):List Str:=(List.range m).flatMap fun k=>[Str.ofString "shape b" ++ sg k,Str.ofString "v num 1"]
theorem shL_succ (m:Nat):shL (m + 1)=shL m++[Str.ofString "shape b" ++ sg m,Str.ofString "v num 1"]:=by
 unfold shL
 rw [List.range_succ,List.flatMap_append];rfl
theorem sh_rows:∀ m:Fin 9,(itms (shpT m.val)).map (rowT (shpT m.val))=shL m.val:=by decide +kernel
def sgc (k:Nat):Nat:=(Str.ofString "acdefghijk").cps.toList.getD k 0
theorem sg_at:∀ k:Fin 10,(Str.ofString "acdefghijk").cps.toList[k.val]?=some (sgc k.val)/\(⟨#[sgc k.val]⟩ : Str)=sg k.val:=by decide +kernel
def x3 (x:Nat):Str:=(["v num 1","v num 9","v nosh"]:List Str).getD x Str.empty
def shR (m x:Nat):List Str:=x3 x::(if m=1 then [Str.ofString "shape b" ++ sg 9,Str.ofString "v num 1"] else [])
theorem sh_much:∀ (m:Fin 2) (x:Fin 3),(shL (9 + m.val)).set 17 (x3 x.val)=shL 8++Str.join spS [Str.ofString "shape",Str.ofString "b" ++ sg 8]::shR m.val x.val:=by decide +kernel
theorem sh_twice:∀ (m:Fin 2) (x:Fin 3) (j:Fin 8),(shL 8++Str.join spS [Str.ofString "shape",Str.ofString "b" ++ sg 8]::shR m.val x.val).set 16 (Str.ofString "shape b" ++ sg j.val)=shL 8++Str.join spS [Str.ofString "shape",Str.ofString "b" ++ sg j.val]::shR m.val x.val:=by decide +kernel
theorem sh_at:∀ (m:Fin 2) (x:Fin 3) (j:Fin 8),(shL 8++Str.join spS [Str.ofString "shape",Str.ofString "b" ++ sg 8]::shR m.val x.val)[2 * j.val]?=some (Str.ofString "shape b" ++ sg j.val):=by decide +kernel
theorem sh_tail:∀ (m:Fin 2) (x:Fin 3) (j:Fin 9),(Str.join spS [Str.ofString "shape",Str.ofString "b" ++ sg j.val]::shR m.val x.val).length<=20/\∀ y ∈ Str.join spS [Str.ofString "shape",Str.ofString "b" ++ sg j.val]::shR m.val x.val,10 ∉ y.cps.toList/\y.length<=100:=by decide +kernel
theorem sh_nm:∀ j:Fin 9,nameB (Str.ofString "b" ++ sg j.val)=true/\(∀ w ∈ [Str.ofString "shape",Str.ofString "b" ++ sg j.val],32 ∉ w.cps.toList/\w.length<=100)/\(Str.ofString "b" ++ sg j.val ∈ (shpT 8).map (·.1) ↔ j.val < 8):=by decide +kernel
theorem sh_n:(itms (shpT 8)).length=16/\(shpT 8).length=8:=by decide +kernel
def spRt:Sp:=fun vs H Q _=>∃ p:Addr,vs=[.ref p]/\St3 H p/\∀ H',Drawn p H H'->Q (.bl true) H'
theorem shL_len:∀ m,(shL m).length=2 * m
 | 0=>rfl
 | m + 1=>by rw [shL_succ,List.length_append,shL_len m];show 2 * m + 2=_;omega
theorem ix_nat {n a:Nat} (h:a < n):ixN n ((a:Nat):Int)=some a:=by
 unfold ixN
 rw [if_pos (by omega),if_pos (by omega)];rfl
theorem sh_bad:BadP (shpT 8) [Str.ofString "shape",Str.ofString "b" ++ sg 8] "much":=.inl ⟨_,rfl,(sh_nm ⟨8,by decide⟩).1,.inr ⟨fun z=>absurd ((sh_nm ⟨8,by decide⟩).2.2.mp z) (by decide),sh_n.2,rfl⟩⟩
theorem sh_bad2 {j:Nat} (h:j < 8):BadP (shpT 8) [Str.ofString "shape",Str.ofString "b" ++ sg j] "twice":=.inl ⟨_,rfl,(sh_nm ⟨j,by omega⟩).1,.inl ⟨(sh_nm ⟨j,by omega⟩).2.2.mpr h,rfl⟩⟩
theorem two_eq {K:Frag} {H:Hp} {xs:List V} (h:∀ x ∈ xs,flatV x=true):∀ (i:Nat) x y,xs[i]?=some x->xs[i]?=some y->EqS K H 8 x y:=fun i x y hx hy=>by
 rw [hx] at hy
 cases hy
 exact .same (.inl (h x (List.mem_of_getElem? hx)))
def fdL (m:Nat):List Str:=(List.range m).map fun k=>Str.ofString "v" ++ sg k++Str.ofString " num 1"
def fdA (m:Nat):List Str:=[Str.ofString "shape a"]++fdL m++[Str.ofString "shape b",Str.ofString "v a"]
def fdS (m:Nat):List Shp:=[(Str.ofString "a",(List.range m).map fun k=>(Str.ofString "v" ++ sg k,Kd.num 1)),(Str.ofString "b",[(Str.ofString "v",Kd.nest 0)])]
theorem fdS_ok:∀ m:Fin 2,welB (fdS (5 + m.val))=true/\(itms (fdS (5 + m.val))).map (rowT (fdS (5 + m.val)))=fdA (5 + m.val):=by decide +kernel
def fd6:List Str:=Str.ofString "shape a" :: fdL 6
theorem fd6_ok:(itms (fldT 6)).map (rowT (fldT 6))=fd6/\(itms (fldT 6)).length=7/\fd6.length=7:=by decide +kernel
def fdR (m:Nat):List Str:=(fdL m).drop 7++[Str.ofString "shape b",Str.ofString "v a"]
def fdB:List Str:=["vh num 1","vh nosh","va num 1","vh num 5"]
def fdW:List (List Str):=[["vh","num","1"],["vh","nosh"],["va","num","1"],["vh","num","5"]]
def fdK:List Str:=["much","unknown","twice","form"]
theorem fd_eq:∀ m:Fin 2,fdA (7 + m.val)=fd6++fdB.getD 0 Str.empty::fdR (7 + m.val):=by decide +kernel
theorem fd_tail:∀ (m:Fin 2) (i:Fin 4),fdB.getD i.val Str.empty=Str.join spS (fdW.getD i.val [])/\fdW.getD i.val [] ≠ []/\(fdW.getD i.val []).length<=10/\(∀ w ∈ fdW.getD i.val [],32 ∉ w.cps.toList/\w.length<=100)/\(fdB.getD i.val Str.empty::fdR (7 + m.val)).length<=20/\∀ y ∈ fdB.getD i.val Str.empty::fdR (7 + m.val),10 ∉ y.cps.toList/\y.length<=100:=by decide +kernel
theorem fd_nm:nameB (Str.ofString "vh")=true/\nameB (Str.ofString "va")=true/\Str.ofString "vh" ∉ ((fldT 6).getD 0 (Str.empty,[])).2.map (·.1)/\Str.ofString "va" ∈ ((fldT 6).getD 0 (Str.empty,[])).2.map (·.1):=by decide +kernel
theorem fd_bad:∀ i,i < 4->BadP (fldT 6) (fdW.getD i []) (fdK.getD i Str.empty)
 | 0,_=>.inr (.inr (.inr ⟨[],(fldT 6).getD 0 (Str.empty,[]),Str.ofString "vh",.num 1,rfl,by decide +kernel,fd_nm.1,⟨by decide,by decide⟩,.inr ⟨fd_nm.2.2.1,.inl (by decide +kernel),rfl⟩⟩))
 | 1,_=>.inr (.inr (.inl ⟨[],(fldT 6).getD 0 (Str.empty,[]),rfl,rfl,fd_nm.2.2.1,(fun z=>by cases z),rfl⟩))
 | 2,_=>.inr (.inr (.inr ⟨[],(fldT 6).getD 0 (Str.empty,[]),Str.ofString "va",.num 1,rfl,by decide +kernel,fd_nm.2.1,⟨by decide,by decide⟩,.inl ⟨fd_nm.2.2.2,rfl⟩⟩))
 | 3,_=>.inr (.inl ⟨rfl,rfl⟩)
 | i + 4,h=>absurd h (by omega)
theorem set_mid {A R:List Str} {x y:Str} {n:Nat} (h:A.length=n):(A++x::R).set n y=A++y::R:=by
 subst h
 rw [List.set_append_right _ _ (Nat.le_refl _),Nat.sub_self];rfl
theorem sg_at9:∀ k:Fin 9,(Str.ofString "acdefghij").cps.toList[k.val]?=some (sgc k.val)/\(⟨#[sgc k.val]⟩ : Str)=sg k.val:=by decide +kernel
theorem fdL_succ (m:Nat):fdL (m + 1)=fdL m++[Str.ofString "v" ++ sg m++Str.ofString " num 1"]:=by
 unfold fdL
 rw [List.range_succ,List.map_append];rfl
theorem fdL_len (m:Nat):(fdL m).length=m:=by unfold fdL;rw [List.length_map,List.length_range]
theorem fld6_ne:fldT 6 ≠ []:=by unfold fldT;simp
def goodB (S:List Shp):Bool:=((List.range S.length).all fun i=>S[i]?.all fun s=>!s.2.isEmpty && (decide (s.2.length<=6) && s.2.all (fun f=>fitBk i f.2 && nameB f.1))) && (tabs S).sz.all fun n=>decide (n<=1000)
theorem good_of {S:List Shp} (h:goodB S=true):Good S:=by
 unfold goodB at h
 simp only [Bool.and_eq_true,decide_eq_true_eq,List.all_eq_true,List.mem_range] at h
 obtain⟨h6,hz⟩:=h
 have at_:∀ (i:Nat) (s:Shp),S[i]?=some s->s.2 ≠ []/\s.2.length<=6/\∀ f ∈ s.2,f.2.Fit i/\nameB f.1=true:=fun i s e=>by
  have hi:i < S.length:=(List.getElem?_eq_some_iff.mp e).1
  have:=h6 i hi
  rw [e] at this
  simp only [Option.all_some,Bool.and_eq_true,decide_eq_true_eq,List.all_eq_true,Bool.not_eq_true',List.isEmpty_eq_false_iff] at this
  obtain⟨a1,a2,a3⟩:=this
  exact⟨a1,a2,fun f hf=>⟨fit_of (a3 f hf).1,(a3 f hf).2⟩⟩
 refine⟨fun i s e=>(at_ i s e).1,fun i s e=>(at_ i s e).2.1,fun i s e f hf=>⟨((at_ i s e).2.2 f hf).1,name_len ((at_ i s e).2.2 f hf).2⟩,fun i=>?_⟩
 rw [List.getD_eq_getElem?_getD]
 cases e:(tabs S).sz[i]? with
 | none=>exact Nat.zero_le _
 | some n=>exact hz n (List.mem_of_getElem? e)
def uSa:Shp:=(Str.ofString "a",[(Str.ofString "v",.many 6 (.num 1)),(Str.ofString "w",.many 6 (.num 1))])
def uSb:Shp:=(Str.ofString "b",[(Str.ofString "v",.nest 0),(Str.ofString "w",.many 2 (.nest 0)),(Str.ofString "xa",.num 1),(Str.ofString "xc",.num 1)])
def uS (m:Nat):List Shp:=[uSa,(uSb.1,uSb.2++[(Str.ofString "y",.many m (.num 1))])]
def uC (m:Nat):List Shp:=[(Str.ofString "c",[(Str.ofString "v",.num 1)]),uSa,(Str.ofString "b",[(Str.ofString "v",.pick [1,0]),(Str.ofString "w",.many 2 (.nest 1)),(Str.ofString "xa",.num 1),(Str.ofString "xc",.num 1),(Str.ofString "y",.many m (.num 1))])]
def uL:List Str:=["shape a","v row 6 num 1","w row 6 num 1","shape b","v a","w row 2 a","xa num 1","xc num 1"]
def uY (m:Nat):Str:=Str.ofString "y row " ++ Str.ofString (toString ((m:Nat):Int))++Str.ofString " num 1"
theorem u_pre:welB [uSa,uSb]=true/\(itms [uSa,uSb]).map (rowT [uSa,uSb])=uL/\(itms [uSa,uSb]).length=8:=by decide +kernel
theorem u_fit:∀ m:Fin 2,welB (uS (m.val + 1))=true/\(itms (uS (m.val + 1))).map (rowT (uS (m.val + 1)))=uL++[uY (m.val + 1)]/\(un (.nest 1) (uS (m.val + 1)) Str.empty).length=39 + m.val:=by decide +kernel
theorem u_much:∀ m:Fin 4,goodB (uS (m.val + 3))=true/\40 < (un (.nest 1) (uS (m.val + 3)) Str.empty).length/\uY (m.val + 3)=Str.join spS (Str.ofString "y" :: (Kd.many (m.val + 3) (.num 1)).words (nmOf [uSa])):=by decide +kernel
theorem u_pick:∀ m:Fin 6,welB (uC (m.val + 1))=true/\(itms (uC (m.val + 1))).map (rowT (uC (m.val + 1)))=(["shape c","v num 1"]:List Str)++(uL++[uY (m.val + 1)]).set 4 (Str.ofString "v pick a c")/\(un (.nest 2) (uC (m.val + 1)) Str.empty).length=29 + m.val:=by decide +kernel
def cA:Shp:=(Str.ofString "a",[(Str.ofString "v",.many 5 (.num 2))])
def cC:Shp:=(Str.ofString "c",[(Str.ofString "v",.num 4),(Str.ofString "w",.num 1)])
def cy (w:Nat):Kd:=[Kd.nest 0,.pick [1,0],.many 2 (.nest 1),.pick [0,1]].getD w (.num 1)
def cyT (w:Nat):Str:=(["y a","y pick c a","y row 2 c","y pick a c"]:List Str).getD w Str.empty
def cyN (w:Nat):Nat:=[10,11,10,11].getD w 0
def cF (w m l:Nat):List (Str × Kd):=[(Str.ofString "w",.many 6 (.num 4)),(Str.ofString "x",.many 6 (.num 4)),(Str.ofString "y",cy w)]++((if m=0 then [] else [(Str.ofString "z",.many m (.num 1))])++(if l=0 then [] else [(Str.ofString "u",.num l)]))
def cS (w m l:Nat):List Shp:=[cA,cC,(Str.ofString "b",cF w m l)]
def cH:List Str:=["shape a","v row 5 num 2","shape c","v num 4","w num 1","shape b","w row 6 num 4","x row 6 num 4"]
def czT (m:Nat):Str:=Str.ofString "z row " ++ Str.ofString (toString ((m:Nat):Int))++Str.ofString " num 1"
def cuT (l:Nat):Str:=Str.ofString "u num " ++ Str.ofString (toString ((l:Nat):Int))
def cT (w m l:Nat):List Str:=cH++([cyT w]++((if m=0 then [] else [czT m])++(if l=0 then [] else [cuT l])))
theorem c_tab:∀ (w:Fin 4) (m:Fin 7) (l:Fin 5),(itms (cS w.val m.val l.val)).map (rowT (cS w.val m.val l.val))=cT w.val m.val l.val/\(tabs (cS w.val m.val l.val)).sz.getD 2 0=48 + cyN w.val + m.val + l.val/\goodB (cS w.val m.val l.val)=true/\(48 + cyN w.val + m.val + l.val<=64->welB (cS w.val m.val l.val)=true):=by decide +kernel
end K13
namespace K13
open PySem L2
set_option hygiene false in
local macro_rules | `(tactic| walk_at "sc") => `(tactic| exact ⟨rfl, rfl, rfl, by decide +kernel, rfl, by decide +kernel, by decide +kernel⟩)
set_option hygiene false in
local macro_rules | `(tactic| walk_at "hr") => `(tactic| have hr := hr0.mono (Nat.le_succ _))
set_option hygiene false in
local macro_rules | `(tactic| walk_at "b1") => `(tactic| exact fun _ _ _ _ _ _ us hl => by obtain ⟨a0, rfl⟩ := ls1 hl; rfl)
set_option hygiene false in
local macro_rules | `(tactic| walk_at "b2") => `(tactic| exact fun _ _ _ _ _ _ us hl => by obtain ⟨a0, a1, rfl⟩ := ls2 hl; rfl)
set_option hygiene false in
local macro_rules | `(tactic| walk_at "b3") => `(tactic| exact fun _ _ _ _ _ _ us hl => by obtain ⟨a0, a1, a2, rfl⟩ := ls3 hl; rfl)
set_option hygiene false in
local macro_rules | `(tactic| walk_at "o") => `(tactic| first | exact Or.inl rfl | exact Or.inr rfl)
set_option hygiene false in
local macro_rules | `(tactic| w_cond $s:ident) => `(tactic| (obtain ⟨M, C, Ua, Ub, Uc, Ud, Ue, Uf, tRE, VI, T_NamedTwice, T_NoShapes, T_TooMuch, T_UnknownShape⟩ := Z; first | refine F.ok $s (fun vs H Q E h => ?_) (fun cdv A outer s0 H vs Q E hr0 h => ?_) | refine F.okE $s (fun vs H Q E h => ?_) (fun cdv A outer s0 H vs Q E hr0 h => ?_)))
theorem main_of {c:Cl5} {K:Frag} {H:Hp} {sa:List Addr} {S:List Shp} (hw:SW c K H sa S) (hne:S ≠ []):∃ (sa0:List Addr) (z dx t:Addr) (s:Shp),sa=sa0++[z]/\sa[S.length - 1]?=some z/\H z=some (.ins c.shape dx [("name",.str s.1),("fields",.ref t)]):=by
 have h0 : 0 < S.length:=by cases S with
  | nil=>exact absurd rfl hne
  | cons _ _=>simp
 have hl : 0 < sa.length:=by rw [hw.1];exact h0
 have hsa:sa ≠ []:=fun z=>by rw [z] at hl;exact absurd hl (by decide)
 have e:sa=sa.dropLast++[sa.getLast hsa]:=(List.dropLast_concat_getLast hsa).symm
 have e2:sa[S.length - 1]?=some (sa.getLast hsa):=by rw [← hw.1,List.getLast_eq_getElem];exact List.getElem?_eq_getElem _
 have e3:S[S.length - 1]?=some (S[S.length - 1]'(by omega)):=List.getElem?_eq_getElem _
 obtain⟨dx,t,ps,k1,_,_⟩:=hw.2 _ _ _ e2 e3
 exact⟨_,_,dx,t,_,e,e2,k1⟩
theorem join_bd {S:List Shp} (hW:Wel S) (hne:S ≠ []):(((itms S).map (rowT S)).map (·.length)).sum + ((itms S).map (rowT S)).length * nlS.length<=16777216:=by
 obtain⟨h56,hrow,_,_⟩:=txt_ok hW hne
 have hsum:(((itms S).map (rowT S)).map (·.length)).sum<=((itms S).map (rowT S)).length * 100:=sum_le fun x hx=>by
  obtain⟨it,hit,rfl⟩:=List.mem_map.mp hx
  exact (hrow it hit).1
 have h1:nlS.length=1:=rfl
 rw [h1]
 rw [List.length_map] at hsum ⊢
 omega
theorem bad_much {T:List Shp} {s:Shp} {fn:Str} {kd:Kd} (h1:nameB fn=true) (h2:kd.Fit T.length) (h3:fn ∉ s.2.map (·.1)) (hg:Good (T++[(s.1,s.2++[(fn,kd)])])) (ht:TooB (T++[(s.1,s.2++[(fn,kd)])]) T.length):BadP (T++[s]) (fn::kd.words (nmOf T)) "much" :=
 .inr (.inr (.inr ⟨T,s,fn,kd,rfl,rfl,h1,h2,.inr ⟨h3,.inr ⟨hg,ht⟩,rfl⟩⟩))
def uX (m:Nat):List Str:=(List.range m).map fun k=>Str.ofString "x" ++ sg k++Str.ofString " num 1"
theorem uX_succ (m:Nat):uX (m + 1)=uX m++[Str.ofString "x" ++ sg m++Str.ofString " num 1"]:=by
 unfold uX
 rw [List.range_succ,List.map_append];rfl
theorem uX_len (m:Nat):(uX m).length=m:=by unfold uX;rw [List.length_map,List.length_range]
theorem sg_at4:∀ k:Fin 2,(Str.ofString "acde").cps.toList[k.val]?=some (sgc k.val)/\(⟨#[sgc k.val]⟩ : Str)=sg k.val:=by decide +kernel
def uA:List Str:=["shape a","v row 6 num 1","w row 6 num 1","shape b","v a","w row 2 a"]
theorem uL_eq:uA++uX 2=uL:=by decide +kernel
theorem uY_ok:∀ m:Fin 7,(uY m.val).length<=100/\10 ∉ (uY m.val).cps.toList/\(Str.ofString (toString ((m.val:Nat):Int))).length<=5:=by decide +kernel
def dV:List Str:=["shape d","v num 1"]
theorem u_tail:∀ m:Fin 4,(∀ y ∈ uY (m.val + 3)::dV,10 ∉ y.cps.toList/\y.length<=100)/\(∀ w ∈ Str.ofString "y" :: (Kd.many (m.val + 3) (.num 1)).words (nmOf [uSa]),32 ∉ w.cps.toList/\w.length<=100)/\(Str.ofString "y" :: (Kd.many (m.val + 3) (.num 1)).words (nmOf [uSa])).length<=10/\(Kd.many (m.val + 3) (.num 1)).words (nmOf [uSa]) ≠ []:=by decide +kernel
theorem u_bad:∀ m,m < 4->BadP [uSa,uSb] (Str.ofString "y" :: (Kd.many (m + 3) (.num 1)).words (nmOf [uSa])) "much":=fun m hm=>by
 obtain⟨h1,h2,_⟩:=u_much ⟨m,hm⟩
 exact bad_much (T:=[uSa]) (s:=uSb) (by decide +kernel) ⟨by omega,by omega,.inl ⟨1,rfl,by decide,by decide⟩⟩ (by decide +kernel) (good_of h1) (.inr (.inl h2))
theorem i_nat {n:Nat} (h:n<=100):(((n:Nat):Int)).natAbs.log2 < 1920:=by
 rw [Int.natAbs_natCast]
 exact Nat.lt_of_le_of_lt (Nat.log2_le_self n) (by omega)
def cfs (w m l:Nat):List (Str × Nat):=[(cyT w,cyN w),(czT m,m)]++(if l=0 then [] else [(cuT l,l)])
def tot (fs:List (Str × Nat)) (j:Nat):Nat:=48 + ((fs.take j).map (·.2)).sum
theorem tot_succ {fs:List (Str × Nat)} {j:Nat} {f:Str × Nat} (h:fs[j]?=some f):tot fs (j + 1)=tot fs j + f.2:=by
 unfold tot
 rw [List.take_add_one,h,Option.toList_some,List.map_append,List.sum_append,List.map_singleton,List.sum_singleton];omega
theorem cyN_le:∀ w,cyN w<=11:=fun w=>by
 match w with
 | 0=>decide
 | 1=>decide
 | 2=>decide
 | 3=>decide
 | w + 4=>exact Nat.zero_le _
theorem cT_eq {w m l:Nat} (h : 0 < m):cT w m l=cH++(cfs w m l).map (·.1):=by
 unfold cT cfs
 rw [if_neg (by omega)]
 by_cases hl:l=0
 ·rw [if_pos hl,if_pos hl];rfl
 ·rw [if_neg hl,if_neg hl];rfl
theorem tot_all {w m l:Nat} : tot (cfs w m l) (cfs w m l).length=48 + cyN w + m + l:=by
 unfold tot
 rw [List.take_length]
 unfold cfs
 by_cases hl:l=0
 ·subst hl;rw [if_pos rfl];simp;omega
 ·rw [if_neg hl];simp;omega
theorem c_words:∀ m:Fin 7,(czT m.val=Str.join spS (Str.ofString "z" :: (Kd.many m.val (.num 1)).words (nmOf [cA,cC]))/\(∀ w ∈ Str.ofString "z" :: (Kd.many m.val (.num 1)).words (nmOf [cA,cC]),32 ∉ w.cps.toList/\w.length<=100)/\(Str.ofString "z" :: (Kd.many m.val (.num 1)).words (nmOf [cA,cC])).length<=10/\10 ∉ (czT m.val).cps.toList/\(czT m.val).length<=100) ∧
 (cuT m.val=Str.join spS (Str.ofString "u" :: (Kd.num m.val).words (nmOf [cA,cC]))/\(∀ w ∈ Str.ofString "u" :: (Kd.num m.val).words (nmOf [cA,cC]),32 ∉ w.cps.toList/\w.length<=100)/\(Str.ofString "u" :: (Kd.num m.val).words (nmOf [cA,cC])).length<=10/\10 ∉ (cuT m.val).cps.toList/\(cuT m.val).length<=100):=by decide +kernel
theorem c_names:nameB (Str.ofString "z")=true/\nameB (Str.ofString "u")=true:=by decide +kernel
theorem c_nin:∀ w:Fin 4,∀ m:Fin 7,Str.ofString "z" ∉ (cF w.val 0 0).map (·.1)/\Str.ofString "u" ∉ (cF w.val m.val 0).map (·.1)/\(itms (cS w.val 0 0)).length=9/\(0 < m.val->(itms (cS w.val m.val 0)).length=10):=by decide +kernel
theorem cF_z {w m:Nat} (h : 0 < m):cF w 0 0++[(Str.ofString "z",.many m (.num 1))]=cF w m 0:=by
 unfold cF
 rw [if_pos rfl,if_pos rfl,if_neg (by omega)];rfl
theorem cF_u {w m l:Nat} (h : 0 < l):cF w m 0++[(Str.ofString "u",.num l)]=cF w m l:=by
 unfold cF
 rw [if_pos rfl,if_neg (show ¬ l=0 by omega),List.append_nil,List.append_assoc]
structure CDue (Ls:List Str) (n:Nat) (S:List Shp) (tail bw rest:List Str):Prop where
 wel:Wel S
 ne:S ≠ []
 rows:(itms S).map (rowT S)++tail=Ls
 len:tail.length<=20
 ok:∀ x ∈ tail,10 ∉ x.cps.toList/\x.length<=100
 e:tail=Str.join spS bw::rest
 bne:bw ≠ []
 bl:bw.length<=10
 bok:∀ w ∈ bw,32 ∉ w.cps.toList/\w.length<=100
 bad:BadP S bw "much"
 n:(itms S).length=n
theorem c_due {w m l i:Nat} {R:List Str} (hw:w < 4) (hm0 : 0 < m) (hm:m < 7) (hl:l < 5) (hi:i < (cfs w m l).length) (h1:tot (cfs w m l) i<=64) (h2 : 64 < tot (cfs w m l) (i + 1)) (hR:R.length<=2) (hok:∀ x ∈ R,10 ∉ x.cps.toList/\x.length<=100):∃ S tail bw rest,CDue (cH++(cfs w m l).map (·.1)++R) (8 + i) S tail bw rest:=by
 have hy:=cyN_le w
 obtain⟨z1,u1⟩:=c_words ⟨m,hm⟩
 obtain⟨_,u1⟩:=c_words ⟨l,by omega⟩
 obtain⟨n1,n2,n3,n4⟩:=c_nin ⟨w,hw⟩ ⟨m,hm⟩
 have hT:cS w m 0=[cA,cC]++[(Str.ofString "b",cF w m 0)]:=rfl
 have hT0:cS w 0 0=[cA,cC]++[(Str.ofString "b",cF w 0 0)]:=rfl
 have hne:∀ m',cS w m' 0 ≠ []:=fun m' z=>by unfold cS at z;cases z
 have t1:tot (cfs w m l) 1=48 + cyN w:=rfl
 have t2:tot (cfs w m l) 2=48 + cyN w + m:=by
  have e:(cfs w m l)[1]?=some (czT m,m):=rfl
  rw [tot_succ e,t1]
 match i,hi,h1,h2 with
 | 0,_,_,h2=>exact absurd (show 64 < tot (cfs w m l) 1 from h2) (by omega)
 | 1,_,_,h2 =>
  replace h2 : 64 < tot (cfs w m l) 2:=h2
  obtain⟨c1,c2,c3,c4⟩:=c_tab ⟨w,hw⟩ ⟨0,by decide⟩ ⟨0,by decide⟩
  obtain⟨d1,d2,d3,d4⟩:=c_tab ⟨w,hw⟩ ⟨m,hm⟩ ⟨0,by decide⟩
  refine⟨cS w 0 0,_,_,(if l=0 then [] else [cuT l])++R,wel_of (c4 (by show 48 + cyN w + 0 + 0<=64;omega)),hne 0,?_,?_,?_,rfl,(fun z=>by cases z),z1.2.2.1,z1.2.1,?_,n3⟩
  ·rw [c1,← z1.1]
   show cH++([cyT w]++([]++[]))++_=cH++(cfs w m l).map (·.1)++R
   unfold cfs
   by_cases h0:l=0
   ·rw [if_pos h0,if_pos h0];simp
   ·rw [if_neg h0,if_neg h0];simp
  ·rw [List.length_cons,List.length_append];split <;> simp <;> omega
  ·intro x hx
   rcases List.mem_cons.mp hx with rfl|hx
   ·rw [← z1.1];exact⟨z1.2.2.2.1,z1.2.2.2.2⟩
   ·rcases List.mem_append.mp hx with hx|hx
    ·by_cases h0:l=0
     ·rw [if_pos h0] at hx;cases hx
     ·rw [if_neg h0,List.mem_singleton] at hx;subst hx;exact⟨u1.2.2.2.1,u1.2.2.2.2⟩
    ·exact hok x hx
  ·rw [hT0]
   refine bad_much c_names.1 ⟨hm0,by omega,.inl ⟨1,rfl,by decide,by decide⟩⟩ n1 ?_ (.inl ?_)
   ·rw [cF_z hm0];exact good_of d3
   ·rw [cF_z hm0]
    show 64 < (tabs (cS w m 0)).sz.getD 2 0
    rw [d2];show 64 < 48 + cyN w + m + 0;omega
 | 2,hi,h1,h2 =>
  replace h2 : 64 < tot (cfs w m l) 3:=h2
  have hl0 : 0 < l:=by
   rcases Nat.eq_zero_or_pos l with rfl|h
   ·exact absurd hi (by show ¬ 2 < 2;decide)
   ·exact h
  have e2:(cfs w m l)[2]?=some (cuT l,l):=by unfold cfs;rw [if_neg (by omega)];rfl
  have t3:tot (cfs w m l) 3=48 + cyN w + m + l:=by rw [tot_succ e2,t2]
  obtain⟨c1,c2,c3,c4⟩:=c_tab ⟨w,hw⟩ ⟨m,hm⟩ ⟨0,by decide⟩
  obtain⟨d1,d2,d3,d4⟩:=c_tab ⟨w,hw⟩ ⟨m,hm⟩ ⟨l,hl⟩
  refine⟨cS w m 0,_,_,R,wel_of (c4 (by show 48 + cyN w + m + 0<=64;omega)),hne m,?_,?_,?_,rfl,(fun z=>by cases z),u1.2.2.1,u1.2.1,?_,n4 hm0⟩
  ·rw [c1,← u1.1]
   show cT w m 0++_=_
   rw [cT_eq hm0]
   unfold cfs
   rw [if_pos rfl,if_neg (show ¬ l=0 by omega)];simp
  ·rw [List.length_cons];omega
  ·intro x hx
   rcases List.mem_cons.mp hx with rfl|hx
   ·rw [← u1.1];exact⟨u1.2.2.2.1,u1.2.2.2.2⟩
   ·exact hok x hx
  ·rw [hT]
   refine bad_much c_names.2 ⟨hl0,by omega⟩ n2 ?_ (.inl ?_)
   ·rw [cF_u hl0];exact good_of d3
   ·rw [cF_u hl0]
    show 64 < (tabs (cS w m l)).sz.getD 2 0
    rw [d2];show 64 < 48 + cyN w + m + l;omega
 | i + 3,hi,_,_ =>
  exfalso
  revert hi
  unfold cfs
  split <;> simp
structure Fds (H:Hp) (fl hd:Addr) (ps:List Addr) (fs:List (Str × Nat)):Prop where
 fl:H fl=some (.lst (ps.map V.ref))
 hd:H hd=some (.lst (cH.map V.str))
 len:ps.length=fs.length
 at_:∀ (i:Nat) (a:Addr) (f:Str × Nat),ps[i]?=some a->fs[i]?=some f->H a=some (.tup [.str f.1,.int (f.2:Nat)])
theorem Fds.same {H H':Hp} {fl hd:Addr} {ps:List Addr} {fs:List (Str × Nat)} (h:Fds H fl hd ps fs) (g:Same H H'):Fds H' fl hd ps fs:=⟨g _ _ h.fl,g _ _ h.hd,h.len,fun i a f h1 h2=>g _ _ (h.at_ i a f h1 h2)⟩
def Due (K:Frag) (H:Hp) (fs:List (Str × Nat)) (j:Nat) (du:V):Prop:=(du=.non/\tot fs j<=64)\/∃ (t:Addr) (i:Nat),du=.ref t/\SqT K H t [.str "much",.int ((8 + i:Nat):Int)]/\i < fs.length/\tot fs i<=64/\64 < tot fs (i + 1)
theorem dV_ok:∀ x ∈ dV,10 ∉ x.cps.toList/\x.length<=100:=by decide +kernel
theorem cz_len:∀ m:Fin 7,(Str.ofString "z row ").length + (Str.ofString (toString ((m.val:Nat):Int))).length<=100/\(Str.ofString "z row " ++ Str.ofString (toString ((m.val:Nat):Int))).length + (Str.ofString " num 1").length<=100/\(Str.ofString "u num ").length + (Str.ofString (toString ((m.val:Nat):Int))).length<=100:=by decide +kernel
end K13
namespace K13
open PySem L2
set_option hygiene false in
local macro_rules | `(tactic| walk_at "sc") => `(tactic| exact ⟨rfl, rfl, rfl, by decide +kernel, rfl, by decide +kernel, by decide +kernel⟩)
set_option hygiene false in
local macro_rules | `(tactic| walk_at "hr") => `(tactic| have hr := hr0.mono (Nat.le_succ _))
set_option hygiene false in
local macro_rules | `(tactic| walk_at "b1") => `(tactic| exact fun _ _ _ _ _ _ us hl => by obtain ⟨a0, rfl⟩ := ls1 hl; rfl)
set_option hygiene false in
local macro_rules | `(tactic| walk_at "b2") => `(tactic| exact fun _ _ _ _ _ _ us hl => by obtain ⟨a0, a1, rfl⟩ := ls2 hl; rfl)
set_option hygiene false in
local macro_rules | `(tactic| walk_at "b3") => `(tactic| exact fun _ _ _ _ _ _ us hl => by obtain ⟨a0, a1, a2, rfl⟩ := ls3 hl; rfl)
set_option hygiene false in
local macro_rules | `(tactic| walk_at "o") => `(tactic| first | exact Or.inl rfl | exact Or.inr rfl)
set_option hygiene false in
local macro_rules | `(tactic| w_cond $s:ident) => `(tactic| (obtain ⟨M, C, Ua, Ub, Uc, Ud, Ue, Uf, tRE, VI, T_NamedTwice, T_NoShapes, T_TooMuch, T_UnknownShape⟩ := Z; first | refine F.ok $s (fun vs H Q E h => ?_) (fun cdv A outer s0 H vs Q E hr0 h => ?_) | refine F.okE $s (fun vs H Q E h => ?_) (fun cdv A outer s0 H vs Q E hr0 h => ?_)))
def dK (x i:Nat):Kd:=[Kd.nest i,.many 2 (.nest i),.pick [0,i],.pick [i,0]].getD x (.num 1)
def dN (k:Nat):Str:=Str.ofString "a" ++ sg k
def dSf:Nat->List Nat->List Shp
 | _,[]=>[]
 | k,x::xs=>(dN k,[(Str.ofString "v",dK x k)])::dSf (k + 1) xs
def dS (ws:List Nat):List Shp:=(Str.ofString "o",[(Str.ofString "v",.num 1)])::(dN 0,[(Str.ofString "v",.num 1)])::dSf 1 ws
def dkT (x:Nat) (a:Str):Str:=([a,Str.ofString "row 2 " ++ a,Str.ofString "pick o " ++ a,Str.ofString "pick " ++ a++Str.ofString " o"]:List Str).getD x Str.empty
def dLf:Nat->List Nat->List Str
 | _,[]=>[]
 | k,x::xs=>(Str.ofString "shape a" ++ sg k)::(Str.ofString "v " ++ dkT x (dN (k - 1)))::dLf (k + 1) xs
def dH:List Str:=["shape o","v num 1","shape aa","v num 1"]
def dL (ws:List Nat):List Str:=dH++dLf 1 ws
theorem dLf_snoc:∀ (k:Nat) (ws:List Nat) (x:Nat),dLf k (ws++[x])=dLf k ws++[Str.ofString "shape a" ++ sg (k + ws.length),Str.ofString "v " ++ dkT x (dN (k + ws.length - 1))]
 | k,[],x=>rfl
 | k,y::ws,x=>by
  show _::_::dLf (k + 1) (ws++[x])=_::_::(dLf (k + 1) ws++_)
  rw [dLf_snoc (k + 1) ws x,List.length_cons,show k + 1 + ws.length=k + (ws.length + 1) by omega]
theorem dLf_len:∀ (k:Nat) (ws:List Nat),(dLf k ws).length=2 * ws.length
 | _,[]=>rfl
 | k,x::xs=>by show (dLf (k + 1) xs).length + 1 + 1=2 * (xs.length + 1);rw [dLf_len];omega
theorem dLf_app:∀ (k:Nat) (ws us:List Nat),dLf k (ws++us)=dLf k ws++dLf (k + ws.length) us
 | k,[],us=>rfl
 | k,x::xs,us=>by
  show _::_::dLf (k + 1) (xs++us)=_::_::(dLf (k + 1) xs++dLf _ us)
  rw [dLf_app (k + 1) xs us,List.length_cons,show k + 1 + xs.length=k + (xs.length + 1) by omega]
theorem dl_ok:∀ (k:Fin 8) (x:Fin 4),(10 ∉ (Str.ofString "shape a" ++ sg k.val).cps.toList/\(Str.ofString "shape a" ++ sg k.val).length<=100)/\(10 ∉ (Str.ofString "v " ++ dkT x.val (dN (k.val - 1))).cps.toList/\(Str.ofString "v " ++ dkT x.val (dN (k.val - 1))).length<=100)/\(dN k.val).length<=10/\(dkT x.val (dN k.val)).length<=30:=by decide +kernel
theorem dLf_ok:∀ (k:Nat) (ws:List Nat),(∀ x ∈ ws,x < 4)->k + ws.length<=8->∀ y ∈ dLf k ws,10 ∉ y.cps.toList/\y.length<=100
 | _,[],_,_,y,hy=>by cases hy
 | k,x::xs,h4,hl,y,hy=>by
  rw [List.length_cons] at hl
  obtain⟨o1,o2,_⟩:=dl_ok ⟨k,by omega⟩ ⟨x,h4 x (List.mem_cons_self ..)⟩
  rcases List.mem_cons.mp hy with rfl|hy
  ·exact o1
  rcases List.mem_cons.mp hy with rfl|hy
  ·exact o2
  ·exact dLf_ok (k + 1) xs (fun z hz=>h4 z (List.mem_cons_of_mem _ hz)) (by omega) y hy
theorem d1_ok:∀ a:Fin 4,welB (dS [a.val])=true/\(itms (dS [a.val])).map (rowT (dS [a.val]))=dL [a.val]/\(tabs (dS [a.val])).dp.getD 2 0=2:=by decide +kernel
theorem d2_ok:∀ a b:Fin 4,welB (dS [a.val,b.val])=true/\(itms (dS [a.val,b.val])).map (rowT (dS [a.val,b.val]))=dL [a.val,b.val]/\(tabs (dS [a.val,b.val])).dp.getD 3 0=3:=by decide +kernel
theorem d3_ok:∀ a b c:Fin 4,welB (dS [a.val,b.val,c.val])=true/\(itms (dS [a.val,b.val,c.val])).map (rowT (dS [a.val,b.val,c.val]))=dL [a.val,b.val,c.val]/\(tabs (dS [a.val,b.val,c.val])).dp.getD 4 0=4:=by decide +kernel
theorem d4_ok:∀ a b c d:Fin 4,goodB (dS [a.val,b.val,c.val,d.val])=true/\4 < (tabs (dS [a.val,b.val,c.val,d.val])).dp.getD 5 0:=by decide +kernel
theorem d_row:∀ d:Fin 4,Str.ofString "v " ++ dkT d.val (dN 3)=Str.join spS (Str.ofString "v" :: (dK d.val 4).words (nmOf (dS [0,0,0]))):=by decide +kernel
theorem d_nm:∀ a b c:Fin 4,nmOf (dS [a.val,b.val,c.val]) 4=nmOf (dS [0,0,0]) 4/\nmOf (dS [a.val,b.val,c.val]) 0=nmOf (dS [0,0,0]) 0/\dN 4 ∉ (dS [a.val,b.val,c.val]).map (·.1):=by decide +kernel
theorem d_nms:nameB (dN 4)=true/\nameB (Str.ofString "v")=true/\Str.ofString "shape a" ++ sg 4=Str.join spS [Str.ofString "shape",dN 4]:=by decide +kernel
theorem dK_words {nm nm':Nat->Str} {i:Nat} (h:nm i=nm' i) (h0:nm 0=nm' 0):∀ d,d < 4->(dK d i).words nm=(dK d i).words nm'
 | 0,_=>by show [nm i]=[nm' i];rw [h]
 | 1,_=>by show _::_::[nm i]=_::_::[nm' i];rw [h]
 | 2,_=>by show _::[nm 0,nm i]=_::[nm' 0,nm' i];rw [h,h0]
 | 3,_=>by show _::[nm i,nm 0]=_::[nm' i,nm' 0];rw [h,h0]
 | d + 4,h=>absurd h (by omega)
theorem dK_fit:∀ d,d < 4->(dK d 4).Fit 5
 | 0,_=>by show 4 < 5;decide
 | 1,_=>⟨by decide,by decide,.inr ⟨4,rfl,by decide⟩⟩
 | 2,_=>⟨by decide,by decide,by decide,by decide⟩
 | 3,_=>⟨by decide,by decide,by decide,by decide⟩
 | d + 4,h=>absurd h (by omega)
theorem d_deep {a b c d:Nat} {rest:List Nat} (ha:a < 4) (hb:b < 4) (hc:c < 4) (hd:d < 4):Deep (dS [a,b,c]) (dN 4) (Str.ofString "v") (dK d 4) (dLf 5 rest) (dLf 4 (d::rest)):=by
 obtain⟨n1,n2,n3⟩:=d_nm ⟨a,ha⟩ ⟨b,hb⟩ ⟨c,hc⟩
 obtain⟨g1,g2⟩:=d4_ok ⟨a,ha⟩ ⟨b,hb⟩ ⟨c,hc⟩ ⟨d,hd⟩
 refine⟨?_,d_nms.1,n3,(by show 5 < 8;decide),d_nms.2.1,dK_fit d hd,good_of g1,.inr (.inr g2)⟩
 show _::_::dLf 5 rest=_
 rw [dK_words (nm':=nmOf (dS [0,0,0])) n1 n2 d hd,← d_nms.2.2,← d_row ⟨d,hd⟩]
end K13
namespace K13
open PySem L2 PyProof.Rows
set_option hygiene false in
local macro_rules | `(tactic| walk_at "sc") => `(tactic| exact ⟨rfl, rfl, rfl, by decide +kernel, rfl, by decide +kernel, by decide +kernel⟩)
set_option hygiene false in
local macro_rules | `(tactic| walk_at "hr") => `(tactic| have hr := hr0.mono (Nat.le_succ _))
set_option hygiene false in
local macro_rules | `(tactic| walk_at "b1") => `(tactic| exact fun _ _ _ _ _ _ us hl => by obtain ⟨a0, rfl⟩ := ls1 hl; rfl)
set_option hygiene false in
local macro_rules | `(tactic| walk_at "b2") => `(tactic| exact fun _ _ _ _ _ _ us hl => by obtain ⟨a0, a1, rfl⟩ := ls2 hl; rfl)
set_option hygiene false in
local macro_rules | `(tactic| walk_at "b3") => `(tactic| exact fun _ _ _ _ _ _ us hl => by obtain ⟨a0, a1, a2, rfl⟩ := ls3 hl; rfl)
set_option hygiene false in
local macro_rules | `(tactic| walk_at "o") => `(tactic| first | exact Or.inl rfl | exact Or.inr rfl)
set_option hygiene false in
local macro_rules | `(tactic| w_cond $s:ident) => `(tactic| (obtain ⟨M, C, Ua, Ub, Uc, Ud, Ue, Uf, tRE, VI, T_NamedTwice, T_NoShapes, T_TooMuch, T_UnknownShape⟩ := Z; first | refine F.ok $s (fun vs H Q E h => ?_) (fun cdv A outer s0 H vs Q E hr0 h => ?_) | refine F.okE $s (fun vs H Q E h => ?_) (fun cdv A outer s0 H vs Q E hr0 h => ?_)))
theorem szL0 : 0<=sizeLine:=by decide
theorem szL1 : 1<=sizeLine:=by decide
theorem szL2 : 2<=sizeLine:=by decide
theorem szL3 : 3<=sizeLine:=by decide
theorem szL4 : 4<=sizeLine:=by decide
theorem szL5 : 5<=sizeLine:=by decide
abbrev s_is_text_of:Stmt:=top 16
theorem sc_is_text_of:FnScope ["thing","signs","most"] ["thing","signs","most"] (defScope s_is_text_of):=by walk_at "sc"
abbrev s_is_name:Stmt:=top 15
theorem sc_is_name:FnScope ["thing"] ["thing"] (defScope s_is_name):=by walk_at "sc"
abbrev s_number_in:Stmt:=top 17
theorem sc_number_in:FnScope ["text","low","high","number"] ["text","low","high"] (defScope s_number_in):=by walk_at "sc"
abbrev s_joined:Stmt:=top 19
theorem sc_joined:FnScope ["path","step"] ["path","step"] (defScope s_joined):=by walk_at "sc"
abbrev s_law_box:Stmt:=top 51
theorem sc_law_box:FnScope ["_law_cell_here"] ["_law_cell_here"] (defScope s_law_box):=by walk_at "sc"
abbrev s_law_take:Stmt:=top 52
theorem sc_law_take:FnScope ["_law_box_here","_law_many","_law_digit","_law_number"] ["_law_box_here","_law_many"] (defScope s_law_take):=by walk_at "sc"
abbrev s_law_cell:Stmt:=top 50
theorem sc_law_cell:FnScope ["_law_script","_law_k"] ["_law_script","_law_k"] (defScope s_law_cell):=by walk_at "sc"
abbrev s_is_shape_line:Stmt:=top 38
theorem sc_is_shape_line:FnScope ["words"] ["words"] (defScope s_is_shape_line):=by walk_at "sc"
abbrev s_Num_size:Stmt:=inClass (top 21) 3
theorem sc_Num_size:FnScope ["self"] ["self"] (defScope s_Num_size):=by walk_at "sc"
abbrev s_Nested_size:Stmt:=inClass (top 22) 3
theorem sc_Nested_size:FnScope ["self"] ["self"] (defScope s_Nested_size):=by walk_at "sc"
abbrev s_Shape_size:Stmt:=inClass (top 25) 1
theorem sc_Shape_size:FnScope ["self"] ["self"] (defScope s_Shape_size):=by walk_at "sc"
abbrev s_Num_depth:Stmt:=inClass (top 21) 4
theorem sc_Num_depth:FnScope ["self"] ["self"] (defScope s_Num_depth):=by walk_at "sc"
abbrev s_Nested_depth:Stmt:=inClass (top 22) 4
theorem sc_Nested_depth:FnScope ["self"] ["self"] (defScope s_Nested_depth):=by walk_at "sc"
abbrev s_Shape_depth:Stmt:=inClass (top 25) 2
theorem sc_Shape_depth:FnScope ["self"] ["self"] (defScope s_Shape_depth):=by walk_at "sc"
abbrev s_Many_size:Stmt:=inClass (top 23) 3
theorem sc_Many_size:FnScope ["self"] ["self"] (defScope s_Many_size):=by walk_at "sc"
abbrev s_Many_depth:Stmt:=inClass (top 23) 4
theorem sc_Many_depth:FnScope ["self"] ["self"] (defScope s_Many_depth):=by walk_at "sc"
abbrev s_Pick_greatest:Stmt:=inClass (top 24) 4
theorem sc_Pick_greatest:FnScope ["self"] ["self"] (defScope s_Pick_greatest):=by walk_at "sc"
abbrev s_Pick_depth:Stmt:=inClass (top 24) 5
theorem sc_Pick_depth:FnScope ["self"] ["self"] (defScope s_Pick_depth):=by walk_at "sc"
abbrev s_Pick_size:Stmt:=inClass (top 24) 3
theorem sc_Pick_size:FnScope ["self"] ["self"] (defScope s_Pick_size):=by walk_at "sc"
abbrev s_Num_init:Stmt:=inClass (top 21) 0
theorem sc_Num_init:FnScope ["self","width"] ["self","width"] (defScope s_Num_init):=by walk_at "sc"
abbrev s_Nested_init:Stmt:=inClass (top 22) 0
theorem sc_Nested_init:FnScope ["self","shape"] ["self","shape"] (defScope s_Nested_init):=by walk_at "sc"
abbrev s_Many_init:Stmt:=inClass (top 23) 0
theorem sc_Many_init:FnScope ["self","count","kind"] ["self","count","kind"] (defScope s_Many_init):=by walk_at "sc"
abbrev s_Pick_init:Stmt:=inClass (top 24) 0
theorem sc_Pick_init:FnScope ["self","shapes"] ["self","shapes"] (defScope s_Pick_init):=by walk_at "sc"
abbrev s_Shapes_init:Stmt:=inClass (top 26) 0
theorem sc_Shapes_init:FnScope ["self","shapes"] ["self","shapes"] (defScope s_Shapes_init):=by walk_at "sc"
abbrev s_Num_units_at:Stmt:=inClass (top 21) 6
theorem sc_Num_units_at:FnScope ["self","path"] ["self","path"] (defScope s_Num_units_at):=by walk_at "sc"
abbrev s_Pick_units_at:Stmt:=inClass (top 24) 7
theorem sc_Pick_units_at:FnScope ["self","path"] ["self","path"] (defScope s_Pick_units_at):=by walk_at "sc"
abbrev s_Nested_parted:Stmt:=inClass (top 22) 5
theorem sc_Nested_parted:FnScope ["self"] ["self"] (defScope s_Nested_parted):=by walk_at "sc"
abbrev s_Many_parted:Stmt:=inClass (top 23) 5
theorem sc_Many_parted:FnScope ["self"] ["self"] (defScope s_Many_parted):=by walk_at "sc"
abbrev s_Kind_units_at:Stmt:=inClass (top 20) 2
theorem sc_Kind_units_at:FnScope ["self","path","rows","step","kind"] ["self","path"] (defScope s_Kind_units_at):=by walk_at "sc"
abbrev s_Shape_units:Stmt:=inClass (top 25) 3
theorem sc_Shape_units:FnScope ["self"] ["self"] (defScope s_Shape_units):=by walk_at "sc"
abbrev s_Shape_init:Stmt:=inClass (top 25) 0
theorem sc_Shape_init:FnScope ["self","name","fields"] ["self","name","fields"] (defScope s_Shape_init):=by walk_at "sc"
abbrev s_is_single:Stmt:=top 41
theorem sc_is_single:FnScope ["words"] ["words"] (defScope s_is_single):=by walk_at "sc"
abbrev s_is_kind:Stmt:=top 40
theorem sc_is_kind:FnScope ["words"] ["words"] (defScope s_is_kind):=by walk_at "sc"
abbrev s_is_field_line:Stmt:=top 39
theorem sc_is_field_line:FnScope ["words"] ["words"] (defScope s_is_field_line):=by walk_at "sc"
abbrev s_shapes_named:Stmt:=top 44
theorem sc_shapes_named:FnScope ["words"] ["words"] (defScope s_shapes_named):=by walk_at "sc"
abbrev s_whole_shapes:Stmt:=top 45
theorem sc_whole_shapes:FnScope ["told"] ["told"] (defScope s_whole_shapes):=by walk_at "sc"
abbrev s_kind_in:Stmt:=top 47
theorem sc_kind_in:FnScope ["words","shapes"] ["words","shapes"] (defScope s_kind_in):=by walk_at "sc"
abbrev s_RoomError_init:Stmt:=inClass (top 2) 0
theorem sc_RoomError_init:FnScope ["self","words"] ["self","words"] (defScope s_RoomError_init):=by walk_at "sc"
abbrev s_Shapes_main:Stmt:=inClass (top 26) 2
theorem sc_Shapes_main:FnScope ["self"] ["self"] (defScope s_Shapes_main):=by walk_at "sc"
abbrev s_NoShapes_init:Stmt:=inClass (top 3) 0
theorem sc_NoShapes_init:FnScope ["self","line"] ["self","line"] (defScope s_NoShapes_init):=by walk_at "sc"
abbrev s_TooMuch_init:Stmt:=inClass (top 6) 0
theorem sc_TooMuch_init:FnScope ["self","line"] ["self","line"] (defScope s_TooMuch_init):=by walk_at "sc"
abbrev s_UnknownShape_init:Stmt:=inClass (top 4) 0
theorem sc_UnknownShape_init:FnScope ["self","line","name"] ["self","line","name"] (defScope s_UnknownShape_init):=by walk_at "sc"
abbrev s_NamedTwice_init:Stmt:=inClass (top 5) 0
theorem sc_NamedTwice_init:FnScope ["self","line","name"] ["self","line","name"] (defScope s_NamedTwice_init):=by walk_at "sc"
abbrev s_need_new_shape:Stmt:=top 42
theorem sc_need_new_shape:FnScope ["told","line","name"] ["told","line","name"] (defScope s_need_new_shape):=by walk_at "sc"
abbrev s_is_too_much:Stmt:=top 48
theorem sc_is_too_much:FnScope ["shape"] ["shape"] (defScope s_is_too_much):=by walk_at "sc"
abbrev s_with_field:Stmt:=top 46
theorem sc_with_field:FnScope ["told","line","words","kind","shape"] ["told","line","words"] (defScope s_with_field):=by walk_at "sc"
abbrev s_need_field:Stmt:=top 43
theorem sc_need_field:FnScope ["told","line","words","named","at","name"] ["told","line","words"] (defScope s_need_field):=by walk_at "sc"
abbrev s_read_shapes:Stmt:=top 37
theorem sc_read_shapes:FnScope ["text","lines","told","line","row","words"] ["text"] (defScope s_read_shapes):=by walk_at "sc"
abbrev s_law_told:Stmt:=top 53
theorem sc_law_told:FnScope ["_law_lines","_law_told_here","e"] ["_law_lines"] (defScope s_law_told):=by walk_at "sc"
abbrev s_law_shapes_right:Stmt:=top 54
theorem sc_law_shapes_right:FnScope ["_law_box_here","_law_many","_law_lines","_law_k"] ["_law_box_here"] (defScope s_law_shapes_right):=by walk_at "sc"
abbrev s_law_fields_right:Stmt:=top 55
theorem sc_law_fields_right:FnScope ["_law_box_here","_law_many","_law_lines"] ["_law_box_here"] (defScope s_law_fields_right):=by walk_at "sc"
abbrev s_law_units_right:Stmt:=top 57
theorem sc_law_units_right:FnScope ["_law_box_here","_law_more","_law_twos","_law_lines","_law_many"] ["_law_box_here"] (defScope s_law_units_right):=by walk_at "sc"
abbrev s_law_cells_right:Stmt:=top 56
theorem sc_law_cells_right:FnScope ["_law_box_here","_law_more","_law_last","_law_way","_law_head","_law_fields","_law_size","_law_due","_law_at","_law_line","_law_cells","_law_lines"] ["_law_box_here"] (defScope s_law_cells_right):=by walk_at "sc"
abbrev s_law_depths_right:Stmt:=top 58
theorem sc_law_depths_right:FnScope ["_law_box_here","_law_deep","_law_lines","_law_names","_law_k","_law_ahead","_law_kind"] ["_law_box_here"] (defScope s_law_depths_right):=by walk_at "sc"
abbrev s_law:Stmt:=top 59
theorem sc_law:FnScope ["_law_script","_law_k","_law_box_here","_law_turn"] ["_law_script"] (defScope s_law):=by walk_at "sc"
structure ZZ (K:Frag) (mg:Str->Option Value) (t1 t2 t3 t4 t5 t6 t7 t8 t9 t10 t11 t12 t13:Tok) (ts:Addr) (Va cIu:Addr) (Vb cIv:Addr) (Vc cIx:Addr) (Vd cIy:Addr) (Ve cIz:Addr) (Vf cIw:Addr) (cRE fRE:Addr) (C_NamedTwice f_NamedTwice_init:Addr) (C_NoShapes f_NoShapes_init:Addr) (C_TooMuch f_TooMuch_init:Addr) (C_UnknownShape f_UnknownShape_init:Addr):Prop where
 M:Blt mg
 C:Cst K mg t1 t2 t3 t4 t5 t6 t7 t8 t9 t10 t11 t12 t13 ts
 Ua:TCls K mg "Num" Va cIu ["width"]
 Ub:TCls K mg "Nested" Vb cIv ["shape"]
 Uc:TCls K mg "Many" Vc cIx ["count","kind"]
 Ud:TCls K mg "Pick" Vd cIy ["shapes"]
 Ue:TCls K mg "Shape" Ve cIz ["name","fields"]
 Uf:TCls K mg "Shapes" Vf cIw ["shapes"]
 tRE:TXB K mg cRE fRE
 VI:VInit K
 T_NamedTwice:TX K mg "NamedTwice" C_NamedTwice cRE f_NamedTwice_init ["line","name"]
 T_NoShapes:TX K mg "NoShapes" C_NoShapes cRE f_NoShapes_init ["line"]
 T_TooMuch:TX K mg "TooMuch" C_TooMuch cRE f_TooMuch_init ["line"]
 T_UnknownShape:TX K mg "UnknownShape" C_UnknownShape cRE f_UnknownShape_init ["line","name"]
section
variable (P:Program) (w:World) {K:Frag} {mg:Str->Option Value} (base:Heap) {t1 t2 t3 t4 t5 t6 t7 t8 t9 t10 t11 t12 t13:Tok} {ts:Addr} {Va cIu:Addr} {Vb cIv:Addr} {Vc cIx:Addr} {Vd cIy:Addr} {Ve cIz:Addr} {Vf cIw:Addr} {cRE fRE:Addr} {C_NamedTwice f_NamedTwice_init:Addr} {C_NoShapes f_NoShapes_init:Addr} {C_TooMuch f_TooMuch_init:Addr} {C_UnknownShape f_UnknownShape_init:Addr} (Z:ZZ K mg t1 t2 t3 t4 t5 t6 t7 t8 t9 t10 t11 t12 t13 ts Va cIu Vb cIv Vc cIx Vd cIy Ve cIz Vf cIw cRE fRE C_NamedTwice f_NamedTwice_init C_NoShapes f_NoShapes_init C_TooMuch f_TooMuch_init C_UnknownShape f_UnknownShape_init)
variable {f:Addr} {fd:FuncData}
include Z
theorem ok_is_text_of {k:Nat} (F:Fun K "is_text_of" "is_text_of" s_is_text_of f fd):FnOk P w K mg base CX0 (k + 2) f fd ["thing","signs","most"] (spTextOf K):=by
 w_cond sc_is_text_of
 ·obtain⟨x,signs,most,rfl,_⟩:=h;rfl
 obtain⟨x,signs,most,rfl,h⟩:=h
 walk_at "hr"
 refine⟨_,(pss_cons (ps_if (PW.pt (pw_or (pt_not (pt_val (pe_callB (CallR.or call_isi call_isiD) rfl M.isinstance boot_isinstance (pa_cons (pv 0) (pa_cons (pe_bltn (v:=.ty "str") rfl M.str boot_str rfl) pa_nil))))) (pw_or1 (pt_not (pt_chain op_le op_le pe_int (pe_callB call_len rfl M.len PySem.boot_len (pa_cons (pv 0) pa_nil)) (pv 2)))))) (pss_one (ps_ret pe_bl)) pss_nil)
   (pss_one (ps_ret (pe_callB (call_all rfl) rfl M.all boot_all (pa_cons (pe_comp ["sign"] ["signs"] [1] rfl (pi_str (pv 0)) rfl ⟨rfl,trivial⟩ ⟨⟨rfl,rfl,rfl,_,rfl⟩,trivial⟩ (fun _ _ _ _=>(pg_name (i:=0) (show List.Nodup (["sign","signs"]:List Str) from by decide +kernel) rfl (Or.inl rfl))) (fun _ _ _ _=>pif_nil) (fun _ _ _ _=>(pe_cmpR op_in_str (pv 0) (pv 1) (by with_unfolding_all rfl)))) pa_nil))))),?_⟩
 rcases h with⟨z,rfl,hz,q⟩|⟨t,ht,hns,q⟩
 ·have hl:=len_list z
  refine⟨_,rfl,.inl ⟨_,_,"str",rfl,by decide,rfl,_,rfl,iteN (by decide) ?_⟩⟩
  refine⟨_,rfl,.str z,z.length,rfl,⟨small hz,rfl⟩,_,_,rfl,rfl,_,rfl,ite2 (fun c1=>?_) (fun c1=>?_)⟩
  ·refine⟨_,rfl,_,_,rfl,rfl,_,rfl,ite2 (fun c2=>?_) (fun c2=>?_)⟩
   ·have e:within z most=false:=by
     unfold within
     have:decide ((z.length:Int)<=most)=false:=by simpa using c2
     rw [this,Bool.and_false]
    have:=q H (Same.refl H)
    rw [e,Bool.false_and] at this
    exact this
   ·have e:within z most=true:=by
     unfold within
     have c2':decide ((z.length:Int)<=most)=true:=by simpa using c2
     rw [c2',c1];rfl
    refine⟨_,rfl,z,rfl,comp_str (fun i ys H'=>H'=H/\ys=((z.cps.toList.take i).map fun c=>decide (c ∈ signs.cps.toList)).map V.bl) ⟨rfl,rfl⟩ (fun i ys H' _ w=>by rw [w.2,List.length_map,List.length_map];exact List.length_take_le ..) (small1000 hz) (fun i c ys H' hc w=>?_) (fun ys H' w p hp=>?_)⟩
    ·obtain⟨rfl,rfl⟩:=w
     refine⟨_,rfl,_,rfl,⟨#[c]⟩,signs,rfl,rfl,⟨rfl,?_⟩,_,rfl⟩
     rw [all_snoc (fun c=>decide (c ∈ signs.cps.toList)) _ i hc,List.map_append,in_one];rfl
    ·obtain⟨rfl,rfl⟩:=w
     refine⟨p,(z.cps.toList.map fun c=>decide (c ∈ signs.cps.toList)),rfl,SqL.of ?_,?_⟩
     ·rw [upd_same,← hl,List.take_length]
     ·have:=q _ (same_new hp (.lst (((z.cps.toList.take z.length).map fun c=>decide (c ∈ signs.cps.toList)).map V.bl)))
      rw [e,Bool.true_and] at this
      rw [all_map]
      exact this
  ·refine⟨_,rfl,?_⟩
   have e:within z most=false:=by
    unfold within
    have:decide (1<=(z.length:Int))=false:=by simpa using c1
    rw [this,Bool.false_and]
   have:=q H (Same.refl H)
   rw [e,Bool.false_and] at this
   exact iteP (by decide) this
 ·rcases ht with ht|⟨rfl,p,kvs,rfl,hp⟩
  ·exact⟨_,rfl,.inl ⟨x,_,t,rfl,by decide,ht,_,rfl,iteP (by rw [isa3 hns];rfl) (iteT q)⟩⟩
  ·exact⟨_,rfl,.inr ⟨p,_,kvs,rfl,by decide,hp,_,rfl,iteP (by decide) (iteT q)⟩⟩
theorem ok_is_name {k:Nat} (F:Fun K "is_name" "is_name" s_is_name f fd) {f_is_text_of:Addr} {fd_is_text_of:FuncData} (D_is_text_of:Df K mg "is_text_of" f_is_text_of fd_is_text_of ["thing","signs","most"]) (G_is_text_of:FnOk P w K mg base CX0 k f_is_text_of fd_is_text_of ["thing","signs","most"] (spTextOf K)):FnOk P w K mg base CX0 (k + 2) f fd ["thing"] (spIsName K):=by
 w_cond sc_is_name
 ·obtain⟨x,rfl,_⟩:=h;rfl
 obtain⟨x,rfl,h⟩:=h
 walk_at "hr"
 refine⟨_,(pss_one (ps_ret (pe_and (pe_call G_is_text_of hr rfl D_is_text_of.m D_is_text_of.k D_is_text_of.b .nil pass0 (pa_cons (pv 0) (pa_cons (pe_glob (v:=.str "abcdefghijklmnopqrstuvwxyz") rfl C.SMALL_LETTERS ⟨_,rfl⟩) (pa_cons (pe_glob (v:=.int 6) rfl C.MOST_LETTERS ⟨_,rfl⟩) pa_nil)))) (pe_one (pe_cmpR op_notIn_seq (pv 0) (pe_glob (v:=.ref ts) rfl C.OWN_WORDS rfl) (by with_unfolding_all rfl)))))),?_⟩
 rcases h with⟨z,rfl,hz,q⟩|⟨t,ht,hns,q⟩
 ·refine⟨_,rfl,.str z,lettersS,6,rfl,.inl ⟨z,rfl,hz,fun H1 g1=>⟨_,rfl,ite2 (fun c=>?_) (fun c=>?_)⟩⟩⟩
  ·refine⟨_,rfl,ts,_,rfl,.inr (C.words _),rfl,flat_strs _,?_⟩
   show Q (.bl (!inV (.str z) (ownL.map V.str))) H1
   rw [inV_strs]
   have:=q H1 g1
   unfold nameB at this
   rw [c,Bool.true_and] at this
   exact this
  ·have:=q H1 g1
   unfold nameB at this
   rw [Bool.eq_false_iff.mpr c,Bool.false_and] at this
   exact this
 ·exact⟨_,rfl,x,lettersS,6,rfl,.inr ⟨t,ht,hns,⟨_,rfl,iteF (q H (Same.refl H))⟩⟩⟩
theorem ok_number_in {k:Nat} (F:Fun K "number_in" "number_in" s_number_in f fd) {f_is_text_of:Addr} {fd_is_text_of:FuncData} (D_is_text_of:Df K mg "is_text_of" f_is_text_of fd_is_text_of ["thing","signs","most"]) (G_is_text_of:FnOk P w K mg base CX0 k f_is_text_of fd_is_text_of ["thing","signs","most"] (spTextOf K)):FnOk P w K mg base CX0 (k + 2) f fd ["text","low","high"] (spNumberIn K):=by
 w_cond sc_number_in
 ·obtain⟨x,lo,hi,rfl,_⟩:=h;rfl
 obtain⟨x,lo,hi,rfl,h⟩:=h
 walk_at "hr"
 refine⟨_,(pss_cons (ps_if (pt_not (pt_val (pe_call G_is_text_of hr rfl D_is_text_of.m D_is_text_of.k D_is_text_of.b .nil pass0 (pa_cons (pv 0) (pa_cons (pe_glob (v:=.str "0123456789") rfl C.FIGURES ⟨_,rfl⟩) (pa_cons (pe_glob (v:=.int 10) rfl C.MOST_FIGURES ⟨_,rfl⟩) pa_nil)))))) (pss_one (ps_ret pe_non)) pss_nil)
   (pss_cons (ps_if (PW.pt (pw_and (pt_cmpR op_eq (pe_ix ix_str (pv 0) pe_int (fun _ _=>rfl)) pe_str (nomark _)) (pw_and1 (pt_cmpR op_gt (pe_callB call_len rfl M.len PySem.boot_len (pa_cons (pv 0) pa_nil)) pe_int (nomark _))))) (pss_one (ps_ret pe_non)) pss_nil)
   (pss_cons (ps_set (i:=3) sc_number_in.nd rfl (by walk_at "o") (pe_callTy call_int_txt rfl M.int boot_int (pa_cons (pv 0) pa_nil)))
   (pss_one (ps_ret (pe_ifExp (pt_chain op_le op_le (pv 1) (pv 3) (pv 2)) (pv 3) pe_non)))))),?_⟩
 rcases h with⟨z,rfl,hz,q⟩|⟨t,ht,hns,q⟩
 ·have hl:=len_list z
  refine⟨_,rfl,.str z,figuresS,10,rfl,.inl ⟨z,rfl,hz,fun H1 g1=>⟨_,rfl,ite2 (fun c=>?_) (fun c=>?_)⟩⟩⟩
  ·have e:numB z=none:=by
    unfold numB
    rw [if_neg]
    intro w
    rw [Bool.and_eq_true] at w
    rw [w.1] at c
    exact absurd c (by decide)
   have:=q H1 g1
   rw [e] at this
   exact this
  ·have c':(within z 10 && allIn z figuresS)=true:=by simpa using c
   have hw : 1<=(z.length:Int):=by
    rw [Bool.and_eq_true] at c'
    unfold within at c'
    have:=c'.1
    rw [Bool.and_eq_true] at this
    exact of_decide_eq_true this.1
   have hw2:(z.length:Int)<=10:=by
    rw [Bool.and_eq_true] at c'
    unfold within at c'
    have:=c'.1
    rw [Bool.and_eq_true] at this
    exact of_decide_eq_true this.2
   have hd:PySem.NumText.AllDigits z.cps.toList:=fun d hd=>by
    rw [Bool.and_eq_true] at c'
    have:=List.all_eq_true.mp c'.2 d hd
    exact (mem_figures d).mp (of_decide_eq_true this)
   obtain⟨c0,hc0⟩ : ∃ c0,z.cps.toList[0]?=some c0:=⟨_,List.getElem?_eq_getElem (by omega)⟩
   have at0:atI z.cps.toList 0=some c0:=by
    have:=atI_nat (j:=0) hc0
    simpa using this
   have lead:leadB z=(decide (c0=48) && decide (1 < (z.length:Int))):=by
    unfold leadB
    rw [hc0]
    congr 1
    rw [Bool.eq_iff_iff];simp
   have no:leadB z=true->Q .non H1:=fun w=>by
    have e:numB z=none:=by
     unfold numB
     rw [if_neg]
     intro v
     rw [Bool.and_eq_true,w] at v
     exact absurd v.2 (by decide)
    have:=q H1 g1
    rw [e] at this
    exact this
   have yes:leadB z=false->numB z=some ((PySem.NumText.digitsVal z.cps.toList:Nat):Int):=fun w=>by
    unfold numB
    rw [if_pos]
    rw [c',w];rfl
   have hnum:=PySem.intText_digits (x:=z) hd (by intro w;rw [w] at hc0;cases hc0) (by omega)
   refine⟨_,rfl,z,_,c0,rfl,rfl,small hz,at0,rfl,_,rfl,?_⟩
   rw [is_0]
   refine ite2 (fun c1=>?_) (fun c1=>?_)
   ·refine⟨_,rfl,.str z,z.length,rfl,⟨small hz,rfl⟩,_,_,rfl,rfl,_,rfl,ite2 (fun c2=>?_) (fun c2=>?_)⟩
    ·exact no (by rw [lead,c1];simpa using c2)
    ·have ey:=yes (by rw [lead,Bool.eq_false_iff.mpr c2,Bool.and_false])
     refine⟨_,rfl,z,_,rfl,hnum,by omega,?_⟩
     refine⟨_,rfl,_,rfl,_,_,rfl,rfl,_,rfl,ite2 (fun d1=>⟨_,rfl,_,_,rfl,rfl,_,rfl,ite2 (fun d2=>⟨_,rfl,?_⟩) (fun d2=>?_)⟩) (fun d1=>⟨_,rfl,iteF ?_⟩)⟩
     ·have:=q H1 g1
      rw [ey,boundV,if_pos ⟨of_decide_eq_true d1,of_decide_eq_true d2⟩] at this
      exact this
     ·have:=q H1 g1
      rw [ey,boundV,if_neg (fun w=>d2 (decide_eq_true w.2))] at this
      exact this
     ·have:=q H1 g1
      rw [ey,boundV,if_neg (fun w=>d1 (decide_eq_true w.1))] at this
      exact this
   ·have ey:=yes (by rw [lead,Bool.eq_false_iff.mpr c1,Bool.false_and])
    refine iteF ⟨_,rfl,z,_,rfl,hnum,by omega,?_⟩
    refine⟨_,rfl,_,rfl,_,_,rfl,rfl,_,rfl,ite2 (fun d1=>⟨_,rfl,_,_,rfl,rfl,_,rfl,ite2 (fun d2=>⟨_,rfl,?_⟩) (fun d2=>?_)⟩) (fun d1=>⟨_,rfl,iteF ?_⟩)⟩
    ·have:=q H1 g1
     rw [ey,boundV,if_pos ⟨of_decide_eq_true d1,of_decide_eq_true d2⟩] at this
     exact this
    ·have:=q H1 g1
     rw [ey,boundV,if_neg (fun w=>d2 (decide_eq_true w.2))] at this
     exact this
    ·have:=q H1 g1
     rw [ey,boundV,if_neg (fun w=>d1 (decide_eq_true w.1))] at this
     exact this
 ·exact⟨_,rfl,x,figuresS,10,rfl,.inr ⟨t,ht,hns,⟨_,rfl,iteP (by decide) (q H (Same.refl H))⟩⟩⟩
theorem ok_joined {k:Nat} (F:Fun K "joined" "joined" s_joined f fd):FnOk P w K mg base CX0 (k + 2) f fd ["path","step"] spJoined:=by
 w_cond sc_joined
 ·obtain⟨p,x,y,rfl,_⟩:=h;rfl
 obtain⟨p,x,y,rfl,hy,hp,hl,q⟩:=h
 walk_at "hr"
 refine⟨_,(pss_one (ps_ret (pe_ifExp (pt_truth (pv 0) (fun _=>rfl)) (pe_join (pj_val (pv 0) (pj_str (pj_val (pv 1) pj_nil)))) (pe_join1 (pv 1))))),?_⟩
 refine⟨_,rfl,_,⟨small hp,rfl⟩,ite2 (fun c=>?_) (fun c=>?_)⟩
 ·have hne:¬ p.length=0:=fun z=>by rw [z] at c;exact absurd c (by decide)
  have l1:(Str.empty++p).length<=sizeLine:=by rw [emp_app];exact small hp
  have l2:(Str.empty++p++Str.ofString ".").length<=sizeLine:=by rw [emp_app,strLen_append];exact len_le (by have:(Str.ofString ".").length=1:=rfl;omega)
  have l3:(Str.empty++p++Str.ofString "." ++ y).length<=sizeLine:=by rw [emp_app,strLen_append,strLen_append];exact len_le (by have:(Str.ofString ".").length=1:=rfl;omega)
  refine⟨_,rfl,p,rfl,small hp,l1,l2,_,rfl,y,hy,small hl,l3,l3,?_⟩
  rw [emp_app]
  unfold pj at q
  rw [if_neg hne] at q
  exact q
 ·have hne:p.length=0:=by
   by_cases z:p.length=0
   ·exact z
   ·exact absurd (show ((p.length:Int) != 0)=true from bne_iff_ne.mpr (by omega)) c
  unfold pj at q
  rw [if_pos hne] at q
  exact⟨_,rfl,y,hy,small hl,q⟩
theorem ok_law_box {k:Nat} (F:Fun K "_law_box" "_law_box" s_law_box f fd):FnOk P w K mg base CX0 (k + 2) f fd ["_law_cell_here"] spBox:=by
 w_cond sc_law_box
 ·obtain⟨c,rfl,_⟩:=h;rfl
 obtain⟨c,rfl,q⟩:=h
 walk_at "hr"
 refine⟨_,(pss_one (ps_ret (pe_lst (pa_cons (pe_callB (call_max2 rfl) rfl M.max boot_max (pa_cons pe_int (pa_cons (pe_op op_sub (pv 0) (pe_op op_pow pe_int pe_int)) pa_nil))) (pa_cons (pe_op op_mod (pv 0) pe_int) (pa_cons pe_int pa_nil)))))),?_⟩
 exact⟨_,rfl,_,_,rfl,rfl,⟨by decide,by decide,by decide⟩,_,_,rfl,rfl,_,_,rfl,_,rfl,_,_,rfl,rfl,(by show (0:Int) < _;decide),szL3,fun p hp=>q p _ hp ⟨⟨_,_,_,upd_same⟩,fun b o n e=>by rw [upd_ne n];exact e⟩⟩
theorem ok_law_take {k:Nat} (F:Fun K "_law_take" "_law_take" s_law_take f fd):FnOk P w K mg base CX0 (k + 2) f fd ["_law_box_here","_law_many"] spTake:=by
 w_cond sc_law_take
 ·obtain⟨p,m,rfl,_⟩:=h;rfl
 obtain⟨p,m,rfl,hm,hm2,⟨a,b,c,h⟩,q⟩:=h
 walk_at "hr"
 refine⟨_,(pss_cons (ps_if (pt_cmpR op_gt (pe_ix ix_list (pv 0) pe_int (fun _ _=>rfl)) pe_int (nomark _)) (pss_cons (ps_set (i:=2) sc_law_take.nd rfl (by walk_at "o") (pe_op op_mod (pe_ix ix_list (pv 0) pe_int (fun _ _=>rfl)) (pv 1)))
   (pss_cons (ps_asg (pe_op op_fdiv (pe_ix ix_list (pv 0) pe_int (fun _ _=>rfl)) (pv 1)) (pg_sub (pv 0) pe_int set_list))
   (pss_one (ps_ret (pv 2))))) pss_nil)
   (pss_cons (ps_asg (pe_op op_add (pe_ix ix_list (pv 0) pe_int (fun _ _=>rfl)) pe_int) (pg_sub (pv 0) pe_int set_list))
   (pss_cons (ps_set (i:=3) sc_law_take.nd rfl (by walk_at "o") (pe_op op_mod (pe_op op_mul (pe_op op_add (pe_op op_add (pe_ix ix_list (pv 0) pe_int (fun _ _=>rfl)) (pe_op op_mul pe_int (pe_ix ix_list (pv 0) pe_int (fun _ _=>rfl)))) pe_int) pe_int) pe_int))
   (pss_cons (ps_set (i:=3) sc_law_take.nd rfl (by walk_at "o") (pe_op op_mod (pe_op op_add (pe_op op_add (pe_op op_mul (pv 3) (pv 3)) (pe_op op_mul pe_int (pe_ix ix_list (pv 0) pe_int (fun _ _=>rfl)))) pe_int) pe_int))
   (pss_one (ps_ret (pe_op op_mod (pe_op op_fdiv (pe_op op_mod (pe_op op_mul (pv 3) (pe_op op_add (pv 3) pe_int)) pe_int) pe_int) (pv 1)))))))),?_⟩
 have nat:∀ x:Int,∃ v:Nat,x % m=(v:Int)/\(v:Int) < m:=fun x=>by
  have h0:=Int.emod_nonneg x (show m ≠ 0 by omega)
  have h1:=Int.emod_lt_of_pos x hm
  exact⟨(x % m).toNat,by omega,by omega⟩
 refine⟨_,rfl,p,_,_,_,rfl,rfl,SqL.of h,rfl,_,_,rfl,rfl,_,rfl,ite2 (fun cc=>?_) (fun cc=>?_)⟩
 ·refine⟨_,rfl,p,_,_,_,rfl,rfl,SqL.of h,rfl,_,rfl,_,_,rfl,rfl,hm,?_⟩
  refine⟨_,rfl,p,_,_,_,rfl,rfl,SqL.of h,rfl,_,rfl,_,_,rfl,rfl,⟨hm,hm2⟩,_,rfl,p,_,_,0,rfl,rfl,h,rfl,?_⟩
  obtain⟨v,hv,hl⟩:=nat a
  refine⟨_,rfl,?_⟩
  show Q (.int (a % m)) _
  rw [hv]
  exact q v _ hl ⟨⟨_,_,_,upd_same⟩,fun b' o n e=>by rw [upd_ne n];exact e⟩
 ·refine⟨_,rfl,p,_,_,_,rfl,rfl,SqL.of h,rfl,_,_,rfl,rfl,_,rfl,p,_,_,2,rfl,rfl,h,rfl,?_⟩
  have h1:upd H p (.lst [.int a,.int b,.int (c + 1)]) p=some (.lst [.int a,.int b,.int (c + 1)]):=upd_same
  refine⟨_,rfl,p,_,_,_,rfl,rfl,SqL.of h1,rfl,_,rfl,p,_,_,_,rfl,rfl,SqL.of h1,rfl,_,_,rfl,rfl,.inl ⟨by omega,by omega⟩,_,_,rfl,rfl,_,_,rfl,rfl,_,_,rfl,rfl,.inr ⟨by omega,by omega⟩,_,_,rfl,rfl,(by show (0:Int) < _;decide),?_⟩
  refine⟨_,rfl,_,rfl,_,_,rfl,rfl,.inl ⟨by omega,by omega⟩,_,rfl,p,_,_,_,rfl,rfl,SqL.of h1,rfl,_,_,rfl,rfl,.inl ⟨by omega,by omega⟩,_,_,rfl,rfl,_,_,rfl,rfl,_,_,rfl,rfl,(by show (0:Int) < _;decide),?_⟩
  refine⟨_,rfl,_,rfl,_,_,rfl,rfl,_,_,rfl,rfl,.inl ⟨by omega,by omega⟩,_,_,rfl,rfl,(by show (0:Int) < _;decide),_,_,rfl,rfl,⟨by decide,by decide⟩,_,rfl,_,_,rfl,rfl,hm,?_⟩
  dsimp only
  generalize hz:(_ % m:Int)=z
  obtain⟨v,hv,hl⟩:=nat (((((((b + 7919 * (c + 1) + 17) * 48271 % 2147483629) * ((b + 7919 * (c + 1) + 17) * 48271 % 2147483629) + 16807 * (c + 1) + 3) % 2147483587) * (((((b + 7919 * (c + 1) + 17) * 48271 % 2147483629) * ((b + 7919 * (c + 1) + 17) * 48271 % 2147483629) + 16807 * (c + 1) + 3) % 2147483587) + 11)) % 2147483647) / 8)
  rw [← hz,hv]
  exact q v _ hl ⟨⟨_,_,_,upd_same⟩,fun b' o n e=>by rw [upd_ne n];exact e⟩
theorem ok_law_cell {k:Nat} (F:Fun K "_law_cell" "_law_cell" s_law_cell f fd):FnOk P w K mg base CX0 (k + 2) f fd ["_law_script","_law_k"] (spCell K):=by
 w_cond sc_law_cell
 ·obtain⟨a,ns,k,rfl,_⟩:=h;rfl
 obtain⟨a,ns,k,rfl,hS,hk0,hk1,q⟩:=h
 walk_at "hr"
 refine⟨_,(pss_cons (ps_if (pt_cmpR op_lt (pv 1) (pe_callB call_len_seq rfl M.len PySem.boot_len (pa_cons (pv 0) pa_nil)) (nomark _)) (pss_one (ps_ret (pe_ix ix_list (pv 0) (pv 1) (fun _ _=>rfl)))) pss_nil)
   (pss_one (ps_ret (pe_op op_add (pe_op op_mul pe_int (pv 1)) pe_int)))),?_⟩
 have hl:(ns.map V.int).length=ns.length:=List.length_map _
 refine⟨_,rfl,_,rfl,a,_,rfl,.inl hS,_,_,rfl,rfl,_,rfl,?_⟩
 refine ite2 (fun c=>?_) (fun c=>?_)
 ·have c':k < (((ns.map V.int).length:Nat):Int):=of_decide_eq_true c
  rw [hl] at c'
  obtain⟨v,hv⟩:=atI_ints ns hk0 c'
  exact⟨_,rfl,_,rfl,a,_,_,_,rfl,rfl,hS,hv,q _⟩
 ·exact⟨_,rfl,_,_,rfl,rfl,.inl ⟨by omega,by omega⟩,_,_,rfl,rfl,q _⟩
theorem ok_is_shape_line {k:Nat} (F:Fun K "is_shape_line" "is_shape_line" s_is_shape_line f fd) {f_is_name:Addr} {fd_is_name:FuncData} (D_is_name:Df K mg "is_name" f_is_name fd_is_name ["thing"]) (G_is_name:FnOk P w K mg base CX0 k f_is_name fd_is_name ["thing"] (spIsName K)):FnOk P w K mg base CX0 (k + 2) f fd ["words"] (spShL K):=by
 w_cond sc_is_shape_line
 ·obtain⟨a,ws,rfl,_⟩:=h;rfl
 obtain⟨a,ws,rfl,hw,q⟩:=h
 walk_at "hr"
 refine⟨_,(pss_one (ps_ret (pe_and (pe_cmpR op_eq (pe_callB call_len_seq rfl M.len PySem.boot_len (pa_cons (pv 0) pa_nil)) pe_int (nomark _)) (pe_and (pe_cmpR op_eq (pe_ix ix_list (pv 0) pe_int (fun _ _=>rfl)) pe_str (nomark _)) (pe_one (pe_call G_is_name hr rfl D_is_name.m D_is_name.k D_is_name.b .nil pass0 (pa_cons (pe_ix ix_list (pv 0) pe_int (fun _ _=>rfl)) pa_nil))))))),?_⟩
 refine⟨_,rfl,a,_,rfl,.inl hw.l,rfl,_,rfl,?_⟩
 match ws,hw,q with
 | [],hw,q=>exact iteN (by decide) (q _ (Same.refl _))
 | [x],hw,q=>exact iteN (by simp) (q _ (Same.refl _))
 | x::y::z::r,hw,q=>exact iteN (by simp;omega) (q _ (Same.refl _))
 | [x,y],hw,q =>
  refine iteP (by simp) ⟨_,rfl,a,_,_,_,rfl,rfl,hw.l,rfl,rfl,_,rfl,ite2 (fun c=>?_) (fun c=>?_)⟩
  ·refine⟨_,rfl,a,_,_,_,rfl,rfl,hw.l,rfl,.str y,rfl,.inl ⟨y,rfl,hw.s y (by simp),fun H1 g1=>?_⟩⟩
   have e:isShB [x,y]=nameB y:=by
    show (decide (x=Str.ofString "shape") && nameB y)=_
    rw [decide_eq_true (show x=Str.ofString "shape" from by simpa using c),Bool.true_and]
   have:=q H1 g1
   rw [e] at this
   exact this
  ·have e:isShB [x,y]=false:=by
    show (decide (x=Str.ofString "shape") && nameB y)=_
    rw [decide_eq_false (show ¬ x=Str.ofString "shape" from by simpa using c),Bool.false_and]
   have:=q _ (Same.refl _)
   rw [e] at this
   exact this
theorem ok_Num_size {k r:Nat} (F:Fun K "size" "Num.size" s_Num_size f fd):FnOk P w K mg base CX0 (k + 2) f fd ["self"] (spV (Cl5.mk Va Vb Vc Vd Ve) K r Kd.isNum vSz):=by
 w_cond sc_Num_size
 ·obtain⟨a,kd,sa,S,rfl,_⟩:=h;rfl
 obtain⟨a,kd,sa,S,rfl,hF,hk,hf,ho,hw,hg,q⟩:=h
 walk_at "hr"
 refine⟨_,(pss_one (ps_ret (pe_fld (pv 0) rfl))),?_⟩
 cases id ho with
 | num h1 =>
  exact⟨_,rfl,a,Va,_,_,_,rfl,h1,Ua.cl,Ua.na _ (by decide),rfl,q _ (Same.refl _)⟩
 | _=>cases hF
theorem ok_Nested_size {k r:Nat} (F:Fun K "size" "Nested.size" s_Nested_size f fd) {f_Shape_size:Addr} {fd_Shape_size:FuncData} (D_Shape_size:DfM K Ve "size" f_Shape_size fd_Shape_size ["self"]) (G_Shape_size:FnOk P w K mg base CX0 k f_Shape_size fd_Shape_size ["self"] (spShV (Cl5.mk Va Vb Vc Vd Ve) K r sSz)):FnOk P w K mg base CX0 (k + 2) f fd ["self"] (spV (Cl5.mk Va Vb Vc Vd Ve) K (r + 1) Kd.isNest vSz):=by
 w_cond sc_Nested_size
 ·obtain⟨a,kd,sa,S,rfl,_⟩:=h;rfl
 obtain⟨a,kd,sa,S,rfl,hF,hk,hf,ho,hw,hg,q⟩:=h
 walk_at "hr"
 refine⟨_,(pss_one (ps_ret (pe_meth0 (pe_fld (pv 0) rfl) Ue.cl D_Shape_size.me G_Shape_size hr D_Shape_size.b .nil pass0))),?_⟩
 cases id ho with
 | @nest a dx s i e h1 =>
  obtain⟨sh,hs,dx2,t,ps,h2,_⟩:=hw.at e
  exact⟨_,rfl,a,Vb,_,_,_,rfl,h1,Ub.cl,Ub.na _ (by decide),rfl,s,dx2,_,rfl,h2,rfl,s,i,sa,S,rfl,e,(by have : 2 * i + 2<=r + 1:=hk;omega),hw,hg,q⟩
 | _=>cases hF
theorem ok_Shape_size {k r:Nat} (F:Fun K "size" "Shape.size" s_Shape_size f fd) (VT_size:∀ C sp,TV (Cl5.mk Va Vb Vc Vd Ve) K r vSz C sp->VRow P w K mg base CX0 k "size" C sp):FnOk P w K mg base CX0 (k + 2) f fd ["self"] (spShV (Cl5.mk Va Vb Vc Vd Ve) K r sSz):=by
 w_cond sc_Shape_size
 ·obtain⟨a,i,sa,S,rfl,_⟩:=h;rfl
 obtain⟨a,i,sa,S,rfl,e,hi,hw,hg,q⟩:=h
 walk_at "hr"
 refine⟨_,(pss_one (ps_ret (pe_callB (call_sum rfl) rfl M.sum (show bootBuiltins "sum" = some (.builtin "sum") from by decide +kernel) (pa_cons (pe_comp ["name","kind"] [] [] rfl (pi_tup (pe_fld (pv 0) rfl)) rfl trivial trivial (fun _ _ _ _=>(pg_tupK (K:=K) (n:=2) rfl rfl (pgs_cons (pg_name (i:=0) (show List.Nodup (["name","kind"]:List Str) from by decide +kernel) rfl (Or.inl rfl)) (pgs_cons (pg_name (i:=1) (show List.Nodup (["name","kind"]:List Str) from by decide +kernel) rfl (Or.inl rfl)) pgs_nil)))) (fun _ _ _ _=>pif_nil) (fun _ _ _ _=>(pe_methV0 (pv 1) VT_size hr pass0))) pa_nil)))),?_⟩
 obtain⟨s,hS,so⟩:=hw.at e
 obtain⟨dx,t,ps,k1,k2,k3⟩:=so.fields
 have zl:(ps.map V.ref).length=s.2.length:=by rw [List.length_map];exact k3.len
 have hfit:=hg.fit i s hS
 have htab:=tab_at hS fun f hf=>(hfit f hf).1.below
 have hil:i < S.length:=(List.getElem?_eq_some_iff.mp hS).1
 refine⟨_,rfl,a,Ve,_,_,_,rfl,k1,Ue.cl,Ue.na _ (by decide),rfl,t,rfl,⟨_,k2⟩,comp_tupM (xs:=ps.map V.ref) (fun j ys H'=>Same H H'/\ys=((s.2.take j).map fun f=>V.int (vSz f.2 (tabs S)))) ⟨Same.refl _,rfl⟩ (fun j ys H' _ z=>⟨z.1.tp k2,by rw [z.2,List.length_map,List.length_take];exact Nat.min_le_left _ _⟩) (small1000 (by have:=hg.few i s hS;omega)) (fun j x ys H' os ho hx z=>?_) (fun ys H' z p hp=>?_)⟩
 ·obtain⟨g,rfl⟩:=z
  obtain⟨o1,o2,rfl⟩:=len2 ho
  obtain⟨u,hu,rfl⟩:=get_refs hx
  obtain⟨x,y,kd,k,hf,ht,_,hko⟩:=k3.get hu
  have hm:=hfit _ (List.mem_of_getElem? hf)
  exact⟨u,_,rfl,g.tp ht,rfl,_,_,rfl,_,_,rfl,rfl,_,rfl,callV (nolk (by simp)) (hm.1.rk.mono hi) (hm.1.mono (Nat.le_of_lt hil)) (hko.same g) (hw.same g) hg fun H2 g2=>⟨⟨g.trans g2,(map_snoc hf).symm⟩,[_,_],rfl,rfl⟩⟩
 ·obtain⟨g,rfl⟩:=z
  have g2:=same_new hp (.lst ((s.2.take (ps.map V.ref).length).map fun f=>V.int (vSz f.2 (tabs S))))
  have kp:upd H' p (.lst ((s.2.take (ps.map V.ref).length).map fun f=>V.int (vSz f.2 (tabs S)))) p=some (.lst (((s.2.map fun f=>vSz f.2 (tabs S)).map fun n:Nat=>(n:Int)).map V.int)):=by
   rw [upd_same,zl,take_len,List.map_map,List.map_map];rfl
  have q':=q _ (g.trans g2)
  refine⟨p,(s.2.map fun f=>vSz f.2 (tabs S)).map fun n:Nat=>(n:Int),rfl,SqL.of kp,?_⟩
  rw [sumI]
  rw [show sSz i (tabs S)=(s.2.map fun f=>vSz f.2 (tabs S)).sum from htab.1] at q'
  exact q'
theorem ok_Num_depth {k r:Nat} (F:Fun K "depth" "Num.depth" s_Num_depth f fd):FnOk P w K mg base CX0 (k + 2) f fd ["self"] (spV (Cl5.mk Va Vb Vc Vd Ve) K r Kd.isNum vDp):=by
 w_cond sc_Num_depth
 ·obtain⟨a,kd,sa,S,rfl,_⟩:=h;rfl
 obtain⟨a,kd,sa,S,rfl,hF,hk,hf,ho,hw,hg,q⟩:=h
 walk_at "hr"
 refine⟨_,(pss_one (ps_ret pe_int)),?_⟩
 cases id ho with
 | num h1 =>
  exact q _ (Same.refl _)
 | _=>cases hF
theorem ok_Nested_depth {k r:Nat} (F:Fun K "depth" "Nested.depth" s_Nested_depth f fd) {f_Shape_depth:Addr} {fd_Shape_depth:FuncData} (D_Shape_depth:DfM K Ve "depth" f_Shape_depth fd_Shape_depth ["self"]) (G_Shape_depth:FnOk P w K mg base CX0 k f_Shape_depth fd_Shape_depth ["self"] (spShV (Cl5.mk Va Vb Vc Vd Ve) K r sDp)):FnOk P w K mg base CX0 (k + 2) f fd ["self"] (spV (Cl5.mk Va Vb Vc Vd Ve) K (r + 1) Kd.isNest vDp):=by
 w_cond sc_Nested_depth
 ·obtain⟨a,kd,sa,S,rfl,_⟩:=h;rfl
 obtain⟨a,kd,sa,S,rfl,hF,hk,hf,ho,hw,hg,q⟩:=h
 walk_at "hr"
 refine⟨_,(pss_one (ps_ret (pe_meth0 (pe_fld (pv 0) rfl) Ue.cl D_Shape_depth.me G_Shape_depth hr D_Shape_depth.b .nil pass0))),?_⟩
 cases id ho with
 | @nest a dx s i e h1 =>
  obtain⟨sh,hs,dx2,t,ps,h2,_⟩:=hw.at e
  exact⟨_,rfl,a,Vb,_,_,_,rfl,h1,Ub.cl,Ub.na _ (by decide),rfl,s,dx2,_,rfl,h2,rfl,s,i,sa,S,rfl,e,(by have : 2 * i + 2<=r + 1:=hk;omega),hw,hg,q⟩
 | _=>cases hF
theorem ok_Shape_depth {k r:Nat} (F:Fun K "depth" "Shape.depth" s_Shape_depth f fd) (VT_depth:∀ C sp,TV (Cl5.mk Va Vb Vc Vd Ve) K r vDp C sp->VRow P w K mg base CX0 k "depth" C sp):FnOk P w K mg base CX0 (k + 2) f fd ["self"] (spShV (Cl5.mk Va Vb Vc Vd Ve) K r sDp):=by
 w_cond sc_Shape_depth
 ·obtain⟨a,i,sa,S,rfl,_⟩:=h;rfl
 obtain⟨a,i,sa,S,rfl,e,hi,hw,hg,q⟩:=h
 walk_at "hr"
 refine⟨_,(pss_one (ps_ret (pe_op op_add pe_int (pe_callB (call_maxL rfl) rfl M.max boot_max (pa_cons (pe_comp ["name","kind"] [] [] rfl (pi_tup (pe_fld (pv 0) rfl)) rfl trivial trivial (fun _ _ _ _=>(pg_tupK (K:=K) (n:=2) rfl rfl (pgs_cons (pg_name (i:=0) (show List.Nodup (["name","kind"]:List Str) from by decide +kernel) rfl (Or.inl rfl)) (pgs_cons (pg_name (i:=1) (show List.Nodup (["name","kind"]:List Str) from by decide +kernel) rfl (Or.inl rfl)) pgs_nil)))) (fun _ _ _ _=>pif_nil) (fun _ _ _ _=>(pe_methV0 (pv 1) VT_depth hr pass0))) pa_nil))))),?_⟩
 obtain⟨s,hS,so⟩:=hw.at e
 obtain⟨dx,t,ps,k1,k2,k3⟩:=so.fields
 have zl:(ps.map V.ref).length=s.2.length:=by rw [List.length_map];exact k3.len
 have hfit:=hg.fit i s hS
 have htab:=tab_at hS fun f hf=>(hfit f hf).1.below
 have hil:i < S.length:=(List.getElem?_eq_some_iff.mp hS).1
 refine⟨_,rfl,a,Ve,_,_,_,rfl,k1,Ue.cl,Ue.na _ (by decide),rfl,t,rfl,⟨_,k2⟩,comp_tupM (xs:=ps.map V.ref) (fun j ys H'=>Same H H'/\ys=((s.2.take j).map fun f=>V.int (vDp f.2 (tabs S)))) ⟨Same.refl _,rfl⟩ (fun j ys H' _ z=>⟨z.1.tp k2,by rw [z.2,List.length_map,List.length_take];exact Nat.min_le_left _ _⟩) (small1000 (by have:=hg.few i s hS;omega)) (fun j x ys H' os ho hx z=>?_) (fun ys H' z p hp=>?_)⟩
 ·obtain⟨g,rfl⟩:=z
  obtain⟨o1,o2,rfl⟩:=len2 ho
  obtain⟨u,hu,rfl⟩:=get_refs hx
  obtain⟨x,y,kd,k,hf,ht,_,hko⟩:=k3.get hu
  have hm:=hfit _ (List.mem_of_getElem? hf)
  exact⟨u,_,rfl,g.tp ht,rfl,_,_,rfl,_,_,rfl,rfl,_,rfl,callV (nolk (by simp)) (hm.1.rk.mono hi) (hm.1.mono (Nat.le_of_lt hil)) (hko.same g) (hw.same g) hg fun H2 g2=>⟨⟨g.trans g2,(map_snoc hf).symm⟩,[_,_],rfl,rfl⟩⟩
 ·obtain⟨g,rfl⟩:=z
  have g2:=same_new hp (.lst ((s.2.take (ps.map V.ref).length).map fun f=>V.int (vDp f.2 (tabs S))))
  have kp:upd H' p (.lst ((s.2.take (ps.map V.ref).length).map fun f=>V.int (vDp f.2 (tabs S)))) p=some (.lst (((s.2.map fun f=>vDp f.2 (tabs S)).map fun n:Nat=>(n:Int)).map V.int)):=by
   rw [upd_same,zl,take_len,List.map_map,List.map_map];rfl
  have q':=q _ (g.trans g2)
  refine⟨p,(s.2.map fun f=>vDp f.2 (tabs S)).map fun n:Nat=>(n:Int),rfl,SqL.of kp,(by simpa using hg.ne i s hS),fun m h1 h2=>?_⟩
  rw [maxI h1 h2]
  refine⟨_,_,rfl,rfl,?_⟩
  rw [show sDp i (tabs S)=1 + maxL (s.2.map fun f=>vDp f.2 (tabs S)) from htab.2.1,Int.natCast_add] at q'
  exact q'
theorem ok_Many_size {k r:Nat} (F:Fun K "size" "Many.size" s_Many_size f fd) (VT_size:∀ C sp,TV (Cl5.mk Va Vb Vc Vd Ve) K r vSz C sp->VRow P w K mg base CX0 k "size" C sp):FnOk P w K mg base CX0 (k + 2) f fd ["self"] (spV (Cl5.mk Va Vb Vc Vd Ve) K (r + 1) Kd.isMany vSz):=by
 w_cond sc_Many_size
 ·obtain⟨a,kd,sa,S,rfl,_⟩:=h;rfl
 obtain⟨a,kd,sa,S,rfl,hF,hk,hf,ho,hw,hg,q⟩:=h
 walk_at "hr"
 refine⟨_,(pss_one (ps_ret (pe_op op_mul (pe_fld (pv 0) rfl) (pe_methV0 (pe_fld (pv 0) rfl) VT_size hr pass0)))),?_⟩
 cases id ho with
 | @many a dx b n k h1 h2 =>
  refine⟨_,rfl,a,Vc,_,_,_,rfl,h1,Uc.cl,Uc.na _ (by decide),rfl,_,rfl,a,Vc,_,_,_,rfl,h1,Uc.cl,Uc.na _ (by decide),rfl,callV (nolk (by simp)) hk.sub hf.sub h2 hw hg fun H' g=>⟨_,_,rfl,rfl,.inl ⟨by have:=hf.2.1;omega,by have:=hf.2.1;omega⟩,?_⟩⟩
  have q':=q H' g
  rw [show vSz (Kd.many n k) (tabs S)=n * vSz k (tabs S) from rfl,Int.natCast_mul] at q'
  exact q'
 | _=>cases hF
theorem ok_Many_depth {k r:Nat} (F:Fun K "depth" "Many.depth" s_Many_depth f fd) (VT_depth:∀ C sp,TV (Cl5.mk Va Vb Vc Vd Ve) K r vDp C sp->VRow P w K mg base CX0 k "depth" C sp):FnOk P w K mg base CX0 (k + 2) f fd ["self"] (spV (Cl5.mk Va Vb Vc Vd Ve) K (r + 1) Kd.isMany vDp):=by
 w_cond sc_Many_depth
 ·obtain⟨a,kd,sa,S,rfl,_⟩:=h;rfl
 obtain⟨a,kd,sa,S,rfl,hF,hk,hf,ho,hw,hg,q⟩:=h
 walk_at "hr"
 refine⟨_,(pss_one (ps_ret (pe_methV0 (pe_fld (pv 0) rfl) VT_depth hr pass0))),?_⟩
 cases id ho with
 | @many a dx b n k h1 h2 =>
  exact⟨_,rfl,a,Vc,_,_,_,rfl,h1,Uc.cl,Uc.na _ (by decide),rfl,callV (nolk (by simp)) hk.sub hf.sub h2 hw hg q⟩
 | _=>cases hF
theorem ok_Pick_greatest {k r:Nat} (F:Fun K "greatest" "Pick.greatest" s_Pick_greatest f fd) {f_Shape_size:Addr} {fd_Shape_size:FuncData} (D_Shape_size:DfM K Ve "size" f_Shape_size fd_Shape_size ["self"]) (G_Shape_size:FnOk P w K mg base CX0 k f_Shape_size fd_Shape_size ["self"] (spShV (Cl5.mk Va Vb Vc Vd Ve) K r sSz)):FnOk P w K mg base CX0 (k + 2) f fd ["self"] (spGr (Cl5.mk Va Vb Vc Vd Ve) K (r + 1)):=by
 w_cond sc_Pick_greatest
 ·obtain⟨a,is,sa,S,rfl,_⟩:=h;rfl
 obtain⟨a,is,sa,S,rfl,hk,hf,ho,hw,hg,q⟩:=h
 walk_at "hr"
 refine⟨_,(pss_one (ps_ret (pe_callB (call_maxL rfl) rfl M.max boot_max (pa_cons (pe_comp ["shape"] [] [] rfl (pi_tup (pe_fld (pv 0) rfl)) rfl trivial trivial (fun _ _ _ _=>(pg_name (i:=0) (show List.Nodup (["shape"]:List Str) from by decide +kernel) rfl (Or.inl rfl))) (fun _ _ _ _=>pif_nil) (fun _ _ _ _=>(pe_meth0 (pv 0) Ue.cl D_Shape_size.me G_Shape_size hr D_Shape_size.b .nil pass0))) pa_nil)))),?_⟩
 obtain⟨dx,t,ss,h1,h2,h3,h4⟩ : ∃ (dx t:Addr) (ss:List Addr),H a=some (.ins Vd dx [("shapes",.ref t)])/\SqT K H t (ss.map V.ref)/\ss.length=is.length/\∀ (j i:Nat) (s:Addr),is[j]?=some i->ss[j]?=some s->sa[i]?=some s:=by
  cases ho with
  | pick h1 h2 h3 h4=>exact⟨_,_,_,h1,h2,h3,h4⟩
 have zl:(ss.map V.ref).length=is.length:=by rw [List.length_map];exact h3
 refine⟨_,rfl,a,Vd,_,_,_,rfl,h1,Ud.cl,Ud.na _ (by decide),rfl,t,rfl,⟨_,h2⟩,comp_tup (xs:=ss.map V.ref) (fun j ys H'=>Same H H'/\ys=((is.take j).map fun i=>V.int (sSz i (tabs S)))) ⟨Same.refl _,rfl⟩ (fun j ys H' _ z=>⟨z.1.tp h2,by rw [z.2,List.length_map,List.length_take];exact Nat.min_le_left _ _⟩) (small1000 (by have:=hf.2.1;omega)) (fun j x ys H' hx z=>?_) (fun ys H' z p hp=>?_)⟩
 ·obtain⟨g,rfl⟩:=z
  obtain⟨s,hs,rfl⟩:=get_refs hx
  have hj:j < is.length:=by rw [← h3];exact (List.getElem?_eq_some_iff.mp hs).1
  have hi:is[j]?=some is[j]:=List.getElem?_eq_getElem hj
  have e:=h4 j _ s hi hs
  obtain⟨sh,hS,dx2,t2,ps,k2,_⟩:=hw.at e
  exact⟨_,rfl,s,dx2,_,rfl,g _ _ k2,rfl,s,is[j],sa,S,rfl,e,(by have:=hk _ (List.getElem_mem hj);omega),hw.same g,hg,fun H2 g2=>⟨⟨g.trans g2,(map_snoc hi).symm⟩,_,rfl⟩⟩
 ·obtain⟨g,rfl⟩:=z
  have g2:=same_new hp (.lst ((is.take (ss.map V.ref).length).map fun i=>V.int (sSz i (tabs S))))
  have kp:upd H' p (.lst ((is.take (ss.map V.ref).length).map fun i=>V.int (sSz i (tabs S)))) p=some (.lst (((is.map fun i=>sSz i (tabs S)).map fun n:Nat=>(n:Int)).map V.int)):=by
   rw [upd_same,zl,take_len,List.map_map,List.map_map];rfl
  have q':=q _ (g.trans g2)
  refine⟨p,(is.map fun i=>sSz i (tabs S)).map fun n:Nat=>(n:Int),rfl,SqL.of kp,(by have:=hf.1;intro z;rw [List.map_map,List.map_eq_nil_iff] at z;rw [z] at this;exact absurd this (by decide)),fun m h5 h6=>?_⟩
  rw [maxI h5 h6]
  exact q'
theorem ok_Pick_depth {k r:Nat} (F:Fun K "depth" "Pick.depth" s_Pick_depth f fd) {f_Shape_depth:Addr} {fd_Shape_depth:FuncData} (D_Shape_depth:DfM K Ve "depth" f_Shape_depth fd_Shape_depth ["self"]) (G_Shape_depth:FnOk P w K mg base CX0 k f_Shape_depth fd_Shape_depth ["self"] (spShV (Cl5.mk Va Vb Vc Vd Ve) K r sDp)):FnOk P w K mg base CX0 (k + 2) f fd ["self"] (spV (Cl5.mk Va Vb Vc Vd Ve) K (r + 1) Kd.isPick vDp):=by
 w_cond sc_Pick_depth
 ·obtain⟨a,kd,sa,S,rfl,_⟩:=h;rfl
 obtain⟨a,kd,sa,S,rfl,hF,hk,hf,ho,hw,hg,q⟩:=h
 walk_at "hr"
 refine⟨_,(pss_one (ps_ret (pe_callB (call_maxL rfl) rfl M.max boot_max (pa_cons (pe_comp ["shape"] [] [] rfl (pi_tup (pe_fld (pv 0) rfl)) rfl trivial trivial (fun _ _ _ _=>(pg_name (i:=0) (show List.Nodup (["shape"]:List Str) from by decide +kernel) rfl (Or.inl rfl))) (fun _ _ _ _=>pif_nil) (fun _ _ _ _=>(pe_meth0 (pv 0) Ue.cl D_Shape_depth.me G_Shape_depth hr D_Shape_depth.b .nil pass0))) pa_nil)))),?_⟩
 obtain⟨is,dx,t,ss,rfl,h1,h2,h3,h4⟩ : ∃ (is:List Nat) (dx t:Addr) (ss:List Addr),kd=.pick is/\H a=some (.ins Vd dx [("shapes",.ref t)])/\SqT K H t (ss.map V.ref)/\ss.length=is.length/\∀ (j i:Nat) (s:Addr),is[j]?=some i->ss[j]?=some s->sa[i]?=some s:=by
  cases ho with
  | pick h1 h2 h3 h4=>exact⟨_,_,_,_,rfl,h1,h2,h3,h4⟩
  | _=>cases hF
 have zl:(ss.map V.ref).length=is.length:=by rw [List.length_map];exact h3
 refine⟨_,rfl,a,Vd,_,_,_,rfl,h1,Ud.cl,Ud.na _ (by decide),rfl,t,rfl,⟨_,h2⟩,comp_tup (xs:=ss.map V.ref) (fun j ys H'=>Same H H'/\ys=((is.take j).map fun i=>V.int (sDp i (tabs S)))) ⟨Same.refl _,rfl⟩ (fun j ys H' _ z=>⟨z.1.tp h2,by rw [z.2,List.length_map,List.length_take];exact Nat.min_le_left _ _⟩) (small1000 (by have:=hf.2.1;omega)) (fun j x ys H' hx z=>?_) (fun ys H' z p hp=>?_)⟩
 ·obtain⟨g,rfl⟩:=z
  obtain⟨s,hs,rfl⟩:=get_refs hx
  have hj:j < is.length:=by rw [← h3];exact (List.getElem?_eq_some_iff.mp hs).1
  have hi:is[j]?=some is[j]:=List.getElem?_eq_getElem hj
  have e:=h4 j _ s hi hs
  obtain⟨sh,hS,dx2,t2,ps,k2,_⟩:=hw.at e
  exact⟨_,rfl,s,dx2,_,rfl,g _ _ k2,rfl,s,is[j],sa,S,rfl,e,(by have:=hk _ (List.getElem_mem hj);omega),hw.same g,hg,fun H2 g2=>⟨⟨g.trans g2,(map_snoc hi).symm⟩,_,rfl⟩⟩
 ·obtain⟨g,rfl⟩:=z
  have g2:=same_new hp (.lst ((is.take (ss.map V.ref).length).map fun i=>V.int (sDp i (tabs S))))
  have kp:upd H' p (.lst ((is.take (ss.map V.ref).length).map fun i=>V.int (sDp i (tabs S)))) p=some (.lst (((is.map fun i=>sDp i (tabs S)).map fun n:Nat=>(n:Int)).map V.int)):=by
   rw [upd_same,zl,take_len,List.map_map,List.map_map];rfl
  have q':=q _ (g.trans g2)
  refine⟨p,(is.map fun i=>sDp i (tabs S)).map fun n:Nat=>(n:Int),rfl,SqL.of kp,(by have:=hf.1;intro z;rw [List.map_map,List.map_eq_nil_iff] at z;rw [z] at this;exact absurd this (by decide)),fun m h5 h6=>?_⟩
  rw [maxI h5 h6]
  exact q'
theorem ok_Pick_size {k r:Nat} (F:Fun K "size" "Pick.size" s_Pick_size f fd) {f_Pick_greatest:Addr} {fd_Pick_greatest:FuncData} (D_Pick_greatest:DfM K Vd "greatest" f_Pick_greatest fd_Pick_greatest ["self"]) (G_Pick_greatest:FnOk P w K mg base CX0 k f_Pick_greatest fd_Pick_greatest ["self"] (spGr (Cl5.mk Va Vb Vc Vd Ve) K (r + 1))):FnOk P w K mg base CX0 (k + 2) f fd ["self"] (spV (Cl5.mk Va Vb Vc Vd Ve) K (r + 1) Kd.isPick vSz):=by
 w_cond sc_Pick_size
 ·obtain⟨a,kd,sa,S,rfl,_⟩:=h;rfl
 obtain⟨a,kd,sa,S,rfl,hF,hk,hf,ho,hw,hg,q⟩:=h
 walk_at "hr"
 refine⟨_,(pss_one (ps_ret (pe_op op_add pe_int (pe_meth0 (pv 0) Ud.cl D_Pick_greatest.me G_Pick_greatest hr D_Pick_greatest.b .nil pass0)))),?_⟩
 cases id ho with
 | @pick a dx t is ss h1 h2 h3 h4 =>
  refine⟨_,rfl,a,dx,_,rfl,h1,rfl,a,is,sa,S,rfl,hk,hf,ho,hw,hg,fun H' g=>⟨_,_,rfl,rfl,?_⟩⟩
  have q':=q H' g
  rw [show vSz (Kd.pick is) (tabs S)=1 + maxL (is.map fun i=>(tabs S).sz.getD i 0) from rfl,Int.natCast_add] at q'
  exact q'
 | _=>cases hF
theorem ok_Num_init {k:Nat} (F:Fun K "__init__" "Num.__init__" s_Num_init f fd):FnOk P w K mg base CX0 (k + 2) f fd ["self","width"] (spI1 Va "width"):=by
 w_cond sc_Num_init
 ·obtain⟨a,dx,v,H1,rfl,_⟩:=h;rfl
 obtain⟨a,dx,v,H1,rfl,hA,g,h0,q⟩:=h
 walk_at "hr"
 refine⟨_,(pss_one (ps_fld (pv 0) (pv 1) rfl)),?_⟩
 exact⟨_,rfl,_,rfl,a,Va,dx,[],rfl,hA,Ua.cl,Ua.na _ (by decide),by decide,q _ (g.putn h0) upd_same⟩
theorem ok_Nested_init {k:Nat} (F:Fun K "__init__" "Nested.__init__" s_Nested_init f fd):FnOk P w K mg base CX0 (k + 2) f fd ["self","shape"] (spI1 Vb "shape"):=by
 w_cond sc_Nested_init
 ·obtain⟨a,dx,v,H1,rfl,_⟩:=h;rfl
 obtain⟨a,dx,v,H1,rfl,hA,g,h0,q⟩:=h
 walk_at "hr"
 refine⟨_,(pss_one (ps_fld (pv 0) (pv 1) rfl)),?_⟩
 exact⟨_,rfl,_,rfl,a,Vb,dx,[],rfl,hA,Ub.cl,Ub.na _ (by decide),by decide,q _ (g.putn h0) upd_same⟩
theorem ok_Many_init {k:Nat} (F:Fun K "__init__" "Many.__init__" s_Many_init f fd):FnOk P w K mg base CX0 (k + 2) f fd ["self","count","kind"] (spI2 Vc "count" "kind"):=by
 w_cond sc_Many_init
 ·obtain⟨a,dx,v,u,H1,rfl,_⟩:=h;rfl
 obtain⟨a,dx,v,u,H1,rfl,hA,g,h0,q⟩:=h
 walk_at "hr"
 refine⟨_,(pss_cons (ps_fld (pv 0) (pv 1) rfl)
   (pss_one (ps_fld (pv 0) (pv 2) rfl))),?_⟩
 exact⟨_,rfl,_,rfl,a,Vc,dx,[],rfl,hA,Uc.cl,Uc.na _ (by decide),by decide,_,rfl,_,rfl,a,Vc,dx,_,rfl,upd_same,Uc.cl,Uc.na _ (by decide),(by show 1 < 1000;decide),q _ ((g.putn h0).putn h0) upd_same⟩
theorem ok_Pick_init {k:Nat} (F:Fun K "__init__" "Pick.__init__" s_Pick_init f fd):FnOk P w K mg base CX0 (k + 2) f fd ["self","shapes"] (spIT K Vd "shapes"):=by
 w_cond sc_Pick_init
 ·obtain⟨a,dx,l,ys,H1,rfl,_⟩:=h;rfl
 obtain⟨a,dx,l,ys,H1,rfl,hA,g,h0,hl,q⟩:=h
 walk_at "hr"
 refine⟨_,(pss_one (ps_fld (pv 0) (pe_callTy call_tuple_of rfl M.tuple boot_tuple (pa_cons (pv 1) pa_nil)) rfl)),?_⟩
 refine⟨_,rfl,l,ys,rfl,.inl ⟨g.seq hl,fun t ht=>?_⟩⟩
 generalize e_k2:upd H t _=H2
 obtain⟨g2,k2⟩:=new_facts e_k2 ht
 exact⟨_,rfl,a,Vd,dx,[],rfl,g2 _ _ hA,Ud.cl,Ud.na _ (by decide),by decide,q t _ ((g.trans g2).putn h0) upd_same (SqT.of (by rw [upd_ne (Ne.symm (ne_of_none hA ht))];exact k2))⟩
theorem ok_Shapes_init {k:Nat} (F:Fun K "__init__" "Shapes.__init__" s_Shapes_init f fd):FnOk P w K mg base CX0 (k + 2) f fd ["self","shapes"] (spIT K Vf "shapes"):=by
 w_cond sc_Shapes_init
 ·obtain⟨a,dx,l,ys,H1,rfl,_⟩:=h;rfl
 obtain⟨a,dx,l,ys,H1,rfl,hA,g,h0,hl,q⟩:=h
 walk_at "hr"
 refine⟨_,(pss_one (ps_fld (pv 0) (pe_callTy call_tuple_of rfl M.tuple boot_tuple (pa_cons (pv 1) pa_nil)) rfl)),?_⟩
 refine⟨_,rfl,l,ys,rfl,.inl ⟨g.seq hl,fun t ht=>?_⟩⟩
 generalize e_k2:upd H t _=H2
 obtain⟨g2,k2⟩:=new_facts e_k2 ht
 exact⟨_,rfl,a,Vf,dx,[],rfl,g2 _ _ hA,Uf.cl,Uf.na _ (by decide),by decide,q t _ ((g.trans g2).putn h0) upd_same (SqT.of (by rw [upd_ne (Ne.symm (ne_of_none hA ht))];exact k2))⟩
theorem ok_Num_units_at {k r:Nat} (F:Fun K "units_at" "Num.units_at" s_Num_units_at f fd):FnOk P w K mg base CX0 (k + 2) f fd ["self","path"] (spU (Cl5.mk Va Vb Vc Vd Ve) K r Kd.isNum):=by
 w_cond sc_Num_units_at
 ·obtain⟨a,p,kd,sa,S,rfl,_⟩:=h;rfl
 obtain⟨a,p,kd,sa,S,rfl,hp,hF,hk,hf,ho,hw,hg,q⟩:=h
 walk_at "hr"
 refine⟨_,(pss_one (ps_ret (pe_lst (pa_cons (pe_tup (pa_cons (pv 1) (pa_cons (pe_fld (pv 0) rfl) (pa_cons pe_str pa_nil)))) pa_nil)))),?_⟩
 cases id ho with
 | num h1 =>
  refine⟨_,rfl,_,rfl,a,Va,_,_,_,rfl,h1,Ua.cl,Ua.na _ (by decide),rfl,szL3,fun t ht=>?_⟩
  generalize e1:upd H t _=H1
  obtain⟨g1,k1⟩:=new_facts e1 ht
  refine⟨szL1,fun l hl=>?_⟩
  generalize e2:upd H1 l _=H2
  obtain⟨g2,k2⟩:=new_facts e2 hl
  exact q l H2 (g1.trans g2) (g1.free hl) ⟨[t],k2,.cons (g2.tp (SqT.of k1)) .nil⟩
 | _=>cases hF
theorem ok_Pick_units_at {k r:Nat} (F:Fun K "units_at" "Pick.units_at" s_Pick_units_at f fd) {f_joined:Addr} {fd_joined:FuncData} (D_joined:Df K mg "joined" f_joined fd_joined ["path","step"]) (G_joined:FnOk P w K mg base CX0 k f_joined fd_joined ["path","step"] spJoined) {f_Pick_greatest:Addr} {fd_Pick_greatest:FuncData} (D_Pick_greatest:DfM K Vd "greatest" f_Pick_greatest fd_Pick_greatest ["self"]) (G_Pick_greatest:FnOk P w K mg base CX0 k f_Pick_greatest fd_Pick_greatest ["self"] (spGr (Cl5.mk Va Vb Vc Vd Ve) K (r + 1))):FnOk P w K mg base CX0 (k + 2) f fd ["self","path"] (spU (Cl5.mk Va Vb Vc Vd Ve) K (r + 1) Kd.isPick):=by
 w_cond sc_Pick_units_at
 ·obtain⟨a,p,kd,sa,S,rfl,_⟩:=h;rfl
 obtain⟨a,p,kd,sa,S,rfl,hp,hF,hk,hf,ho,hw,hg,q⟩:=h
 walk_at "hr"
 refine⟨_,(pss_one (ps_ret (pe_lst (pa_cons (pe_tup (pa_cons (pe_call G_joined hr rfl D_joined.m D_joined.k D_joined.b .nil pass0 (pa_cons (pv 1) (pa_cons pe_str pa_nil))) (pa_cons pe_int (pa_cons pe_str pa_nil)))) (pa_cons (pe_tup (pa_cons (pv 1) (pa_cons (pe_meth0 (pv 0) Ud.cl D_Pick_greatest.me G_Pick_greatest hr D_Pick_greatest.b .nil pass0) (pa_cons pe_str pa_nil)))) pa_nil))))),?_⟩
 cases id ho with
 | @pick a dx t is ss h1 h2 h3 h4 =>
  refine⟨_,rfl,p,_,_,rfl,rfl,(by omega),(by decide),szL3,fun t1 ht1=>?_⟩
  generalize e1:upd H t1 _=H1
  obtain⟨g1,k1⟩:=new_facts e1 ht1
  refine⟨_,rfl,_,rfl,a,dx,_,rfl,g1 _ _ h1,rfl,a,is,sa,S,rfl,hk,hf,ho.same g1,hw.same g1,hg,fun H2 g2=>⟨szL3,fun t2 ht2=>?_⟩⟩
  generalize e3:upd H2 t2 _=H3
  obtain⟨g3,k3⟩:=new_facts e3 ht2
  refine⟨szL2,fun l hl=>?_⟩
  generalize e4:upd H3 l _=H4
  obtain⟨g4,k4⟩:=new_facts e4 hl
  exact q l H4 (((g1.trans g2).trans g3).trans g4) (((g1.trans g2).trans g3).free hl) ⟨[t1,t2],k4,.cons (((g2.trans g3).trans g4).tp (SqT.of k1)) (.cons (g4.tp (SqT.of k3)) .nil)⟩
 | _=>cases hF
theorem ok_Nested_parted {k:Nat} (F:Fun K "parted" "Nested.parted" s_Nested_parted f fd):FnOk P w K mg base CX0 (k + 2) f fd ["self"] (spP (Cl5.mk Va Vb Vc Vd Ve) K Kd.isNest):=by
 w_cond sc_Nested_parted
 ·obtain⟨a,kd,sa,S,rfl,_⟩:=h;rfl
 obtain⟨a,kd,sa,S,rfl,hF,hf,ho,hw,hg,q⟩:=h
 walk_at "hr"
 refine⟨_,(pss_one (ps_ret (pe_callTy call_list_of rfl M.list boot_list (pa_cons (pe_fld (pe_fld (pv 0) rfl) rfl) pa_nil)))),?_⟩
 cases id ho with
 | @nest a dx s i e h1 =>
  obtain⟨sh,hs,so⟩:=hw.at e
  obtain⟨dx2,t,ps,k1,k2,k3⟩:=so.fields
  refine⟨_,rfl,a,Vb,_,_,_,rfl,h1,Ub.cl,Ub.na _ (by decide),rfl,s,Ve,_,_,_,rfl,k1,Ue.cl,Ue.na _ (by decide),rfl,t,_,rfl,.inr k2,fun l hl=>?_⟩
  generalize e1:upd H l _=H1
  obtain⟨g1,kl⟩:=new_facts e1 hl
  refine q l H1 g1 hl ⟨ps,kl,?_⟩
  rw [show (Kd.nest i).parts S=sh.2 by show (S.getD i _).2=_;rw [List.getD_eq_getElem?_getD,hs];rfl]
  exact k3.same g1
 | _=>cases hF
theorem ok_Many_parted {k:Nat} (F:Fun K "parted" "Many.parted" s_Many_parted f fd):FnOk P w K mg base CX0 (k + 2) f fd ["self"] (spP (Cl5.mk Va Vb Vc Vd Ve) K Kd.isMany):=by
 w_cond sc_Many_parted
 ·obtain⟨a,kd,sa,S,rfl,_⟩:=h;rfl
 obtain⟨a,kd,sa,S,rfl,hF,hf,ho,hw,hg,q⟩:=h
 walk_at "hr"
 refine⟨_,(pss_one (ps_ret (pe_comp ["number"] ["self"] [0] rfl (pi_range1 rfl M.range (pa_cons (pe_fld (pv 0) rfl) pa_nil)) rfl ⟨rfl,trivial⟩ ⟨⟨rfl,rfl,rfl,_,rfl⟩,trivial⟩ (fun _ _ _ _=>(pg_name (i:=0) (show List.Nodup (["number","self"]:List Str) from by decide +kernel) rfl (Or.inl rfl))) (fun _ _ _ _=>pif_nil) (fun _ _ _ _=>(pe_tup (pa_cons (pv 0) (pa_cons (pe_fldK (K:=K) rfl (pv 1) rfl) pa_nil))))))),?_⟩
 cases id ho with
 | @many a dx b n k h1 h2 =>
  have hn:n<=6:=hf.2.1
  refine⟨_,rfl,a,Vc,_,_,_,rfl,h1,Uc.cl,Uc.na _ (by decide),rfl,n,rfl,by omega,by omega,comp_range (n:=n) (fun j ys H'=>Same H H'/\∃ tt:List Addr,ys=tt.map V.ref/\tt.length=j/\PR (Cl5.mk Va Vb Vc Vd Ve) K H' sa tt ((List.range j).map fun j=>(Str.ofString (toString j),k))) ⟨Same.refl _,[],rfl,rfl,.nil⟩ (fun j ys H' _ z=>?_) (small1000 (by omega)) (fun j ys H' hj z=>?_) (fun ys H' z p hp=>?_)⟩
  ·obtain⟨_,tt,rfl,hl,_⟩:=z
   rw [List.length_map];omega
  ·obtain⟨g,tt,rfl,hl,hP⟩:=z
   refine⟨_,rfl,_,rfl,a,Vc,_,_,_,rfl,g _ _ h1,Uc.cl,Uc.na _ (by decide),rfl,szL2,fun t ht=>?_⟩
   generalize e1:upd H' t _=H1
   obtain⟨g1,k1⟩:=new_facts e1 ht
   refine⟨⟨g.trans g1,tt++[t],by rw [List.map_append];rfl,by rw [List.length_append,hl];rfl,?_⟩,_,rfl⟩
   rw [List.range_succ,List.map_append]
   refine (hP.same g1).snoc (x:=.int ((0:Int) + (j:Nat))) (SqT.of k1) ?_ (h2.same (g.trans g1))
   rw [Int.zero_add]
   exact if_pos (by show (j:Nat) < 2 ^ 100;exact Nat.lt_of_lt_of_le hj (by omega))
  ·obtain⟨g,tt,rfl,hl,hP⟩:=z
   generalize e1:upd H' p _=H1
   obtain⟨g1,k1⟩:=new_facts e1 hp
   exact q p H1 (g.trans g1) (g.free hp) ⟨tt,k1,hP.same g1⟩
 | _=>cases hF
theorem ok_Kind_units_at {k r:Nat} {FF:Kd->Bool} (hFF:∀ k,FF k=true->(∃ i,k=.nest i)\/∃ n q,k=.many n q) (F:Fun K "units_at" "Kind.units_at" s_Kind_units_at f fd) (VT_parted:∀ C sp,TPt (Cl5.mk Va Vb Vc Vd Ve) K C sp->VRow P w K mg base CX0 k "parted" C sp) (VT_units_at:∀ C sp,TU (Cl5.mk Va Vb Vc Vd Ve) K r C sp->VRow P w K mg base CX0 k "units_at" C sp) {f_joined:Addr} {fd_joined:FuncData} (D_joined:Df K mg "joined" f_joined fd_joined ["path","step"]) (G_joined:FnOk P w K mg base CX0 k f_joined fd_joined ["path","step"] spJoined):FnOk P w K mg base CX0 (k + 2) f fd ["self","path"] (spU (Cl5.mk Va Vb Vc Vd Ve) K (r + 1) FF):=by
 w_cond sc_Kind_units_at
 ·obtain⟨a,p,kd,sa,S,rfl,_⟩:=h;rfl
 obtain⟨a,p,kd,sa,S,rfl,hp,hF,hk,hf,ho,hw,hg,q⟩:=h
 walk_at "hr"
 refine⟨_,(pss_cons (ps_set (i:=2) sc_Kind_units_at.nd rfl (by walk_at "o") (pe_lst pa_nil))
   (pss_cons (ps_for PassesOwn.never rfl (pi_list (pe_methV0 (pv 0) VT_parted hr pass0)) (pg_tup rfl (pgs_cons (pg_name (i:=3) sc_Kind_units_at.nd rfl (Or.inl rfl)) (pgs_cons (pg_name (i:=4) sc_Kind_units_at.nd rfl (Or.inl rfl)) pgs_nil))) (pss_one (ps_expr (pe_bm PySem.F.plainAttrs_list PySem.F.slot_list_extend PySem.F.type_list_extend mt_extend (pv 2) (pa_cons (pe_methV (pv 4) VT_units_at hr pass0 (pa_cons (pe_call G_joined hr rfl D_joined.m D_joined.k D_joined.b .nil pass0 (pa_cons (pv 1) (pa_cons (pv 3) pa_nil))) pa_nil)) pa_nil)))))
   (pss_one (ps_ret (pv 2))))),?_⟩
 refine⟨szL0,fun l hl=>?_⟩
 generalize e1:upd H l _=H1
 obtain⟨g1,k1⟩:=new_facts e1 hl
 refine⟨_,rfl,callP (nolk (by simp)) (hFF kd hF) hf (ho.same g1) (hw.same g1) hg fun l2 H2 g2 hl2 zq=>?_⟩
 obtain⟨tt,k2,pr⟩:=zq
 have kl2:=g2 _ _ k1
 have n2:l2 ≠ l:=Ne.symm (ne_of_none k1 hl2)
 have hw2:=hw.same (g1.trans g2)
 have zl:tt.length=(kd.parts S).length:=pr.len
 have bd:=Kd.size_bd hg.sz (by decide) hf
 have lens:∀ j,(((kd.parts S).take j).flatMap fun f=>un f.2 S (pj p f.1)).length<=6000:=fun j=>by
  have h1:(un kd S p).length<=_:=(hg.kd hf).2 p
  rw [Kd.parts_un hg hf (hFF kd hF)] at h1
  conv at h1=>lhs;rw [← List.take_append_drop j (kd.parts S)]
  rw [List.flatMap_append,List.length_append] at h1
  omega
 refine⟨l2,rfl,⟨_,SqL.of k2⟩,for_list (xs:=tt.map V.ref) (fun j σ H'=>∃ o3 o4,σ = [some (.ref a),some (.str p),some (.ref l),o3,o4]/\But l H2 H'/\UL K H' l (((kd.parts S).take j).flatMap fun f=>un f.2 S (pj p f.1))) ⟨_,_,rfl,But.refl,[],kl2,.nil⟩ (fun j σ H' _ z=>?_) (fun j x σ H' hx z=>?_) (fun σ H' z=>?_)⟩
 ·obtain⟨o3,o4,rfl,g,_⟩:=z
  exact SqL.of (g _ _ n2 k2)
 ·obtain⟨o3,o4,rfl,g,us,ku,ur⟩:=z
  obtain⟨t,ht,rfl⟩:=get_refs hx
  obtain⟨x,y,kd',kk,hps,hq,hx',hko⟩:=pr.get ht
  obtain⟨p1,p2,p3,p4⟩:=Kd.parts_ok hg hf hk (List.mem_of_getElem? hps)
  obtain⟨C',dx',fs',sp',m1,m2,m3,m4⟩:=kdU (nolk (m:="units_at") (by simp)) p1 p2 (hko.but g kl2) (hw2.but g kl2) hg
  have hyl:(pj p y).length<=p.length + 7:=by
   have e1:(Str.ofString ".").length=1:=rfl
   have p4':y.length<=6:=p4
   unfold pj
   split
   ·omega
   ·rw [strLen_append,strLen_append];omega
  refine⟨t,_,rfl,g.tup kl2 hq,rfl,_,_,rfl,_,_,rfl,rfl,_,rfl,.inl ⟨rfl,_,SqL.of ku⟩,_,rfl,kk,C',dx',fs',sp',rfl,m1,m2,m3,_,rfl,_,rfl,p,x,y,rfl,hx',(by omega),(by have p4':y.length<=6:=p4;omega),m4 _ _ _ (by omega) fun l3 H3 g3 hl3 zq=>?_⟩
  obtain⟨us3,k3,ur3⟩:=zq
  have ku3:=g3 _ _ ku
  have h6:=lens (j + 1)
  rw [fm_snoc hps,List.length_append,← ur.len,← ur3.len] at h6
  refine⟨l,l3,_,_,rfl,rfl,ku3,k3,(by rw [sizeLine_eq,List.length_map,List.length_map];omega),?_⟩
  generalize e4:upd H3 l _=H4
  obtain⟨g4,k4⟩:=chg_facts e4
  refine⟨_,_,rfl,(g.trans (But.of g3)).trans g4,us++us3,by rw [List.map_append];exact k4,?_⟩
  rw [fm_snoc hps]
  exact ((ur.same g3).but g4 ku3).app (ur3.but g4 ku3)
 ·obtain⟨o3,o4,rfl,g,u⟩:=z
  rw [List.length_map,zl,take_len] at u
  refine⟨_,rfl,q l H' (But.from (g1.trans g2) hl g) hl ?_⟩
  rw [Kd.parts_un hg hf (hFF kd hF)]
  exact u
theorem ok_Shape_units {k r:Nat} (F:Fun K "units" "Shape.units" s_Shape_units f fd) {fd_Nested_init:FuncData} (D_Nested_init:DfI K fd_Nested_init ["self","shape"]) (G_Nested_init:FnOk P w K mg base CX0 k cIv fd_Nested_init ["self","shape"] (spI1 Vb "shape")) (VT_units_at:∀ C sp,TU (Cl5.mk Va Vb Vc Vd Ve) K r C sp->VRow P w K mg base CX0 k "units_at" C sp):FnOk P w K mg base CX0 (k + 2) f fd ["self"] (spShU (Cl5.mk Va Vb Vc Vd Ve) K r):=by
 w_cond sc_Shape_units
 ·obtain⟨a,i,sa,S,rfl,_⟩:=h;rfl
 obtain⟨a,i,sa,S,rfl,e,hi,h8,hw,hg,q⟩:=h
 walk_at "hr"
 refine⟨_,(pss_one (ps_ret (pe_methV (pe_make Ub.ma G_Nested_init hr0 rfl Ub.m D_Nested_init.b .nil pass0 (pa_cons (pv 0) pa_nil)) VT_units_at hr pass0 (pa_cons pe_str pa_nil)))),?_⟩
 refine⟨_,rfl,fun x dx hx hdx _=>⟨x,dx,.ref a,H,rfl,upd_same,madeS hx hdx,hx,fun H1 g1 k1=>⟨rfl,?_⟩⟩⟩
 have hil:i < S.length:=by rw [← hw.1];exact (List.getElem?_eq_some_iff.mp e).1
 obtain⟨C',dx',fs',sp',m1,m2,m3,m4⟩:=kdU (kd:=.nest i) (r:=r) (nolk (m:="units_at") (by simp)) hi hil (.nest e k1) (hw.same g1) hg
 exact⟨x,C',dx',fs',sp',rfl,m1,m2,m3,m4 _ _ _ (by show 0 + 8 * r<=200;omega) fun l H2 g2 hl u=>q l H2 (g1.trans g2) (g1.free hl) u⟩
theorem ok_Shape_init {k:Nat} (F:Fun K "__init__" "Shape.__init__" s_Shape_init f fd):FnOk P w K mg base CX0 (k + 2) f fd ["self","name","fields"] (spShI (Cl5.mk Va Vb Vc Vd Ve) K):=by
 w_cond sc_Shape_init
 ·obtain⟨a,dx,fl,nm,ps,fs,sa,H1,rfl,_⟩:=h;rfl
 obtain⟨a,dx,fl,nm,ps,fs,sa,H1,rfl,hA,g,h0,hl,hP,hn,q⟩:=h
 walk_at "hr"
 refine⟨_,(pss_cons (ps_fld (pv 0) (pv 1) rfl)
   (pss_one (ps_fld (pv 0) (pe_callTy call_tuple_of rfl M.tuple boot_tuple (pa_cons (pe_comp ["field","kind"] [] [] rfl (pi_seq (pv 2)) rfl trivial trivial (fun _ _ _ _=>(pg_tupK (K:=K) (n:=2) rfl rfl (pgs_cons (pg_name (i:=0) (show List.Nodup (["field","kind"]:List Str) from by decide +kernel) rfl (Or.inl rfl)) (pgs_cons (pg_name (i:=1) (show List.Nodup (["field","kind"]:List Str) from by decide +kernel) rfl (Or.inl rfl)) pgs_nil)))) (fun _ _ _ _=>pif_nil) (fun _ _ _ _=>(pe_tup (pa_cons (pv 0) (pa_cons (pv 1) pa_nil))))) pa_nil)) rfl))),?_⟩
 refine⟨_,rfl,_,rfl,a,Ve,dx,[],rfl,hA,Ue.cl,Ue.na _ (by decide),by decide,?_⟩
 have ga:Same H1 (upd H a (.ins Ve dx (putF "name" (.str nm) []))):=g.putn h0
 have ka:upd H a (.ins Ve dx (putF "name" (.str nm) [])) a=some (.ins Ve dx [("name",.str nm)]):=upd_same
 generalize upd H a (.ins Ve dx (putF "name" (.str nm) []))=H2 at ga ka
 have zl:(ps.map V.ref).length=fs.length:=by rw [List.length_map];exact hP.len
 have turn:∀ (j:Nat) (x:V) (ys:List V) (H':Hp) (Pv:Nat->List V->Hp->Prop),Pv=(fun j ys H'=>Same H2 H'/\∃ tt:List Addr,ys=tt.map V.ref/\tt.length=j/\FO (Cl5.mk Va Vb Vc Vd Ve) K H' sa tt (fs.take j))->(ps.map V.ref)[j]?=some x->Pv j ys H'->∃ t nm kk,x=.ref t/\SqT K H' t [.str nm,.ref kk]/\∀ u,H' u=none->Pv (j + 1) (ys++[.ref u]) (upd H' u (.tup [.str nm,.ref kk])):=by
  intro j x ys H' Pv eP hx z
  subst eP
  obtain⟨g2,tt,rfl,htl,hF⟩:=z
  obtain⟨t,ht,rfl⟩:=get_refs hx
  obtain⟨nm',kd,kk,hfs,hq,hko⟩:=hP.get ht
  refine⟨t,nm',kk,rfl,g2.tp (ga.tp hq),fun u hu=>?_⟩
  generalize e3:upd H' u _=H3
  obtain⟨g3,k3⟩:=new_facts e3 hu
  refine⟨g2.trans g3,tt++[u],by rw [List.map_append];rfl,by rw [List.length_append,htl];rfl,?_⟩
  have:=(hF.same g3).snoc (SqT.of k3) (hko.same ((ga.trans g2).trans g3))
  rw [List.take_add_one,hfs]
  exact this
 have fin:∀ (ys:List V) (H':Hp),(Same H2 H'/\∃ tt:List Addr,ys=tt.map V.ref/\tt.length=(ps.map V.ref).length/\FO (Cl5.mk Va Vb Vc Vd Ve) K H' sa tt (fs.take (ps.map V.ref).length))->∀ p,H' p=none->∀ t,upd H' p (.lst ys) t=none->Q .non (upd (upd (upd H' p (.lst ys)) t (.tup ys)) a (.ins Ve dx [("name",.str nm),("fields",.ref t)])):=by
  intro ys H' z p hp t ht
  obtain⟨g2,tt,rfl,htl,hF⟩:=z
  generalize e3:upd H' p _=H3 at ht
  obtain⟨g3,k3⟩:=new_facts e3 hp
  generalize e4:upd H3 t _=H4
  obtain⟨g4,k4⟩:=new_facts e4 ht
  have ka4:H4 a=_:=(g2.trans g3 |>.trans g4) _ _ ka
  rw [zl,take_len] at hF
  have G:Same H1 (upd H4 a (.ins Ve dx [("name",.str nm),("fields",.ref t)])):=(((ga.trans g2).trans g3).trans g4).putn h0
  have nta:t ≠ a:=Ne.symm (ne_of_none ((g2.trans g3) _ _ ka) ht)
  refine q t tt _ G upd_same (SqT.of (by rw [upd_ne nta];exact k4)) ?_
  exact FO.insD (hF.same (g3.trans g4)) ka4
 have st:Same H2 H2/\∃ tt:List Addr,([]:List V)=tt.map V.ref/\tt.length=0/\FO (Cl5.mk Va Vb Vc Vd Ve) K H2 sa tt (fs.take 0):=⟨Same.refl _,[],rfl,rfl,by rw [List.take_zero];exact .nil⟩
 have lst:∀ (H':Hp) (p t:Addr) (ys:List V),(Same H2 H'/\∃ tt:List Addr,ys=tt.map V.ref/\tt.length=(ps.map V.ref).length/\FO (Cl5.mk Va Vb Vc Vd Ve) K H' sa tt (fs.take (ps.map V.ref).length))->H' p=none->upd H' p (.lst ys) t=none->upd (upd H' p (.lst ys)) t (.tup ys) a=some (.ins Ve dx [("name",.str nm)]):=fun H' p t ys z hp ht=>(same_new ht _) _ _ ((same_new hp _) _ _ (z.1 _ _ ka))
 refine⟨_,rfl,fl,rfl,?_⟩
 rcases hl with hl|hl
 ·refine .inl ⟨⟨_,ga.seq hl⟩,comp_listM (xs:=ps.map V.ref) (fun j ys H'=>Same H2 H'/\∃ tt:List Addr,ys=tt.map V.ref/\tt.length=j/\FO (Cl5.mk Va Vb Vc Vd Ve) K H' sa tt (fs.take j)) st (fun j ys H' _ z=>⟨z.1.seq (ga.seq hl),by obtain⟨_,tt,rfl,hl,_⟩:=z;rw [List.length_map];omega⟩) (small1000 (by omega)) (fun j x ys H' os ho hx z=>?_) (fun ys H' z p hp=>⟨p,ys,rfl,.inl ⟨SqL.of upd_same,fun t ht=>⟨_,rfl,a,Ve,dx,_,rfl,lst H' p t ys z hp ht,Ue.cl,Ue.na _ (by decide),(by show 1 < 1000;decide),fin ys H' z p hp t ht⟩⟩⟩)⟩
  obtain⟨o1,o2,rfl⟩:=len2 ho
  obtain⟨t,nm',kk,rfl,hq,nxt⟩:=turn j x ys H' _ rfl hx z
  exact⟨t,_,rfl,hq,rfl,_,_,rfl,_,_,rfl,rfl,_,rfl,_,rfl,szL2,fun u hu=>⟨nxt u hu,[_,_],rfl,rfl⟩⟩
 ·refine .inr ⟨⟨_,ga.tp hl⟩,comp_tupM (xs:=ps.map V.ref) (fun j ys H'=>Same H2 H'/\∃ tt:List Addr,ys=tt.map V.ref/\tt.length=j/\FO (Cl5.mk Va Vb Vc Vd Ve) K H' sa tt (fs.take j)) st (fun j ys H' _ z=>⟨z.1.tp (ga.tp hl),by obtain⟨_,tt,rfl,hl,_⟩:=z;rw [List.length_map];omega⟩) (small1000 (by omega)) (fun j x ys H' os ho hx z=>?_) (fun ys H' z p hp=>⟨p,ys,rfl,.inl ⟨SqL.of upd_same,fun t ht=>⟨_,rfl,a,Ve,dx,_,rfl,lst H' p t ys z hp ht,Ue.cl,Ue.na _ (by decide),(by show 1 < 1000;decide),fin ys H' z p hp t ht⟩⟩⟩)⟩
  obtain⟨o1,o2,rfl⟩:=len2 ho
  obtain⟨t,nm',kk,rfl,hq,nxt⟩:=turn j x ys H' _ rfl hx z
  exact⟨t,_,rfl,hq,rfl,_,_,rfl,_,_,rfl,rfl,_,rfl,_,rfl,szL2,fun u hu=>⟨nxt u hu,[_,_],rfl,rfl⟩⟩
theorem ok_is_single {k:Nat} (F:Fun K "is_single" "is_single" s_is_single f fd) {f_number_in:Addr} {fd_number_in:FuncData} (D_number_in:Df K mg "number_in" f_number_in fd_number_in ["text","low","high"]) (G_number_in:FnOk P w K mg base CX0 k f_number_in fd_number_in ["text","low","high"] (spNumberIn K)) {f_is_name:Addr} {fd_is_name:FuncData} (D_is_name:Df K mg "is_name" f_is_name fd_is_name ["thing"]) (G_is_name:FnOk P w K mg base CX0 k f_is_name fd_is_name ["thing"] (spIsName K)):FnOk P w K mg base CX0 (k + 2) f fd ["words"] (spSgX K):=by
 w_cond sc_is_single
 ·rcases h with h|h
  ·obtain⟨a,ws,rfl,_⟩:=h;rfl
  ·obtain⟨a,rfl,_⟩:=h;rfl
 have h0:=h
 walk_at "hr"
 refine⟨_,(pss_cons (ps_if (pt_cmpR op_eq (pe_ix ix_list (pv 0) pe_int (fun _ _=>rfl)) pe_str (nomark _)) (pss_one (ps_ret (pe_and (pe_cmpR op_eq (pe_callB call_len_seq rfl M.len PySem.boot_len (pa_cons (pv 0) pa_nil)) pe_int (nomark _)) (pe_one (pe_cmpR op_notN (pe_call G_number_in hr rfl D_number_in.m D_number_in.k D_number_in.b .nil pass0 (pa_cons (pe_ix ix_list (pv 0) pe_int (fun _ _=>rfl)) (pa_cons pe_int (pa_cons (pe_glob (v:=.int 4) rfl C.MOST_WIDTH ⟨_,rfl⟩) pa_nil)))) pe_non (nomark _)))))) pss_nil)
   (pss_one (ps_ret (pe_and (pe_cmpR op_eq (pe_callB call_len_seq rfl M.len PySem.boot_len (pa_cons (pv 0) pa_nil)) pe_int (nomark _)) (pe_one (pe_call G_is_name hr rfl D_is_name.m D_is_name.k D_is_name.b .nil pass0 (pa_cons (pe_ix ix_list (pv 0) pe_int (fun _ _=>rfl)) pa_nil))))))),?_⟩
 rcases h0 with h|h
 ·obtain⟨a,ws,rfl,hl,hs,q⟩:=h
  rcases hs with⟨w,w1,w4,rfl⟩|⟨x,hx,rfl⟩
  ·obtain⟨d1,d2,d3,_⟩:=dig (w:=w) (by omega)
   refine⟨_,rfl,a,_,_,_,rfl,rfl,hl,rfl,rfl,_,rfl,iteP (by decide) ⟨_,rfl,a,_,rfl,.inl hl,rfl,_,rfl,iteP (by simp) ⟨_,rfl,a,_,_,_,rfl,rfl,hl,rfl,.str _,1,4,rfl,.inl ⟨_,rfl,by omega,fun H1 g1=>⟨rfl,?_⟩⟩⟩⟩⟩
   rw [d1,show boundV (some (w:Int)) 1 4=some (w:Int) from if_pos ⟨by omega,by omega⟩]
   exact q H1 g1
  ·have hne:=name_ne hx (y:="num") (by decide)
   refine⟨_,rfl,a,_,_,_,rfl,rfl,hl,rfl,rfl,_,rfl,iteN (by simpa using hne) ⟨_,rfl,a,_,rfl,.inl hl,rfl,_,rfl,iteP (by simp) ⟨_,rfl,a,_,_,_,rfl,rfl,hl,rfl,.str x,rfl,.inl ⟨x,rfl,by have:=(name_len hx).2;omega,fun H1 g1=>?_⟩⟩⟩⟩
   rw [hx]
   exact q H1 g1
 ·obtain⟨a,rfl,hl,q⟩:=h
  have hl':SqL K H a [.str (Str.ofString "num"),.str (Str.ofString "5")]:=hl
  refine⟨_,rfl,a,_,_,_,rfl,rfl,hl',rfl,rfl,_,rfl,iteP (by decide) ⟨_,rfl,a,_,rfl,.inl hl',rfl,_,rfl,iteP (by simp) ⟨_,rfl,a,_,_,_,rfl,rfl,hl',rfl,.str _,1,4,rfl,.inl ⟨_,rfl,by decide,fun H1 g1=>⟨rfl,?_⟩⟩⟩⟩⟩
  rw [five_no]
  exact q H1 g1
theorem ok_is_kind {k:Nat} (F:Fun K "is_kind" "is_kind" s_is_kind f fd) {f_number_in:Addr} {fd_number_in:FuncData} (D_number_in:Df K mg "number_in" f_number_in fd_number_in ["text","low","high"]) (G_number_in:FnOk P w K mg base CX0 k f_number_in fd_number_in ["text","low","high"] (spNumberIn K)) {f_is_single:Addr} {fd_is_single:FuncData} (D_is_single:Df K mg "is_single" f_is_single fd_is_single ["words"]) (G_is_single:FnOk P w K mg base CX0 k f_is_single fd_is_single ["words"] (spSgX K)) {f_is_name:Addr} {fd_is_name:FuncData} (D_is_name:Df K mg "is_name" f_is_name fd_is_name ["thing"]) (G_is_name:FnOk P w K mg base CX0 k f_is_name fd_is_name ["thing"] (spIsName K)):FnOk P w K mg base CX0 (k + 2) f fd ["words"] (spKdX K):=by
 w_cond sc_is_kind
 ·rcases h with h|h
  ·obtain⟨a,nm,n,kd,rfl,_⟩:=h;rfl
  ·obtain⟨a,rfl,_⟩:=h;rfl
 have h0:=h
 walk_at "hr"
 refine⟨_,(pss_cons (ps_if (pt_cmpR op_eq (pe_ix ix_list (pv 0) pe_int (fun _ _=>rfl)) pe_str (nomark _)) (pss_one (ps_ret (pe_and (pe_cmpR op_gt (pe_callB call_len_seq rfl M.len PySem.boot_len (pa_cons (pv 0) pa_nil)) pe_int (nomark _)) (pe_and (pe_cmpR op_notN (pe_call G_number_in hr rfl D_number_in.m D_number_in.k D_number_in.b .nil pass0 (pa_cons (pe_ix ix_list (pv 0) pe_int (fun _ _=>rfl)) (pa_cons pe_int (pa_cons (pe_glob (v:=.int 6) rfl C.MOST_COUNT ⟨_,rfl⟩) pa_nil)))) pe_non (nomark _)) (pe_one (pe_call G_is_single hr rfl D_is_single.m D_is_single.k D_is_single.b .nil pass0 (pa_cons (pe_slice sl_list (pv 0) (po_some pe_int) po_none) pa_nil))))))) pss_nil)
   (pss_cons (ps_if (pt_cmpR op_eq (pe_ix ix_list (pv 0) pe_int (fun _ _=>rfl)) pe_str (nomark _)) (pss_one (ps_ret (pe_and (pe_chain op_le op_le (pe_glob (v:=.int 2) rfl C.LEAST_PICKED ⟨_,rfl⟩) (pe_op op_sub (pe_callB call_len_seq rfl M.len PySem.boot_len (pa_cons (pv 0) pa_nil)) pe_int) (pe_glob (v:=.int 4) rfl C.MOST_PICKED ⟨_,rfl⟩)) (pe_one (pe_callB (call_all rfl) rfl M.all boot_all (pa_cons (pe_comp ["word"] [] [] rfl (pi_list (pe_slice sl_list (pv 0) (po_some pe_int) po_none)) rfl trivial trivial (fun _ _ _ _=>(pg_name (i:=0) (show List.Nodup (["word"]:List Str) from by decide +kernel) rfl (Or.inl rfl))) (fun _ _ _ _=>pif_nil) (fun _ _ _ _=>(pe_call G_is_name hr rfl D_is_name.m D_is_name.k D_is_name.b .nil pass0 (pa_cons (pv 0) pa_nil)))) pa_nil)))))) pss_nil)
   (pss_one (ps_ret (pe_call G_is_single hr rfl D_is_single.m D_is_single.k D_is_single.b .nil pass0 (pa_cons (pv 0) pa_nil)))))),?_⟩
 rcases h0 with h|h
 ·obtain⟨a,nm,n,kd,rfl,hl,hf,hn,q⟩:=h
  cases kd with
  | num w=>exact⟨_,rfl,a,_,_,_,rfl,rfl,hl,rfl,rfl,_,rfl,iteN (by decide) ⟨_,rfl,a,_,_,_,rfl,rfl,hl,rfl,rfl,_,rfl,iteN (by decide) ⟨_,rfl,.inl ⟨a,_,rfl,hl,.inl ⟨w,hf.1,hf.2,rfl⟩,q⟩⟩⟩⟩
  | nest i =>
   have hx:=hn i hf
   have h1:=name_ne hx (y:="row") (by decide)
   have h2:=name_ne hx (y:="pick") (by decide)
   exact⟨_,rfl,a,_,_,_,rfl,rfl,hl,rfl,rfl,_,rfl,iteN (by simpa using h1) ⟨_,rfl,a,_,_,_,rfl,rfl,hl,rfl,rfl,_,rfl,iteN (by simpa using h2) ⟨_,rfl,.inl ⟨a,_,rfl,hl,.inr ⟨_,hx,rfl⟩,q⟩⟩⟩⟩
  | many m k =>
   have hm:=hf.2.1
   have hm1:=hf.1
   obtain⟨d1,d2,d3,_⟩:=dig (w:=m) (by omega)
   have hne:=Kd.words_ne nm k
   have h0 : 0 < (k.words nm).length:=List.length_pos_iff.mpr hne
   have hl':SqL K H a (V.str (Str.ofString "row")::V.str (Str.ofString (toString (m:Int)))::(k.words nm).map V.str):=hl
   refine⟨_,rfl,a,_,_,_,rfl,rfl,hl',at0,rfl,_,rfl,iteP (by decide) ⟨_,rfl,a,_,rfl,.inl hl',_,_,rfl,rfl,_,rfl,iteP (by simp;omega) ⟨_,rfl,a,_,_,_,rfl,rfl,hl',at1,.str _,1,6,rfl,.inl ⟨_,rfl,by omega,fun H1 g1=>⟨rfl,_,rfl,?_⟩⟩⟩⟩⟩
   rw [d1,show boundV (some (m:Int)) 1 6=some (m:Int) from if_pos ⟨by omega,by omega⟩]
   refine iteP (by rfl) ⟨_,rfl,_,rfl,a,_,rfl,g1.seq hl,fun p hp=>?_⟩
   rw [show cutV ((Kd.words nm (.many m k)).map V.str) (some 2) none=(k.words nm).map V.str from cutA2 _ _ _]
   generalize e2:upd H1 p _=H2
   obtain⟨g2,k2⟩:=new_facts e2 hp
   refine .inl ⟨p,k.words nm,rfl,SqL.of k2,?_,fun H3 g3=>q H3 ((g1.trans g2).trans g3)⟩
   rcases hf.2.2 with⟨w,rfl,hw⟩|⟨i,rfl,hi⟩
   ·exact .inl ⟨w,hw.1,hw.2,rfl⟩
   ·exact .inr ⟨_,hn i hi,rfl⟩
  | pick is =>
   have h1:=hf.1
   have h2:=hf.2.1
   have hl':SqL K H a (V.str (Str.ofString "pick")::(is.map nm).map V.str):=hl
   have zl:((is.map nm).map V.str).length=is.length:=by rw [List.length_map,List.length_map]
   refine⟨_,rfl,a,_,_,_,rfl,rfl,hl',at0,rfl,_,rfl,iteN (by decide) ⟨_,rfl,a,_,_,_,rfl,rfl,hl',at0,rfl,_,rfl,iteP (by decide) ⟨_,rfl,a,_,rfl,.inl hl',_,_,rfl,rfl,_,_,rfl,rfl,_,rfl,iteP (by simp;omega) ⟨_,_,rfl,rfl,_,rfl,iteP (by simp;omega) ⟨_,rfl,_,rfl,a,_,rfl,hl',fun p hp=>?_⟩⟩⟩⟩⟩
   rw [cutA1]
   generalize e2:upd H p _=H2
   obtain⟨g2,k2⟩:=new_facts e2 hp
   refine⟨p,rfl,⟨_,SqL.of k2⟩,comp_list (xs:=(is.map nm).map V.str) (fun j ys H'=>Same H2 H'/\ys=((is.take j).map fun _=>true).map V.bl) ⟨Same.refl _,rfl⟩ (fun j ys H' _ z=>⟨z.1.seq (SqL.of k2),by rw [z.2,List.length_map,List.length_map,List.length_take];exact Nat.min_le_left _ _⟩) (small1000 (by omega)) (fun j x ys H' hx z=>?_) (fun ys H' z p hp=>?_)⟩
   ·obtain⟨g,rfl⟩:=z
    obtain⟨y,hy,rfl⟩:=get_strs hx
    rw [List.getElem?_map] at hy
    cases e:is[j]? with
    | none=>rw [e] at hy;cases hy
    | some i =>
     rw [e] at hy
     cases hy
     have hx:=hn i (hf.2.2.2 i (List.mem_of_getElem? e))
     refine⟨_,rfl,.str (nm i),rfl,.inl ⟨_,rfl,by have:=(name_len hx).2;omega,fun H3 g3=>⟨⟨g.trans g3,?_⟩,_,rfl⟩⟩⟩
     rw [map_snoc e,hx,List.map_append];rfl
   ·obtain⟨g,rfl⟩:=z
    have g3:=same_new hp (.lst (((is.take ((is.map nm).map V.str).length).map fun _=>true).map V.bl))
    refine⟨p,_,rfl,SqL.of upd_same,?_⟩
    rw [show ((is.take ((is.map nm).map V.str).length).map fun _=>true).all id=true from List.all_eq_true.mpr fun b hb=>by obtain⟨_,_,rfl⟩:=List.mem_map.mp hb;rfl]
    exact q _ ((g2.trans g).trans g3)
 ·obtain⟨a,rfl,hl,q⟩:=h
  have hl':SqL K H a [.str (Str.ofString "num"),.str (Str.ofString "5")]:=hl
  exact⟨_,rfl,a,_,_,_,rfl,rfl,hl',rfl,rfl,_,rfl,iteN (by decide) ⟨_,rfl,a,_,_,_,rfl,rfl,hl',rfl,rfl,_,rfl,iteN (by decide) ⟨_,rfl,.inr ⟨a,rfl,hl',q⟩⟩⟩⟩
theorem ok_is_field_line {k:Nat} (F:Fun K "is_field_line" "is_field_line" s_is_field_line f fd) {f_is_name:Addr} {fd_is_name:FuncData} (D_is_name:Df K mg "is_name" f_is_name fd_is_name ["thing"]) (G_is_name:FnOk P w K mg base CX0 k f_is_name fd_is_name ["thing"] (spIsName K)) {f_is_kind:Addr} {fd_is_kind:FuncData} (D_is_kind:Df K mg "is_kind" f_is_kind fd_is_kind ["words"]) (G_is_kind:FnOk P w K mg base CX0 k f_is_kind fd_is_kind ["words"] (spKdX K)):FnOk P w K mg base CX0 (k + 2) f fd ["words"] (spFlX K):=by
 w_cond sc_is_field_line
 ·rcases h with h|h
  ·obtain⟨a,nm,n,kd,f,rfl,_⟩:=h;rfl
  ·obtain⟨a,rfl,_⟩:=h;rfl
 have h0:=h
 walk_at "hr"
 refine⟨_,(pss_one (ps_ret (pe_and (pe_cmpR op_gt (pe_callB call_len_seq rfl M.len PySem.boot_len (pa_cons (pv 0) pa_nil)) pe_int (nomark _)) (pe_and (pe_call G_is_name hr rfl D_is_name.m D_is_name.k D_is_name.b .nil pass0 (pa_cons (pe_ix ix_list (pv 0) pe_int (fun _ _=>rfl)) pa_nil)) (pe_one (pe_call G_is_kind hr rfl D_is_kind.m D_is_kind.k D_is_kind.b .nil pass0 (pa_cons (pe_slice sl_list (pv 0) (po_some pe_int) po_none) pa_nil))))))),?_⟩
 rcases h0 with h|h
 ·obtain⟨a,nm,n,kd,fn,rfl,hl,hfn,hf,hn,q⟩:=h
  have h0 : 0 < (kd.words nm).length:=List.length_pos_iff.mpr (Kd.words_ne nm kd)
  refine⟨_,rfl,a,_,rfl,.inl hl,_,_,rfl,rfl,_,rfl,iteP (by simp;omega) ⟨_,rfl,a,_,_,_,rfl,rfl,hl,at0,.str fn,rfl,.inl ⟨fn,rfl,by have:=(name_len hfn).2;omega,fun H1 g1=>⟨_,rfl,iteP hfn ⟨_,rfl,_,rfl,a,_,rfl,g1.seq hl,fun p hp=>?_⟩⟩⟩⟩⟩
  rw [show cutV ((fn::kd.words nm).map V.str) (some 1) none=(kd.words nm).map V.str from cutA1 _ _]
  generalize e2:upd H1 p _=H2
  obtain⟨g2,k2⟩:=new_facts e2 hp
  exact .inl ⟨p,nm,n,kd,rfl,SqL.of k2,hf,hn,fun H3 g3=>q H3 ((g1.trans g2).trans g3)⟩
 ·obtain⟨a,rfl,hl,q⟩:=h
  have hl':SqL K H a [.str (Str.ofString "vh"),.str (Str.ofString "num"),.str (Str.ofString "5")]:=hl
  have hv:nameB (Str.ofString "vh")=true:=by decide +kernel
  refine⟨_,rfl,a,_,rfl,.inl hl',_,_,rfl,rfl,_,rfl,iteP (by simp) ⟨_,rfl,a,_,_,_,rfl,rfl,hl',rfl,.str _,rfl,.inl ⟨_,rfl,by decide,fun H1 g1=>⟨_,rfl,iteP hv ⟨_,rfl,_,rfl,a,_,rfl,g1.seq hl',fun p hp=>?_⟩⟩⟩⟩⟩
  rw [cutA1]
  generalize e2:upd H1 p _=H2
  obtain⟨g2,k2⟩:=new_facts e2 hp
  exact .inr ⟨p,rfl,SqL.of k2,fun H3 g3=>q H3 ((g1.trans g2).trans g3)⟩
theorem ok_shapes_named {k:Nat} (F:Fun K "shapes_named" "shapes_named" s_shapes_named f fd) {f_is_name:Addr} {fd_is_name:FuncData} (D_is_name:Df K mg "is_name" f_is_name fd_is_name ["thing"]) (G_is_name:FnOk P w K mg base CX0 k f_is_name fd_is_name ["thing"] (spIsName K)):FnOk P w K mg base CX0 (k + 2) f fd ["words"] (spNamed K):=by
 w_cond sc_shapes_named
 ·obtain⟨a,nm,n,kd,f,rfl,_⟩:=h;rfl
 obtain⟨a,nm,n,kd,fn,rfl,hl,hf,hn,q⟩:=h
 walk_at "hr"
 refine⟨_,(pss_one (ps_ret (pe_comp ["word"] [] [] rfl (pi_list (pe_slice sl_list (pv 0) (po_some pe_int) po_none)) rfl trivial trivial (fun _ _ _ _=>(pg_name (i:=0) (show List.Nodup (["word"]:List Str) from by decide +kernel) rfl (Or.inl rfl))) (fun _ _ _ _=>(pif_one (pt_val (pe_call G_is_name hr rfl D_is_name.m D_is_name.k D_is_name.b .nil pass0 (pa_cons (pv 0) pa_nil))))) (fun _ _ _ _=>(pv 0))))),?_⟩
 obtain⟨w6,w5⟩:=words_len hn hf
 refine⟨_,rfl,_,rfl,a,_,rfl,hl,fun p hp=>?_⟩
 rw [show cutV ((fn::kd.words nm).map V.str) (some 1) none=(kd.words nm).map V.str from cutA1 _ _]
 generalize e2:upd H p _=H2
 obtain⟨g2,k2⟩:=new_facts e2 hp
 refine⟨p,rfl,⟨_,SqL.of k2⟩,comp_list (xs:=(kd.words nm).map V.str) (fun j ys H'=>Same H2 H'/\ys=(((kd.words nm).take j).filter nameB).map V.str) ⟨Same.refl _,rfl⟩ (fun j ys H' hj z=>⟨z.1.seq (SqL.of k2),?_⟩) (small1000 (by rw [List.length_map];omega)) (fun j x ys H' hx z=>?_) (fun ys H' z l hl=>?_)⟩
 ·rw [z.2,List.length_map]
  refine Nat.le_trans (List.length_filter_le ..) ?_
  rw [List.length_take];exact Nat.min_le_left _ _
 ·obtain⟨g,rfl⟩:=z
  obtain⟨y,hy,rfl⟩:=get_strs hx
  have hy6:=w6 y (List.mem_of_getElem? hy)
  refine⟨_,rfl,.str y,rfl,.inl ⟨_,rfl,by omega,fun H3 g3=>⟨_,rfl,ite2 (fun c=>⟨_,rfl,⟨g.trans g3,?_⟩,_,rfl⟩) (fun c=>⟨⟨g.trans g3,?_⟩,_,rfl⟩)⟩⟩⟩
  ·rw [filt_snoc hy,if_pos c,List.map_append];rfl
  ·rw [filt_snoc hy,if_neg c,List.append_nil]
 ·obtain⟨g,rfl⟩:=z
  generalize e3:upd H' l _=H3
  obtain⟨g3,k3⟩:=new_facts e3 hl
  rw [List.length_map,take_len,named_filter hn hf] at k3
  exact q l H3 ((g2.trans g).trans g3) ((g2.trans g).free hl) k3
theorem ok_whole_shapes {k:Nat} (F:Fun K "whole_shapes" "whole_shapes" s_whole_shapes f fd):FnOk P w K mg base CX0 (k + 2) f fd ["told"] (spWh (Cl5.mk Va Vb Vc Vd Ve) K):=by
 w_cond sc_whole_shapes
 ·obtain⟨tl,z,sa,T,s,rfl,_⟩:=h;rfl
 obtain⟨tl,z,sa,T,s,rfl,hl,hw,hnd,hlen,q⟩:=h
 walk_at "hr"
 refine⟨_,(pss_one (ps_ret (pe_dcomp ["shape"] [] [] rfl (pi_list (pe_slice sl_list (pv 0) po_none (po_some (pe_un un_neg pe_int)))) rfl trivial trivial (fun _ _ _ _=>(pg_name (i:=0) (show List.Nodup (["shape"]:List Str) from by decide +kernel) rfl (Or.inl rfl))) (fun _ _ _ _=>pif_nil) (fun _ _ _ _=>(pe_fldK (K:=K) rfl (pv 0) rfl)) (fun _ _ _ _=>(pv 0))))),?_⟩
 obtain⟨hw0,_⟩:=hw.init
 have zl:(sa.map V.ref).length=T.length:=by rw [List.length_map];exact hw0.1
 refine⟨_,rfl,_,rfl,_,rfl,tl,_,rfl,SqL.of hl,fun p hp=>?_⟩
 rw [cutC]
 generalize e2:upd H p _=H2
 obtain⟨g2,k2⟩:=new_facts e2 hp
 refine⟨p,rfl,⟨_,SqL.of k2⟩,dcomp_list (xs:=sa.map V.ref) (fun D j ys H'=>Same H2 H'/\H2 D=none/\H' D=some (.dK ys)/\ys=dk (T.take j) (sa.take j)) (fun D hD=>⟨(Same.refl H2).putn hD,hD,upd_same,rfl⟩) (fun D j ys H' _ z=>z.1.seq (SqL.of k2)) (fun D j x ys H' hx z=>?_) (fun D ys H' z=>?_)⟩
 ·obtain⟨g,hD,kD,rfl⟩:=z
  obtain⟨a,ha,rfl⟩:=get_refs hx
  obtain⟨sh,hS,dx,t,ps,k1,_⟩:=hw0.at ha
  have hj:=(List.getElem?_eq_some_iff.mp hS).1
  have hnk:∀ x ∈ dk (T.take j) (sa.take j),x.1 ≠ (.inr sh.1:Key):=fun x hx e=>by
   obtain⟨u,hu,eu⟩:=dk_keys x hx
   obtain⟨i,hi⟩:=List.mem_iff_getElem?.mp hu
   have hij:i < j:=by have:=(List.getElem?_eq_some_iff.mp hi).1;rw [List.length_take] at this;omega
   rw [List.getElem?_take_of_lt hij] at hi
   have e2:nmOf T i=nmOf T j:=by rw [nmOf_get hi,nmOf_get hS];exact Sum.inr.inj (eu.symm.trans e)
   have:=nm_inj hnd (List.getElem?_eq_some_iff.mp hi).1 hj e2
   omega
  refine⟨_,rfl,a,Ve,_,_,_,rfl,g _ _ (g2 _ _ k1),Ue.cl,Ue.na _ (by decide),rfl,_,rfl,.inr sh.1,rfl,kD,?_,?_⟩
  ·have:(dk (T.take j) (sa.take j)).length<=100:=by unfold dk;rw [List.length_zipWith,List.length_take];omega
   exact Nat.lt_of_le_of_lt this (by decide)
  ·rw [putK_newK hnk]
   exact⟨⟨g.putn hD,hD,upd_same,(dk_snoc hS ha).symm⟩,_,rfl⟩
 ·obtain⟨g,hD,kD,rfl⟩:=z
  rw [zl,take_len,← hw0.1,take_len] at kD
  exact q D H' (g2.trans g) (g2.free hD) kD
theorem ok_kind_in {k r:Nat} (F:Fun K "kind_in" "kind_in" s_kind_in f fd) {f_kind_in:Addr} {fd_kind_in:FuncData} (D_kind_in:Df K mg "kind_in" f_kind_in fd_kind_in ["words","shapes"]) (G_kind_in:FnOk P w K mg base CX0 k f_kind_in fd_kind_in ["words","shapes"] (spKin (Cl5.mk Va Vb Vc Vd Ve) K r)) {fd_Num_init:FuncData} (D_Num_init:DfI K fd_Num_init ["self","width"]) (G_Num_init:FnOk P w K mg base CX0 k cIu fd_Num_init ["self","width"] (spI1 Va "width")) {fd_Nested_init:FuncData} (D_Nested_init:DfI K fd_Nested_init ["self","shape"]) (G_Nested_init:FnOk P w K mg base CX0 k cIv fd_Nested_init ["self","shape"] (spI1 Vb "shape")) {fd_Many_init:FuncData} (D_Many_init:DfI K fd_Many_init ["self","count","kind"]) (G_Many_init:FnOk P w K mg base CX0 k cIx fd_Many_init ["self","count","kind"] (spI2 Vc "count" "kind")) {fd_Pick_init:FuncData} (D_Pick_init:DfI K fd_Pick_init ["self","shapes"]) (G_Pick_init:FnOk P w K mg base CX0 k cIy fd_Pick_init ["self","shapes"] (spIT K Vd "shapes")):FnOk P w K mg base CX0 (k + 2) f fd ["words","shapes"] (spKin (Cl5.mk Va Vb Vc Vd Ve) K (r + 1)):=by
 w_cond sc_kind_in
 ·obtain⟨a,d,kd,sa,T,rfl,_⟩:=h;rfl
 obtain⟨a,d,kd,sa,T,rfl,hlv,hl,hd,hf,hn,hnd,hsl,q⟩:=h
 walk_at "hr"
 refine⟨_,(pss_cons (ps_if (pt_cmpR op_eq (pe_ix ix_list (pv 0) pe_int (fun _ _=>rfl)) pe_str (nomark _)) (pss_one (ps_ret (pe_make Ua.ma G_Num_init hr0 rfl Ua.m D_Num_init.b .nil pass0 (pa_cons (pe_callTy call_int_txt rfl M.int boot_int (pa_cons (pe_ix ix_list (pv 0) pe_int (fun _ _=>rfl)) pa_nil)) pa_nil)))) pss_nil)
   (pss_cons (ps_if (pt_cmpR op_eq (pe_ix ix_list (pv 0) pe_int (fun _ _=>rfl)) pe_str (nomark _)) (pss_one (ps_ret (pe_make Uc.ma G_Many_init hr0 rfl Uc.m D_Many_init.b .nil pass0 (pa_cons (pe_callTy call_int_txt rfl M.int boot_int (pa_cons (pe_ix ix_list (pv 0) pe_int (fun _ _=>rfl)) pa_nil)) (pa_cons (pe_call G_kind_in hr rfl D_kind_in.m D_kind_in.k D_kind_in.b .nil pass0 (pa_cons (pe_slice sl_list (pv 0) (po_some pe_int) po_none) (pa_cons (pv 1) pa_nil))) pa_nil))))) pss_nil)
   (pss_cons (ps_if (pt_cmpR op_eq (pe_ix ix_list (pv 0) pe_int (fun _ _=>rfl)) pe_str (nomark _)) (pss_one (ps_ret (pe_make Ud.ma G_Pick_init hr0 rfl Ud.m D_Pick_init.b .nil pass0 (pa_cons (pe_comp ["name"] ["shapes"] [1] rfl (pi_list (pe_slice sl_list (pv 0) (po_some pe_int) po_none)) rfl ⟨rfl,trivial⟩ ⟨⟨rfl,rfl,rfl,_,rfl⟩,trivial⟩ (fun _ _ _ _=>(pg_name (i:=0) (show List.Nodup (["name","shapes"]:List Str) from by decide +kernel) rfl (Or.inl rfl))) (fun _ _ _ _=>pif_nil) (fun _ _ _ _=>(pe_dget hr.units1 (pv 1) (pv 0) (fun _ _=>rfl)))) pa_nil)))) pss_nil)
   (pss_one (ps_ret (pe_make Ub.ma G_Nested_init hr0 rfl Ub.m D_Nested_init.b .nil pass0 (pa_cons (pe_dget hr.units1 (pv 1) (pe_ix ix_list (pv 0) pe_int (fun _ _=>rfl)) (fun _ _=>rfl)) pa_nil))))))),?_⟩
 have look:∀ i,i < T.length->∃ s,sa[i]?=some s/\valV (dk T sa) (.inr (nmOf T i))=some (.ref s):=fun i hi=>by
  have hT:T[i]?=some T[i]:=List.getElem?_eq_getElem hi
  have hs:sa[i]?=some (sa[i]'(by omega)):=List.getElem?_eq_getElem _
  exact⟨_,hs,by rw [nmOf_get hT];exact dk_get hnd hT hs⟩
 cases kd with
 | num w =>
  obtain⟨_,d2,_,d4⟩:=dig (w:=w) (by have:=hf.2;omega)
  exact⟨_,rfl,a,_,_,_,rfl,rfl,hl,rfl,rfl,_,rfl,iteP (by decide) ⟨_,rfl,a,_,_,_,rfl,rfl,hl,rfl,_,_,rfl,d4,by omega,fun x dx hx hdx _=>⟨x,dx,.int w,H,rfl,upd_same,madeS hx hdx,hx,fun H1 g1 k1=>⟨rfl,q x H1 g1 (.num k1)⟩⟩⟩⟩
 | nest i =>
  have hx:=hn i hf
  obtain⟨s,hs,hv⟩:=look i hf
  exact⟨_,rfl,a,_,_,_,rfl,rfl,hl,rfl,rfl,_,rfl,iteN (by simpa using name_ne hx (y:="num") (by decide)) ⟨_,rfl,a,_,_,_,rfl,rfl,hl,rfl,rfl,_,rfl,iteN (by simpa using name_ne hx (y:="row") (by decide)) ⟨_,rfl,a,_,_,_,rfl,rfl,hl,rfl,rfl,_,rfl,iteN (by simpa using name_ne hx (y:="pick") (by decide)) ⟨_,rfl,_,rfl,a,_,_,_,rfl,rfl,hl,rfl,d,.ref s,rfl,(by rw [← hv];exact DGet.k (k:=Sum.inr (nmOf T i)) hd),fun x dx hx hdx _=>⟨x,dx,.ref s,H,rfl,upd_same,madeS hx hdx,hx,fun H1 g1 k1=>⟨rfl,q x H1 g1 (.nest hs k1)⟩⟩⟩⟩⟩⟩
 | many m k =>
  obtain⟨_,d2,_,d4⟩:=dig (w:=m) (by have:=hf.2.1;omega)
  have hl':SqL K H a (V.str (Str.ofString "row")::V.str (Str.ofString (toString (m:Int)))::(k.words (nmOf T)).map V.str):=hl
  refine⟨_,rfl,a,_,_,_,rfl,rfl,hl',at0,rfl,_,rfl,iteN (by decide) ⟨_,rfl,a,_,_,_,rfl,rfl,hl',at0,rfl,_,rfl,iteP (by decide) ⟨_,rfl,a,_,_,_,rfl,rfl,hl',at1,_,_,rfl,d4,by omega,_,rfl,_,rfl,a,_,rfl,hl',fun p hp=>?_⟩⟩⟩
  rw [cutA2]
  generalize e1:upd H p _=H1
  obtain⟨g1,k1⟩:=new_facts e1 hp
  have hlk:k.lv=0:=by rcases hf.2.2 with⟨w,rfl,_⟩|⟨i,rfl,_⟩ <;> rfl
  refine⟨_,rfl,p,d,k,sa,T,rfl,(by rw [hlk];have : 1 < r + 1:=hlv;omega),SqL.of k1,g1 _ _ hd,hf.sub,hn,hnd,hsl,fun b H2 g2 ko=>?_⟩
  exact fun x dx hx hdx _=>⟨x,dx,.int m,.ref b,H2,rfl,upd_same,madeS hx hdx,hx,fun H3 g3 k3=>⟨rfl,q x H3 ((g1.trans g2).trans g3) (.many k3 (ko.same g3))⟩⟩
 | pick is =>
  have hl':SqL K H a (V.str (Str.ofString "pick")::(is.map (nmOf T)).map V.str):=hl
  have h2:=hf.2.1
  have zl:((is.map (nmOf T)).map V.str).length=is.length:=by rw [List.length_map,List.length_map]
  refine⟨_,rfl,a,_,_,_,rfl,rfl,hl',at0,rfl,_,rfl,iteN (by decide) ⟨_,rfl,a,_,_,_,rfl,rfl,hl',at0,rfl,_,rfl,iteN (by decide) ⟨_,rfl,a,_,_,_,rfl,rfl,hl',at0,rfl,_,rfl,iteP (by decide) ⟨_,rfl,_,rfl,a,_,rfl,hl',fun p hp=>?_⟩⟩⟩⟩
  rw [cutA1]
  generalize e1:upd H p _=H1
  obtain⟨g1,k1⟩:=new_facts e1 hp
  refine⟨p,rfl,⟨_,SqL.of k1⟩,comp_list (xs:=(is.map (nmOf T)).map V.str) (fun j ys H'=>H'=H1/\∃ ss:List Addr,ys=ss.map V.ref/\ss.length=j/\∀ (b i:Nat) (s:Addr),is[b]?=some i->ss[b]?=some s->sa[i]?=some s) ⟨rfl,[],rfl,rfl,fun b i s _ z=>by simp at z⟩ (fun j ys H' _ z=>?_) (small1000 (by omega)) (fun j x ys H' hx z=>?_) (fun ys H' z p2 hp2=>?_)⟩
  ·obtain⟨rfl,ss,rfl,hss,_⟩:=z
   exact⟨SqL.of k1,by rw [List.length_map];omega⟩
  ·obtain⟨rfl,ss,rfl,hss,hall⟩:=z
   obtain⟨y,hy,rfl⟩:=get_strs hx
   rw [List.getElem?_map] at hy
   cases e:is[j]? with
   | none=>rw [e] at hy;cases hy
   | some i =>
    rw [e] at hy
    cases hy
    obtain⟨s,hs,hv⟩:=look i (hf.2.2.2 i (List.mem_of_getElem? e))
    refine⟨_,rfl,_,rfl,d,.ref s,rfl,(by rw [← hv];exact DGet.k (k:=Sum.inr (nmOf T i)) (g1 _ _ hd)),⟨rfl,ss++[s],by rw [List.map_append];rfl,by rw [List.length_append,hss];rfl,fun b i' s' hb1 hb2=>?_⟩,_,rfl⟩
    rcases get_snoc hb2 with hb2|⟨eb,es⟩
    ·exact hall b i' s' hb1 hb2
    ·rw [eb,hss,e] at hb1
     cases hb1
     rw [es];exact hs
  ·obtain⟨rfl,ss,rfl,hss,hall⟩:=z
   generalize e2:upd H' p2 _=H2
   obtain⟨g2,k2⟩:=new_facts e2 hp2
   exact fun x dx hx hdx _=>⟨x,dx,p2,_,H2,rfl,upd_same,madeS hx hdx,hx,SqL.of k2,fun t H3 g3 k3 k4=>⟨rfl,q x H3 ((g1.trans g2).trans g3) (.pick k3 k4 (by rw [hss,zl]) hall)⟩⟩
theorem ok_RoomError_init {k:Nat} (F:Fun K "__init__" "RoomError.__init__" s_RoomError_init f fd):FnOk P w K mg base CX0 (k + 2) f fd ["self","words"] (spRE K):=by
 w_cond sc_RoomError_init
 ·obtain⟨e,v,C',R,fI,dx,rfl,_⟩:=h;rfl
 obtain⟨e,v,C',R,fI,dx,rfl,he,cx,q⟩:=h
 walk_at "hr"
 refine⟨_,(pss_one (ps_expr (pe_vinit VI (pe_bltn (v:=.ty "ValueError") rfl M.ValueError (show bootBuiltins "ValueError" = some (.type "ValueError") from by decide +kernel) rfl) (pa_cons (pv 0) (pa_cons (pv 1) pa_nil))))),?_⟩
 exact⟨_,rfl,_,rfl,e,v,C',R,fI,dx,rfl,he,cx,q⟩
theorem ok_Shapes_main {k:Nat} (F:Fun K "main" "Shapes.main" s_Shapes_main f fd):FnOk P w K mg base CX0 (k + 2) f fd ["self"] (spMn (Cl5.mk Va Vb Vc Vd Ve) Vf K):=by
 w_cond sc_Shapes_main
 ·obtain⟨ra,z,sa,S,rfl,_⟩:=h;rfl
 obtain⟨ra,z,sa,S,rfl,⟨dx,t,k1,k2,hw⟩,q⟩:=h
 walk_at "hr"
 refine⟨_,(pss_one (ps_ret (pe_ix ix_tup (pe_fld (pv 0) rfl) (pe_un un_neg pe_int) (fun _ _=>rfl)))),?_⟩
 exact⟨_,rfl,ra,Vf,_,_,_,rfl,k1,Uf.cl,Uf.na _ (by decide),rfl,_,rfl,t,_,_,_,rfl,rfl,k2,atI_lastR _ _,q⟩
theorem ok_NoShapes_init {k:Nat} (F:Fun K "__init__" "NoShapes.__init__" s_NoShapes_init f fd) {fd_RoomError_init:FuncData} (D_RoomError_init:DfI K fd_RoomError_init ["self","words"]) (G_RoomError_init:FnOk P w K mg base CX0 k fRE fd_RoomError_init ["self","words"] (spRE K)):FnOk P w K mg base (CXE P w) (k + 2) f fd ["self","line"] (spXn C_NoShapes ["line"]):=by
 w_cond sc_NoShapes_init
 ·obtain⟨e,xs,rfl,hl,_⟩:=h;exact congrArg (· + 1) hl
 obtain⟨e,xs,rfl,hl,he,q⟩:=h
 walk_at "hr"
 refine⟨_,(pss_cons (ps_expr (pe_cinit tRE.i (pe_glob (v:=.ref cRE) rfl tRE.m rfl) G_RoomError_init hr D_RoomError_init.b .nil pass0 (pa_cons (pv 0) (pa_cons pe_str pa_nil))))
   (pss_one (ps_xfld (pv 0) (pv 1) rfl))),?_⟩
 match xs,hl,q with
 | [x0],_,q =>
  refine⟨_,rfl,e,_,C_NoShapes,cRE,f_NoShapes_init,none,rfl,he,T_NoShapes.c,?_⟩
  refine⟨_,rfl,_,rfl,e,C_NoShapes,cRE,f_NoShapes_init,rfl,T_NoShapes.c,T_NoShapes.n _ (by simp),.inl ⟨he,fun dx hd=>?_⟩⟩
  have F1:=Fl.first (CN:=C_NoShapes) (f:="line") (y:=x0) he hd
  exact q dx _ F1
theorem ok_TooMuch_init {k:Nat} (F:Fun K "__init__" "TooMuch.__init__" s_TooMuch_init f fd) {fd_RoomError_init:FuncData} (D_RoomError_init:DfI K fd_RoomError_init ["self","words"]) (G_RoomError_init:FnOk P w K mg base CX0 k fRE fd_RoomError_init ["self","words"] (spRE K)):FnOk P w K mg base (CXE P w) (k + 2) f fd ["self","line"] (spXn C_TooMuch ["line"]):=by
 w_cond sc_TooMuch_init
 ·obtain⟨e,xs,rfl,hl,_⟩:=h;exact congrArg (· + 1) hl
 obtain⟨e,xs,rfl,hl,he,q⟩:=h
 walk_at "hr"
 refine⟨_,(pss_cons (ps_expr (pe_cinit tRE.i (pe_glob (v:=.ref cRE) rfl tRE.m rfl) G_RoomError_init hr D_RoomError_init.b .nil pass0 (pa_cons (pv 0) (pa_cons pe_str pa_nil))))
   (pss_one (ps_xfld (pv 0) (pv 1) rfl))),?_⟩
 match xs,hl,q with
 | [x0],_,q =>
  refine⟨_,rfl,e,_,C_TooMuch,cRE,f_TooMuch_init,none,rfl,he,T_TooMuch.c,?_⟩
  refine⟨_,rfl,_,rfl,e,C_TooMuch,cRE,f_TooMuch_init,rfl,T_TooMuch.c,T_TooMuch.n _ (by simp),.inl ⟨he,fun dx hd=>?_⟩⟩
  have F1:=Fl.first (CN:=C_TooMuch) (f:="line") (y:=x0) he hd
  exact q dx _ F1
theorem ok_UnknownShape_init {k:Nat} (F:Fun K "__init__" "UnknownShape.__init__" s_UnknownShape_init f fd) {fd_RoomError_init:FuncData} (D_RoomError_init:DfI K fd_RoomError_init ["self","words"]) (G_RoomError_init:FnOk P w K mg base CX0 k fRE fd_RoomError_init ["self","words"] (spRE K)):FnOk P w K mg base (CXE P w) (k + 2) f fd ["self","line","name"] (spXn C_UnknownShape ["line","name"]):=by
 w_cond sc_UnknownShape_init
 ·obtain⟨e,xs,rfl,hl,_⟩:=h;exact congrArg (· + 1) hl
 obtain⟨e,xs,rfl,hl,he,q⟩:=h
 walk_at "hr"
 refine⟨_,(pss_cons (ps_expr (pe_cinit tRE.i (pe_glob (v:=.ref cRE) rfl tRE.m rfl) G_RoomError_init hr D_RoomError_init.b .nil pass0 (pa_cons (pv 0) (pa_cons pe_str pa_nil))))
   (pss_cons (ps_xfld (pv 0) (pv 1) rfl)
   (pss_one (ps_xfld (pv 0) (pv 2) rfl)))),?_⟩
 match xs,hl,q with
 | [x0,x1],_,q =>
  refine⟨_,rfl,e,_,C_UnknownShape,cRE,f_UnknownShape_init,none,rfl,he,T_UnknownShape.c,?_⟩
  refine⟨_,rfl,_,rfl,e,C_UnknownShape,cRE,f_UnknownShape_init,rfl,T_UnknownShape.c,T_UnknownShape.n _ (by simp),.inl ⟨he,fun dx hd=>?_⟩⟩
  have F1:=Fl.first (CN:=C_UnknownShape) (f:="line") (y:=x0) he hd
  refine⟨_,rfl,_,rfl,e,C_UnknownShape,cRE,f_UnknownShape_init,rfl,T_UnknownShape.c,T_UnknownShape.n _ (by simp),.inr ⟨dx,_,F1.ae,F1.ad,(by simp),?_⟩⟩
  have F2:=F1.next (fs':=[("line",x0),("name",x1)])
  exact q dx _ F2
theorem ok_NamedTwice_init {k:Nat} (F:Fun K "__init__" "NamedTwice.__init__" s_NamedTwice_init f fd) {fd_RoomError_init:FuncData} (D_RoomError_init:DfI K fd_RoomError_init ["self","words"]) (G_RoomError_init:FnOk P w K mg base CX0 k fRE fd_RoomError_init ["self","words"] (spRE K)):FnOk P w K mg base (CXE P w) (k + 2) f fd ["self","line","name"] (spXn C_NamedTwice ["line","name"]):=by
 w_cond sc_NamedTwice_init
 ·obtain⟨e,xs,rfl,hl,_⟩:=h;exact congrArg (· + 1) hl
 obtain⟨e,xs,rfl,hl,he,q⟩:=h
 walk_at "hr"
 refine⟨_,(pss_cons (ps_expr (pe_cinit tRE.i (pe_glob (v:=.ref cRE) rfl tRE.m rfl) G_RoomError_init hr D_RoomError_init.b .nil pass0 (pa_cons (pv 0) (pa_cons pe_str pa_nil))))
   (pss_cons (ps_xfld (pv 0) (pv 1) rfl)
   (pss_one (ps_xfld (pv 0) (pv 2) rfl)))),?_⟩
 match xs,hl,q with
 | [x0,x1],_,q =>
  refine⟨_,rfl,e,_,C_NamedTwice,cRE,f_NamedTwice_init,none,rfl,he,T_NamedTwice.c,?_⟩
  refine⟨_,rfl,_,rfl,e,C_NamedTwice,cRE,f_NamedTwice_init,rfl,T_NamedTwice.c,T_NamedTwice.n _ (by simp),.inl ⟨he,fun dx hd=>?_⟩⟩
  have F1:=Fl.first (CN:=C_NamedTwice) (f:="line") (y:=x0) he hd
  refine⟨_,rfl,_,rfl,e,C_NamedTwice,cRE,f_NamedTwice_init,rfl,T_NamedTwice.c,T_NamedTwice.n _ (by simp),.inr ⟨dx,_,F1.ae,F1.ad,(by simp),?_⟩⟩
  have F2:=F1.next (fs':=[("line",x0),("name",x1)])
  exact q dx _ F2
theorem ok_need_new_shape {k:Nat} (F:Fun K "need_new_shape" "need_new_shape" s_need_new_shape f fd) {fd_NoShapes_init:FuncData} (D_NoShapes_init:DfI K fd_NoShapes_init ["self","line"]) (G_NoShapes_init:FnOk P w K mg base (CXE P w) k f_NoShapes_init fd_NoShapes_init ["self","line"] (spXn C_NoShapes ["line"])) {fd_NamedTwice_init:FuncData} (D_NamedTwice_init:DfI K fd_NamedTwice_init ["self","line","name"]) (G_NamedTwice_init:FnOk P w K mg base (CXE P w) k f_NamedTwice_init fd_NamedTwice_init ["self","line","name"] (spXn C_NamedTwice ["line","name"])) {fd_TooMuch_init:FuncData} (D_TooMuch_init:DfI K fd_TooMuch_init ["self","line"]) (G_TooMuch_init:FnOk P w K mg base (CXE P w) k f_TooMuch_init fd_TooMuch_init ["self","line"] (spXn C_TooMuch ["line"])):FnOk P w K mg base (CXE P w) (k + 2) f fd ["told","line","name"] (spNewX (Cl5.mk Va Vb Vc Vd Ve) C_NamedTwice C_TooMuch K):=by
 w_cond sc_need_new_shape
 ·obtain⟨tl,x,nm,sa,T,rfl,_⟩:=h;rfl
 obtain⟨tl,x,nm,sa,T,rfl,hl,hw,hne,hlen,q0,q1,q2⟩:=h
 walk_at "hr"
 refine⟨_,(pss_cons (ps_if (PW.pt (pw_and (pt_truth (pv 0) (fun _=>rfl)) (pw_and1 (pt_not (pt_truth (pe_fld (pe_ix ix_list (pv 0) (pe_un un_neg pe_int) (fun _ _=>rfl)) rfl) (fun _=>rfl)))))) (pss_one (ps_raise T_NoShapes.c G_NoShapes_init hr0 rfl T_NoShapes.m D_NoShapes_init.b .nil raisesE (pa_cons (pv 1) pa_nil))) pss_nil)
   (pss_cons (ps_if (pt_cmpR op_in_seq (pv 2) (pe_comp ["shape"] [] [] rfl (pi_list (pv 0)) rfl trivial trivial (fun _ _ _ _=>(pg_name (i:=0) (show List.Nodup (["shape"]:List Str) from by decide +kernel) rfl (Or.inl rfl))) (fun _ _ _ _=>pif_nil) (fun _ _ _ _=>(pe_fldK (K:=K) rfl (pv 0) rfl))) (by with_unfolding_all rfl)) (pss_one (ps_raise T_NamedTwice.c G_NamedTwice_init hr0 rfl T_NamedTwice.m D_NamedTwice_init.b .nil raisesE (pa_cons (pv 1) (pa_cons (pv 2) pa_nil)))) pss_nil)
   (pss_one (ps_if (pt_cmpR op_eq (pe_callB call_len_seq rfl M.len PySem.boot_len (pa_cons (pv 0) pa_nil)) (pe_glob (v:=.int 8) rfl C.MOST_SHAPES ⟨_,rfl⟩) (nomark _)) (pss_one (ps_raise T_TooMuch.c G_TooMuch_init hr0 rfl T_TooMuch.m D_TooMuch_init.b .nil raisesE (pa_cons (pv 1) pa_nil))) pss_nil)))),?_⟩
 have zl:(sa.map V.ref).length=T.length:=by rw [List.length_map];exact hw.1
 refine joinQ (fun σ' H'=>σ'=[some (.ref tl),some x,some (.str nm)]/\H'=H) (fun σ' H' z=>?_) (fun nx hnx=>?_)
 ·obtain⟨rfl,rfl⟩:=z
  refine⟨_,rfl,_,rfl,tl,rfl,⟨_,SqL.of hl⟩,comp_list (xs:=sa.map V.ref) (fun j ys H2=>H2=H'/\ys=((T.take j).map (·.1)).map V.str) ⟨rfl,rfl⟩ (fun j ys H2 _ z=>⟨by rw [z.1];exact SqL.of hl,by rw [z.2,List.length_map,List.length_map,List.length_take];exact Nat.min_le_left _ _⟩) (small1000 (by omega)) (fun j x ys H2 hx z=>?_) (fun ys H2 z p hp=>?_)⟩
  ·obtain⟨rfl,rfl⟩:=z
   obtain⟨s,hs,rfl⟩:=get_refs hx
   obtain⟨sh,hS,dx,t,ps,k1,_⟩:=hw.at hs
   refine⟨_,rfl,s,Ve,_,_,_,rfl,k1,Ue.cl,Ue.na _ (by decide),rfl,⟨rfl,?_⟩,_,rfl⟩
   rw [map_snoc hS,List.map_append];rfl
  ·obtain⟨rfl,rfl⟩:=z
   generalize e3:upd H2 p _=H3
   obtain⟨g3,k3⟩:=new_facts e3 hp
   refine⟨p,_,rfl,.inl (SqL.of k3),rfl,flat_strs _,_,rfl,?_⟩
   rw [if_neg (by decide),inV_strs,zl,take_len]
   by_cases hnm:nm ∈ T.map (·.1)
   ·exact iteP (decide_eq_true hnm) ⟨True.intro,_,rfl,_,rfl,(by show 2<=1000;decide),fun e he=>⟨e,[_,_],rfl,rfl,upd_same,fun dx H1 F=>⟨rfl,e,some dx,rfl,F.ae,(by obtain⟨g9,he9,x9⟩:=fly_at (g3) he F;exact q1 hnm e _ g9 he9 x9)⟩⟩⟩
   ·refine iteN (by rw [decide_eq_false hnm];decide) ⟨_,rfl,tl,_,rfl,.inl (SqL.of (g3 _ _ hl)),rfl,_,rfl,?_⟩
    by_cases h8:T.length=8
    ·exact iteP (by rw [zl,h8];rfl) ⟨True.intro,_,rfl,(by show 1<=1000;decide),fun e he=>⟨e,[_],rfl,rfl,upd_same,fun dx H1 F=>⟨rfl,e,some dx,rfl,F.ae,(by obtain⟨g9,he9,x9⟩:=fly_at (g3) he F;exact q2 hnm h8 e _ g9 he9 x9)⟩⟩⟩
    ·exact iteN (by rw [zl];simp;omega) (q0 hnm h8 H3 g3)
 ·rcases List.eq_nil_or_concat sa with rfl|⟨sa0,z,rfl⟩
  ·exact⟨_,rfl,false,.inl ⟨_,SqL.of hl,rfl⟩,iteN (by decide) (iteN (by decide) (hnx _ _ ⟨rfl,rfl⟩))⟩
  ·rw [List.concat_eq_append] at *
   obtain⟨s,hS,so⟩:=hw.at (i:=sa0.length) (a:=z) (by rw [List.getElem?_append_right (Nat.le_refl _),Nat.sub_self];rfl)
   obtain⟨dx,t,ps,k1,k2,k3⟩:=so
   have hp:ps ≠ []:=fun e=>hne s (List.mem_of_getElem? hS) (List.length_eq_zero_iff.mp (by rw [← k3.len,e];rfl))
   exact⟨_,rfl,true,.inl ⟨_,SqL.of hl,by simp⟩,iteP rfl ⟨_,rfl,_,rfl,tl,_,_,_,rfl,rfl,SqL.of hl,atI_lastR _ _,z,Ve,_,_,_,rfl,k1,Ue.cl,Ue.na _ (by decide),rfl,true,.inr (.inl ⟨_,k2,by cases ps with|nil=>exact absurd rfl hp|cons _ _=>rfl⟩),iteN (by decide) (hnx _ _ ⟨rfl,rfl⟩)⟩⟩
theorem ok_is_too_much {k r:Nat} (F:Fun K "is_too_much" "is_too_much" s_is_too_much f fd) {f_Shape_size:Addr} {fd_Shape_size:FuncData} (D_Shape_size:DfM K Ve "size" f_Shape_size fd_Shape_size ["self"]) (G_Shape_size:FnOk P w K mg base CX0 k f_Shape_size fd_Shape_size ["self"] (spShV (Cl5.mk Va Vb Vc Vd Ve) K r sSz)) {f_Shape_units:Addr} {fd_Shape_units:FuncData} (D_Shape_units:DfM K Ve "units" f_Shape_units fd_Shape_units ["self"]) (G_Shape_units:FnOk P w K mg base CX0 k f_Shape_units fd_Shape_units ["self"] (spShU (Cl5.mk Va Vb Vc Vd Ve) K r)) {f_Shape_depth:Addr} {fd_Shape_depth:FuncData} (D_Shape_depth:DfM K Ve "depth" f_Shape_depth fd_Shape_depth ["self"]) (G_Shape_depth:FnOk P w K mg base CX0 k f_Shape_depth fd_Shape_depth ["self"] (spShV (Cl5.mk Va Vb Vc Vd Ve) K r sDp)):FnOk P w K mg base CX0 (k + 2) f fd ["shape"] (spTMX (Cl5.mk Va Vb Vc Vd Ve) K r):=by
 w_cond sc_is_too_much
 ·obtain⟨a,i,sa,S,rfl,_⟩:=h;rfl
 obtain⟨a,i,sa,S,rfl,ha,hw,h100,hc⟩:=h
 walk_at "hr"
 refine⟨_,(pss_cons (ps_if (PW.pt (pw_or (pt_cmpR op_gt (pe_callB call_len_seq rfl M.len PySem.boot_len (pa_cons (pe_fld (pv 0) rfl) pa_nil)) (pe_glob (v:=.int 6) rfl C.MOST_FIELDS ⟨_,rfl⟩) (nomark _)) (pw_or1 (pt_cmpR op_gt (pe_meth0 (pv 0) Ue.cl D_Shape_size.me G_Shape_size hr D_Shape_size.b .nil pass0) (pe_glob (v:=.int 64) rfl C.MOST_CELLS ⟨_,rfl⟩) (nomark _))))) (pss_one (ps_ret pe_bl)) pss_nil)
   (pss_one (ps_ret (pe_or (pe_cmpR op_gt (pe_callB call_len_seq rfl M.len PySem.boot_len (pa_cons (pe_meth0 (pv 0) Ue.cl D_Shape_units.me G_Shape_units hr D_Shape_units.b .nil pass0) pa_nil)) (pe_glob (v:=.int 40) rfl C.MOST_UNITS ⟨_,rfl⟩) (nomark _)) (pe_one (pe_cmpR op_gt (pe_meth0 (pv 0) Ue.cl D_Shape_depth.me G_Shape_depth hr D_Shape_depth.b .nil pass0) (pe_glob (v:=.int 4) rfl C.MOST_DEPTH ⟨_,rfl⟩) (nomark _))))))),?_⟩
 obtain⟨s,hS,dx,t,ps,k1,k2,k3⟩:=hw.at ha
 have zl:(ps.map V.ref).length=s.2.length:=by rw [List.length_map];exact k3.len
 rcases hc with⟨s',hS',h6,q⟩|⟨hr1,h8,hg,q0,q1⟩
 ·rw [hS] at hS'
  cases hS'
  exact⟨_,rfl,a,Ve,_,_,_,rfl,k1,Ue.cl,Ue.na _ (by decide),rfl,t,_,rfl,.inr k2,_,_,rfl,rfl,_,rfl,iteP (by rw [zl];simp;omega) (iteT (q H (Same.refl _)))⟩
 ·have h6:=hg.few i s hS
  refine⟨_,rfl,a,Ve,_,_,_,rfl,k1,Ue.cl,Ue.na _ (by decide),rfl,t,_,rfl,.inr k2,_,_,rfl,rfl,_,rfl,iteN (by rw [zl];simp;omega) ⟨_,rfl,a,dx,_,rfl,k1,rfl,a,i,sa,S,rfl,ha,(by omega),hw,hg,fun H1 g1=>⟨_,_,rfl,rfl,_,rfl,?_⟩⟩⟩
  by_cases b1:(tabs S).sz.getD i 0<=64
  ·refine iteN (by have:sSz i (tabs S)<=64:=b1;simp;omega) ?_
   refine⟨_,rfl,a,dx,_,rfl,g1 _ _ k1,rfl,a,i,sa,S,rfl,ha,hr1,h8,hw.same g1,hg,fun l H2 g2 hl hul=>?_⟩
   obtain⟨us,ku,ur⟩:=hul
   refine⟨l,_,rfl,.inl (SqL.of ku),_,_,rfl,rfl,_,rfl,?_⟩
   by_cases b2:(un (.nest i) S Str.empty).length<=40
   ·refine iteN (by rw [List.length_map,ur.len];simp;omega) ?_
    refine⟨_,rfl,a,dx,_,rfl,g2 _ _ (g1 _ _ k1),rfl,a,i,sa,S,rfl,ha,(by omega),hw.same (g1.trans g2),hg,fun H3 g3=>⟨_,_,rfl,rfl,?_⟩⟩
    dsimp only
    by_cases b3:(tabs S).dp.getD i 0<=4
    ·rw [decide_eq_false (by have:sDp i (tabs S)<=4:=b3;omega)]
     exact q0 ⟨b1,b2,b3⟩ H3 ((g1.trans g2).trans g3)
    ·rw [decide_eq_true (by have:¬ sDp i (tabs S)<=4:=b3;omega)]
     exact q1 (.inr (.inr (by omega))) H3 ((g1.trans g2).trans g3)
   ·exact iteP (by rw [List.length_map,ur.len];simp;omega) (q1 (.inr (.inl (by omega))) H2 (g1.trans g2))
  ·exact iteP (by have:¬ sSz i (tabs S)<=64:=b1;simp;omega) (q1 (.inl (by omega)) H1 g1)
theorem ok_with_field {k r:Nat} (F:Fun K "with_field" "with_field" s_with_field f fd) {f_kind_in:Addr} {fd_kind_in:FuncData} (D_kind_in:Df K mg "kind_in" f_kind_in fd_kind_in ["words","shapes"]) (G_kind_in:FnOk P w K mg base CX0 k f_kind_in fd_kind_in ["words","shapes"] (spKin (Cl5.mk Va Vb Vc Vd Ve) K 2)) {f_whole_shapes:Addr} {fd_whole_shapes:FuncData} (D_whole_shapes:Df K mg "whole_shapes" f_whole_shapes fd_whole_shapes ["told"]) (G_whole_shapes:FnOk P w K mg base CX0 k f_whole_shapes fd_whole_shapes ["told"] (spWh (Cl5.mk Va Vb Vc Vd Ve) K)) {fd_Shape_init:FuncData} (D_Shape_init:DfI K fd_Shape_init ["self","name","fields"]) (G_Shape_init:FnOk P w K mg base CX0 k cIz fd_Shape_init ["self","name","fields"] (spShI (Cl5.mk Va Vb Vc Vd Ve) K)) {f_is_too_much:Addr} {fd_is_too_much:FuncData} (D_is_too_much:Df K mg "is_too_much" f_is_too_much fd_is_too_much ["shape"]) (G_is_too_much:FnOk P w K mg base CX0 k f_is_too_much fd_is_too_much ["shape"] (spTMX (Cl5.mk Va Vb Vc Vd Ve) K r)) {fd_TooMuch_init:FuncData} (D_TooMuch_init:DfI K fd_TooMuch_init ["self","line"]) (G_TooMuch_init:FnOk P w K mg base (CXE P w) k f_TooMuch_init fd_TooMuch_init ["self","line"] (spXn C_TooMuch ["line"])):FnOk P w K mg base (CXE P w) (k + 2) f fd ["told","line","words"] (spWFX (Cl5.mk Va Vb Vc Vd Ve) C_TooMuch K r):=by
 w_cond sc_with_field
 ·obtain⟨tl,a,z,x,sa,T,s,fn,kd,rfl,_⟩:=h;rfl
 obtain⟨tl,a,z,x,sa,T,s,fn,kd,rfl,hl,hw,hws,hf,hn,hnd,hlen,hs50,hc⟩:=h
 walk_at "hr"
 refine⟨_,(pss_cons (ps_set (i:=3) sc_with_field.nd rfl (by walk_at "o") (pe_call G_kind_in hr rfl D_kind_in.m D_kind_in.k D_kind_in.b .nil pass0 (pa_cons (pe_slice sl_list (pv 2) (po_some pe_int) po_none) (pa_cons (pe_call G_whole_shapes hr rfl D_whole_shapes.m D_whole_shapes.k D_whole_shapes.b .nil pass0 (pa_cons (pv 0) pa_nil)) pa_nil))))
   (pss_cons (ps_set (i:=4) sc_with_field.nd rfl (by walk_at "o") (pe_make Ue.ma G_Shape_init hr0 rfl Ue.m D_Shape_init.b .nil pass0 (pa_cons (pe_fld (pe_ix ix_list (pv 0) (pe_un un_neg pe_int) (fun _ _=>rfl)) rfl) (pa_cons (pe_op op_catT2 (pe_fld (pe_ix ix_list (pv 0) (pe_un un_neg pe_int) (fun _ _=>rfl)) rfl) (pe_tup (pa_cons (pe_tup (pa_cons (pe_ix ix_list (pv 2) pe_int (fun _ _=>rfl)) (pa_cons (pv 3) pa_nil))) pa_nil))) pa_nil))))
   (pss_cons (ps_if (pt_val (pe_call G_is_too_much hr rfl D_is_too_much.m D_is_too_much.k D_is_too_much.b .nil pass0 (pa_cons (pv 4) pa_nil))) (pss_one (ps_raise T_TooMuch.c G_TooMuch_init hr0 rfl T_TooMuch.m D_TooMuch_init.b .nil raisesE (pa_cons (pv 1) pa_nil))) pss_nil)
   (pss_one (ps_ret (pv 4)))))),?_⟩
 obtain⟨hw0,dx,t,ps,k1,k2,k3⟩:=hw.init
 refine⟨_,rfl,_,rfl,a,_,rfl,hws,fun p hp=>?_⟩
 rw [show cutV ((fn::kd.words (nmOf T)).map V.str) (some 1) none=(kd.words (nmOf T)).map V.str from cutA1 _ _]
 generalize e1:upd H p _=H1
 obtain⟨g1,kp⟩:=new_facts e1 hp
 refine⟨_,rfl,tl,z,sa,T,s,rfl,g1 _ _ hl,hw.same g1,hnd,hlen,fun d H2 g2 hd kd2=>?_⟩
 refine⟨p,d,kd,sa,T,rfl,(by cases kd <;> simp [Kd.lv]),g2.seq (SqL.of kp),kd2,hf,hn,hnd,hw0.1,fun k H3 g3 ko=>?_⟩
 have g13:=(g1.trans g2).trans g3
 refine⟨_,rfl,_,rfl,tl,_,_,_,rfl,rfl,SqL.of (g13 _ _ hl),atI_lastR _ _,z,Ve,_,_,_,rfl,(g13 _ _ k1),Ue.cl,Ue.na _ (by decide),rfl,_,rfl,_,rfl,tl,_,_,_,rfl,rfl,SqL.of (g13 _ _ hl),atI_lastR _ _,z,Ve,_,_,_,rfl,(g13 _ _ k1),Ue.cl,Ue.na _ (by decide),rfl,_,rfl,a,_,_,_,rfl,rfl,g13.seq hws,at0,_,rfl,szL2,fun u hu=>?_⟩
 generalize e4:upd H3 u _=H4
 obtain⟨g4,k4⟩:=new_facts e4 hu
 refine⟨szL1,fun v hv=>?_⟩
 generalize e5:upd H4 v _=H5
 obtain⟨g5,k5⟩:=new_facts e5 hv
 have hps:ps.length=s.2.length:=k3.len
 refine⟨t,v,ps.map V.ref,[.ref u],rfl,rfl,(g4.trans g5).tp (g13.tp k2),SqT.of k5,(by simp),(by rw [sizeLine_eq,List.length_map];simp;omega),fun fl H6 g6 hfl=>?_⟩
 have g36:=(g4.trans g5).trans g6
 refine fun y dy hy hdy _=>⟨y,dy,fl,s.1,ps++[u],s.2++[(fn,kd)],sa,H6,rfl,upd_same,madeS hy hdy,hy,.inr (by rw [List.map_append];exact hfl),(k3.same (g13.trans g36)).snoc ((g5.trans g6).tp (SqT.of k4)) (ko.same g36),(by rw [List.length_append];show s.2.length + 1<=100;omega),fun t' ps' H7 g7 k7 st fo=>⟨rfl,?_⟩⟩
 have gA:=(g13.trans g36).trans g7
 have so:SO (Cl5.mk Va Vb Vc Vd Ve) K H7 sa y (s.1,s.2++[(fn,kd)]):=⟨dy,t',ps',k7,st,fo⟩
 have hsw:=(hw0.same gA).snoc so
 have hsl:sa.length=T.length:=hw0.1
 have hat:(sa++[y])[T.length]?=some y:=by rw [← hsl,List.getElem?_append_right (Nat.le_refl _),Nat.sub_self];rfl
 have hTa:(T++[(s.1,s.2++[(fn,kd)])])[T.length]?=some (s.1,s.2++[(fn,kd)]):=by rw [List.getElem?_append_right (Nat.le_refl _),Nat.sub_self];rfl
 have h100:∀ s',(T++[(s.1,s.2++[(fn,kd)])])[T.length]?=some s'->s'.2.length<=100:=fun s' e=>by
  rw [hTa] at e
  cases e
  show (s.2++[(fn,kd)]).length<=100
  rw [List.length_append,List.length_singleton];omega
 refine⟨_,rfl,y,T.length,sa++[y],_,rfl,hat,hsw,h100,?_⟩
 rcases hc with⟨h7,qz⟩|⟨hr1,h8,hg,q0,qz⟩
 ·refine .inl ⟨_,hTa,h7,fun H8 g8=>⟨_,rfl,iteP rfl ?_⟩⟩
  exact⟨True.intro,_,rfl,(by show 1<=1000;decide),fun e he=>⟨e,[_],rfl,rfl,upd_same,fun dx H1 F=>⟨rfl,e,some dx,rfl,F.ae,(by obtain⟨g9,he9,x9⟩:=fly_at (gA.trans g8) he F;exact qz e _ g9 he9 x9)⟩⟩⟩
 ·refine .inr ⟨hr1,h8,hg,fun hb H8 g8=>⟨_,rfl,iteN (by decide) ⟨_,rfl,q0 hb y H8 (gA.trans g8) (so.same g8)⟩⟩,fun hb H8 g8=>⟨_,rfl,iteP rfl ?_⟩⟩
  exact⟨True.intro,_,rfl,(by show 1<=1000;decide),fun e he=>⟨e,[_],rfl,rfl,upd_same,fun dx H1 F=>⟨rfl,e,some dx,rfl,F.ae,(by obtain⟨g9,he9,x9⟩:=fly_at (gA.trans g8) he F;exact qz hb e _ g9 he9 x9)⟩⟩⟩
theorem ok_need_field {k:Nat} (F:Fun K "need_field" "need_field" s_need_field f fd) {f_is_field_line:Addr} {fd_is_field_line:FuncData} (D_is_field_line:Df K mg "is_field_line" f_is_field_line fd_is_field_line ["words"]) (G_is_field_line:FnOk P w K mg base CX0 k f_is_field_line fd_is_field_line ["words"] (spFlX K)) {f_shapes_named:Addr} {fd_shapes_named:FuncData} (D_shapes_named:Df K mg "shapes_named" f_shapes_named fd_shapes_named ["words"]) (G_shapes_named:FnOk P w K mg base CX0 k f_shapes_named fd_shapes_named ["words"] (spNamed K)) {f_whole_shapes:Addr} {fd_whole_shapes:FuncData} (D_whole_shapes:Df K mg "whole_shapes" f_whole_shapes fd_whole_shapes ["told"]) (G_whole_shapes:FnOk P w K mg base CX0 k f_whole_shapes fd_whole_shapes ["told"] (spWh (Cl5.mk Va Vb Vc Vd Ve) K)) {fd_NoShapes_init:FuncData} (D_NoShapes_init:DfI K fd_NoShapes_init ["self","line"]) (G_NoShapes_init:FnOk P w K mg base (CXE P w) k f_NoShapes_init fd_NoShapes_init ["self","line"] (spXn C_NoShapes ["line"])) {fd_NamedTwice_init:FuncData} (D_NamedTwice_init:DfI K fd_NamedTwice_init ["self","line","name"]) (G_NamedTwice_init:FnOk P w K mg base (CXE P w) k f_NamedTwice_init fd_NamedTwice_init ["self","line","name"] (spXn C_NamedTwice ["line","name"])) {fd_UnknownShape_init:FuncData} (D_UnknownShape_init:DfI K fd_UnknownShape_init ["self","line","name"]) (G_UnknownShape_init:FnOk P w K mg base (CXE P w) k f_UnknownShape_init fd_UnknownShape_init ["self","line","name"] (spXn C_UnknownShape ["line","name"])):FnOk P w K mg base (CXE P w) (k + 2) f fd ["told","line","words"] (spNFX (Cl5.mk Va Vb Vc Vd Ve) C_NoShapes C_NamedTwice C_UnknownShape K):=by
 w_cond sc_need_field
 ·obtain⟨tl,a,z,x,sa,T,s,ws,rfl,_⟩:=h;rfl
 obtain⟨tl,a,z,x,sa,T,s,ws,rfl,hl,hw,hws,hs100,hn,hnd,hlen,hc⟩:=h
 walk_at "hr"
 refine⟨_,(pss_cons (ps_if (PW.pt (pw_or (pt_not (pt_truth (pv 0) (fun _=>rfl))) (pw_or1 (pt_not (pt_val (pe_call G_is_field_line hr rfl D_is_field_line.m D_is_field_line.k D_is_field_line.b .nil pass0 (pa_cons (pv 2) pa_nil))))))) (pss_one (ps_raise T_NoShapes.c G_NoShapes_init hr0 rfl T_NoShapes.m D_NoShapes_init.b .nil raisesE (pa_cons (pv 1) pa_nil))) pss_nil)
   (pss_cons (ps_if (pt_cmpR op_in_seq (pe_ix ix_list (pv 2) pe_int (fun _ _=>rfl)) (pe_comp ["name","kind"] [] [] rfl (pi_tup (pe_fld (pe_ix ix_list (pv 0) (pe_un un_neg pe_int) (fun _ _=>rfl)) rfl)) rfl trivial trivial (fun _ _ _ _=>(pg_tupK (K:=K) (n:=2) rfl rfl (pgs_cons (pg_name (i:=0) (show List.Nodup (["name","kind"]:List Str) from by decide +kernel) rfl (Or.inl rfl)) (pgs_cons (pg_name (i:=1) (show List.Nodup (["name","kind"]:List Str) from by decide +kernel) rfl (Or.inl rfl)) pgs_nil)))) (fun _ _ _ _=>pif_nil) (fun _ _ _ _=>(pv 0))) (by with_unfolding_all rfl)) (pss_one (ps_raise T_NamedTwice.c G_NamedTwice_init hr0 rfl T_NamedTwice.m D_NamedTwice_init.b .nil raisesE (pa_cons (pv 1) (pa_cons (pe_ix ix_list (pv 2) pe_int (fun _ _=>rfl)) pa_nil)))) pss_nil)
   (pss_cons (ps_set (i:=3) sc_need_field.nd rfl (by walk_at "o") (pe_call G_shapes_named hr rfl D_shapes_named.m D_shapes_named.k D_shapes_named.b .nil pass0 (pa_cons (pv 2) pa_nil)))
   (pss_cons (ps_for ownE rfl (pi_enum rfl M.enumerate (pa_cons (pv 3) pa_nil)) (pg_tup rfl (pgs_cons (pg_name (i:=4) sc_need_field.nd rfl (Or.inl rfl)) (pgs_cons (pg_name (i:=5) sc_need_field.nd rfl (Or.inl rfl)) pgs_nil))) (pss_one (ps_if (pt_cmpR op_in_seq (pv 5) (pe_slice sl_list (pv 3) po_none (po_some (pv 4))) (by with_unfolding_all rfl)) (pss_one (ps_raise T_NamedTwice.c G_NamedTwice_init hr0 rfl T_NamedTwice.m D_NamedTwice_init.b .nil raisesE (pa_cons (pv 1) (pa_cons (pv 5) pa_nil)))) pss_nil)))
   (pss_one (ps_for ownE rfl (pi_list (pv 3)) (pg_name (i:=5) sc_need_field.nd rfl (Or.inl rfl)) (pss_one (ps_if (pt_cmp (pc_dnotin hr.units1 (pv 5) (pe_call G_whole_shapes hr rfl D_whole_shapes.m D_whole_shapes.k D_whole_shapes.b .nil pass0 (pa_cons (pv 0) pa_nil)))) (pss_one (ps_raise T_UnknownShape.c G_UnknownShape_init hr0 rfl T_UnknownShape.m D_UnknownShape_init.b .nil raisesE (pa_cons (pv 1) (pa_cons (pv 5) pa_nil)))) pss_nil)))))))),?_⟩
 obtain⟨hw0,dx,t,ps,k1,k2,k3⟩:=hw.init
 have hgen:(ws=(["vh","num","5"]:List Str)/\Rz C_NoShapes H E [("line",x)])\/∃ (nm:Nat->Str) (n:Nat) (kd:Kd) (fn:Str),ws=fn::kd.words nm/\nameB fn=true/\kd.Fit n/\NOk nm n/\(Kd.named nm kd).Nodup/\(Kd.named nm kd).length<=4/\(((∀ x ∈ Kd.named nm kd,∃ j,j < T.length/\x=nmOf T j)/\(fn ∉ s.2.map (·.1)->∀ H',Same H H'->Q .non H')/\(fn ∈ s.2.map (·.1)->Rz C_NamedTwice H E [("line",x),("name",.str fn)]))\/(Kd.named nm kd=[Str.ofString "nosh"]/\fn ∉ s.2.map (·.1)/\Str.ofString "nosh" ∉ T.map (·.1)/\Rz C_UnknownShape H E [("line",x),("name",.str (Str.ofString "nosh"))])):=by
  rcases hc with h|⟨rfl,h1,h2,h3⟩|⟨fn,kd,rfl,h1,h2,h3,h4⟩
  ·exact .inl h
  ·exact .inr ⟨fun _=>Str.ofString "nosh",1,.nest 0,Str.ofString "vh",rfl,nosh_ok.2,(by show 0 < 1;decide),(fun _ _=>nosh_ok.1),List.pairwise_singleton _ _,(by show 1<=4;decide),.inr ⟨rfl,h1,h2,h3⟩⟩
  ·obtain⟨n1,n4,n2⟩:=named_nodup hnd h2
   exact .inr ⟨nmOf T,T.length,kd,fn,rfl,h1,h2,hn,n1,n4,.inl ⟨n2,h3,h4⟩⟩
 rcases hgen with⟨rfl,qF⟩|⟨nm,n,kd,fn,rfl,hfn,hf,hnk,n1,n4,hcs⟩
 ·exact⟨_,rfl,true,.inl ⟨_,SqL.of hl,by simp⟩,iteN (by decide) ⟨_,rfl,.inr ⟨a,rfl,hws,fun H1 g1=>⟨_,rfl,iteP rfl ⟨True.intro,_,rfl,(by show 1<=1000;decide),fun e he=>⟨e,[_],rfl,rfl,upd_same,fun dx H1 F=>⟨rfl,e,some dx,rfl,F.ae,(by obtain⟨g9,he9,x9⟩:=fly_at (g1) he F;exact qF e _ g9 he9 x9)⟩⟩⟩⟩⟩⟩⟩
 have zl:(ps.map V.ref).length=s.2.length:=by rw [List.length_map];exact k3.len
 refine⟨_,rfl,true,.inl ⟨_,SqL.of hl,by simp⟩,iteN (by decide) ⟨_,rfl,.inl ⟨a,nm,n,kd,fn,rfl,hws,hfn,hf,hnk,fun H1 g1=>⟨_,rfl,iteN (by decide) ?_⟩⟩⟩⟩
 refine⟨_,rfl,a,_,_,_,rfl,rfl,g1.seq hws,at0,_,rfl,_,rfl,tl,_,_,_,rfl,rfl,SqL.of (g1 _ _ hl),atI_lastR _ _,z,Ve,_,_,_,rfl,(g1 _ _ k1),Ue.cl,Ue.na _ (by decide),rfl,t,rfl,⟨_,g1.tp k2⟩,comp_tupM (xs:=ps.map V.ref) (fun j ys H2=>H2=H1/\ys=((s.2.take j).map (·.1)).map V.str) ⟨rfl,rfl⟩ (fun j ys H2 _ z=>⟨by rw [z.1];exact g1.tp k2,by rw [z.2,List.length_map,List.length_map,List.length_take];exact Nat.min_le_left _ _⟩) (small1000 (by omega)) (fun j x ys H2 os ho hx z=>?_) (fun ys H2 z p hp=>?_)⟩
 ·obtain⟨rfl,rfl⟩:=z
  obtain⟨o1,o2,rfl⟩:=len2 ho
  obtain⟨u,hu,rfl⟩:=get_refs hx
  obtain⟨nm',kd',kk,hfs,hq,hko⟩:=k3.get hu
  refine⟨u,_,rfl,g1.tp hq,rfl,_,_,rfl,_,_,rfl,rfl,_,rfl,⟨rfl,?_⟩,[_,_],rfl,rfl⟩
  rw [map_snoc hfs,List.map_append];rfl
 ·obtain⟨rfl,rfl⟩:=z
  generalize e3:upd H2 p _=H3
  obtain⟨g3,k4⟩:=new_facts e3 hp
  refine⟨p,_,rfl,.inl (SqL.of k4),rfl,flat_strs _,_,rfl,?_⟩
  rw [if_neg (by decide),inV_strs,zl,take_len]
  by_cases hnew:fn ∈ s.2.map (·.1)
  ·rcases hcs with⟨_,_,qT⟩|⟨_,hno,_⟩
   ·exact iteP (decide_eq_true hnew) ⟨True.intro,_,rfl,_,rfl,a,_,_,_,rfl,rfl,g3.seq (g1.seq hws),at0,(by show 2<=1000;decide),fun e he=>⟨e,[_,_],rfl,rfl,upd_same,fun dx H1 F=>⟨rfl,e,some dx,rfl,F.ae,(by obtain⟨g9,he9,x9⟩:=fly_at (g1.trans g3) he F;exact qT hnew e _ g9 he9 x9)⟩⟩⟩
   ·exact absurd hnew hno
  refine iteN (by rw [decide_eq_false hnew];decide) ⟨_,rfl,a,nm,n,kd,fn,rfl,g3.seq (g1.seq hws),hf,hnk,fun l H4 g4 hl4 k5=>?_⟩
  have g14:=(g1.trans g3).trans g4
  have zn:((Kd.named nm kd).map V.str).length=(Kd.named nm kd).length:=List.length_map _
  refine⟨_,rfl,l,_,rfl,SqL.of k5,for_enum (xs:=(Kd.named nm kd).map V.str) (fun i σ H'=>∃ o4 o5,σ = [some (.ref tl),some x,some (.ref a),some (.ref l),o4,o5]/\Same H4 H') ⟨_,_,rfl,Same.refl _⟩ (fun i σ H' _ z=>?_) (fun i x σ H' p hx z hp=>?_) (fun σ H' z=>?_)⟩
  ·obtain⟨o4,o5,rfl,g⟩:=z
   exact g.seq (SqL.of k5)
  ·obtain⟨o4,o5,rfl,g⟩:=z
   obtain⟨y,hy,rfl⟩:=get_strs hx
   have g5:=same_new hp (.tup [.int (i:Int),.str y])
   have k6:upd H' p (.tup [.int (i:Int),.str y]) p=_:=upd_same
   generalize upd H' p (.tup [.int (i:Int),.str y])=H5 at g5 k6
   refine⟨p,_,rfl,SqT.of k6,rfl,_,_,rfl,_,_,rfl,rfl,_,rfl,_,rfl,_,rfl,_,rfl,l,_,rfl,(g.trans g5).seq (SqL.of k5),fun p2 hp2=>?_⟩
   rw [cutB]
   generalize e6:upd H5 p2 _=H6
   obtain⟨g6,k7⟩:=new_facts e6 hp2
   rw [← List.map_take] at k7
   refine⟨p2,_,rfl,.inl (SqL.of k7),rfl,flat_strs _,_,rfl,?_⟩
   rw [if_neg (by decide),inV_strs]
   refine iteN (fun z=>?_) ⟨_,_,rfl,(g.trans g5).trans g6⟩
   have hm:y ∈ (Kd.named nm kd).take i:=of_decide_eq_true z
   obtain⟨j,hj⟩:=List.mem_iff_getElem?.mp hm
   have hji:j < i:=by have:=(List.getElem?_eq_some_iff.mp hj).1;rw [List.length_take] at this;omega
   rw [List.getElem?_take_of_lt hji] at hj
   obtain⟨a1,b1⟩:=List.getElem?_eq_some_iff.mp hj
   obtain⟨a2,b2⟩:=List.getElem?_eq_some_iff.mp hy
   exact List.pairwise_iff_getElem.mp n1 j i a1 a2 hji (b1.trans b2.symm)
  ·obtain⟨o4,o5,rfl,g⟩:=z
   refine⟨_,rfl,l,rfl,⟨_,g.seq (SqL.of k5)⟩,for_list (xs:=(Kd.named nm kd).map V.str) (fun i σ H'=>∃ o4 o5,σ = [some (.ref tl),some x,some (.ref a),some (.ref l),o4,o5]/\Same H4 H'/\∀ y,(Kd.named nm kd)[0]?=some y->y ∉ T.map (·.1)->i=0) ⟨_,_,rfl,g,fun _ _ _=>rfl⟩ (fun i σ H' _ z=>?_) (fun i x σ H' hx z=>?_) (fun σ H' z=>?_)⟩
   ·obtain⟨o4,o5,rfl,g,hI⟩:=z
    exact g.seq (SqL.of k5)
   ·obtain⟨o4,o5,rfl,g,hI⟩:=z
    obtain⟨y,hy,rfl⟩:=get_strs hx
    rcases hcs with⟨n2,_,_⟩|⟨hnm,_,hno,qU⟩
    ·obtain⟨j,hj,rfl⟩:=n2 y (List.mem_of_getElem? hy)
     have hT:T[j]?=some T[j]:=List.getElem?_eq_getElem hj
     have hsa:sa[j]?=some (sa[j]'(by rw [hw0.1];exact hj)):=List.getElem?_eq_getElem _
     have hv:=dk_get hnd hT hsa
     rw [← nmOf_get hT] at hv
     refine⟨_,rfl,_,rfl,tl,z,sa,T,s,rfl,(g14.trans g) _ _ hl,hw.same (g14.trans g),hnd,hlen,fun d H5 g5 hd k6=>⟨d,_,rfl,DGet.k (k:=Sum.inr (nmOf T j)) k6,_,rfl,?_⟩⟩
     rw [hv]
     exact iteN (by simp) ⟨_,_,rfl,g.trans g5,fun y' h1 h2=>absurd (by obtain⟨j',hj',e'⟩:=n2 y' (List.mem_of_getElem? h1);rw [e',nmOf_get (List.getElem?_eq_getElem hj')];exact List.mem_map.mpr ⟨_,List.getElem_mem hj',rfl⟩) h2⟩
    ·have hy':y=Str.ofString "nosh":=by
      have:=List.mem_of_getElem? hy
      rw [hnm] at this
      exact List.mem_singleton.mp this
     subst hy'
     refine⟨_,rfl,_,rfl,tl,z,sa,T,s,rfl,(g14.trans g) _ _ hl,hw.same (g14.trans g),hnd,hlen,fun d H5 g5 hd k6=>⟨d,_,rfl,DGet.k (k:=Sum.inr (Str.ofString "nosh")) k6,_,rfl,?_⟩⟩
     rw [dk_no hno]
     exact iteP (by simp) ⟨True.intro,_,rfl,_,rfl,(by show 2<=1000;decide),fun e he=>⟨e,[_,_],rfl,rfl,upd_same,fun dx H1 F=>⟨rfl,e,some dx,rfl,F.ae,(by obtain⟨g9,he9,x9⟩:=fly_at ((g14.trans g).trans g5) he F;exact qU e _ g9 he9 x9)⟩⟩⟩
   ·obtain⟨o4,o5,rfl,g,hI⟩:=z
    rcases hcs with⟨_,q,_⟩|⟨hnm,_,hno,qU⟩
    ·exact q hnew H' (g14.trans g)
    ·have h0:=hI _ (by rw [hnm];rfl) hno
     rw [zn,hnm] at h0
     cases h0
theorem ok_read_shapes {k r:Nat} (F:Fun K "read_shapes" "read_shapes" s_read_shapes f fd) {f_is_shape_line:Addr} {fd_is_shape_line:FuncData} (D_is_shape_line:Df K mg "is_shape_line" f_is_shape_line fd_is_shape_line ["words"]) (G_is_shape_line:FnOk P w K mg base CX0 k f_is_shape_line fd_is_shape_line ["words"] (spShL K)) {f_need_new_shape:Addr} {fd_need_new_shape:FuncData} (D_need_new_shape:Df K mg "need_new_shape" f_need_new_shape fd_need_new_shape ["told","line","name"]) (G_need_new_shape:FnOk P w K mg base (CXE P w) k f_need_new_shape fd_need_new_shape ["told","line","name"] (spNewX (Cl5.mk Va Vb Vc Vd Ve) C_NamedTwice C_TooMuch K)) {fd_Shape_init:FuncData} (D_Shape_init:DfI K fd_Shape_init ["self","name","fields"]) (G_Shape_init:FnOk P w K mg base CX0 k cIz fd_Shape_init ["self","name","fields"] (spShI (Cl5.mk Va Vb Vc Vd Ve) K)) {f_need_field:Addr} {fd_need_field:FuncData} (D_need_field:Df K mg "need_field" f_need_field fd_need_field ["told","line","words"]) (G_need_field:FnOk P w K mg base (CXE P w) k f_need_field fd_need_field ["told","line","words"] (spNFX (Cl5.mk Va Vb Vc Vd Ve) C_NoShapes C_NamedTwice C_UnknownShape K)) {f_with_field:Addr} {fd_with_field:FuncData} (D_with_field:Df K mg "with_field" f_with_field fd_with_field ["told","line","words"]) (G_with_field:FnOk P w K mg base (CXE P w) k f_with_field fd_with_field ["told","line","words"] (spWFX (Cl5.mk Va Vb Vc Vd Ve) C_TooMuch K r)) {fd_Shapes_init:FuncData} (D_Shapes_init:DfI K fd_Shapes_init ["self","shapes"]) (G_Shapes_init:FnOk P w K mg base CX0 k cIw fd_Shapes_init ["self","shapes"] (spIT K Vf "shapes")) {fd_NoShapes_init:FuncData} (D_NoShapes_init:DfI K fd_NoShapes_init ["self","line"]) (G_NoShapes_init:FnOk P w K mg base (CXE P w) k f_NoShapes_init fd_NoShapes_init ["self","line"] (spXn C_NoShapes ["line"])):FnOk P w K mg base (CXE P w) (k + 2) f fd ["text"] (spRdX (Cl5.mk Va Vb Vc Vd Ve) Vf C_NoShapes C_NamedTwice C_UnknownShape C_TooMuch K r):=by
 w_cond sc_read_shapes
 ·obtain⟨S,tail,rfl,_⟩:=h;rfl
 obtain⟨S,tail,rfl,hW,hne,hr12,h8,h20,htail,hc⟩:=h
 walk_at "hr"
 refine⟨_,(pss_cons (ps_if (pt_not (pt_val (pe_callB call_isi rfl M.isinstance boot_isinstance (pa_cons (pv 0) (pa_cons (pe_bltn (v:=.ty "str") rfl M.str boot_str rfl) pa_nil))))) (pss_one (ps_raise T_NoShapes.c G_NoShapes_init hr0 rfl T_NoShapes.m D_NoShapes_init.b .nil raisesE (pa_cons pe_int pa_nil))) pss_nil)
   (pss_cons (ps_set (i:=1) sc_read_shapes.nd rfl (by walk_at "o") (pe_bm PySem.F.plainAttrs_str PySem.F.slot_str_split PySem.F.type_str_split mt_splitT (pv 0) (pa_cons pe_str pa_nil)))
   (pss_cons (ps_set (i:=2) sc_read_shapes.nd rfl (by walk_at "o") (pe_lst pa_nil))
   (pss_cons (ps_for ownE rfl (pi_enum rfl M.enumerate (pa_cons (pv 1) pa_nil)) (pg_tup rfl (pgs_cons (pg_name (i:=3) sc_read_shapes.nd rfl (Or.inl rfl)) (pgs_cons (pg_name (i:=4) sc_read_shapes.nd rfl (Or.inl rfl)) pgs_nil))) (pss_cons (ps_set (i:=5) sc_read_shapes.nd rfl (by walk_at "o") (pe_bm PySem.F.plainAttrs_str PySem.F.slot_str_split PySem.F.type_str_split mt_splitT (pv 4) (pa_cons pe_str pa_nil)))
   (pss_one (ps_if (pt_val (pe_call G_is_shape_line hr rfl D_is_shape_line.m D_is_shape_line.k D_is_shape_line.b .nil pass0 (pa_cons (pv 5) pa_nil))) (pss_cons (ps_expr (pe_call G_need_new_shape hr rfl D_need_new_shape.m D_need_new_shape.k D_need_new_shape.b .nil (passE fun _ _ _ z=>z) (pa_cons (pv 2) (pa_cons (pv 3) (pa_cons (pe_ix ix_list (pv 5) pe_int (fun _ _=>rfl)) pa_nil)))))
   (pss_one (ps_expr (pe_bm PySem.F.plainAttrs_list PySem.F.slot_list_append PySem.F.type_list_append mt_append (pv 2) (pa_cons (pe_make Ue.ma G_Shape_init hr0 rfl Ue.m D_Shape_init.b .nil pass0 (pa_cons (pe_ix ix_list (pv 5) pe_int (fun _ _=>rfl)) (pa_cons (pe_lst pa_nil) pa_nil))) pa_nil))))) (pss_cons (ps_expr (pe_call G_need_field hr rfl D_need_field.m D_need_field.k D_need_field.b .nil (passE fun _ _ _ z=>z) (pa_cons (pv 2) (pa_cons (pv 3) (pa_cons (pv 5) pa_nil)))))
   (pss_one (ps_asg (pe_call G_with_field hr rfl D_with_field.m D_with_field.k D_with_field.b .nil (passE fun _ _ _ z=>z) (pa_cons (pv 2) (pa_cons (pv 3) (pa_cons (pv 5) pa_nil)))) (pg_sub (pv 2) (pe_un un_neg pe_int) set_list))))))))
   (pss_cons (ps_if (pt_not (pt_truth (pe_fld (pe_ix ix_list (pv 2) (pe_un un_neg pe_int) (fun _ _=>rfl)) rfl) (fun _=>rfl))) (pss_one (ps_raise T_NoShapes.c G_NoShapes_init hr0 rfl T_NoShapes.m D_NoShapes_init.b .nil raisesE (pa_cons (pe_callB call_len_seq rfl M.len PySem.boot_len (pa_cons (pv 1) pa_nil)) pa_nil))) pss_nil)
   (pss_one (ps_ret (pe_make Uf.ma G_Shapes_init hr0 rfl Uf.m D_Shapes_init.b .nil pass0 (pa_cons (pv 2) pa_nil))))))))),?_⟩
 obtain⟨h30,hrow,_,_⟩:=txt_ok hW hne
 obtain⟨htl,hsp⟩:=rows_ok hW hne h20 htail
 have hok:=line_ok hW
 refine⟨_,rfl,_,_,"str",rfl,by decide,rfl,_,rfl,iteN (by decide) ⟨_,rfl,rfl,_,_,rfl,rfl,rfl,(by rw [sizeLine_eq];omega),fun p hp=>?_⟩⟩
 rw [show Txt.split (Str.join nlS ((itms S).map (rowT S)++tail)) (Str.ofString "\n")=_ from hsp]
 generalize e1:upd H p _=H1
 obtain⟨g1,k1⟩:=new_facts e1 hp
 refine⟨szL0,fun tl hq=>?_⟩
 generalize e2:upd H1 tl _=H2
 obtain⟨g2,k2⟩:=new_facts e2 hq
 have hq0:H tl=none:=g1.free hq
 have npt:p ≠ tl:=ne_of_none k1 hq
 have k12:=g2 _ _ k1
 have zl:(((itms S).map (rowT S)++tail).map V.str).length=(itms S).length + tail.length:=by rw [List.length_map,List.length_append,List.length_map]
 refine⟨_,rfl,p,_,rfl,SqL.of k12,for_enum (xs:=((itms S).map (rowT S)++tail).map V.str) (fun i σ H'=>∃ (o3 o4 o5:Option V) (sa:List Addr) (T:List Shp),σ = [some (.str (Str.join nlS ((itms S).map (rowT S)++tail))),some (.ref p),some (.ref tl),o3,o4,o5]/\But tl H2 H'/\H' tl=some (.lst (sa.map V.ref))/\SW (Cl5.mk Va Vb Vc Vd Ve) K H' sa T/\(StAt S i T\/∃ nm fn kd rest,Deep S nm fn kd rest tail/\i=(itms S).length + 1/\T=S++[(nm,[])]/\Rz C_TooMuch H E [("line",.int ((itms S).length + 1:Nat))])) ⟨_,_,_,[],[],rfl,But.refl,k2,SW.nil,.inl (StAt.start S)⟩ (fun i σ H' _ z=>?_) (fun i x σ H' p2 hx z hp2=>?_) (fun σ H' z=>?_)⟩
 ·obtain⟨o3,o4,o5,sa,T,rfl,g,_⟩:=z
  exact SqL.of (g _ _ npt k12)
 ·obtain⟨o3,o4,o5,sa,T,rfl,g,kl,hw,hst⟩:=z
  obtain⟨row,hrw,rfl⟩:=get_strs hx
  rcases hst with hst|⟨nm,fn,kd,rest,hd,hi,rfl,qz⟩
  case inr =>
   subst hi
   have gH:Same H H':=But.from (g1.trans g2) hq0 g
   have hno:=nok_of hW.nm
   obtain⟨w6,w5⟩:=words_len hno hd.ft
   have hbw:∀ w ∈ fn::kd.words (nmOf S),32 ∉ w.cps.toList/\w.length<=100:=fun w hw=>by
    rcases List.mem_cons.mp hw with rfl|hw
    ·exact⟨(name_pln hd.f).1,by have:=(name_len hd.f).2;omega⟩
    ·exact⟨(hd.ft.plain (fun j hj=>name_pln (hno j hj)) w hw).1,by have:=w6 w hw;omega⟩
   rw [hd.t,List.getElem?_append_right (by rw [List.length_map];omega),List.length_map,show (itms S).length + 1 - (itms S).length=1 by omega] at hrw
   cases hrw
   have hjl:(Str.join spS (fn::kd.words (nmOf S))).length<=100:=(htail _ (by rw [hd.t];simp)).2
   generalize e3:upd H' p2 _=H3
   obtain⟨g3,k3⟩:=new_facts e3 hp2
   refine⟨p2,_,rfl,SqT.of k3,rfl,_,_,rfl,_,_,rfl,rfl,_,rfl,rfl,_,_,rfl,rfl,rfl,(by rw [sizeLine_eq];show (Str.join L2.spS (fn::kd.words (nmOf S))).length + 2<=_;omega),fun wa hwa=>?_⟩
   rw [show Txt.split (Str.join spS (fn::kd.words (nmOf S))) (Str.ofString " ")=(fn::kd.words (nmOf S)) from split_join (c:=32) (by simp) fun w hw=>(hbw w hw).1]
   generalize e4:upd H3 wa _=H4
   obtain⟨g4,k4⟩:=new_facts e4 hwa
   have g34:=g3.trans g4
   refine⟨_,rfl,wa,(fn::kd.words (nmOf S)),rfl,⟨SqL.of k4,fun w hw=>by have:=(hbw w hw).2;omega,by rw [List.length_cons];omega⟩,fun H5 g5=>⟨_,rfl,?_⟩⟩
   have g35:=g34.trans g5
   have kl5:=g35 _ _ kl
   have hw5:=hw.same g35
   have kw5:=g5 _ _ k4
   have gH5:=gH.trans g35
   have hlen:=hW.len
   obtain⟨sa0,z0,rfl⟩:=snoc_of hw.1
   refine iteN (by rw [show isShB (fn::kd.words (nmOf S))=false from isSh_fd hd.f];decide) ⟨_,rfl,_,rfl,_,rfl,tl,wa,z0,_,sa0,S,(nm,[]),_,rfl,kl5,hw5,SqL.of kw5,(by show 0<=100;decide),hno,hW.nd,by omega,.inr (.inr ⟨fn,kd,rfl,hd.f,hd.ft,fun _ H6 g6=>?_,fun h=>by cases h⟩)⟩
   exact⟨_,rfl,_,rfl,_,rfl,tl,wa,z0,_,sa0,S,(nm,[]),fn,kd,rfl,g6 _ _ kl5,hw5.same g6,g6.seq (SqL.of kw5),hd.ft,hno,hW.nd,by omega,(by show 0<=50;decide),.inr ⟨by omega,h8,hd.g,fun hsm=>(too_smal hsm hd.m).elim,fun _=>qz.from (gH5.trans g6)⟩⟩
  by_cases hin:¬ i < (itms S).length
  ·have hile:=stAt_le hst
   have hi:i=(itms S).length:=by omega
   subst hi
   have eT:=hst.done
   subst eT
   rcases hc with⟨rfl,_⟩|⟨bw,rest,rfl,hb0,hb10,hbw,hbad⟩|⟨nm,fn,kd,rest,hd,qz⟩
   case inr.inr =>
    have gH:Same H H':=But.from (g1.trans g2) hq0 g
    have hbw:∀ w ∈ [Str.ofString "shape",nm],32 ∉ w.cps.toList/\w.length<=100:=fun w hw=>by
     rcases List.mem_cons.mp hw with rfl|hw
     ·decide +kernel
     ·rw [List.mem_singleton.mp hw];exact⟨(name_pln hd.n).1,by have:=(name_len hd.n).2;omega⟩
    rw [hd.t,List.getElem?_append_right (by rw [List.length_map];omega),List.length_map,Nat.sub_self] at hrw
    cases hrw
    have hjl:(Str.join spS [Str.ofString "shape",nm]).length<=100:=(htail _ (by rw [hd.t];simp)).2
    generalize e3:upd H' p2 _=H3
    obtain⟨g3,k3⟩:=new_facts e3 hp2
    refine⟨p2,_,rfl,SqT.of k3,rfl,_,_,rfl,_,_,rfl,rfl,_,rfl,rfl,_,_,rfl,rfl,rfl,(by rw [sizeLine_eq];show (Str.join L2.spS [Str.ofString "shape",nm]).length + 2<=_;omega),fun wa hwa=>?_⟩
    rw [show Txt.split (Str.join spS [Str.ofString "shape",nm]) (Str.ofString " ")=[Str.ofString "shape",nm] from split_join (c:=32) (by simp) fun w hw=>(hbw w hw).1]
    generalize e4:upd H3 wa _=H4
    obtain⟨g4,k4⟩:=new_facts e4 hwa
    have g34:=g3.trans g4
    refine⟨_,rfl,wa,[Str.ofString "shape",nm],rfl,⟨SqL.of k4,fun w hw=>by have:=(hbw w hw).2;omega,by show 2<=_;decide⟩,fun H5 g5=>⟨_,rfl,?_⟩⟩
    have g35:=g34.trans g5
    have kl5:=g35 _ _ kl
    have hw5:=hw.same g35
    have kw5:=g5 _ _ k4
    have gH5:=gH.trans g35
    have hlen:=hW.len
    have hall:∀ t ∈ T,t.2 ≠ []:=fun t ht=>by
     obtain⟨j,hj⟩:=List.mem_iff_getElem?.mp ht
     exact hW.good.ne j t hj
    have hws:SqL K H5 wa [V.str (Str.ofString "shape"),V.str nm]:=SqL.of kw5
    refine iteP (by show (decide (Str.ofString "shape" = Str.ofString "shape") && nameB nm)=true;rw [hd.n];decide) ⟨_,rfl,_,rfl,_,rfl,wa,_,_,_,rfl,rfl,hws,rfl,tl,_,nm,sa,T,rfl,kl5,hw5,hall,hlen,fun _ _ H6 g6=>?_,fun h=>absurd h hd.nn,fun _ h=>absurd h (by have:=hd.l;omega)⟩
    have kl6:=g6 _ _ kl5
    refine⟨_,rfl,.inl ⟨rfl,_,SqL.of kl6⟩,_,rfl,wa,_,_,_,rfl,rfl,g6.seq hws,rfl,szL0,fun el hel=>?_⟩
    generalize e7:upd H6 el _=H7
    obtain⟨g7,k7⟩:=new_facts e7 hel
    refine fun y dy hy hdy _=>⟨y,dy,el,nm,[],[],sa,H7,rfl,upd_same,madeS hy hdy,hy,.inl (SqL.of k7),.nil,by decide,fun t ps' H8 g8 k8 st fo=>⟨rfl,?_⟩⟩
    have g58:=(g6.trans g7).trans g8
    have kl8:=g58 _ _ kl5
    have hsl:=hw.1
    refine⟨tl,_,_,rfl,rfl,kl8,(by rw [List.length_map];exact Nat.lt_of_le_of_lt (show sa.length<=8 by omega) (by decide)),?_⟩
    generalize e9:upd H8 tl _=H9
    obtain⟨g9,k9⟩:=chg_facts e9
    exact⟨_,_,_,sa++[y],_,rfl,(g.trans (But.of (g35.trans g58))).trans g9,by rw [List.map_append];exact k9,((hw5.same g58).snoc (s:=(nm,[])) ⟨dy,t,ps',k8,st,fo⟩).but g9 kl8,.inr ⟨nm,fn,kd,rest,hd,rfl,rfl,qz⟩⟩
   ·rw [List.append_nil,List.getElem?_eq_none (by rw [List.length_map];omega)] at hrw;cases hrw
   rw [List.getElem?_append_right (by rw [List.length_map];omega),List.length_map,Nat.sub_self] at hrw
   cases hrw
   have gH:Same H H':=But.from (g1.trans g2) hq0 g
   have hjl:(Str.join spS bw).length<=100:=(htail _ (List.mem_cons_self ..)).2
   generalize e3:upd H' p2 _=H3
   obtain⟨g3,k3⟩:=new_facts e3 hp2
   refine⟨p2,_,rfl,SqT.of k3,rfl,_,_,rfl,_,_,rfl,rfl,_,rfl,rfl,_,_,rfl,rfl,rfl,(by rw [sizeLine_eq];show (Str.join L2.spS bw).length + 2<=_;omega),fun wa hwa=>?_⟩
   rw [show Txt.split (Str.join spS bw) (Str.ofString " ")=bw from split_join (c:=32) hb0 fun w hw=>(hbw w hw).1]
   generalize e4:upd H3 wa _=H4
   obtain⟨g4,k4⟩:=new_facts e4 hwa
   have g34:=g3.trans g4
   refine⟨_,rfl,wa,bw,rfl,⟨SqL.of k4,fun w hw=>by have:=(hbw w hw).2;omega,by omega⟩,fun H5 g5=>⟨_,rfl,?_⟩⟩
   have g35:=g34.trans g5
   have kl5:=g35 _ _ kl
   have hw5:=hw.same g35
   have kw5:=g5 _ _ k4
   have gH5:=gH.trans g35
   have hlen:=hW.len
   have hall:∀ t ∈ T,t.2 ≠ []:=fun t ht=>by
    obtain⟨j,hj⟩:=List.mem_iff_getElem?.mp ht
    exact hW.good.ne j t hj
   have hno:=nok_of hW.nm
   have splt:∀ {T0:List Shp} {s:Shp},T=T0++[s]->NOk (nmOf T0) T0.length/\(T0.map (·.1)).Nodup/\s.2.length<=6/\T0.length<=7:=fun {T0 s} e=>by
    subst e
    refine⟨nok_of fun t ht=>hW.nm t (List.mem_append_left _ ht),?_,(hW.bd T0.length s (by rw [List.getElem?_append_right (Nat.le_refl _),Nat.sub_self];rfl)).2.2.2,by rw [List.length_append,List.length_singleton] at hlen;omega⟩
    have:=hW.nd
    rw [List.map_append,List.nodup_append] at this
    exact this.1
   obtain⟨T0,s0,eT⟩ : ∃ T0 s0,T=T0++[s0]:=by
    rcases List.eq_nil_or_concat T with e|⟨T0,s0,e⟩
    ·exact absurd e hne
    ·exact⟨T0,s0,by rw [e,List.concat_eq_append]⟩
   rcases hbad with⟨nm,rfl,hnm,hbd⟩|hbd
   ·have hws:SqL K H5 wa [V.str (Str.ofString "shape"),V.str nm]:=SqL.of kw5
    refine iteP (by show (decide (Str.ofString "shape" = Str.ofString "shape") && nameB nm)=true;rw [hnm];decide) ⟨_,rfl,_,rfl,_,rfl,wa,_,_,_,rfl,rfl,hws,rfl,tl,_,nm,sa,T,rfl,kl5,hw5,hall,hlen,fun h1 h2=>?_,fun h1=>?_,fun h1 h2=>?_⟩
    ·rcases hbd with⟨h,_⟩|⟨_,h,_⟩
     ·exact absurd h h1
     ·exact absurd h h2
    ·rcases hbd with⟨_,h⟩|⟨h,_⟩
     ·exact h.from gH5
     ·exact absurd h1 h
    ·rcases hbd with⟨h,_⟩|⟨_,_,h⟩
     ·exact absurd h h1
     ·exact h.from gH5
   ·subst eT
    obtain⟨hn0,hnd0,hs6,hl7⟩:=splt rfl
    obtain⟨sa0,z0,rfl⟩:=snoc_of hw.1
    have hsh:isShB bw=false:=by
     rcases hbd with⟨rfl,_⟩|⟨T1,s1,_,rfl,_⟩|⟨T1,s1,fn,kd,_,rfl,hfn,_⟩
     ·decide +kernel
     ·decide +kernel
     ·exact isSh_fd hfn
    refine iteN (by rw [hsh];decide) ⟨_,rfl,_,rfl,_,rfl,tl,wa,z0,_,sa0,T0,s0,bw,rfl,kl5,hw5,SqL.of kw5,(by omega),hn0,hnd0,by omega,?_⟩
    rcases hbd with⟨rfl,h⟩|⟨T1,s1,eTT,rfl,h1,h2,h⟩|⟨T1,s1,fn,kd,eTT,rfl,hfn,hfit,hbd⟩
    ·exact .inl ⟨rfl,h.from gH5⟩
    ·obtain⟨rfl,e2⟩:=List.append_inj' eTT rfl
     cases e2
     exact .inr (.inl ⟨rfl,h1,h2,h.from gH5⟩)
    ·obtain⟨rfl,e2⟩:=List.append_inj' eTT rfl
     cases e2
     refine .inr (.inr ⟨fn,kd,rfl,hfn,hfit,fun hnew H6 g6=>?_,fun hold=>?_⟩)
     ·rcases hbd with⟨h,_⟩|⟨_,hmuch,h⟩
      ·exact absurd h hnew
      refine⟨_,rfl,_,rfl,_,rfl,tl,wa,z0,_,sa0,T0,s0,fn,kd,rfl,g6 _ _ kl5,hw5.same g6,g6.seq (SqL.of kw5),hfit,hn0,hnd0,by omega,by omega,?_⟩
      rcases hmuch with h7|⟨hg,htb⟩
      ·exact .inl ⟨h7,h.from (gH5.trans g6)⟩
      ·refine .inr ⟨by omega,h8,hg,fun hsm=>?_,fun _=>h.from (gH5.trans g6)⟩
       obtain⟨b1,b2,b3⟩:=hsm
       rcases htb with h|h|h <;> omega
     ·rcases hbd with⟨_,h⟩|⟨h,_⟩
      ·exact h.from gH5
      ·exact absurd hold h
  have hin:=Decidable.not_not.mp hin
  rw [List.getElem?_append_left (by rw [List.length_map];exact hin),List.getElem?_map] at hrw
  have eit:(itms S)[i]?=some (itms S)[i]:=List.getElem?_eq_getElem hin
  generalize (itms S)[i]=it at eit
  rw [eit] at hrw
  cases hrw
  have hit:=List.mem_of_getElem? eit
  obtain⟨r100,rsp⟩:=hrow it hit
  obtain⟨ok1,ok2,ok3⟩:=hok it hit
  obtain⟨S1,s,S2,eS,hnx⟩:=hst.next (List.getElem?_eq_some_iff.mp eit).1
  generalize e3:upd H' p2 _=H3
  obtain⟨g3,k3⟩:=new_facts e3 hp2
  refine⟨p2,_,rfl,SqT.of k3,rfl,_,_,rfl,_,_,rfl,rfl,_,rfl,rfl,_,_,rfl,rfl,rfl,(by rw [sizeLine_eq];show (Str.join L2.spS (it.line (nmOf S))).length + 2<=_;omega),fun wa hwa=>?_⟩
  rw [show Txt.split (rowT S it) (Str.ofString " ")=_ from rsp]
  generalize e4:upd H3 wa _=H4
  obtain⟨g4,k4⟩:=new_facts e4 hwa
  have g34:=g3.trans g4
  refine⟨_,rfl,wa,it.line (nmOf S),rfl,⟨SqL.of k4,fun w hw=>by have:=(ok1 w hw).2;omega,by omega⟩,fun H5 g5=>⟨_,rfl,?_⟩⟩
  have g35:=g34.trans g5
  have kl5:=g35 _ _ kl
  have hw5:=hw.same g35
  have kw5:=g5 _ _ k4
  have hsS:s ∈ S:=by rw [eS];exact List.mem_append_right _ (List.mem_cons_self ..)
  have hS1:∀ t ∈ S1,t ∈ S:=fun t ht=>by rw [eS];exact List.mem_append_left _ ht
  have hlen:=hW.len
  have hnd1:(S1.map (·.1)).Nodup/\s.1 ∉ S1.map (·.1):=by
   have:=hW.nd
   rw [eS,List.map_append,List.nodup_append] at this
   exact⟨this.1,fun z=>this.2.2 _ z _ (List.mem_cons_self ..) rfl⟩
  have hl1:S1.length < 8:=by rw [eS,List.length_append,List.length_cons] at hlen;omega
  rcases hnx with⟨ei,rfl,hst2⟩|⟨f1,n,kd,f2,ef,ei,rfl,hst2⟩
  ·rw [eit] at ei
   cases ei
   have hnm:=hW.nm s hsS
   have hws:SqL K H5 wa [V.str (Str.ofString "shape"),V.str s.1]:=SqL.of kw5
   refine iteP (by show (decide (Str.ofString "shape" = Str.ofString "shape") && nameB s.1)=true;rw [hnm];decide) ⟨_,rfl,_,rfl,_,rfl,wa,_,_,_,rfl,rfl,hws,rfl,tl,_,s.1,sa,T,rfl,kl5,hw5,(fun t ht=>?_),(by omega),fun _ _ H6 g6=>?_,fun h=>absurd h hnd1.2,fun _ h=>absurd h (by omega)⟩
   ·obtain⟨j,hj⟩:=List.mem_iff_getElem?.mp ht
    exact hW.good.ne j t (by rw [eS,List.getElem?_append_left (List.getElem?_eq_some_iff.mp hj).1];exact hj)
   have kl6:=g6 _ _ kl5
   refine⟨_,rfl,.inl ⟨rfl,_,SqL.of kl6⟩,_,rfl,wa,_,_,_,rfl,rfl,g6.seq hws,rfl,szL0,fun el hel=>?_⟩
   generalize e7:upd H6 el _=H7
   obtain⟨g7,k7⟩:=new_facts e7 hel
   refine fun y dy hy hdy _=>⟨y,dy,el,s.1,[],[],sa,H7,rfl,upd_same,madeS hy hdy,hy,.inl (SqL.of k7),.nil,by decide,fun t ps' H8 g8 k8 st fo=>⟨rfl,?_⟩⟩
   have g58:=(g6.trans g7).trans g8
   have kl8:=g58 _ _ kl5
   have hsl:=hw.1
   refine⟨tl,_,_,rfl,rfl,kl8,(by rw [List.length_map];exact Nat.lt_of_le_of_lt (show sa.length<=8 by omega) (by decide)),?_⟩
   generalize e9:upd H8 tl _=H9
   obtain⟨g9,k9⟩:=chg_facts e9
   exact⟨_,_,_,sa++[y],_,rfl,(g.trans (But.of (g35.trans g58))).trans g9,by rw [List.map_append];exact k9,((hw5.same g58).snoc (s:=(s.1,[])) ⟨dy,t,ps',k8,st,fo⟩).but g9 kl8,.inl hst2⟩
  ·rw [eit] at ei
   cases ei
   obtain⟨sa0,z,rfl⟩:=snoc_of hw.1
   have hfm:(n,kd) ∈ s.2:=by rw [ef];exact List.mem_append_right _ (List.mem_cons_self ..)
   have hnm:=hW.fnm s hsS _ hfm
   have hi1:S[S1.length]?=some s:=by rw [eS,List.getElem?_append_right (Nat.le_refl _),Nat.sub_self];rfl
   have hfit:=(hW.good.fit _ _ hi1 _ hfm).1
   have hns:NOk (nmOf S1) S1.length:=nok_of fun t ht=>hW.nm t (hS1 t ht)
   have ew:kd.words (nmOf S)=kd.words (nmOf S1):=words_congr (fun j hj=>by rw [eS];exact nmOf_pre hj) hfit.below
   have hws:SqL K H5 wa ((n::kd.words (nmOf S1)).map V.str):=by rw [← ew];exact SqL.of kw5
   obtain⟨pg,pb,p5⟩:=hW.pre (f1:=f1++[(n,kd)]) (f2:=f2) eS (by rw [ef,List.append_assoc];rfl) (by simp)
   rw [List.length_append,List.length_singleton] at p5
   have hfn:n ∉ f1.map (·.1):=fun z=>by
    have:=hW.fnd s hsS
    rw [ef,List.map_append,List.nodup_append] at this
    exact this.2.2 _ z _ (List.mem_cons_self ..) rfl
   refine iteN (by rw [show isShB ((Itm.fd n kd).line (nmOf S))=false from isSh_fd hnm];decide) ⟨_,rfl,_,rfl,_,rfl,tl,wa,z,_,sa0,S1,(s.1,f1),_,rfl,kl5,hw5,hws,(by show f1.length<=100;omega),hns,hnd1.1,by omega,.inr (.inr ⟨n,kd,rfl,hnm,hfit,fun _ H6 g6=>?_,fun h=>absurd h hfn⟩)⟩
   refine⟨_,rfl,_,rfl,_,rfl,tl,wa,z,_,sa0,S1,(s.1,f1),n,kd,rfl,g6 _ _ kl5,hw5.same g6,g6.seq hws,hfit,hns,hnd1.1,by omega,(by show f1.length<=50;omega),.inr ⟨by omega,h8,pg,fun _ y H7 g7 so=>?_,fun htb=>(too_smal pb htb).elim⟩⟩
   have g57:=g6.trans g7
   have kl7:=g57 _ _ kl5
   refine⟨_,rfl,_,rfl,tl,_,_,_,rfl,rfl,kl7,ixN_last _ _,?_⟩
   rw [set_last]
   generalize e9:upd H7 tl _=H9
   obtain⟨g9,k9⟩:=chg_facts e9
   exact⟨_,_,_,sa0++[y],_,rfl,(g.trans (But.of (g35.trans g57))).trans g9,k9,((hw5.init.1.same g57).snoc so).but g9 kl7,.inl hst2⟩
 ·obtain⟨o3,o4,o5,sa,T,rfl,g,kl,hw,hst⟩:=z
  rcases hst with hst|⟨nm,fn,kd,rest,hd,hi,_⟩
  case inr=>rw [zl,hd.t,List.length_cons,List.length_cons] at hi;omega
  rw [zl] at hst
  have ht0:tail=[]:=List.length_eq_zero_iff.mp (by have:=stAt_le hst;omega)
  subst ht0
  rcases hc with⟨_,q⟩|⟨bw,rest,e,_⟩|⟨nm,fn,kd,rest,hd,_⟩
  case inr.inl=>cases e
  case inr.inr=>cases hd.t
  have eT:=hst.done
  subst eT
  have gH:Same H H':=But.from (g1.trans g2) hq0 g
  rcases List.eq_nil_or_concat T with rfl|⟨T0,s,rfl⟩
  ·exact absurd rfl hne
  ·rw [List.concat_eq_append] at *
   obtain⟨sa0,z,rfl⟩:=snoc_of hw.1
   obtain⟨hw0,dx,t,ps,m1,m2,m3⟩:=hw.init
   have hs:=hW.good.ne T0.length s (by rw [List.getElem?_append_right (Nat.le_refl _),Nat.sub_self];rfl)
   have hps:ps ≠ []:=fun e=>hs (List.length_eq_zero_iff.mp (by rw [← m3.len,e];rfl))
   refine⟨_,rfl,_,rfl,tl,_,_,_,rfl,rfl,SqL.of kl,atI_lastR _ _,z,Ve,_,_,_,rfl,m1,Ue.cl,Ue.na _ (by decide),rfl,true,.inr (.inl ⟨_,m2,by cases ps with|nil=>exact absurd rfl hps|cons _ _=>rfl⟩),iteN (by decide) ⟨_,rfl,?_⟩⟩
   exact fun y dy hy hdy _=>⟨y,dy,tl,_,H',rfl,upd_same,madeS hy hdy,hy,SqL.of kl,fun t H3 g3 k3 k4=>⟨rfl,q y dy t _ H3 (gH.trans g3) k3 k4 (hw.same g3)⟩⟩
theorem ok_law_told {k r:Nat} (hR : 18<=r/\8 * r<=200) (F:Fun K "_law_told" "_law_told" s_law_told f fd) {f_read_shapes:Addr} {fd_read_shapes:FuncData} (D_read_shapes:Df K mg "read_shapes" f_read_shapes fd_read_shapes ["text"]) (G_read_shapes:FnOk P w K mg base (CXE P w) k f_read_shapes fd_read_shapes ["text"] (spRdX (Cl5.mk Va Vb Vc Vd Ve) Vf C_NoShapes C_NamedTwice C_UnknownShape C_TooMuch K r)) (XN:XN4 K C_NoShapes C_NamedTwice C_UnknownShape C_TooMuch):FnOk P w K mg base CX0 (k + 2) f fd ["_law_lines"] (spTd K):=by
 w_cond sc_law_told
 ·obtain⟨a,S,tail,rfl,_⟩:=h;rfl
 obtain⟨a,S,tail,rfl,ha,hW,hne,h20,htail,hc⟩:=h
 walk_at "hr"
 refine⟨_,(pss_cons (ps_set (i:=1) sc_law_told.nd rfl (by walk_at "o") pe_non)
   (pss_cons (ps_try (i:=2) rfl rfl rfl rfl tRE.m tRE.x sc_law_told.nd rfl rfl (fun _ _ _=>(pss_one (ps_expr (pe_callS G_read_shapes hr rfl D_read_shapes.m D_read_shapes.k D_read_shapes.b .nil passT (pa_cons (pe_bmK (K:=K) rfl PySem.F.plainAttrs_str PySem.F.slot_str_join PySem.F.type_str_join (mt_joinTK (K:=K) rfl) pe_str (pa_cons (pv 0) pa_nil)) pa_nil))))) (fun _=>(pss_cons (ps_set (i:=1) sc_law_told.nd rfl (by walk_at "o") (pe_tup (pa_cons pe_str (pa_cons (pe_un un_neg pe_int) pa_nil))))
   (pss_cons (ps_if (pt_val (pe_callB (call_isE (K:=K) rfl) rfl M.isinstance boot_isinstance (pa_cons (pv 2) (pa_cons (pe_glob (v:=.ref C_TooMuch) rfl T_TooMuch.m rfl) pa_nil)))) (pss_one (ps_set (i:=1) sc_law_told.nd rfl (by walk_at "o") (pe_tup (pa_cons pe_str (pa_cons (pe_xfldK (K:=K) rfl (pv 2) rfl) pa_nil))))) pss_nil)
   (pss_cons (ps_if (pt_val (pe_callB (call_isE (K:=K) rfl) rfl M.isinstance boot_isinstance (pa_cons (pv 2) (pa_cons (pe_glob (v:=.ref C_NoShapes) rfl T_NoShapes.m rfl) pa_nil)))) (pss_one (ps_set (i:=1) sc_law_told.nd rfl (by walk_at "o") (pe_tup (pa_cons pe_str (pa_cons (pe_xfldK (K:=K) rfl (pv 2) rfl) pa_nil))))) pss_nil)
   (pss_cons (ps_if (pt_val (pe_callB (call_isE (K:=K) rfl) rfl M.isinstance boot_isinstance (pa_cons (pv 2) (pa_cons (pe_glob (v:=.ref C_UnknownShape) rfl T_UnknownShape.m rfl) pa_nil)))) (pss_one (ps_set (i:=1) sc_law_told.nd rfl (by walk_at "o") (pe_tup (pa_cons pe_str (pa_cons (pe_xfldK (K:=K) rfl (pv 2) rfl) pa_nil))))) pss_nil)
   (pss_one (ps_if (pt_val (pe_callB (call_isE (K:=K) rfl) rfl M.isinstance boot_isinstance (pa_cons (pv 2) (pa_cons (pe_glob (v:=.ref C_NamedTwice) rfl T_NamedTwice.m rfl) pa_nil)))) (pss_one (ps_set (i:=1) sc_law_told.nd rfl (by walk_at "o") (pe_tup (pa_cons pe_str (pa_cons (pe_xfldK (K:=K) rfl (pv 2) rfl) pa_nil))))) pss_nil))))))))
   (pss_one (ps_ret (pv 1))))),?_⟩
 obtain⟨h56,hrow,_,_⟩:=txt_ok hW hne
 have hsum:(((itms S).map (rowT S)++tail).map (·.length)).sum<=((itms S).map (rowT S)++tail).length * 100:=sum_le fun x hx=>by
  rcases List.mem_append.mp hx with hx|hx
  ·obtain⟨it,hit,rfl⟩:=List.mem_map.mp hx
   exact (hrow it hit).1
  ·exact (htail x hx).2
 have hl:((itms S).map (rowT S)++tail).length<=76:=by rw [List.length_append,List.length_map];omega
 refine⟨fun σ=>σ = [some (.ref a),some .non,none],fun x _ H'=>∃ e CN fs k m,x=.ref e/\Same H H'/\XAt CN H' e fs/\KnX C_NoShapes C_NamedTwice C_UnknownShape C_TooMuch m k CN fs/\∀ t H'',Same H H''->SqT K H'' t [.str k,.int (m:Nat)]->Q (.ref t) H'',?_,fun σ' e H' hS hW'=>?_⟩
 ·refine⟨rfl,_,rfl,_,a,_,rfl,rfl,ha,(by show _ + _ * 1<=_;omega),rfl,S,tail,rfl,hW,hne,hR.1,hR.2,h20,htail,?_⟩
  rcases hc with⟨ht,q⟩|⟨bw,rest,k,e,h1,h2,h3,hb,q⟩|⟨nm,fn,kd,rest,hd,q⟩
  ·exact .inl ⟨ht,fun a' dx t sa H' g _ _ _=>⟨_,rfl,q H' g⟩⟩
  ·exact .inr (.inl ⟨bw,rest,e,h1,h2,h3,bad_of hb fun CN fs hk e' H' g he hx=>⟨e',CN,fs,k,_,rfl,g,hx,hk,q⟩⟩)
  ·exact .inr (.inr ⟨nm,fn,kd,rest,hd,fun e' H' g he hx=>⟨e',_,_,_,_,rfl,g,hx,.inl ⟨rfl,rfl,rfl⟩,q⟩⟩)
 ·subst hS
  obtain⟨e2,CN,fs,k,m,ee,g,hx,hk,q⟩:=hW'
  cases ee
  obtain⟨dx',hE,hX⟩:=hx
  rcases hk with⟨rfl,rfl,rfl⟩|⟨rfl,rfl,rfl⟩|⟨nm,rfl,rfl,rfl⟩|⟨nm,rfl,rfl,rfl⟩
  ·refine⟨C_TooMuch,some dx',_,hE,T_TooMuch.x,(by simp),?_⟩
   refine⟨_,rfl,szL2,fun p0 hp0=>?_⟩
   generalize e0:upd H' p0 _=H0
   obtain⟨g0,k0⟩:=new_facts e0 hp0
   have hE0:=g0 _ _ hE
   have hX0:=g0 _ _ hX
   refine⟨_,rfl,e,C_TooMuch,C_TooMuch,_,true,rfl,⟨dx',cRE,f_TooMuch_init,.inl hE0,hX0,T_TooMuch.c⟩,.inl ⟨rfl,rfl⟩,_,rfl,iteP rfl ⟨_,rfl,e,C_TooMuch,cRE,f_TooMuch_init,dx',_,_,rfl,.inl hE0,hX0,T_TooMuch.c,T_TooMuch.n _ (by simp),rfl,szL2,fun p1 hp1=>?_⟩⟩
   generalize e1:upd H0 p1 _=H1
   obtain⟨g1,k1⟩:=new_facts e1 hp1
   have hE1:=g1 _ _ hE0
   have hX1:=g1 _ _ hX0
   refine⟨_,rfl,e,C_TooMuch,C_NoShapes,_,false,rfl,⟨dx',cRE,f_TooMuch_init,.inl hE1,hX1,T_TooMuch.c⟩,.inr ⟨XN.mf,rfl⟩,_,rfl,iteN (by decide) ?_⟩
   refine⟨_,rfl,e,C_TooMuch,C_UnknownShape,_,false,rfl,⟨dx',cRE,f_TooMuch_init,.inl hE1,hX1,T_TooMuch.c⟩,.inr ⟨XN.mu,rfl⟩,_,rfl,iteN (by decide) ?_⟩
   refine⟨_,rfl,e,C_TooMuch,C_NamedTwice,_,false,rfl,⟨dx',cRE,f_TooMuch_init,.inl hE1,hX1,T_TooMuch.c⟩,.inr ⟨XN.mt,rfl⟩,_,rfl,iteN (by decide) ?_⟩
   exact⟨_,rfl,q p1 H1 ((g.trans g0).trans g1) (SqT.of k1)⟩
  ·refine⟨C_NoShapes,some dx',_,hE,T_NoShapes.x,(by simp),?_⟩
   refine⟨_,rfl,szL2,fun p0 hp0=>?_⟩
   generalize e0:upd H' p0 _=H0
   obtain⟨g0,k0⟩:=new_facts e0 hp0
   have hE0:=g0 _ _ hE
   have hX0:=g0 _ _ hX
   refine⟨_,rfl,e,C_NoShapes,C_TooMuch,_,false,rfl,⟨dx',cRE,f_NoShapes_init,.inl hE0,hX0,T_NoShapes.c⟩,.inr ⟨XN.fm,rfl⟩,_,rfl,iteN (by decide) ?_⟩
   refine⟨_,rfl,e,C_NoShapes,C_NoShapes,_,true,rfl,⟨dx',cRE,f_NoShapes_init,.inl hE0,hX0,T_NoShapes.c⟩,.inl ⟨rfl,rfl⟩,_,rfl,iteP rfl ⟨_,rfl,e,C_NoShapes,cRE,f_NoShapes_init,dx',_,_,rfl,.inl hE0,hX0,T_NoShapes.c,T_NoShapes.n _ (by simp),rfl,szL2,fun p1 hp1=>?_⟩⟩
   generalize e1:upd H0 p1 _=H1
   obtain⟨g1,k1⟩:=new_facts e1 hp1
   have hE1:=g1 _ _ hE0
   have hX1:=g1 _ _ hX0
   refine⟨_,rfl,e,C_NoShapes,C_UnknownShape,_,false,rfl,⟨dx',cRE,f_NoShapes_init,.inl hE1,hX1,T_NoShapes.c⟩,.inr ⟨XN.fu,rfl⟩,_,rfl,iteN (by decide) ?_⟩
   refine⟨_,rfl,e,C_NoShapes,C_NamedTwice,_,false,rfl,⟨dx',cRE,f_NoShapes_init,.inl hE1,hX1,T_NoShapes.c⟩,.inr ⟨XN.ft,rfl⟩,_,rfl,iteN (by decide) ?_⟩
   exact⟨_,rfl,q p1 H1 ((g.trans g0).trans g1) (SqT.of k1)⟩
  ·refine⟨C_UnknownShape,some dx',_,hE,T_UnknownShape.x,(by simp),?_⟩
   refine⟨_,rfl,szL2,fun p0 hp0=>?_⟩
   generalize e0:upd H' p0 _=H0
   obtain⟨g0,k0⟩:=new_facts e0 hp0
   have hE0:=g0 _ _ hE
   have hX0:=g0 _ _ hX
   refine⟨_,rfl,e,C_UnknownShape,C_TooMuch,_,false,rfl,⟨dx',cRE,f_UnknownShape_init,.inl hE0,hX0,T_UnknownShape.c⟩,.inr ⟨XN.um,rfl⟩,_,rfl,iteN (by decide) ?_⟩
   refine⟨_,rfl,e,C_UnknownShape,C_NoShapes,_,false,rfl,⟨dx',cRE,f_UnknownShape_init,.inl hE0,hX0,T_UnknownShape.c⟩,.inr ⟨XN.uf,rfl⟩,_,rfl,iteN (by decide) ?_⟩
   refine⟨_,rfl,e,C_UnknownShape,C_UnknownShape,_,true,rfl,⟨dx',cRE,f_UnknownShape_init,.inl hE0,hX0,T_UnknownShape.c⟩,.inl ⟨rfl,rfl⟩,_,rfl,iteP rfl ⟨_,rfl,e,C_UnknownShape,cRE,f_UnknownShape_init,dx',_,_,rfl,.inl hE0,hX0,T_UnknownShape.c,T_UnknownShape.n _ (by simp),rfl,szL2,fun p1 hp1=>?_⟩⟩
   generalize e1:upd H0 p1 _=H1
   obtain⟨g1,k1⟩:=new_facts e1 hp1
   have hE1:=g1 _ _ hE0
   have hX1:=g1 _ _ hX0
   refine⟨_,rfl,e,C_UnknownShape,C_NamedTwice,_,false,rfl,⟨dx',cRE,f_UnknownShape_init,.inl hE1,hX1,T_UnknownShape.c⟩,.inr ⟨XN.ut,rfl⟩,_,rfl,iteN (by decide) ?_⟩
   exact⟨_,rfl,q p1 H1 ((g.trans g0).trans g1) (SqT.of k1)⟩
  ·refine⟨C_NamedTwice,some dx',_,hE,T_NamedTwice.x,(by simp),?_⟩
   refine⟨_,rfl,szL2,fun p0 hp0=>?_⟩
   generalize e0:upd H' p0 _=H0
   obtain⟨g0,k0⟩:=new_facts e0 hp0
   have hE0:=g0 _ _ hE
   have hX0:=g0 _ _ hX
   refine⟨_,rfl,e,C_NamedTwice,C_TooMuch,_,false,rfl,⟨dx',cRE,f_NamedTwice_init,.inl hE0,hX0,T_NamedTwice.c⟩,.inr ⟨XN.tm,rfl⟩,_,rfl,iteN (by decide) ?_⟩
   refine⟨_,rfl,e,C_NamedTwice,C_NoShapes,_,false,rfl,⟨dx',cRE,f_NamedTwice_init,.inl hE0,hX0,T_NamedTwice.c⟩,.inr ⟨XN.tf,rfl⟩,_,rfl,iteN (by decide) ?_⟩
   refine⟨_,rfl,e,C_NamedTwice,C_UnknownShape,_,false,rfl,⟨dx',cRE,f_NamedTwice_init,.inl hE0,hX0,T_NamedTwice.c⟩,.inr ⟨XN.tu,rfl⟩,_,rfl,iteN (by decide) ?_⟩
   refine⟨_,rfl,e,C_NamedTwice,C_NamedTwice,_,true,rfl,⟨dx',cRE,f_NamedTwice_init,.inl hE0,hX0,T_NamedTwice.c⟩,.inl ⟨rfl,rfl⟩,_,rfl,iteP rfl ⟨_,rfl,e,C_NamedTwice,cRE,f_NamedTwice_init,dx',_,_,rfl,.inl hE0,hX0,T_NamedTwice.c,T_NamedTwice.n _ (by simp),rfl,szL2,fun p1 hp1=>?_⟩⟩
   generalize e1:upd H0 p1 _=H1
   obtain⟨g1,k1⟩:=new_facts e1 hp1
   have hE1:=g1 _ _ hE0
   have hX1:=g1 _ _ hX0
   exact⟨_,rfl,q p1 H1 ((g.trans g0).trans g1) (SqT.of k1)⟩
theorem ok_law_shapes_right {k:Nat} (F:Fun K "_law_shapes_right" "_law_shapes_right" s_law_shapes_right f fd) {f_law_take:Addr} {fd_law_take:FuncData} (D_law_take:Df K mg "_law_take" f_law_take fd_law_take ["_law_box_here","_law_many"]) (G_law_take:FnOk P w K mg base CX0 k f_law_take fd_law_take ["_law_box_here","_law_many"] spTake) {f_law_told:Addr} {fd_law_told:FuncData} (D_law_told:Df K mg "_law_told" f_law_told fd_law_told ["_law_lines"]) (G_law_told:FnOk P w K mg base CX0 k f_law_told fd_law_told ["_law_lines"] (spTd K)):FnOk P w K mg base CX0 (k + 2) f fd ["_law_box_here"] spRt:=by
 w_cond sc_law_shapes_right
 ·obtain⟨p,rfl,_⟩:=h;rfl
 obtain⟨p,rfl,hst,q⟩:=h
 walk_at "hr"
 refine⟨_,(pss_cons (ps_set (i:=1) sc_law_shapes_right.nd rfl (by walk_at "o") (pe_op op_add pe_int (pe_call G_law_take hr rfl D_law_take.m D_law_take.k D_law_take.b .nil pass0 (pa_cons (pv 0) (pa_cons pe_int pa_nil)))))
   (pss_cons (ps_set (i:=2) sc_law_shapes_right.nd rfl (by walk_at "o") (pe_lst pa_nil))
   (pss_cons (ps_for PassesOwn.never rfl (pi_range1 rfl M.range (pa_cons (pv 1) pa_nil)) (pg_name (i:=3) sc_law_shapes_right.nd rfl (Or.inl rfl)) (pss_one (ps_set (i:=2) sc_law_shapes_right.nd rfl (by walk_at "o") (pe_op op_catS (pv 2) (pe_lst (pa_cons (pe_op op_add_str pe_str (pe_ix ix_str pe_str (pv 3) (fun _ _=>rfl))) (pa_cons pe_str pa_nil)))))))
   (pss_cons (ps_if (pt_cmpR op_le (pv 1) pe_int (nomark _)) (pss_one (ps_ret (pe_cmpR op_isN (pe_call G_law_told hr rfl D_law_told.m D_law_told.k D_law_told.b .nil pass0 (pa_cons (pv 2) pa_nil)) pe_non (nomark _)))) pss_nil)
   (pss_cons (ps_asg (pe_ix ix_list (pe_lst (pa_cons pe_str (pa_cons pe_str (pa_cons pe_str pa_nil)))) (pe_call G_law_take hr rfl D_law_take.m D_law_take.k D_law_take.b .nil pass0 (pa_cons (pv 0) (pa_cons pe_int pa_nil))) (fun _ _=>rfl)) (pg_sub (pv 2) pe_int set_list))
   (pss_cons (ps_if (pt_cmpR (op_neT hr.units) (pe_call G_law_told hr rfl D_law_told.m D_law_told.k D_law_told.b .nil pass0 (pa_cons (pv 2) pa_nil)) (pe_tup (pa_cons pe_str (pa_cons pe_int pa_nil))) (nomark _)) (pss_one (ps_ret pe_bl)) pss_nil)
   (pss_cons (ps_asg (pe_ix ix_list (pv 2) (pe_op op_mul pe_int (pe_call G_law_take hr rfl D_law_take.m D_law_take.k D_law_take.b .nil pass0 (pa_cons (pv 0) (pa_cons pe_int pa_nil)))) (fun _ _=>rfl)) (pg_sub (pv 2) pe_int set_list))
   (pss_one (ps_ret (pe_cmpR (op_eqT hr.units) (pe_call G_law_told hr rfl D_law_told.m D_law_told.k D_law_told.b .nil pass0 (pa_cons (pv 2) pa_nil)) (pe_tup (pa_cons pe_str (pa_cons pe_int pa_nil))) (nomark _))))))))))),?_⟩
 refine⟨_,rfl,p,4,rfl,by decide,by decide,hst,fun v H1 hv d1=>⟨_,_,rfl,rfl,?_⟩⟩
 have hv4:v < 4:=by omega
 dsimp only
 rw [show (7:Int) + ((v:Nat):Int)=((7 + v:Nat):Int) by omega]
 refine⟨szL0,fun l0 hl0=>?_⟩
 generalize e2:upd H1 l0 _=H2
 obtain⟨g2,k2⟩:=new_facts e2 hl0
 have np:∀ {l:Addr} {G:Hp},St3 G p->G l=none->l ≠ p:=fun h1 h2 z=>by obtain⟨o,e⟩:=st_ex h1;rw [← z,h2] at e;cases e
 refine⟨_,rfl,7 + v,rfl,by omega,by omega,for_range (n:=7 + v) (fun j σ H'=>∃ (l:Addr) (o3:Option V),σ = [some (.ref p),some (.int (7 + v:Nat)),some (.ref l),o3]/\Same H2 H'/\l ≠ p/\H1 l=none/\H' l=some (.lst ((shL j).map V.str))) ⟨l0,_,rfl,Same.refl _,np d1.1 hl0,hl0,k2⟩ (fun j σ H' hj z=>?_) (fun σ H' z=>?_)⟩
 ·obtain⟨l,o3,rfl,g,nl,hl1,kl⟩:=z
  obtain⟨s1,s2⟩:=sg_at ⟨j,by omega⟩
  rw [Int.zero_add]
  refine⟨_,rfl,_,rfl,_,_,sgc j,rfl,rfl,(by decide +kernel),atI_nat s1,_,_,rfl,rfl,(by rw [sizeLine_eq];show _ + 1<=_;decide +kernel),szL2,fun a1 ha1=>?_⟩
  generalize e3:upd H' a1 _=H3
  obtain⟨g3,k3⟩:=new_facts e3 ha1
  refine⟨l,a1,_,_,rfl,rfl,SqL.of (g3 _ _ kl),SqL.of k3,(by rw [List.length_map,sizeLine_eq];show (shL j).length + 2<=_;rw [shL_len];omega),fun a2 ha2=>?_⟩
  generalize e4:upd H3 a2 _=H4
  obtain⟨g4,k4⟩:=new_facts e4 ha2
  have st4:St3 H3 p:=Same.st3 ((g2.trans g).trans g3) d1.1
  refine⟨a2,_,rfl,(g.trans g3).trans g4,np st4 ha2,((g2.trans g).trans g3).free ha2,?_⟩
  rw [k4,shL_succ,← s2,List.map_append];rfl
 ·obtain⟨l,o3,rfl,g,nl,hl1,kl⟩:=z
  have gH:=g2.trans g
  have D1:Drawn p H H':=d1.keep gH
  refine⟨_,rfl,_,_,rfl,rfl,_,rfl,ite2 (fun c=>?_) (fun c=>?_)⟩
  ·have hv2:v < 2:=by have:=of_decide_eq_true c;omega
   have hr:=sh_rows ⟨7 + v,by omega⟩
   exact⟨_,rfl,l,shpT (7 + v),[],rfl,(by rw [List.append_nil,hr];exact SqL.of kl),wel_of (shp_wel ⟨7 + v,by omega⟩),(fun z=>by have:=congrArg List.length z;unfold shpT at this;rw [List.length_map,List.length_range] at this;simp at this),Nat.zero_le _,(fun x h=>by cases h),.inl ⟨rfl,fun H3 g3=>⟨rfl,q H3 (D1.keep g3)⟩⟩⟩
  ·have hv2:¬ v < 2:=fun z=>c (decide_eq_true (by omega))
   obtain⟨m,hm,rfl⟩ : ∃ m,m < 2/\v=m + 2:=⟨v - 2,by omega,by omega⟩
   rw [show 7 + (m + 2)=9 + m by omega] at kl
   refine⟨szL3,fun x0 hx0=>?_⟩
   generalize e3:upd H' x0 _=H3
   obtain⟨g3,k3⟩:=new_facts e3 hx0
   have nx0:x0 ≠ p:=np D1.1 hx0
   refine⟨_,rfl,p,3,rfl,by decide,by decide,Same.st3 g3 D1.1,fun x H4 hx d4=>?_⟩
   have hx3:x < 3:=by omega
   have k34:=d4.2 x0 _ nx0 k3
   have kl4:=d4.2 l _ nl (g3 _ _ kl)
   have hxa:((["v num 1","v num 9","v nosh"]:List Str))[x]?=some (x3 x):=by
    have:∀ x:Fin 3,((["v num 1","v num 9","v nosh"]:List Str))[x.val]?=some (x3 x.val):=by decide +kernel
    exact this ⟨x,hx3⟩
   refine⟨x0,(["v num 1","v num 9","v nosh"]:List Str).map V.str,_,_,rfl,rfl,SqL.of k34,at_str hxa,_,rfl,l,_,17,17,rfl,rfl,kl4,ix_nat (a:=17) (by rw [List.length_map,shL_len];omega),?_⟩
   rw [show ((shL (9 + m)).map V.str).set 17 (V.str (x3 x))=((shL (9 + m)).set 17 (x3 x)).map V.str from List.map_set.symm,sh_much ⟨m,hm⟩ ⟨x,hx3⟩]
   dsimp only
   generalize e5:upd H4 l _=H5
   obtain⟨g5,k5⟩:=chg_facts e5
   have D5:Drawn p H H5:=⟨by obtain⟨x',y',z',e'⟩:=d4.1;exact⟨x',y',z',g5 p _ (Ne.symm nl) e'⟩,fun b o h e=>by
    have e1:=d1.2 b o h e
    exact g5 b o (ne_of_none e1 hl1) (d4.2 b o h (g3 _ _ (gH _ _ e1)))⟩
   have hl0:H l=none:=d1.free hl1
   have hn8:=sh_nm ⟨8,by decide⟩
   have ht8:=sh_tail ⟨m,hm⟩ ⟨x,hx3⟩ ⟨8,by decide⟩
   have hne8:shpT 8 ≠ []:=fun z=>by have:=sh_n.2;rw [z] at this;cases this
   refine⟨_,rfl,l,shpT 8,Str.join spS [Str.ofString "shape",Str.ofString "b" ++ sg 8]::shR m x,rfl,(by rw [sh_rows ⟨8,by decide⟩];exact SqL.of k5),wel_of (shp_wel ⟨8,by decide⟩),hne8,ht8.1,ht8.2,.inr (.inl ⟨_,_,"much",rfl,(by simp),(by show 2<=10;decide),hn8.2.1,sh_bad,fun t H6 g6 ht=>?_⟩)⟩
   rw [sh_n.1] at ht
   refine⟨szL2,fun t2 ht2=>?_⟩
   generalize e7:upd H6 t2 _=H7
   obtain⟨g7,k7⟩:=new_facts e7 ht2
   refine⟨t,t2,_,_,rfl,rfl,g7.tp ht,SqT.of k7,rfl,two_eq (fun x hx=>by simp only [List.mem_cons,List.not_mem_nil,or_false] at hx;rcases hx with rfl|rfl <;> rfl),_,rfl,iteN (by decide) ?_⟩
   have D7:=D5.keep (g6.trans g7)
   have kl7:=(g6.trans g7) _ _ k5
   refine⟨_,rfl,_,rfl,p,8,rfl,by decide,by decide,D7.1,fun j H8 hj d8=>?_⟩
   have hj8:j < 8:=by omega
   have kl8:=d8.2 l _ nl kl7
   refine⟨_,_,rfl,rfl,.inl ⟨by omega,by omega⟩,?_⟩
   dsimp only
   rw [show (2:Int) * ((j:Nat):Int)=((2 * j:Nat):Int) by omega]
   refine⟨l,_,_,_,rfl,rfl,SqL.of kl8,at_str (sh_at ⟨m,hm⟩ ⟨x,hx3⟩ ⟨j,hj8⟩),_,rfl,l,_,16,16,rfl,rfl,kl8,ix_nat (a:=16) (by rw [List.length_map,List.length_append,shL_len,List.length_cons];omega),?_⟩
   rw [show ((shL 8++Str.join spS [Str.ofString "shape",Str.ofString "b" ++ sg 8]::shR m x).map V.str).set 16 (V.str (Str.ofString "shape b" ++ sg j))=((shL 8++Str.join spS [Str.ofString "shape",Str.ofString "b" ++ sg 8]::shR m x).set 16 (Str.ofString "shape b" ++ sg j)).map V.str from List.map_set.symm,sh_twice ⟨m,hm⟩ ⟨x,hx3⟩ ⟨j,hj8⟩]
   dsimp only
   generalize e9:upd H8 l _=H9
   obtain⟨g9,k9⟩:=chg_facts e9
   have D8:=D7.trans d8
   have D9:Drawn p H H9:=⟨by obtain⟨x',y',z',e'⟩:=D8.1;exact⟨x',y',z',g9 p _ (Ne.symm nl) e'⟩,fun b o h e=>g9 b o (ne_of_none e hl0) (D8.2 b o h e)⟩
   have hnj:=sh_nm ⟨j,by omega⟩
   have htj:=sh_tail ⟨m,hm⟩ ⟨x,hx3⟩ ⟨j,by omega⟩
   refine⟨_,rfl,l,shpT 8,Str.join spS [Str.ofString "shape",Str.ofString "b" ++ sg j]::shR m x,rfl,(by rw [sh_rows ⟨8,by decide⟩];exact SqL.of k9),wel_of (shp_wel ⟨8,by decide⟩),hne8,htj.1,htj.2,.inr (.inl ⟨_,_,"twice",rfl,(by simp),(by show 2<=10;decide),hnj.2.1,sh_bad2 hj8,fun t3 H10 g10 ht3=>?_⟩)⟩
   rw [sh_n.1] at ht3
   refine⟨szL2,fun t4 ht4=>?_⟩
   generalize e11:upd H10 t4 _=H11
   obtain⟨g11,k11⟩:=new_facts e11 ht4
   exact⟨t3,t4,_,_,rfl,rfl,g11.tp ht3,SqT.of k11,rfl,two_eq (fun x hx=>by simp only [List.mem_cons,List.not_mem_nil,or_false] at hx;rcases hx with rfl|rfl <;> rfl),q H11 (D9.keep (g10.trans g11))⟩
theorem ok_law_fields_right {k:Nat} (F:Fun K "_law_fields_right" "_law_fields_right" s_law_fields_right f fd) {f_law_take:Addr} {fd_law_take:FuncData} (D_law_take:Df K mg "_law_take" f_law_take fd_law_take ["_law_box_here","_law_many"]) (G_law_take:FnOk P w K mg base CX0 k f_law_take fd_law_take ["_law_box_here","_law_many"] spTake) {f_law_told:Addr} {fd_law_told:FuncData} (D_law_told:Df K mg "_law_told" f_law_told fd_law_told ["_law_lines"]) (G_law_told:FnOk P w K mg base CX0 k f_law_told fd_law_told ["_law_lines"] (spTd K)):FnOk P w K mg base CX0 (k + 2) f fd ["_law_box_here"] spRt:=by
 w_cond sc_law_fields_right
 ·obtain⟨p,rfl,_⟩:=h;rfl
 obtain⟨p,rfl,hst,q⟩:=h
 walk_at "hr"
 refine⟨_,(pss_cons (ps_set (i:=1) sc_law_fields_right.nd rfl (by walk_at "o") (pe_op op_add pe_int (pe_call G_law_take hr rfl D_law_take.m D_law_take.k D_law_take.b .nil pass0 (pa_cons (pv 0) (pa_cons pe_int pa_nil)))))
   (pss_cons (ps_set (i:=2) sc_law_fields_right.nd rfl (by walk_at "o") (pe_op op_catS (pe_op op_catS (pe_lst (pa_cons pe_str pa_nil)) (pe_comp ["_law_k"] [] [] rfl (pi_range1 rfl M.range (pa_cons (pv 1) pa_nil)) rfl trivial trivial (fun _ _ _ _=>(pg_name (i:=0) (show List.Nodup (["_law_k"]:List Str) from by decide +kernel) rfl (Or.inl rfl))) (fun _ _ _ _=>pif_nil) (fun _ _ _ _=>(pe_op op_add_str (pe_op op_add_str pe_str (pe_ix ix_str pe_str (pv 0) (fun _ _=>rfl))) pe_str)))) (pe_lst (pa_cons pe_str (pa_cons pe_str pa_nil)))))
   (pss_cons (ps_if (pt_cmpR op_le (pv 1) pe_int (nomark _)) (pss_one (ps_ret (pe_cmpR op_isN (pe_call G_law_told hr rfl D_law_told.m D_law_told.k D_law_told.b .nil pass0 (pa_cons (pv 2) pa_nil)) pe_non (nomark _)))) pss_nil)
   (pss_cons (ps_if (pt_cmpR (op_neT hr.units) (pe_call G_law_told hr rfl D_law_told.m D_law_told.k D_law_told.b .nil pass0 (pa_cons (pv 2) pa_nil)) (pe_tup (pa_cons pe_str (pa_cons pe_int pa_nil))) (nomark _)) (pss_one (ps_ret pe_bl)) pss_nil)
   (pss_cons (ps_asg pe_str (pg_sub (pv 2) pe_int set_list))
   (pss_cons (ps_if (pt_cmpR (op_neT hr.units) (pe_call G_law_told hr rfl D_law_told.m D_law_told.k D_law_told.b .nil pass0 (pa_cons (pv 2) pa_nil)) (pe_tup (pa_cons pe_str (pa_cons pe_int pa_nil))) (nomark _)) (pss_one (ps_ret pe_bl)) pss_nil)
   (pss_cons (ps_asg pe_str (pg_sub (pv 2) pe_int set_list))
   (pss_cons (ps_if (pt_cmpR (op_neT hr.units) (pe_call G_law_told hr rfl D_law_told.m D_law_told.k D_law_told.b .nil pass0 (pa_cons (pv 2) pa_nil)) (pe_tup (pa_cons pe_str (pa_cons pe_int pa_nil))) (nomark _)) (pss_one (ps_ret pe_bl)) pss_nil)
   (pss_cons (ps_asg pe_str (pg_sub (pv 2) pe_int set_list))
   (pss_one (ps_ret (pe_cmpR (op_eqT hr.units) (pe_call G_law_told hr rfl D_law_told.m D_law_told.k D_law_told.b .nil pass0 (pa_cons (pv 2) pa_nil)) (pe_tup (pa_cons pe_str (pa_cons pe_int pa_nil))) (nomark _))))))))))))),?_⟩
 refine⟨_,rfl,p,4,rfl,by decide,by decide,hst,fun v H1 hv d1=>⟨_,_,rfl,rfl,?_⟩⟩
 have hv4:v < 4:=by omega
 dsimp only
 rw [show (5:Int) + ((v:Nat):Int)=((5 + v:Nat):Int) by omega]
 refine⟨szL1,fun a0 ha0=>?_⟩
 generalize e2:upd H1 a0 _=H2
 obtain⟨g2,k2⟩:=new_facts e2 ha0
 refine⟨_,rfl,5 + v,rfl,by omega,by omega,comp_range (n:=5 + v) (fun j ys H'=>H'=H2/\ys=(fdL j).map V.str) ⟨rfl,rfl⟩ (fun j ys H' _ z=>by rw [z.2,List.length_map,fdL_len];exact Nat.le_refl _) (small1000 (by omega)) (fun j ys H' hj z=>?_) (fun ys H' z a1 ha1=>?_)⟩
 ·obtain⟨rfl,rfl⟩:=z
  obtain⟨s1,s2⟩:=sg_at9 ⟨j,by omega⟩
  rw [Int.zero_add]
  refine⟨_,rfl,_,_,sgc j,rfl,rfl,(by decide +kernel),atI_nat s1,_,_,rfl,rfl,(by rw [sizeLine_eq];show _ + 1<=_;decide +kernel),_,_,rfl,rfl,(by rw [Str.length_append,sizeLine_eq];show _ + 1 + _<=_;decide +kernel),⟨rfl,?_⟩,_,rfl⟩
  rw [fdL_succ,← s2,List.map_append];rfl
 obtain⟨e',rfl⟩:=z
 subst e'
 generalize e3:upd _ a1 _=H3
 obtain⟨g3,k3⟩:=new_facts e3 ha1
 refine⟨a0,a1,_,_,rfl,rfl,SqL.of (g3 _ _ k2),SqL.of k3,(by rw [List.length_map,fdL_len,sizeLine_eq];show 1 + _<=_;omega),fun a2 ha2=>?_⟩
 generalize e4:upd H3 a2 _=H4
 obtain⟨g4,k4⟩:=new_facts e4 ha2
 refine⟨szL2,fun a3 ha3=>?_⟩
 generalize e5:upd H4 a3 _=H5
 obtain⟨g5,k5⟩:=new_facts e5 ha3
 refine⟨a2,a3,_,_,rfl,rfl,SqL.of (g5 _ _ k4),SqL.of k5,(by rw [List.length_append,List.length_map,fdL_len,sizeLine_eq];show 1 + _ + 2<=_;omega),fun l hl=>?_⟩
 generalize e6:upd H5 l _=H6
 obtain⟨g6,k6⟩:=new_facts e6 hl
 have k6':H6 l=some (.lst ((fdA (5 + v)).map V.str)):=by rw [k6];unfold fdA;rw [List.map_append,List.map_append];rfl
 have g15:=((g2.trans g3).trans g4).trans g5
 have D6:Drawn p H H6:=(d1.keep g15).keep g6
 have nl:l ≠ p:=fun z=>by obtain⟨o,e⟩:=st_ex (Same.st3 g15 d1.1);rw [← z,hl] at e;cases e
 have hl0:H l=none:=d1.free (g15.free hl)
 refine⟨_,rfl,_,_,rfl,rfl,_,rfl,ite2 (fun c=>?_) (fun c=>?_)⟩
 ·have hv2:v < 2:=by have:=of_decide_eq_true c;omega
  obtain⟨w1,w2⟩:=fdS_ok ⟨v,hv2⟩
  exact⟨_,rfl,l,fdS (5 + v),[],rfl,(by rw [List.append_nil,w2];exact SqL.of k6'),wel_of w1,(fun z=>by unfold fdS at z;cases z),Nat.zero_le _,(fun x h=>by cases h),.inl ⟨rfl,fun H7 g7=>⟨rfl,q H7 (D6.keep g7)⟩⟩⟩
 ·have hv2:¬ v < 2:=fun z=>c (decide_eq_true (by omega))
  obtain⟨m,hm,rfl⟩ : ∃ m,m < 2/\v=m + 2:=⟨v - 2,by omega,by omega⟩
  rw [show 5 + (m + 2)=7 + m by omega,fd_eq ⟨m,hm⟩] at k6'
  have kc0:=k6'
  have dc0:=D6
  refine⟨_,rfl,l,fldT 6,fdB.getD 0 Str.empty::fdR (7 + m),rfl,(by rw [fd6_ok.1];exact SqL.of kc0),wel_of (fld_wel ⟨5,by decide⟩),fld6_ne,(fd_tail ⟨m,hm⟩ ⟨0,by decide⟩).2.2.2.2.1,(fd_tail ⟨m,hm⟩ ⟨0,by decide⟩).2.2.2.2.2,.inr (.inl ⟨fdW.getD 0 [],_,fdK.getD 0 Str.empty,congrArg (· :: _) (fd_tail ⟨m,hm⟩ ⟨0,by decide⟩).1,(fd_tail ⟨m,hm⟩ ⟨0,by decide⟩).2.1,(fd_tail ⟨m,hm⟩ ⟨0,by decide⟩).2.2.1,(fd_tail ⟨m,hm⟩ ⟨0,by decide⟩).2.2.2.1,fd_bad 0 (by decide),fun t0 G0 gg0 ht0=>?_⟩)⟩
  rw [fd6_ok.2.1] at ht0
  refine⟨szL2,fun u0 hu0=>?_⟩
  generalize eu0:upd G0 u0 _=U0
  obtain⟨gu0,ku0⟩:=new_facts eu0 hu0
  refine⟨t0,u0,_,_,rfl,rfl,gu0.tp ht0,SqT.of ku0,rfl,two_eq (fun x hx=>by simp only [List.mem_cons,List.not_mem_nil,or_false] at hx;rcases hx with rfl|rfl <;> rfl),_,rfl,iteN (by decide) ?_⟩
  have kd1:=(gg0.trans gu0) _ _ kc0
  have dd1:=dc0.keep (gg0.trans gu0)
  refine⟨_,rfl,l,_,7,7,rfl,rfl,kd1,ix_nat (a:=7) (by rw [List.length_map,List.length_append,fd6_ok.2.2,List.length_cons];omega),?_⟩
  rw [show ((fd6++fdB.getD 0 Str.empty::fdR (7 + m)).map V.str).set 7 (V.str (Str.ofString "vh nosh"))=((fd6++fdB.getD 0 Str.empty::fdR (7 + m)).set 7 (fdB.getD 1 Str.empty)).map V.str from List.map_set.symm,set_mid fd6_ok.2.2]
  generalize es1:upd U0 l _=S1
  obtain⟨gs1,kc1⟩:=chg_facts es1
  have dc1:Drawn p H S1:=⟨by obtain⟨x',y',z',e'⟩:=dd1.1;exact⟨x',y',z',gs1 p _ (Ne.symm nl) e'⟩,fun b o h e=>gs1 b o (ne_of_none e hl0) (dd1.2 b o h e)⟩
  refine⟨_,rfl,l,fldT 6,fdB.getD 1 Str.empty::fdR (7 + m),rfl,(by rw [fd6_ok.1];exact SqL.of kc1),wel_of (fld_wel ⟨5,by decide⟩),fld6_ne,(fd_tail ⟨m,hm⟩ ⟨1,by decide⟩).2.2.2.2.1,(fd_tail ⟨m,hm⟩ ⟨1,by decide⟩).2.2.2.2.2,.inr (.inl ⟨fdW.getD 1 [],_,fdK.getD 1 Str.empty,congrArg (· :: _) (fd_tail ⟨m,hm⟩ ⟨1,by decide⟩).1,(fd_tail ⟨m,hm⟩ ⟨1,by decide⟩).2.1,(fd_tail ⟨m,hm⟩ ⟨1,by decide⟩).2.2.1,(fd_tail ⟨m,hm⟩ ⟨1,by decide⟩).2.2.2.1,fd_bad 1 (by decide),fun t1 G1 gg1 ht1=>?_⟩)⟩
  rw [fd6_ok.2.1] at ht1
  refine⟨szL2,fun u1 hu1=>?_⟩
  generalize eu1:upd G1 u1 _=U1
  obtain⟨gu1,ku1⟩:=new_facts eu1 hu1
  refine⟨t1,u1,_,_,rfl,rfl,gu1.tp ht1,SqT.of ku1,rfl,two_eq (fun x hx=>by simp only [List.mem_cons,List.not_mem_nil,or_false] at hx;rcases hx with rfl|rfl <;> rfl),_,rfl,iteN (by decide) ?_⟩
  have kd2:=(gg1.trans gu1) _ _ kc1
  have dd2:=dc1.keep (gg1.trans gu1)
  refine⟨_,rfl,l,_,7,7,rfl,rfl,kd2,ix_nat (a:=7) (by rw [List.length_map,List.length_append,fd6_ok.2.2,List.length_cons];omega),?_⟩
  rw [show ((fd6++fdB.getD 1 Str.empty::fdR (7 + m)).map V.str).set 7 (V.str (Str.ofString "va num 1"))=((fd6++fdB.getD 1 Str.empty::fdR (7 + m)).set 7 (fdB.getD 2 Str.empty)).map V.str from List.map_set.symm,set_mid fd6_ok.2.2]
  generalize es2:upd U1 l _=S2
  obtain⟨gs2,kc2⟩:=chg_facts es2
  have dc2:Drawn p H S2:=⟨by obtain⟨x',y',z',e'⟩:=dd2.1;exact⟨x',y',z',gs2 p _ (Ne.symm nl) e'⟩,fun b o h e=>gs2 b o (ne_of_none e hl0) (dd2.2 b o h e)⟩
  refine⟨_,rfl,l,fldT 6,fdB.getD 2 Str.empty::fdR (7 + m),rfl,(by rw [fd6_ok.1];exact SqL.of kc2),wel_of (fld_wel ⟨5,by decide⟩),fld6_ne,(fd_tail ⟨m,hm⟩ ⟨2,by decide⟩).2.2.2.2.1,(fd_tail ⟨m,hm⟩ ⟨2,by decide⟩).2.2.2.2.2,.inr (.inl ⟨fdW.getD 2 [],_,fdK.getD 2 Str.empty,congrArg (· :: _) (fd_tail ⟨m,hm⟩ ⟨2,by decide⟩).1,(fd_tail ⟨m,hm⟩ ⟨2,by decide⟩).2.1,(fd_tail ⟨m,hm⟩ ⟨2,by decide⟩).2.2.1,(fd_tail ⟨m,hm⟩ ⟨2,by decide⟩).2.2.2.1,fd_bad 2 (by decide),fun t2 G2 gg2 ht2=>?_⟩)⟩
  rw [fd6_ok.2.1] at ht2
  refine⟨szL2,fun u2 hu2=>?_⟩
  generalize eu2:upd G2 u2 _=U2
  obtain⟨gu2,ku2⟩:=new_facts eu2 hu2
  refine⟨t2,u2,_,_,rfl,rfl,gu2.tp ht2,SqT.of ku2,rfl,two_eq (fun x hx=>by simp only [List.mem_cons,List.not_mem_nil,or_false] at hx;rcases hx with rfl|rfl <;> rfl),_,rfl,iteN (by decide) ?_⟩
  have kd3:=(gg2.trans gu2) _ _ kc2
  have dd3:=dc2.keep (gg2.trans gu2)
  refine⟨_,rfl,l,_,7,7,rfl,rfl,kd3,ix_nat (a:=7) (by rw [List.length_map,List.length_append,fd6_ok.2.2,List.length_cons];omega),?_⟩
  rw [show ((fd6++fdB.getD 2 Str.empty::fdR (7 + m)).map V.str).set 7 (V.str (Str.ofString "vh num 5"))=((fd6++fdB.getD 2 Str.empty::fdR (7 + m)).set 7 (fdB.getD 3 Str.empty)).map V.str from List.map_set.symm,set_mid fd6_ok.2.2]
  generalize es3:upd U2 l _=S3
  obtain⟨gs3,kc3⟩:=chg_facts es3
  have dc3:Drawn p H S3:=⟨by obtain⟨x',y',z',e'⟩:=dd3.1;exact⟨x',y',z',gs3 p _ (Ne.symm nl) e'⟩,fun b o h e=>gs3 b o (ne_of_none e hl0) (dd3.2 b o h e)⟩
  refine⟨_,rfl,l,fldT 6,fdB.getD 3 Str.empty::fdR (7 + m),rfl,(by rw [fd6_ok.1];exact SqL.of kc3),wel_of (fld_wel ⟨5,by decide⟩),fld6_ne,(fd_tail ⟨m,hm⟩ ⟨3,by decide⟩).2.2.2.2.1,(fd_tail ⟨m,hm⟩ ⟨3,by decide⟩).2.2.2.2.2,.inr (.inl ⟨fdW.getD 3 [],_,fdK.getD 3 Str.empty,congrArg (· :: _) (fd_tail ⟨m,hm⟩ ⟨3,by decide⟩).1,(fd_tail ⟨m,hm⟩ ⟨3,by decide⟩).2.1,(fd_tail ⟨m,hm⟩ ⟨3,by decide⟩).2.2.1,(fd_tail ⟨m,hm⟩ ⟨3,by decide⟩).2.2.2.1,fd_bad 3 (by decide),fun t3 G3 gg3 ht3=>?_⟩)⟩
  rw [fd6_ok.2.1] at ht3
  refine⟨szL2,fun u3 hu3=>?_⟩
  generalize eu3:upd G3 u3 _=U3
  obtain⟨gu3,ku3⟩:=new_facts eu3 hu3
  exact⟨t3,u3,_,_,rfl,rfl,gu3.tp ht3,SqT.of ku3,rfl,two_eq (fun x hx=>by simp only [List.mem_cons,List.not_mem_nil,or_false] at hx;rcases hx with rfl|rfl <;> rfl),q U3 (dc3.keep (gg3.trans gu3))⟩
theorem ok_law_units_right {k r:Nat} (hR : 18<=r/\8 * r<=200) (F:Fun K "_law_units_right" "_law_units_right" s_law_units_right f fd) {f_law_take:Addr} {fd_law_take:FuncData} (D_law_take:Df K mg "_law_take" f_law_take fd_law_take ["_law_box_here","_law_many"]) (G_law_take:FnOk P w K mg base CX0 k f_law_take fd_law_take ["_law_box_here","_law_many"] spTake) {f_law_told:Addr} {fd_law_told:FuncData} (D_law_told:Df K mg "_law_told" f_law_told fd_law_told ["_law_lines"]) (G_law_told:FnOk P w K mg base CX0 k f_law_told fd_law_told ["_law_lines"] (spTd K)) {f_read_shapes:Addr} {fd_read_shapes:FuncData} (D_read_shapes:Df K mg "read_shapes" f_read_shapes fd_read_shapes ["text"]) (G_read_shapes:FnOk P w K mg base (CXE P w) k f_read_shapes fd_read_shapes ["text"] (spRdX (Cl5.mk Va Vb Vc Vd Ve) Vf C_NoShapes C_NamedTwice C_UnknownShape C_TooMuch K r)) {f_Shapes_main:Addr} {fd_Shapes_main:FuncData} (D_Shapes_main:DfM K Vf "main" f_Shapes_main fd_Shapes_main ["self"]) (G_Shapes_main:FnOk P w K mg base CX0 k f_Shapes_main fd_Shapes_main ["self"] (spMn (Cl5.mk Va Vb Vc Vd Ve) Vf K)) {f_Shape_units:Addr} {fd_Shape_units:FuncData} (D_Shape_units:DfM K Ve "units" f_Shape_units fd_Shape_units ["self"]) (G_Shape_units:FnOk P w K mg base CX0 k f_Shape_units fd_Shape_units ["self"] (spShU (Cl5.mk Va Vb Vc Vd Ve) K r)):FnOk P w K mg base CX0 (k + 2) f fd ["_law_box_here"] spRt:=by
 w_cond sc_law_units_right
 ·obtain⟨p,rfl,_⟩:=h;rfl
 obtain⟨p,rfl,hst,q⟩:=h
 walk_at "hr"
 refine⟨_,(pss_cons (ps_set (i:=1) sc_law_units_right.nd rfl (by walk_at "o") (pe_op op_add pe_int (pe_call G_law_take hr rfl D_law_take.m D_law_take.k D_law_take.b .nil pass0 (pa_cons (pv 0) (pa_cons pe_int pa_nil)))))
   (pss_cons (ps_set (i:=2) sc_law_units_right.nd rfl (by walk_at "o") (pe_call G_law_take hr rfl D_law_take.m D_law_take.k D_law_take.b .nil pass0 (pa_cons (pv 0) (pa_cons pe_int pa_nil))))
   (pss_cons (ps_set (i:=3) sc_law_units_right.nd rfl (by walk_at "o") (pe_lst (pa_cons pe_str (pa_cons pe_str (pa_cons pe_str (pa_cons pe_str (pa_cons pe_str (pa_cons pe_str pa_nil se_const) se_const) se_const) se_const) se_const) se_const)))
   (pss_cons (ps_set (i:=3) sc_law_units_right.nd rfl (by walk_at "o") (pe_op op_catS (pe_op op_catS (pv 3) (pe_comp ["_law_k"] [] [] rfl (pi_range1 rfl M.range (pa_cons pe_int pa_nil)) rfl trivial trivial (fun _ _ _ _=>(pg_name (i:=0) (show List.Nodup (["_law_k"]:List Str) from by decide +kernel) rfl (Or.inl rfl))) (fun _ _ _ _=>pif_nil) (fun _ _ _ _=>(pe_op op_add_str (pe_op op_add_str pe_str (pe_ix ix_str pe_str (pv 0) (fun _ _=>rfl))) pe_str)))) (pe_lst (pa_cons (pe_op op_add_str (pe_op op_add_str pe_str (pe_callTy call_str_int rfl M.str boot_str (pa_cons (pv 1) pa_nil))) pe_str) pa_nil))))
   (pss_cons (ps_set (i:=4) sc_law_units_right.nd rfl (by walk_at "o") (pe_op op_add pe_int (pv 1)))
   (pss_cons (ps_if (pt_cmpR op_eq (pv 2) pe_int (nomark _)) (pss_cons (ps_asg pe_str (pg_sub (pv 3) pe_int set_list))
   (pss_cons (ps_set (i:=3) sc_law_units_right.nd rfl (by walk_at "o") (pe_op op_catS (pe_lst (pa_cons pe_str (pa_cons pe_str pa_nil))) (pv 3)))
   (pss_one (ps_set (i:=4) sc_law_units_right.nd rfl (by walk_at "o") (pe_op op_add pe_int (pv 1)))))) pss_nil)
   (pss_cons (ps_if (pt_cmpR op_gt (pv 4) pe_int (nomark _)) (pss_one (ps_ret (pe_cmpR (op_eqT hr.units) (pe_call G_law_told hr rfl D_law_told.m D_law_told.k D_law_told.b .nil pass0 (pa_cons (pe_op op_catS (pv 3) (pe_lst (pa_cons pe_str (pa_cons pe_str pa_nil)))) pa_nil)) (pe_tup (pa_cons pe_str (pa_cons (pe_op op_sub (pe_callB call_len_seq rfl M.len PySem.boot_len (pa_cons (pv 3) pa_nil)) pe_int) pa_nil))) (nomark _)))) pss_nil)
   (pss_one (ps_ret (pe_and (pe_cmpR op_isN (pe_call G_law_told hr rfl D_law_told.m D_law_told.k D_law_told.b .nil pass0 (pa_cons (pv 3) pa_nil)) pe_non (nomark _)) (pe_one (pe_cmpR op_eq (pe_callB call_len_seq rfl M.len PySem.boot_len (pa_cons (pe_meth0 (pe_meth0 (pe_call G_read_shapes hr rfl D_read_shapes.m D_read_shapes.k D_read_shapes.b .nil passX (pa_cons (pe_bm PySem.F.plainAttrs_str PySem.F.slot_str_join PySem.F.type_str_join mt_joinT pe_str (pa_cons (pv 3) pa_nil)) pa_nil)) Uf.cl D_Shapes_main.me G_Shapes_main hr D_Shapes_main.b .nil pass0) Ue.cl D_Shape_units.me G_Shape_units hr D_Shape_units.b .nil pass0) pa_nil)) (pv 4) (nomark _))))))))))))),?_⟩
 refine⟨_,rfl,p,6,rfl,by decide,by decide,hst,fun v H1 hv d1=>⟨_,_,rfl,rfl,?_⟩⟩
 have hv6:v < 6:=by omega
 dsimp only
 rw [show (1:Int) + ((v:Nat):Int)=((v + 1:Nat):Int) by omega]
 refine⟨_,rfl,p,5,rfl,by decide,by decide,d1.1,fun tw H2 htw d2=>?_⟩
 refine⟨(by show 6<=sizeLine;decide),fun a0 ha0=>?_⟩
 generalize e3:upd H2 a0 _=H3
 obtain⟨g3,k3⟩:=new_facts e3 ha0
 refine⟨_,rfl,2,rfl,by decide,by decide,comp_range (n:=2) (fun j ys H'=>H'=H3/\ys=(uX j).map V.str) ⟨rfl,rfl⟩ (fun j ys H' _ z=>by rw [z.2,List.length_map,uX_len];exact Nat.le_refl _) (small1000 (by omega)) (fun j ys H' hj z=>?_) (fun ys H' z a1 ha1=>?_)⟩
 ·obtain⟨rfl,rfl⟩:=z
  obtain⟨s1,s2⟩:=sg_at4 ⟨j,hj⟩
  rw [Int.zero_add]
  refine⟨_,rfl,_,_,sgc j,rfl,rfl,(by decide +kernel),atI_nat s1,_,_,rfl,rfl,(by rw [sizeLine_eq];show _ + 1<=_;decide +kernel),_,_,rfl,rfl,(by rw [Str.length_append,sizeLine_eq];show _ + 1 + _<=_;decide +kernel),⟨rfl,?_⟩,_,rfl⟩
  rw [uX_succ,← s2,List.map_append];rfl
 obtain⟨e',rfl⟩:=z
 subst e'
 generalize e4:upd _ a1 _=H4
 obtain⟨g4,k4⟩:=new_facts e4 ha1
 refine⟨a0,a1,_,_,rfl,rfl,SqL.of (g4 _ _ k3),SqL.of k4,(by show 6 + 2<=sizeLine;decide),fun a2 ha2=>?_⟩
 generalize e5:upd H4 a2 _=H5
 obtain⟨g5,k5⟩:=new_facts e5 ha2
 obtain⟨y1,y2,y3⟩:=uY_ok ⟨v + 1,by omega⟩
 refine⟨_,rfl,_,rfl,i_nat (by omega),_,_,rfl,rfl,(by rw [sizeLine_eq];exact Nat.le_trans (Nat.add_le_add_left y3 _) (by decide +kernel)),_,_,rfl,rfl,len_le (by rw [← Str.length_append];exact Nat.le_trans y1 (by decide)),?_⟩
 refine⟨szL1,fun a3 ha3=>?_⟩
 generalize e6:upd H5 a3 _=H6
 obtain⟨g6,k6⟩:=new_facts e6 ha3
 refine⟨a2,a3,_,_,rfl,rfl,SqL.of (g6 _ _ k5),SqL.of k6,(by show 8 + 1<=sizeLine;decide),fun l hl=>?_⟩
 generalize e7:upd H6 l _=H7
 obtain⟨g7,k7⟩:=new_facts e7 hl
 have k7':H7 l=some (.lst ((uL++[uY (v + 1)]).map V.str)):=by rw [k7,← uL_eq,List.map_append,List.map_append];rfl
 have g26:=((g3.trans g4).trans g5).trans g6
 have D6:Drawn p H H6:=(d1.trans d2).keep g26
 have D7:Drawn p H H7:=D6.keep g7
 have nl:l ≠ p:=fun z=>by obtain⟨o,e⟩:=st_ex D6.1;rw [← z,hl] at e;cases e
 have hl0:H l=none:=D6.free hl
 refine⟨_,rfl,_,_,rfl,rfl,?_⟩
 dsimp only
 rw [show (38:Int) + ((v + 1:Nat):Int)=((39 + v:Nat):Int) by omega]
 refine⟨_,rfl,rfl,_,rfl,ite2 (fun c=>?_) (fun c=>?_)⟩
 ·refine⟨_,rfl,l,_,4,4,rfl,rfl,k7',ix_nat (a:=4) (by show 4 < 9;decide),?_⟩
  rw [show ((uL++[uY (v + 1)]).map V.str).set 4 (V.str (Str.ofString "v pick a c"))=((uL++[uY (v + 1)]).set 4 (Str.ofString "v pick a c")).map V.str from List.map_set.symm]
  generalize ea:upd H7 l _=HA
  obtain⟨ga,ka⟩:=chg_facts ea
  have DA:Drawn p H HA:=⟨by obtain⟨x',y',z',e'⟩:=D7.1;exact⟨x',y',z',ga p _ (Ne.symm nl) e'⟩,fun b o h e=>ga b o (ne_of_none e hl0) (D7.2 b o h e)⟩
  refine⟨szL2,fun a4 ha4=>?_⟩
  generalize eb:upd HA a4 _=HB
  obtain⟨gb,kb⟩:=new_facts eb ha4
  refine⟨_,rfl,a4,l,_,_,rfl,rfl,SqL.of kb,SqL.of (gb _ _ ka),(by show 2 + 9<=sizeLine;decide),fun l2 hl2=>?_⟩
  generalize ec:upd HB l2 _=HC
  obtain⟨gc,kc⟩:=new_facts ec hl2
  refine⟨_,rfl,_,_,rfl,rfl,?_⟩
  dsimp only
  rw [show (28:Int) + ((v + 1:Nat):Int)=((29 + v:Nat):Int) by omega]
  refine⟨_,rfl,_,_,rfl,rfl,_,rfl,iteN (by simp;omega) ?_⟩
  obtain⟨w1,w2,w3⟩:=u_pick ⟨v,hv6⟩
  have kc':HC l2=some (.lst (((["shape c","v num 1"]:List Str)++(uL++[uY (v + 1)]).set 4 (Str.ofString "v pick a c")).map V.str)):=by rw [kc,List.map_append];rfl
  have hW:Wel (uC (v + 1)):=wel_of w1
  have hne:(uC (v + 1)) ≠ []:=(fun z=>by unfold uC at z;cases z)
  refine⟨_,rfl,l2,uC (v + 1),[],rfl,(by rw [List.append_nil,w2];exact SqL.of kc'),hW,hne,Nat.zero_le _,(fun x h=>by cases h),.inl ⟨rfl,fun H8 g8=>⟨rfl,_,rfl,iteP rfl ?_⟩⟩⟩
  refine⟨rfl,_,rfl,_,l2,(itms (uC (v + 1))).map (rowT (uC (v + 1)))++[],rfl,rfl,(by rw [List.append_nil,w2];exact SqL.of (g8 _ _ kc')),(by rw [List.append_nil];exact join_bd hW hne),uC (v + 1),[],rfl,hW,hne,hR.1,hR.2,Nat.zero_le _,(fun x h=>by cases h),.inl ⟨rfl,fun a' dx t sa H9 g9 h1 h2 h3=>?_⟩⟩
  obtain⟨sa0,z,dz,tz,sz,rfl,hat,hz⟩:=main_of h3 hne
  refine⟨a',dx,_,rfl,h1,rfl,a',z,sa0,uC (v + 1),rfl,⟨dx,t,h1,h2,h3⟩,?_⟩
  refine⟨z,dz,_,rfl,hz,rfl,z,2,_,uC (v + 1),rfl,hat,(by have:=hR.1;omega),hR.2,h3,hW.good,fun l9 H10 g10 hl9 hul=>?_⟩
  obtain⟨us,ku,ur⟩:=hul
  refine⟨l9,_,rfl,.inl (SqL.of ku),_,rfl,rfl,?_⟩
  rw [decide_eq_true (by rw [List.length_map,ur.len];exact congrArg (fun n:Nat=>V.int (n:Int)) w3)]
  exact q H10 ((DA.keep (gb.trans gc)).keep ((g8.trans g9).trans g10))
 ·refine⟨_,rfl,_,_,rfl,rfl,_,rfl,ite2 (fun c2=>?_) (fun c2=>?_)⟩
  ·obtain⟨m,hm,rfl⟩ : ∃ m,m < 4/\v=m + 2:=⟨v - 2,by have:=of_decide_eq_true c2;omega,by have:=of_decide_eq_true c2;omega⟩
   obtain⟨_,_,hy⟩:=u_much ⟨m,hm⟩
   obtain⟨t1,t2,t3,t4⟩:=u_tail ⟨m,hm⟩
   have hne:([uSa,uSb]:List Shp) ≠ []:=fun z=>by cases z
   refine⟨_,rfl,szL2,fun a4 ha4=>?_⟩
   generalize eb:upd H7 a4 _=HB
   obtain⟨gb,kb⟩:=new_facts eb ha4
   refine⟨l,a4,_,_,rfl,rfl,SqL.of (gb _ _ k7'),SqL.of kb,(by show 9 + 2<=sizeLine;decide),fun l2 hl2=>?_⟩
   generalize ec:upd HB l2 _=HC
   obtain⟨gc,kc⟩:=new_facts ec hl2
   have kc':HC l2=some (.lst ((uL++uY (m + 3)::dV).map V.str)):=by rw [kc,List.map_append,List.map_append,List.append_assoc];rfl
   refine⟨l2,[uSa,uSb],uY (m + 3)::dV,rfl,(by rw [u_pre.2.1];exact SqL.of kc'),wel_of u_pre.1,hne,(by show 3<=20;decide),t1,.inr (.inl ⟨_,dV,"much",congrArg (· :: dV) hy,(fun z=>by cases z),t3,t2,u_bad m hm,fun t H8 g8 ht=>?_⟩)⟩
   rw [u_pre.2.2] at ht
   have k8:=((gb.trans gc).trans g8) _ _ k7'
   refine⟨_,rfl,l,_,rfl,.inl (SqL.of k8),_,_,rfl,rfl,?_⟩
   refine⟨szL2,fun t2 ht2=>?_⟩
   generalize e9:upd H8 t2 _=H9
   obtain⟨g9,k9⟩:=new_facts e9 ht2
   exact⟨t,t2,_,_,rfl,rfl,g9.tp ht,SqT.of k9,rfl,two_eq (fun x hx=>by simp only [List.mem_cons,List.not_mem_nil,or_false] at hx;rcases hx with rfl|rfl <;> rfl),q H9 (D7.keep (((gb.trans gc).trans g8).trans g9))⟩
  ·have hv2:v < 2:=Decidable.byContradiction fun h=>c2 (decide_eq_true (by omega))
   obtain⟨w1,w2,w3⟩:=u_fit ⟨v,hv2⟩
   have hW:Wel (uS (v + 1)):=wel_of w1
   have hne:(uS (v + 1)) ≠ []:=(fun z=>by unfold uS at z;cases z)
   refine⟨_,rfl,l,uS (v + 1),[],rfl,(by rw [List.append_nil,w2];exact SqL.of k7'),hW,hne,Nat.zero_le _,(fun x h=>by cases h),.inl ⟨rfl,fun H8 g8=>⟨rfl,_,rfl,iteP rfl ?_⟩⟩⟩
   refine⟨rfl,_,rfl,_,l,(itms (uS (v + 1))).map (rowT (uS (v + 1)))++[],rfl,rfl,(by rw [List.append_nil,w2];exact SqL.of (g8 _ _ k7')),(by rw [List.append_nil];exact join_bd hW hne),uS (v + 1),[],rfl,hW,hne,hR.1,hR.2,Nat.zero_le _,(fun x h=>by cases h),.inl ⟨rfl,fun a' dx t sa H9 g9 h1 h2 h3=>?_⟩⟩
   obtain⟨sa0,z,dz,tz,sz,rfl,hat,hz⟩:=main_of h3 hne
   refine⟨a',dx,_,rfl,h1,rfl,a',z,sa0,uS (v + 1),rfl,⟨dx,t,h1,h2,h3⟩,?_⟩
   refine⟨z,dz,_,rfl,hz,rfl,z,1,_,uS (v + 1),rfl,hat,(by have:=hR.1;omega),hR.2,h3,hW.good,fun l9 H10 g10 hl9 hul=>?_⟩
   obtain⟨us,ku,ur⟩:=hul
   refine⟨l9,_,rfl,.inl (SqL.of ku),_,rfl,rfl,?_⟩
   rw [decide_eq_true (by rw [List.length_map,ur.len];exact congrArg (fun n:Nat=>V.int (n:Int)) w3)]
   exact q H10 (D7.keep ((g8.trans g9).trans g10))
theorem ok_law_cells_right {k r:Nat} (hR : 18<=r/\8 * r<=200) (F:Fun K "_law_cells_right" "_law_cells_right" s_law_cells_right f fd) {f_law_take:Addr} {fd_law_take:FuncData} (D_law_take:Df K mg "_law_take" f_law_take fd_law_take ["_law_box_here","_law_many"]) (G_law_take:FnOk P w K mg base CX0 k f_law_take fd_law_take ["_law_box_here","_law_many"] spTake) {f_law_told:Addr} {fd_law_told:FuncData} (D_law_told:Df K mg "_law_told" f_law_told fd_law_told ["_law_lines"]) (G_law_told:FnOk P w K mg base CX0 k f_law_told fd_law_told ["_law_lines"] (spTd K)) {f_read_shapes:Addr} {fd_read_shapes:FuncData} (D_read_shapes:Df K mg "read_shapes" f_read_shapes fd_read_shapes ["text"]) (G_read_shapes:FnOk P w K mg base (CXE P w) k f_read_shapes fd_read_shapes ["text"] (spRdX (Cl5.mk Va Vb Vc Vd Ve) Vf C_NoShapes C_NamedTwice C_UnknownShape C_TooMuch K r)) {f_Shapes_main:Addr} {fd_Shapes_main:FuncData} (D_Shapes_main:DfM K Vf "main" f_Shapes_main fd_Shapes_main ["self"]) (G_Shapes_main:FnOk P w K mg base CX0 k f_Shapes_main fd_Shapes_main ["self"] (spMn (Cl5.mk Va Vb Vc Vd Ve) Vf K)) {f_Shape_size:Addr} {fd_Shape_size:FuncData} (D_Shape_size:DfM K Ve "size" f_Shape_size fd_Shape_size ["self"]) (G_Shape_size:FnOk P w K mg base CX0 k f_Shape_size fd_Shape_size ["self"] (spShV (Cl5.mk Va Vb Vc Vd Ve) K r sSz)):FnOk P w K mg base CX0 (k + 2) f fd ["_law_box_here"] spRt:=by
 w_cond sc_law_cells_right
 ·obtain⟨p,rfl,_⟩:=h;rfl
 obtain⟨p,rfl,hst,q⟩:=h
 walk_at "hr"
 refine⟨_,(PSx.h (psx_cons (pstx_of (ps_set (i:=1) sc_law_cells_right.nd rfl (by walk_at "o") (pe_op op_add pe_int (pe_call G_law_take hr rfl D_law_take.m D_law_take.k D_law_take.b .nil pass0 (pa_cons (pv 0) (pa_cons pe_int pa_nil))))))
   (psx_cons (pstx_of (ps_set (i:=2) sc_law_cells_right.nd rfl (by walk_at "o") (pe_call G_law_take hr rfl D_law_take.m D_law_take.k D_law_take.b .nil pass0 (pa_cons (pv 0) (pa_cons pe_int pa_nil)))))
   (psx_cons (pstx_of (ps_set (i:=3) sc_law_cells_right.nd rfl (by walk_at "o") (pe_call G_law_take hr rfl D_law_take.m D_law_take.k D_law_take.b .nil pass0 (pa_cons (pv 0) (pa_cons pe_int pa_nil)))))
   (psx_cons (pstx_lst (i:=4) sc_law_cells_right.nd rfl rfl (pex_lst (pax_cons (pex_of pe_str) (pax_cons (pex_of pe_str) (pax_cons (pex_of pe_str) (pax_cons (pex_of pe_str) (pax_cons (pex_of pe_str) (pax_cons (pex_of pe_str) (pax_cons (pex_of pe_str) (pax_cons (pex_of pe_str) pax_nil se_const) se_const) se_const) se_const) se_const) se_const) se_const) se_const)))
   (psx_cons (pstx_lst (i:=5) sc_law_cells_right.nd rfl rfl (pex_lst (pax_cons (pex_menu (pax_cons (pex_tup (pax_cons (pex_of pe_str) (pax_cons (pex_of pe_int) pax_nil se_const) se_const)) (pax_cons (pex_tup (pax_cons (pex_of pe_str) (pax_cons (pex_of pe_int) pax_nil se_const) se_const)) (pax_cons (pex_tup (pax_cons (pex_of pe_str) (pax_cons (pex_of pe_int) pax_nil se_const) se_const)) (pax_cons (pex_tup (pax_cons (pex_of pe_str) (pax_cons (pex_of pe_int) pax_nil se_const) se_const)) pax_nil se_tuple) se_tuple) se_tuple) se_tuple) (pex_of (pv 3)) (fun _ _=>rfl)) pax_nil se_sub)))
   (psx_cons (pstx_of (ps_expr (pe_bm PySem.F.plainAttrs_list PySem.F.slot_list_append PySem.F.type_list_append mt_append (pv 5) (pa_cons (pe_tup (pa_cons (pe_op op_add_str (pe_op op_add_str pe_str (pe_callTy call_str_int rfl M.str boot_str (pa_cons (pv 1) pa_nil))) pe_str) (pa_cons (pv 1) pa_nil))) pa_nil))))
   (psx_cons (pstx_if (pt_cmpR op_gt (pv 2) pe_int (nomark _)) (psx_one (pstx_of (ps_expr (pe_bm PySem.F.plainAttrs_list PySem.F.slot_list_append PySem.F.type_list_append mt_append (pv 5) (pa_cons (pe_tup (pa_cons (pe_op op_add_str pe_str (pe_callTy call_str_int rfl M.str boot_str (pa_cons (pv 2) pa_nil))) (pa_cons (pv 2) pa_nil))) pa_nil))))) pss_nil)
   (psx_cons (pstx_of (ps_set (i:=6) sc_law_cells_right.nd rfl (by walk_at "o") pe_int))
   (psx_cons (pstx_of (ps_set (i:=7) sc_law_cells_right.nd rfl (by walk_at "o") pe_non))
   (psx_cons (pstx_of (ps_for PassesOwn.never rfl (pi_enum rfl M.enumerate (pa_cons (pv 5) pa_nil)) (pg_tup rfl (pgs_cons (pg_name (i:=8) sc_law_cells_right.nd rfl (Or.inl rfl)) (pgs_cons (pg_tup rfl (pgs_cons (pg_name (i:=9) sc_law_cells_right.nd rfl (Or.inl rfl)) (pgs_cons (pg_name (i:=10) sc_law_cells_right.nd rfl (Or.inl rfl)) pgs_nil))) pgs_nil))) (pss_cons (ps_set (i:=6) sc_law_cells_right.nd rfl (by walk_at "o") (pe_op op_add (pv 6) (pv 10)))
   (pss_one (ps_if (PW.pt (pw_and (pt_cmpR op_gt (pv 6) pe_int (nomark _)) (pw_and1 (pt_cmpR op_isN (pv 7) pe_non (nomark _))))) (pss_one (ps_set (i:=7) sc_law_cells_right.nd rfl (by walk_at "o") (pe_tup (pa_cons pe_str (pa_cons (pe_op op_add (pe_callB call_len_seq rfl M.len PySem.boot_len (pa_cons (pv 4) pa_nil)) (pv 8)) pa_nil))))) pss_nil)))))
   (psx_cons (pstx_of (ps_set (i:=11) sc_law_cells_right.nd rfl (by walk_at "o") (pe_op op_catS (pv 4) (pe_comp ["_law_field"] [] [] rfl (pi_list (pv 5)) rfl trivial trivial (fun _ _ _ _=>(pg_name (i:=0) (show List.Nodup (["_law_field"]:List Str) from by decide +kernel) rfl (Or.inl rfl))) (fun _ _ _ _=>pif_nil) (fun _ _ _ _=>(pe_ix (ix_tupK K rfl) (pv 0) pe_int (fun _ _=>rfl)))))))
   (psx_cons (pstx_if (pt_cmpR op_notN (pv 7) pe_non (nomark _)) (psx_one (pstx_ret (pex_of (pe_and (pe_cmpR (op_eqT hr.units) (pe_call G_law_told hr rfl D_law_told.m D_law_told.k D_law_told.b .nil pass0 (pa_cons (pe_op op_catS (pv 11) (pe_lst (pa_cons pe_str (pa_cons pe_str pa_nil)))) pa_nil)) (pv 7) (nomark _)) (pe_one (pe_cmpR (op_eqT hr.units) (pe_call G_law_told hr rfl D_law_told.m D_law_told.k D_law_told.b .nil pass0 (pa_cons (pv 11) pa_nil)) (pv 7) (nomark _))))))) pss_nil)
   (psx_one (pstx_ret (pex_of (pe_and (pe_cmpR op_isN (pe_call G_law_told hr rfl D_law_told.m D_law_told.k D_law_told.b .nil pass0 (pa_cons (pv 11) pa_nil)) pe_non (nomark _)) (pe_one (pe_cmpR op_eq (pe_meth0 (pe_meth0 (pe_call G_read_shapes hr rfl D_read_shapes.m D_read_shapes.k D_read_shapes.b .nil passX (pa_cons (pe_bm PySem.F.plainAttrs_str PySem.F.slot_str_join PySem.F.type_str_join mt_joinT pe_str (pa_cons (pv 11) pa_nil)) pa_nil)) Uf.cl D_Shapes_main.me G_Shapes_main hr D_Shapes_main.b .nil pass0) Ue.cl D_Shape_size.me G_Shape_size hr D_Shape_size.b .nil pass0) (pv 6) (nomark _)))))))))))))))))))),?_⟩
 refine⟨_,rfl,p,6,rfl,by decide,by decide,hst,fun v H1 hv d1=>⟨_,_,rfl,rfl,?_⟩⟩
 have hv6:v < 6:=by omega
 dsimp only
 rw [show (1:Int) + ((v:Nat):Int)=((v + 1:Nat):Int) by omega]
 refine⟨_,rfl,p,5,rfl,by decide,by decide,d1.1,fun la H2 hla d2=>?_⟩
 refine⟨_,rfl,p,4,rfl,by decide,by decide,d2.1,fun wy H3 hwy d3=>?_⟩
 have hla5:la < 5:=by omega
 have hwy4:wy < 4:=by omega
 refine⟨(by show 8<=sizeLine;decide),fun hd hhd=>?_⟩
 generalize e4:upd H3 hd _=H4
 obtain⟨g4,k4⟩:=new_facts e4 hhd
 refine⟨szL2,fun t0 ht0=>?_⟩
 generalize e5:upd H4 t0 _=H5
 obtain⟨g5,k5⟩:=new_facts e5 ht0
 refine⟨szL2,fun t1 ht1=>?_⟩
 generalize e6:upd H5 t1 _=H6
 obtain⟨g6,k6⟩:=new_facts e6 ht1
 refine⟨szL2,fun t2 ht2=>?_⟩
 generalize e7:upd H6 t2 _=H7
 obtain⟨g7,k7⟩:=new_facts e7 ht2
 refine⟨szL2,fun t3 ht3=>?_⟩
 generalize e8:upd H7 t3 _=H8
 obtain⟨g8,k8⟩:=new_facts e8 ht3
 refine⟨szL4,fun mn hmn=>?_⟩
 generalize e9:upd H8 mn _=H9
 obtain⟨g9,k9⟩:=new_facts e9 hmn
 have hW4:∃ tw:Addr,([.ref t0,.ref t1,.ref t2,.ref t3]:List V)[wy]?=some (.ref tw)/\H9 tw=some (.tup [.str (cyT wy),.int (cyN wy:Nat)]):=by
  match wy,hwy4 with
  | 0,_=>exact⟨t0,rfl,g9 _ _ (g8 _ _ (g7 _ _ (g6 _ _ k5)))⟩
  | 1,_=>exact⟨t1,rfl,g9 _ _ (g8 _ _ (g7 _ _ k6))⟩
  | 2,_=>exact⟨t2,rfl,g9 _ _ (g8 _ _ k7)⟩
  | 3,_=>exact⟨t3,rfl,g9 _ _ k8⟩
  | w + 4,h=>exact absurd h (by omega)
 obtain⟨tw,hx4,ktw⟩:=hW4
 refine⟨_,rfl,mn,_,_,_,rfl,rfl,SqL.of k9,atI_nat hx4,?_⟩
 refine⟨szL1,fun fl hfl=>?_⟩
 generalize e10:upd H9 fl _=H10
 obtain⟨g10,k10⟩:=new_facts e10 hfl
 have g39:=((((g4.trans g5).trans g6).trans g7).trans g8).trans g9
 have D9:Drawn p H H9:=((d1.trans d2).trans d3).keep g39
 have nf:fl ≠ p:=fun z=>by obtain⟨o,e⟩:=st_ex D9.1;rw [← z,hfl] at e;cases e
 have hf0:H fl=none:=D9.free hfl
 obtain⟨c1,c2,_⟩:=cz_len ⟨v + 1,by omega⟩
 obtain⟨_,_,c3⟩:=cz_len ⟨la,by omega⟩
 refine⟨_,rfl,.inl ⟨rfl,_,SqL.of k10⟩,_,rfl,_,rfl,i_nat (by omega),_,_,rfl,rfl,len_le (Nat.le_trans c1 (by decide)),_,_,rfl,rfl,len_le (Nat.le_trans c2 (by decide)),_,rfl,?_⟩
 refine⟨szL2,fun tz htz=>?_⟩
 generalize e11:upd H10 tz _=H11
 obtain⟨g11,k11⟩:=new_facts e11 htz
 have nfz:tz ≠ fl:=fun z=>by rw [z,k10] at htz;cases htz
 refine⟨fl,_,_,rfl,rfl,g11 _ _ k10,(by show 1 < sizeLine;decide),?_⟩
 generalize e12:upd H11 fl _=H12
 obtain⟨g12,k12⟩:=chg_facts e12
 have nfh:hd ≠ fl:=fun z=>by have:=g39.free hfl;rw [← z,hhd] at this;have h5:=g9 _ _ (g8 _ _ (g7 _ _ (g6 _ _ (g5 _ _ k4))));rw [z,hfl] at h5;cases h5
 have nft:tw ≠ fl:=fun z=>by rw [z,hfl] at ktw;cases ktw
 have kh12:H12 hd=some (.lst (cH.map V.str)):=g12 _ _ nfh (g11 _ _ (g10 _ _ (g9 _ _ (g8 _ _ (g7 _ _ (g6 _ _ (g5 _ _ k4)))))))
 have kt12:=g12 _ _ nft (g11 _ _ (g10 _ _ ktw))
 have kz12:=g12 _ _ nfz k11
 have D12:Drawn p H H12:=⟨by obtain⟨x',y',z',e'⟩:=D9.1;exact⟨x',y',z',g12 p _ (Ne.symm nf) (g11 _ _ (g10 _ _ e'))⟩,fun b o h e=>g12 b o (ne_of_none e hf0) (g11 _ _ (g10 _ _ (D9.2 b o h e)))⟩
 dsimp only
 refine joinQ (fun σ' H'=>∃ ps:List Addr,σ'=[some (.ref p),some (.int (v + 1:Nat)),some (.int (la:Nat)),some (.int (wy:Nat)),some (.ref hd),some (.ref fl),none,none,none,none,none,none]/\Drawn p H H'/\Fds H' fl hd ps (cfs wy (v + 1) la)) (fun σ' HJ z=>?_) (fun nx hnx=>?_)
 ·obtain⟨ps,rfl,DJ,F⟩:=z
  have zl:(ps.map V.ref).length=(cfs wy (v + 1) la).length:=by rw [List.length_map];exact F.len
  have l3:(cfs wy (v + 1) la).length<=3:=by unfold cfs;split <;> simp
  refine⟨_,rfl,fl,_,rfl,SqL.of F.fl,for_enum (xs:=ps.map V.ref) (fun j σ H'=>∃ (du:V) (o8 o9 o10:Option V),σ = [some (.ref p),some (.int (v + 1:Nat)),some (.int (la:Nat)),some (.int (wy:Nat)),some (.ref hd),some (.ref fl),some (.int (tot (cfs wy (v + 1) la) j:Nat)),some du,o8,o9,o10,none]/\Same HJ H'/\Due K H' (cfs wy (v + 1) la) j du) ⟨.non,_,_,_,rfl,Same.refl _,.inl ⟨rfl,by show 48<=64;decide⟩⟩ (fun j σ H' _ z=>?_) (fun j x σ H' p2 hx z hp2=>?_) (fun σ H' z=>?_)⟩
  ·obtain⟨du,o8,o9,o10,rfl,g,_⟩:=z
   exact g.seq (SqL.of F.fl)
  ·obtain⟨du,o8,o9,o10,rfl,g,hdu⟩:=z
   obtain⟨a,ha,rfl⟩:=get_refs hx
   have hjl:j < (cfs wy (v + 1) la).length:=by rw [← F.len];exact (List.getElem?_eq_some_iff.mp ha).1
   have hfj:=List.getElem?_eq_getElem hjl
   generalize (cfs wy (v + 1) la)[j]=f at hfj
   have ka:=g _ _ (F.at_ j a f ha hfj)
   have htot:=tot_succ hfj
   generalize e13:upd H' p2 _=G1
   obtain⟨g13,k13⟩:=new_facts e13 hp2
   refine⟨p2,_,rfl,SqT.of k13,rfl,_,_,rfl,_,_,rfl,a,_,rfl,SqT.of (g13 _ _ ka),rfl,_,_,rfl,_,_,rfl,rfl,rfl,?_⟩
   refine⟨_,rfl,_,rfl,_,_,rfl,rfl,?_⟩
   dsimp only
   rw [show ((tot (cfs wy (v + 1) la) j:Nat):Int) + ((f.2:Nat):Int)=((tot (cfs wy (v + 1) la) (j + 1):Nat):Int) by omega]
   refine⟨_,rfl,_,_,rfl,rfl,_,rfl,ite2 (fun c=>?_) (fun c=>?_)⟩
   ·have c64 : 64 < tot (cfs wy (v + 1) la) (j + 1):=by have:=of_decide_eq_true c;omega
    rcases hdu with⟨rfl,hle⟩|⟨t,i,rfl,ht,hi,h1,h2⟩
    ·refine⟨_,rfl,rfl,_,rfl,iteP rfl ?_⟩
     refine⟨_,rfl,hd,_,rfl,.inl (SqL.of (g13 _ _ (g _ _ F.hd))),_,rfl,_,_,rfl,rfl,szL2,fun t ht=>?_⟩
     generalize e14:upd G1 t _=G2
     obtain⟨g14,k14⟩:=new_facts e14 ht
     exact⟨_,_,_,_,rfl,(g.trans g13).trans g14,.inr ⟨t,j,rfl,SqT.of k14,hjl,hle,c64⟩⟩
    ·exact⟨_,rfl,rfl,_,rfl,iteN (by simp) ⟨_,_,_,_,rfl,g.trans g13,.inr ⟨t,i,rfl,g13.tp ht,hi,h1,h2⟩⟩⟩
   ·have c64:tot (cfs wy (v + 1) la) (j + 1)<=64:=Decidable.byContradiction fun h=>c (decide_eq_true (by omega))
    refine iteN (by decide) ⟨_,_,_,_,rfl,g.trans g13,?_⟩
    rcases hdu with⟨rfl,hle⟩|⟨t,i,rfl,ht,hi,h1,h2⟩
    ·exact .inl ⟨rfl,c64⟩
    ·exact .inr ⟨t,i,rfl,g13.tp ht,hi,h1,h2⟩
  ·obtain⟨du,o8,o9,o10,rfl,g,hdu⟩:=z
   rw [zl] at hdu
   rw [zl]
   refine⟨_,rfl,_,rfl,fl,rfl,⟨_,g.seq (SqL.of F.fl)⟩,comp_list (xs:=ps.map V.ref) (fun j ys G=>G=H'/\ys=(((cfs wy (v + 1) la).take j).map fun f=>V.str f.1)) ⟨rfl,rfl⟩ (fun j ys G _ z=>?_) (small1000 (by omega)) (fun j x ys G hx z=>?_) (fun ys G z a1 ha1=>?_)⟩
   ·obtain⟨rfl,rfl⟩:=z
    exact⟨g.seq (SqL.of F.fl),by rw [List.length_map,List.length_take];exact Nat.min_le_left _ _⟩
   ·obtain⟨rfl,rfl⟩:=z
    obtain⟨a,ha,rfl⟩:=get_refs hx
    have hjl:j < (cfs wy (v + 1) la).length:=by rw [← F.len];exact (List.getElem?_eq_some_iff.mp ha).1
    have hfj:=List.getElem?_eq_getElem hjl
    generalize (cfs wy (v + 1) la)[j]=f at hfj
    exact⟨_,rfl,a,_,_,_,rfl,rfl,SqT.of (g _ _ (F.at_ j a f ha hfj)),rfl,⟨rfl,(map_snoc hfj).symm⟩,_,rfl⟩
   obtain⟨e',rfl⟩:=z
   subst e'
   generalize e15:upd _ a1 _=G1
   obtain⟨g15,k15⟩:=new_facts e15 ha1
   rw [zl,List.take_length] at k15
   refine⟨hd,a1,_,_,rfl,rfl,SqL.of (g15 _ _ (g _ _ F.hd)),SqL.of k15,(by rw [List.length_map,List.length_map,sizeLine_eq];show 8 + _<=_;omega),fun l hl=>?_⟩
   generalize e16:upd G1 l _=G2
   obtain⟨g16,k16⟩:=new_facts e16 hl
   have k16':G2 l=some (.lst ((cH++(cfs wy (v + 1) la).map (·.1)).map V.str)):=by rw [k16,List.map_append,List.map_map];rfl
   have DG:Drawn p H G2:=DJ.keep ((g.trans g15).trans g16)
   rcases hdu with⟨rfl,hle⟩|⟨t,i,rfl,ht,hi,h1,h2⟩
   ·refine⟨_,rfl,rfl,_,rfl,iteN (by decide) ?_⟩
    rw [tot_all] at hle
    rw [tot_all]
    obtain⟨w1,w2,w3,w4⟩:=c_tab ⟨wy,hwy4⟩ ⟨v + 1,by omega⟩ ⟨la,hla5⟩
    rw [← cT_eq (by omega)] at k16'
    have hW:Wel (cS wy (v + 1) la):=wel_of (w4 hle)
    have hne:(cS wy (v + 1) la) ≠ []:=(fun z=>by unfold cS at z;cases z)
    refine⟨_,rfl,l,cS wy (v + 1) la,[],rfl,(by rw [List.append_nil,w1];exact SqL.of k16'),hW,hne,Nat.zero_le _,(fun x h=>by cases h),.inl ⟨rfl,fun H8 g8=>⟨rfl,_,rfl,iteP rfl ?_⟩⟩⟩
    refine⟨rfl,_,rfl,_,l,(itms (cS wy (v + 1) la)).map (rowT (cS wy (v + 1) la))++[],rfl,rfl,(by rw [List.append_nil,w1];exact SqL.of (g8 _ _ k16')),(by rw [List.append_nil];exact join_bd hW hne),cS wy (v + 1) la,[],rfl,hW,hne,hR.1,hR.2,Nat.zero_le _,(fun x h=>by cases h),.inl ⟨rfl,fun a' dx t sa H9 g9 h1 h2 h3=>?_⟩⟩
    obtain⟨sa0,z,dz,tz,sz,rfl,hat,hz⟩:=main_of h3 hne
    refine⟨a',dx,_,rfl,h1,rfl,a',z,sa0,cS wy (v + 1) la,rfl,⟨dx,t,h1,h2,h3⟩,?_⟩
    refine⟨z,dz,_,rfl,hz,rfl,z,2,_,cS wy (v + 1) la,rfl,hat,(by have:=hR.1;omega),h3,hW.good,fun H10 g10=>?_⟩
    refine⟨_,rfl,rfl,?_⟩
    rw [show sSz 2 (tabs (cS wy (v + 1) la))=48 + cyN wy + (v + 1) + la from w2,decide_eq_true rfl]
    exact q H10 (DG.keep ((g8.trans g9).trans g10))
   ·refine⟨_,rfl,rfl,_,rfl,iteP rfl ?_⟩
    have ht2:=(g15.trans g16).tp ht
    obtain⟨S,tail,bw,rest,B⟩:=c_due (R:=dV) hwy4 (by omega) (by omega) hla5 hi h1 h2 (by decide) dV_ok
    obtain⟨S',tail',bw',rest',B'⟩:=c_due (R:=[]) hwy4 (by omega) (by omega) hla5 hi h1 h2 (by decide) (fun x h=>by cases h)
    refine⟨_,rfl,szL2,fun a4 ha4=>?_⟩
    generalize e17:upd G2 a4 _=G3
    obtain⟨g17,k17⟩:=new_facts e17 ha4
    refine⟨l,a4,_,_,rfl,rfl,SqL.of (g17 _ _ k16'),SqL.of k17,(by rw [List.length_map,List.length_append,List.length_map,sizeLine_eq];show 8 + _ + 2<=_;omega),fun l2 hl2=>?_⟩
    generalize e18:upd G3 l2 _=G4
    obtain⟨g18,k18⟩:=new_facts e18 hl2
    have k18':G4 l2=some (.lst ((cH++(cfs wy (v + 1) la).map (·.1)++dV).map V.str)):=by rw [k18];simp only [List.map_append];rfl
    refine⟨l2,S,tail,rfl,(by rw [B.rows];exact SqL.of k18'),B.wel,B.ne,B.len,B.ok,.inr (.inl ⟨bw,rest,"much",B.e,B.bne,B.bl,B.bok,B.bad,fun t3 G5 g5 ht3=>?_⟩)⟩
    rw [B.n] at ht3
    have g25:=(g17.trans g18).trans g5
    refine⟨_,rfl,t3,t,_,_,rfl,rfl,ht3,g25.tp ht2,rfl,two_eq (fun x hx=>by simp only [List.mem_cons,List.not_mem_nil,or_false] at hx;rcases hx with rfl|rfl <;> rfl),_,rfl,iteP rfl ?_⟩
    refine⟨_,rfl,l,S',tail',rfl,(by rw [B'.rows,List.append_nil];exact SqL.of (g25 _ _ k16')),B'.wel,B'.ne,B'.len,B'.ok,.inr (.inl ⟨bw',rest',"much",B'.e,B'.bne,B'.bl,B'.bok,B'.bad,fun t4 G6 g6 ht4=>?_⟩)⟩
    rw [B'.n] at ht4
    exact⟨_,rfl,t4,t,_,_,rfl,rfl,ht4,(g25.trans g6).tp ht2,rfl,two_eq (fun x hx=>by simp only [List.mem_cons,List.not_mem_nil,or_false] at hx;rcases hx with rfl|rfl <;> rfl),q G6 (DG.keep (g25.trans g6))⟩
 ·refine⟨_,rfl,_,_,rfl,rfl,_,rfl,ite2 (fun c=>?_) (fun c=>?_)⟩
  ·have hl0:¬ la=0:=by have:=of_decide_eq_true c;omega
   refine⟨_,rfl,.inl ⟨rfl,_,SqL.of k12⟩,_,rfl,_,rfl,i_nat (by omega),_,_,rfl,rfl,len_le (Nat.le_trans c3 (by decide)),_,rfl,szL2,fun tu htu=>?_⟩
   generalize e13:upd H12 tu _=H13
   obtain⟨g13,k13⟩:=new_facts e13 htu
   have nfu:tu ≠ fl:=fun z=>by rw [z,k12] at htu;cases htu
   refine⟨fl,_,_,rfl,rfl,g13 _ _ k12,(by show 2 < sizeLine;decide),?_⟩
   generalize e14:upd H13 fl _=H14
   obtain⟨g14,k14⟩:=chg_facts e14
   refine hnx _ _ ⟨[tw,tz,tu],rfl,⟨by obtain⟨x',y',z',e'⟩:=D12.1;exact⟨x',y',z',g14 p _ (Ne.symm nf) (g13 _ _ e')⟩,fun b o h e=>g14 b o (ne_of_none e hf0) (g13 _ _ (D12.2 b o h e))⟩,k14,g14 _ _ nfh (g13 _ _ kh12),?_,fun i a f h1 h2=>?_⟩
   ·unfold cfs;rw [if_neg hl0];rfl
   ·unfold cfs at h2
    rw [if_neg hl0] at h2
    match i,h1,h2 with
    | 0,h1,h2=>cases h1;cases h2;exact g14 _ _ nft (g13 _ _ kt12)
    | 1,h1,h2=>cases h1;cases h2;exact g14 _ _ nfz (g13 _ _ kz12)
    | 2,h1,h2=>cases h1;cases h2;exact g14 _ _ nfu k13
    | i + 3,h1,h2=>cases h1
  ·have hl0:la=0:=Decidable.byContradiction fun h=>c (decide_eq_true (by omega))
   refine hnx _ _ ⟨[tw,tz],rfl,D12,k12,kh12,?_,fun i a f h1 h2=>?_⟩
   ·unfold cfs;rw [if_pos hl0];rfl
   ·unfold cfs at h2
    rw [if_pos hl0] at h2
    match i,h1,h2 with
    | 0,h1,h2=>cases h1;cases h2;exact kt12
    | 1,h1,h2=>cases h1;cases h2;exact kz12
    | i + 2,h1,h2=>cases h1
theorem ok_law_depths_right {k r:Nat} (hR : 18<=r/\8 * r<=200) (F:Fun K "_law_depths_right" "_law_depths_right" s_law_depths_right f fd) {f_law_take:Addr} {fd_law_take:FuncData} (D_law_take:Df K mg "_law_take" f_law_take fd_law_take ["_law_box_here","_law_many"]) (G_law_take:FnOk P w K mg base CX0 k f_law_take fd_law_take ["_law_box_here","_law_many"] spTake) {f_law_told:Addr} {fd_law_told:FuncData} (D_law_told:Df K mg "_law_told" f_law_told fd_law_told ["_law_lines"]) (G_law_told:FnOk P w K mg base CX0 k f_law_told fd_law_told ["_law_lines"] (spTd K)) {f_read_shapes:Addr} {fd_read_shapes:FuncData} (D_read_shapes:Df K mg "read_shapes" f_read_shapes fd_read_shapes ["text"]) (G_read_shapes:FnOk P w K mg base (CXE P w) k f_read_shapes fd_read_shapes ["text"] (spRdX (Cl5.mk Va Vb Vc Vd Ve) Vf C_NoShapes C_NamedTwice C_UnknownShape C_TooMuch K r)) {f_Shapes_main:Addr} {fd_Shapes_main:FuncData} (D_Shapes_main:DfM K Vf "main" f_Shapes_main fd_Shapes_main ["self"]) (G_Shapes_main:FnOk P w K mg base CX0 k f_Shapes_main fd_Shapes_main ["self"] (spMn (Cl5.mk Va Vb Vc Vd Ve) Vf K)) {f_Shape_depth:Addr} {fd_Shape_depth:FuncData} (D_Shape_depth:DfM K Ve "depth" f_Shape_depth fd_Shape_depth ["self"]) (G_Shape_depth:FnOk P w K mg base CX0 k f_Shape_depth fd_Shape_depth ["self"] (spShV (Cl5.mk Va Vb Vc Vd Ve) K r sDp)):FnOk P w K mg base CX0 (k + 2) f fd ["_law_box_here"] spRt:=by
 w_cond sc_law_depths_right
 ·obtain⟨p,rfl,_⟩:=h;rfl
 obtain⟨p,rfl,hst,q⟩:=h
 walk_at "hr"
 refine⟨_,(pss_cons (ps_set (i:=1) sc_law_depths_right.nd rfl (by walk_at "o") (pe_op op_add pe_int (pe_call G_law_take hr rfl D_law_take.m D_law_take.k D_law_take.b .nil pass0 (pa_cons (pv 0) (pa_cons pe_int pa_nil)))))
   (pss_cons (ps_set (i:=2) sc_law_depths_right.nd rfl (by walk_at "o") (pe_lst (pa_cons pe_str (pa_cons pe_str (pa_cons pe_str (pa_cons pe_str pa_nil))))))
   (pss_cons (ps_set (i:=3) sc_law_depths_right.nd rfl (by walk_at "o") pe_str)
   (pss_cons (ps_for PassesOwn.never rfl (pi_range2 rfl M.range (pa_cons pe_int (pa_cons (pv 1) pa_nil))) (pg_name (i:=4) sc_law_depths_right.nd rfl (Or.inl rfl)) (pss_cons (ps_set (i:=5) sc_law_depths_right.nd rfl (by walk_at "o") (pe_op op_add_str pe_str (pe_ix ix_str (pv 3) (pe_op op_sub (pv 4) pe_int) (fun _ _=>rfl))))
   (pss_cons (ps_set (i:=6) sc_law_depths_right.nd rfl (by walk_at "o") (pe_ix ix_list (pe_lst (pa_cons (pv 5) (pa_cons (pe_op op_add_str pe_str (pv 5)) (pa_cons (pe_op op_add_str pe_str (pv 5)) (pa_cons (pe_op op_add_str (pe_op op_add_str pe_str (pv 5)) pe_str) pa_nil))))) (pe_call G_law_take hr rfl D_law_take.m D_law_take.k D_law_take.b .nil pass0 (pa_cons (pv 0) (pa_cons pe_int pa_nil))) (fun _ _=>rfl)))
   (pss_one (ps_set (i:=2) sc_law_depths_right.nd rfl (by walk_at "o") (pe_op op_catS (pv 2) (pe_lst (pa_cons (pe_op op_add_str pe_str (pe_ix ix_str (pv 3) (pv 4) (fun _ _=>rfl))) (pa_cons (pe_op op_add_str pe_str (pv 6)) pa_nil)))))))))
   (pss_cons (ps_if (pt_cmpR op_gt (pv 1) pe_int (nomark _)) (pss_one (ps_ret (pe_cmpR (op_eqT hr.units) (pe_call G_law_told hr rfl D_law_told.m D_law_told.k D_law_told.b .nil pass0 (pa_cons (pv 2) pa_nil)) (pe_tup (pa_cons pe_str (pa_cons pe_int pa_nil))) (nomark _)))) pss_nil)
   (pss_one (ps_ret (pe_and (pe_cmpR op_isN (pe_call G_law_told hr rfl D_law_told.m D_law_told.k D_law_told.b .nil pass0 (pa_cons (pv 2) pa_nil)) pe_non (nomark _)) (pe_one (pe_cmpR op_eq (pe_meth0 (pe_meth0 (pe_call G_read_shapes hr rfl D_read_shapes.m D_read_shapes.k D_read_shapes.b .nil passX (pa_cons (pe_bm PySem.F.plainAttrs_str PySem.F.slot_str_join PySem.F.type_str_join mt_joinT pe_str (pa_cons (pv 2) pa_nil)) pa_nil)) Uf.cl D_Shapes_main.me G_Shapes_main hr D_Shapes_main.b .nil pass0) Ue.cl D_Shape_depth.me G_Shape_depth hr D_Shape_depth.b .nil pass0) (pv 1) (nomark _))))))))))),?_⟩
 refine⟨_,rfl,p,6,rfl,by decide,by decide,hst,fun v H1 hv d1=>⟨_,_,rfl,rfl,?_⟩⟩
 have hv6:v < 6:=by omega
 dsimp only
 rw [show (2:Int) + ((v:Nat):Int)=((v + 2:Nat):Int) by omega]
 refine⟨szL4,fun l0 hl0=>?_⟩
 generalize e2:upd H1 l0 _=H2
 obtain⟨g2,k2⟩:=new_facts e2 hl0
 have np:∀ {l:Addr} {G:Hp},St3 G p->G l=none->l ≠ p:=fun h1 h2 z=>by obtain⟨o,e⟩:=st_ex h1;rw [← z,h2] at e;cases e
 have D2:=d1.keep g2
 refine⟨_,rfl,1,((v + 2:Nat):Int),rfl,⟨by omega,by omega,by omega,by omega⟩,?_⟩
 rw [show (((v + 2:Nat):Int) - 1).toNat=v + 1 by omega]
 refine for_range (n:=v + 1) (fun j σ H'=>∃ (l:Addr) (ws:List Nat) (o4 o5 o6:Option V),σ = [some (.ref p),some (.int (v + 2:Nat)),some (.ref l),some (.str "acdefghij"),o4,o5,o6]/\Drawn p H H'/\l ≠ p/\ws.length=j/\(∀ x ∈ ws,x < 4)/\H' l=some (.lst ((dL ws).map V.str))) ⟨l0,[],_,_,_,rfl,D2,np d1.1 hl0,rfl,(fun x h=>by cases h),k2⟩ (fun j σ H' hj z=>?_) (fun σ H' z=>?_)
 ·obtain⟨l,ws,o4,o5,o6,rfl,DH,nl,hwl,h4,kl⟩:=z
  subst hwl
  have hj6:ws.length < 6:=by omega
  obtain⟨s1,s2⟩:=sg_at9 ⟨ws.length,by omega⟩
  obtain⟨s3,s4⟩:=sg_at9 ⟨ws.length + 1,by omega⟩
  rw [show (1:Int) + ((ws.length:Nat):Int)=((ws.length + 1:Nat):Int) by omega]
  refine⟨_,rfl,_,rfl,_,_,rfl,rfl,?_⟩
  dsimp only
  rw [show ((ws.length + 1:Nat):Int) - 1=((ws.length:Nat):Int) by omega]
  refine⟨_,_,_,rfl,rfl,(by decide +kernel),atI_nat s1,_,_,rfl,rfl,(by rw [sizeLine_eq];show _ + 1<=_;decide +kernel),?_⟩
  rw [s2]
  have ln:(Str.ofString "a" ++ sg ws.length).length<=10:=(dl_ok ⟨ws.length,by omega⟩ ⟨0,by decide⟩).2.2.1
  generalize ean:Str.ofString "a" ++ sg ws.length=an at ln
  refine⟨_,rfl,_,rfl,_,_,rfl,rfl,(by rw [sizeLine_eq];have:(Str.ofString "row 2 ").length=6:=rfl;omega),_,rfl,_,_,rfl,rfl,(by rw [sizeLine_eq];have:(Str.ofString "pick o ").length=7:=rfl;omega),_,rfl,_,_,rfl,rfl,(by rw [sizeLine_eq];have:(Str.ofString "pick ").length=5:=rfl;omega),_,_,rfl,rfl,(by rw [sizeLine_eq,Str.length_append];have:(Str.ofString "pick ").length=5:=rfl;have:(Str.ofString " o").length=2:=rfl;omega),szL4,fun mn hmn=>?_⟩
  generalize e3:upd H' mn _=H3
  obtain⟨g3,k3⟩:=new_facts e3 hmn
  refine⟨_,rfl,p,4,rfl,by decide,by decide,Same.st3 g3 DH.1,fun x H4 hx d4=>?_⟩
  have hx4:x < 4:=by omega
  have kmn:=d4.2 mn _ (np DH.1 hmn) k3
  have hxa:([an,Str.ofString "row 2 " ++ an,Str.ofString "pick o " ++ an,Str.ofString "pick " ++ an++Str.ofString " o"]:List Str)[x]?=some (dkT x an):=by
   match x,hx4 with
   | 0,_=>rfl
   | 1,_=>rfl
   | 2,_=>rfl
   | 3,_=>rfl
   | x + 4,h=>exact absurd h (by omega)
  have ldk:(dkT x an).length<=30:=by rw [← ean];exact (dl_ok ⟨ws.length,by omega⟩ ⟨x,hx4⟩).2.2.2
  refine⟨mn,([an,Str.ofString "row 2 " ++ an,Str.ofString "pick o " ++ an,Str.ofString "pick " ++ an++Str.ofString " o"]:List Str).map V.str,_,_,rfl,rfl,SqL.of kmn,at_str hxa,?_⟩
  refine⟨_,rfl,_,rfl,_,rfl,_,_,_,rfl,rfl,(by decide +kernel),atI_nat s3,_,_,rfl,rfl,(by rw [sizeLine_eq];show _ + 1<=_;decide +kernel),_,rfl,_,_,rfl,rfl,(by rw [sizeLine_eq];have:(Str.ofString "v ").length=2:=rfl;omega),szL2,fun a1 ha1=>?_⟩
  generalize e5:upd H4 a1 _=H5
  obtain⟨g5,k5⟩:=new_facts e5 ha1
  have DH5:=(DH.keep g3).trans d4 |>.keep g5
  refine⟨l,a1,_,_,rfl,rfl,SqL.of (g5 _ _ (d4.2 l _ nl (g3 _ _ kl))),SqL.of k5,(by rw [List.length_map,sizeLine_eq];show (dH++dLf 1 ws).length + 2<=_;rw [List.length_append,dLf_len];show 4 + _ + 2<=_;omega),fun l2 hl2=>?_⟩
  generalize e6:upd H5 l2 _=H6
  obtain⟨g6,k6⟩:=new_facts e6 hl2
  refine⟨l2,ws++[x],_,_,_,rfl,DH5.keep g6,np DH5.1 hl2,(by rw [List.length_append];rfl),(fun y hy=>?_),?_⟩
  ·rcases List.mem_append.mp hy with hy|hy
   ·exact h4 y hy
   ·rw [List.mem_singleton.mp hy];exact hx4
  ·rw [k6,s4,← ean]
   unfold dL
   rw [dLf_snoc,List.map_append,← List.append_assoc,List.map_append,Nat.add_comm 1 ws.length];rfl
 ·obtain⟨l,ws,o4,o5,o6,rfl,DH,nl,hwl,h4,kl⟩:=z
  refine⟨_,rfl,_,_,rfl,rfl,_,rfl,ite2 (fun c=>?_) (fun c=>?_)⟩
  ·have hv3 : 3<=v:=by have:=of_decide_eq_true c;omega
   match ws,hwl,h4,kl with
   | a::b::c'::d::rest,hwl,h4,kl =>
    have hrl:rest.length<=2:=by simp only [List.length_cons] at hwl;omega
    have hd:=d_deep (rest:=rest) (h4 a (by simp)) (h4 b (by simp)) (h4 c' (by simp)) (h4 d (by simp))
    obtain⟨w1,w2,_⟩:=d3_ok ⟨a,h4 a (by simp)⟩ ⟨b,h4 b (by simp)⟩ ⟨c',h4 c' (by simp)⟩
    have hrow:(itms (dS [a,b,c'])).map (rowT (dS [a,b,c']))++dLf 4 (d::rest)=dL (a::b::c'::d::rest):=by
     rw [show (itms (dS [a,b,c'])).map (rowT (dS [a,b,c']))=_ from w2]
     unfold dL
     rw [List.append_assoc]
     exact congrArg (dH ++ ·) (dLf_app 1 [a,b,c'] (d::rest)).symm
    have hn:(itms (dS [a,b,c'])).length=10:=by
     have:=congrArg List.length w2
     rw [List.length_map] at this
     exact this.trans rfl
    refine⟨_,rfl,l,dS [a,b,c'],dLf 4 (d::rest),rfl,(by rw [hrow];exact SqL.of kl),wel_of w1,(fun z=>by unfold dS at z;cases z),(by rw [dLf_len,List.length_cons];omega),dLf_ok 4 (d::rest) (fun x hx=>h4 x (by simp only [List.mem_cons] at hx ⊢;rcases hx with h|h <;> simp [h])) (by rw [List.length_cons];omega),.inr (.inr ⟨_,_,_,_,hd,fun t H8 g8 ht=>?_⟩)⟩
    rw [hn] at ht
    refine⟨szL2,fun t2 ht2=>?_⟩
    generalize e9:upd H8 t2 _=H9
    obtain⟨g9,k9⟩:=new_facts e9 ht2
    exact⟨t,t2,_,_,rfl,rfl,g9.tp ht,SqT.of k9,rfl,two_eq (fun x hx=>by simp only [List.mem_cons,List.not_mem_nil,or_false] at hx;rcases hx with rfl|rfl <;> rfl),q H9 (DH.keep (g8.trans g9))⟩
   | [],hwl,_,_=>exact absurd hwl (by simp only [List.length_nil];omega)
   | [_],hwl,_,_=>exact absurd hwl (by simp only [List.length_cons,List.length_nil];omega)
   | [_,_],hwl,_,_=>exact absurd hwl (by simp only [List.length_cons,List.length_nil];omega)
   | [_,_,_],hwl,_,_=>exact absurd hwl (by simp only [List.length_cons,List.length_nil];omega)
  ·have hv3:v < 3:=Decidable.byContradiction fun h=>c (decide_eq_true (by omega))
   match v,ws,hwl,h4,kl with
   | 0,[a],_,h4,kl =>
    obtain⟨w1,w2,w3⟩:=d1_ok ⟨a,h4 a (by simp)⟩
    have hW:Wel (dS [a]):=wel_of w1
    have hne:(dS [a]) ≠ []:=(fun z=>by unfold dS at z;cases z)
    refine⟨_,rfl,l,dS [a],[],rfl,(by rw [List.append_nil,w2];exact SqL.of kl),hW,hne,Nat.zero_le _,(fun x h=>by cases h),.inl ⟨rfl,fun H8 g8=>⟨rfl,_,rfl,iteP rfl ?_⟩⟩⟩
    refine⟨rfl,_,rfl,_,l,(itms (dS [a])).map (rowT (dS [a]))++[],rfl,rfl,(by rw [List.append_nil,w2];exact SqL.of (g8 _ _ kl)),(by rw [List.append_nil];exact join_bd hW hne),dS [a],[],rfl,hW,hne,hR.1,hR.2,Nat.zero_le _,(fun x h=>by cases h),.inl ⟨rfl,fun a' dx t sa H9 g9 h1 h2 h3=>?_⟩⟩
    obtain⟨sa0,z,dz,tz,sz,rfl,hat,hz⟩:=main_of h3 hne
    refine⟨a',dx,_,rfl,h1,rfl,a',z,sa0,dS [a],rfl,⟨dx,t,h1,h2,h3⟩,?_⟩
    refine⟨z,dz,_,rfl,hz,rfl,z,2,_,dS [a],rfl,hat,(by have:=hR.1;omega),h3,hW.good,fun H10 g10=>?_⟩
    refine⟨_,rfl,rfl,?_⟩
    rw [show sDp 2 (tabs (dS [a]))=2 from w3,decide_eq_true rfl]
    exact q H10 (DH.keep ((g8.trans g9).trans g10))
   | 1,[a,b],_,h4,kl =>
    obtain⟨w1,w2,w3⟩:=d2_ok ⟨a,h4 a (by simp)⟩ ⟨b,h4 b (by simp)⟩
    have hW:Wel (dS [a,b]):=wel_of w1
    have hne:(dS [a,b]) ≠ []:=(fun z=>by unfold dS at z;cases z)
    refine⟨_,rfl,l,dS [a,b],[],rfl,(by rw [List.append_nil,w2];exact SqL.of kl),hW,hne,Nat.zero_le _,(fun x h=>by cases h),.inl ⟨rfl,fun H8 g8=>⟨rfl,_,rfl,iteP rfl ?_⟩⟩⟩
    refine⟨rfl,_,rfl,_,l,(itms (dS [a,b])).map (rowT (dS [a,b]))++[],rfl,rfl,(by rw [List.append_nil,w2];exact SqL.of (g8 _ _ kl)),(by rw [List.append_nil];exact join_bd hW hne),dS [a,b],[],rfl,hW,hne,hR.1,hR.2,Nat.zero_le _,(fun x h=>by cases h),.inl ⟨rfl,fun a' dx t sa H9 g9 h1 h2 h3=>?_⟩⟩
    obtain⟨sa0,z,dz,tz,sz,rfl,hat,hz⟩:=main_of h3 hne
    refine⟨a',dx,_,rfl,h1,rfl,a',z,sa0,dS [a,b],rfl,⟨dx,t,h1,h2,h3⟩,?_⟩
    refine⟨z,dz,_,rfl,hz,rfl,z,3,_,dS [a,b],rfl,hat,(by have:=hR.1;omega),h3,hW.good,fun H10 g10=>?_⟩
    refine⟨_,rfl,rfl,?_⟩
    rw [show sDp 3 (tabs (dS [a,b]))=3 from w3,decide_eq_true rfl]
    exact q H10 (DH.keep ((g8.trans g9).trans g10))
   | 2,[a,b,c'],_,h4,kl =>
    obtain⟨w1,w2,w3⟩:=d3_ok ⟨a,h4 a (by simp)⟩ ⟨b,h4 b (by simp)⟩ ⟨c',h4 c' (by simp)⟩
    have hW:Wel (dS [a,b,c']):=wel_of w1
    have hne:(dS [a,b,c']) ≠ []:=(fun z=>by unfold dS at z;cases z)
    refine⟨_,rfl,l,dS [a,b,c'],[],rfl,(by rw [List.append_nil,w2];exact SqL.of kl),hW,hne,Nat.zero_le _,(fun x h=>by cases h),.inl ⟨rfl,fun H8 g8=>⟨rfl,_,rfl,iteP rfl ?_⟩⟩⟩
    refine⟨rfl,_,rfl,_,l,(itms (dS [a,b,c'])).map (rowT (dS [a,b,c']))++[],rfl,rfl,(by rw [List.append_nil,w2];exact SqL.of (g8 _ _ kl)),(by rw [List.append_nil];exact join_bd hW hne),dS [a,b,c'],[],rfl,hW,hne,hR.1,hR.2,Nat.zero_le _,(fun x h=>by cases h),.inl ⟨rfl,fun a' dx t sa H9 g9 h1 h2 h3=>?_⟩⟩
    obtain⟨sa0,z,dz,tz,sz,rfl,hat,hz⟩:=main_of h3 hne
    refine⟨a',dx,_,rfl,h1,rfl,a',z,sa0,dS [a,b,c'],rfl,⟨dx,t,h1,h2,h3⟩,?_⟩
    refine⟨z,dz,_,rfl,hz,rfl,z,4,_,dS [a,b,c'],rfl,hat,(by have:=hR.1;omega),h3,hW.good,fun H10 g10=>?_⟩
    refine⟨_,rfl,rfl,?_⟩
    rw [show sDp 4 (tabs (dS [a,b,c']))=4 from w3,decide_eq_true rfl]
    exact q H10 (DH.keep ((g8.trans g9).trans g10))
   | 0,[],hwl,_,_=>cases hwl
   | 0,_::_::_,hwl,_,_=>exact absurd hwl (by simp)
   | 1,[],hwl,_,_=>cases hwl
   | 1,[_],hwl,_,_=>cases hwl
   | 1,_::_::_::_,hwl,_,_=>exact absurd hwl (by simp)
   | 2,[],hwl,_,_=>cases hwl
   | 2,[_],hwl,_,_=>cases hwl
   | 2,[_,_],hwl,_,_=>cases hwl
   | 2,_::_::_::_::_,hwl,_,_=>exact absurd hwl (by simp)
   | v + 3,_,_,_,_=>omega
theorem ok_law {k:Nat} (F:Fun K "law" "law" s_law f fd) {f_law_cell:Addr} {fd_law_cell:FuncData} (D_law_cell:Df K mg "_law_cell" f_law_cell fd_law_cell ["_law_script","_law_k"]) (G_law_cell:FnOk P w K mg base CX0 k f_law_cell fd_law_cell ["_law_script","_law_k"] (spCell K)) {f_law_box:Addr} {fd_law_box:FuncData} (D_law_box:Df K mg "_law_box" f_law_box fd_law_box ["_law_cell_here"]) (G_law_box:FnOk P w K mg base CX0 k f_law_box fd_law_box ["_law_cell_here"] spBox) {f_law_shapes_right:Addr} {fd_law_shapes_right:FuncData} (D_law_shapes_right:Df K mg "_law_shapes_right" f_law_shapes_right fd_law_shapes_right ["_law_box_here"]) (G_law_shapes_right:FnOk P w K mg base CX0 k f_law_shapes_right fd_law_shapes_right ["_law_box_here"] spRt) {f_law_fields_right:Addr} {fd_law_fields_right:FuncData} (D_law_fields_right:Df K mg "_law_fields_right" f_law_fields_right fd_law_fields_right ["_law_box_here"]) (G_law_fields_right:FnOk P w K mg base CX0 k f_law_fields_right fd_law_fields_right ["_law_box_here"] spRt) {f_law_cells_right:Addr} {fd_law_cells_right:FuncData} (D_law_cells_right:Df K mg "_law_cells_right" f_law_cells_right fd_law_cells_right ["_law_box_here"]) (G_law_cells_right:FnOk P w K mg base CX0 k f_law_cells_right fd_law_cells_right ["_law_box_here"] spRt) {f_law_units_right:Addr} {fd_law_units_right:FuncData} (D_law_units_right:Df K mg "_law_units_right" f_law_units_right fd_law_units_right ["_law_box_here"]) (G_law_units_right:FnOk P w K mg base CX0 k f_law_units_right fd_law_units_right ["_law_box_here"] spRt) {f_law_depths_right:Addr} {fd_law_depths_right:FuncData} (D_law_depths_right:Df K mg "_law_depths_right" f_law_depths_right fd_law_depths_right ["_law_box_here"]) (G_law_depths_right:FnOk P w K mg base CX0 k f_law_depths_right fd_law_depths_right ["_law_box_here"] spRt):FnOk P w K mg base CX0 (k + 2) f fd ["_law_script"] (spLaw K):=by
 w_cond sc_law
 ·obtain⟨a,ns,rfl,_⟩:=h;rfl
 obtain⟨a,ns,rfl,hS,hlen,q⟩:=h
 walk_at "hr"
 refine⟨_,(pss_cons (ps_for PassesOwn.never rfl (pi_range1 rfl M.range (pa_cons (pe_callB (call_max2 rfl) rfl M.max boot_max (pa_cons pe_int (pa_cons (pe_callB (call_min2 rfl) rfl M.min boot_min (pa_cons (pe_callB call_len_seq rfl M.len PySem.boot_len (pa_cons (pv 0) pa_nil)) (pa_cons pe_int pa_nil))) pa_nil))) pa_nil)) (pg_name (i:=1) sc_law.nd rfl (Or.inl rfl)) (pss_cons (ps_set (i:=2) sc_law.nd rfl (by walk_at "o") (pe_call G_law_box hr rfl D_law_box.m D_law_box.k D_law_box.b .nil pass0 (pa_cons (pe_call G_law_cell hr rfl D_law_cell.m D_law_cell.k D_law_cell.b .nil pass0 (pa_cons (pv 0) (pa_cons (pv 1) pa_nil))) pa_nil)))
   (pss_one (ps_for PassesOwn.never rfl (pi_range1 rfl M.range (pa_cons pe_int pa_nil)) (pg_name (i:=3) sc_law.nd rfl (Or.inl rfl)) (pss_cons (ps_if (PW.pt (pw_or (pt_not (pt_val (pe_call G_law_shapes_right hr rfl D_law_shapes_right.m D_law_shapes_right.k D_law_shapes_right.b .nil pass0 (pa_cons (pv 2) pa_nil)))) (pw_or (pt_not (pt_val (pe_call G_law_fields_right hr rfl D_law_fields_right.m D_law_fields_right.k D_law_fields_right.b .nil pass0 (pa_cons (pv 2) pa_nil)))) (pw_or1 (pt_not (pt_val (pe_call G_law_cells_right hr rfl D_law_cells_right.m D_law_cells_right.k D_law_cells_right.b .nil pass0 (pa_cons (pv 2) pa_nil)))))))) (pss_one (ps_ret pe_bl)) pss_nil)
   (pss_one (ps_if (PW.pt (pw_or (pt_not (pt_val (pe_call G_law_units_right hr rfl D_law_units_right.m D_law_units_right.k D_law_units_right.b .nil pass0 (pa_cons (pv 2) pa_nil)))) (pw_or1 (pt_not (pt_val (pe_call G_law_depths_right hr rfl D_law_depths_right.m D_law_depths_right.k D_law_depths_right.b .nil pass0 (pa_cons (pv 2) pa_nil))))))) (pss_one (ps_ret pe_bl)) pss_nil)))))))
   (pss_one (ps_ret pe_bl))),?_⟩
 have hl:(ns.map V.int).length=ns.length:=List.length_map _
 refine⟨_,rfl,a,_,rfl,.inl hS,_,_,rfl,_,_,rfl,_,rfl,?_,?_,?_⟩
 ·rw [hl];split <;> split <;> omega
 ·rw [hl];split <;> split <;> omega
 refine for_range (fun i σ H'=>∃ o1 o2 o3,σ = [some (.ref a),o1,o2,o3]/\Same H H') ⟨_,_,_,rfl,Same.refl _⟩ (fun i σ H' hi z=>?_) (fun σ H' z=>?_)
 ·obtain⟨o1,o2,o3,rfl,g⟩:=z
  have hi15:i < 15:=by
   refine Nat.lt_of_lt_of_le hi ?_
   rw [hl];split <;> split <;> omega
  refine⟨_,rfl,_,rfl,a,ns,_,rfl,g.seq hS,by omega,by omega,fun v=>⟨v,rfl,fun p H1 hp d1=>?_⟩⟩
  refine⟨3,rfl,by decide,by decide,for_range (n:=3) (fun j σ H2=>∃ o3,σ = [some (.ref a),some (.int (0 + (i:Nat))),some (.ref p),o3]/\Drawn p H1 H2) ⟨_,rfl,Drawn.refl d1.1⟩ (fun j σ H2 hj z=>?_) (fun σ H2 z=>?_)⟩
  ·obtain⟨o3,rfl,d2⟩:=z
   refine⟨_,rfl,p,rfl,d2.1,fun H3 d3=>⟨_,rfl,iteN (by decide) ⟨_,rfl,p,rfl,d3.1,fun H4 d4=>⟨_,rfl,iteN (by decide) ⟨_,rfl,p,rfl,d4.1,fun H5 d5=>⟨_,rfl,iteN (by decide) ?_⟩⟩⟩⟩⟩⟩
   exact⟨_,rfl,p,rfl,d5.1,fun H6 d6=>⟨_,rfl,iteN (by decide) ⟨_,rfl,p,rfl,d6.1,fun H7 d7=>⟨_,rfl,iteN (by decide) ⟨_,rfl,d2.trans (d3.trans (d4.trans (d5.trans (d6.trans d7))))⟩⟩⟩⟩⟩
  ·obtain⟨o3,rfl,d2⟩:=z
   exact⟨_,_,_,rfl,g.trans ((d1.trans d2).same hp)⟩
 ·exact q H'
end
end K13
namespace K13
open PySem L2 PyProof.Rows
set_option hygiene false in
local macro_rules | `(tactic| walk_at "sc") => `(tactic| exact ⟨rfl, rfl, rfl, by decide +kernel, rfl, by decide +kernel, by decide +kernel⟩)
set_option hygiene false in
local macro_rules | `(tactic| walk_at "hr") => `(tactic| have hr := hr0.mono (Nat.le_succ _))
set_option hygiene false in
local macro_rules | `(tactic| walk_at "b1") => `(tactic| exact fun _ _ _ _ _ _ us hl => by obtain ⟨a0, rfl⟩ := ls1 hl; rfl)
set_option hygiene false in
local macro_rules | `(tactic| walk_at "b2") => `(tactic| exact fun _ _ _ _ _ _ us hl => by obtain ⟨a0, a1, rfl⟩ := ls2 hl; rfl)
set_option hygiene false in
local macro_rules | `(tactic| walk_at "b3") => `(tactic| exact fun _ _ _ _ _ _ us hl => by obtain ⟨a0, a1, a2, rfl⟩ := ls3 hl; rfl)
set_option hygiene false in
local macro_rules | `(tactic| walk_at "o") => `(tactic| first | exact Or.inl rfl | exact Or.inr rfl)
set_option hygiene false in
local macro_rules | `(tactic| w_cond $s:ident) => `(tactic| (obtain ⟨M, C, Ua, Ub, Uc, Ud, Ue, Uf, tRE, VI, T_NamedTwice, T_NoShapes, T_TooMuch, T_UnknownShape⟩ := Z; first | refine F.ok $s (fun vs H Q E h => ?_) (fun cdv A outer s0 H vs Q E hr0 h => ?_) | refine F.okE $s (fun vs H Q E h => ?_) (fun cdv A outer s0 H vs Q E hr0 h => ?_)))
theorem ls1 {us:List Value} (h:us.length=1):∃ a0,us=[a0]:=by
 cases us with
 | nil=>cases h
 | cons a0 us =>
  cases us with
  | nil=>exact⟨a0,rfl⟩
  | cons _ us=>simp only [List.length_cons] at h;omega
theorem ls2 {us:List Value} (h:us.length=2):∃ a0 a1,us=[a0,a1]:=by
 cases us with
 | nil=>cases h
 | cons a0 us =>
  cases us with
  | nil=>cases h
  | cons a1 us =>
   cases us with
   | nil=>exact⟨a0,a1,rfl⟩
   | cons _ us=>simp only [List.length_cons] at h;omega
theorem ls3 {us:List Value} (h:us.length=3):∃ a0 a1 a2,us=[a0,a1,a2]:=by
 cases us with
 | nil=>cases h
 | cons a0 us =>
  cases us with
  | nil=>cases h
  | cons a1 us =>
   cases us with
   | nil=>cases h
   | cons a2 us =>
    cases us with
    | nil=>exact⟨a0,a1,a2,rfl⟩
    | cons _ us=>simp only [List.length_cons] at h;omega
theorem mO {P:Program} {w:World} {K:Frag} {mg:Str->Option Value} {base:Heap} {CX:CXT} {j k:Nat} {f:Addr} {fd:FuncData} {ps:List Str} {sp:Sp} (h:FnOk P w K mg base CX j f fd ps sp) (hk:j<=k:=by decide):FnOk P w K mg base CX k f fd ps sp:=FnOk.mono h hk
structure FG (K:Frag) (n:Str) (s:Stmt) (f:Addr):Prop where
 a:nsIn K mainGlobals n=some (some (.ref f))
 l:∃ fd,Fun K n n s f fd
structure FM (K:Frag) (C:Addr) (n q:Str) (s:Stmt) (f:Addr):Prop where
 a:findIn K (.ref C) n=some (some (.ref f))
 i:isFn K (.ref f)=true
 l:∃ fd,Fun K n q s f fd
structure CK (K:Frag) (n:Str) (C:Addr) (as:List Str):Prop where
 g:nsIn K mainGlobals n=some (some (.ref C))
 c:Cls K C
 m:PySem.W.makesIn K C=true
 k:keepIn K (.ref C)=true
 n:∀ a ∈ as,NoAttr K C a
section
variable {K:Frag} {h:Heap} {mg:Str->Option Value} {n q:Str} {s:Stmt} {f C:Addr} {as:List Str}
theorem FG.o (X:K.In h) (G:h.Ns mainGlobals mg) (A:FG K n s f) (ps:List Str) (b:∀ (kV doc pm:Value) (an:Option Addr) (cdv ct:Value) (us:List Value),us.length=ps.length->bindArgs (fnOf n n (defArgs s) (defBody s) (defScope s) .none kV doc pm an cdv ct) ⟨us,[]⟩=pure (ps.zip us)):∃ fd,Fun K n n s f fd/\Df K mg n f fd ps:=A.l.elim fun fd F=>⟨fd,F,mg_of X G A.a,F.kp,F.binds b⟩
theorem FM.o (A:FM K C n q s f) (ps:List Str) (b:∀ (kV doc pm:Value) (an:Option Addr) (cdv ct:Value) (us:List Value),us.length=ps.length->bindArgs (fnOf n q (defArgs s) (defBody s) (defScope s) .none kV doc pm an cdv ct) ⟨us,[]⟩=pure (ps.zip us)):∃ fd,Fun K n q s f fd/\DfM K C n f fd ps:=A.l.elim fun fd F=>⟨fd,F,⟨A.a,A.i,F.kp⟩,F.binds b⟩
theorem FM.j (A:FM K C n q s f) (ps:List Str) (b:∀ (kV doc pm:Value) (an:Option Addr) (cdv ct:Value) (us:List Value),us.length=ps.length->bindArgs (fnOf n q (defArgs s) (defBody s) (defScope s) .none kV doc pm an cdv ct) ⟨us,[]⟩=pure (ps.zip us)):∃ fd,Fun K n q s f fd/\DfI K fd ps:=A.l.elim fun fd F=>⟨fd,F,⟨F.binds b⟩⟩
theorem CK.o (X:K.In h) (G:h.Ns mainGlobals mg) (A:CK K n C as) (I:FM K C "__init__" q s f):TCls K mg n C f as:=⟨mg_of X G A.g,A.c,⟨A.m,I.a,I.i,A.k⟩,A.n⟩
theorem na0:∀ a ∈ ([]:List Str),NoAttr K C a:=fun _ h=>nomatch h
theorem na1 (h:findIn K (.ref C) n=some none) (r:∀ a ∈ as,NoAttr K C a):∀ a ∈ n::as,NoAttr K C a:=fun a m=>(List.mem_cons.mp m).elim (fun e=>e▸h) (r a)
end
set_option autoImplicit true in
set_option relaxedAutoImplicit true in
theorem all_mk {l:PySem.W.OpenLaw} {w:World} {K:Frag} {h:Heap} {mg:Str->Option Value} {fa Va Vb Vc Vd Ve Vf cRE C_NamedTwice C_NoShapes C_TooMuch C_UnknownShape:Addr} (X:K.In h) (G:h.Ns mainGlobals mg) (hfa:mg "law" = some (.ref fa))
   {t1 t2 t3 t4 t5 t6 t7 t8 t9 t10 t11 t12 t13 u0 u1 u2 u3 u4 u5 u6 u7 u8 u9 u10 u11 u12 u13 u14 u15 u16 u17 u18 u19 u20 u21 u22:Tok} {ts:Addr} {odt:Option Addr} {nt:Nat} {slt:Array (Option Value)} {xn0 xq0:Str} {xN0:Addr} {xb0 xs0:List Value} {xl0:List Str} {xa0:Bool} {xc0:Option Bool} {xd0:Option Addr} {x00 x10 x20 x30 x50:Option Value} {xn1 xq1:Str} {xN1:Addr} {xb1 xs1:List Value} {xl1:List Str} {xa1:Bool} {xc1:Option Bool} {xd1:Option Addr} {x01 x11 x21 x31 x51:Option Value} {xn2 xq2:Str} {xN2:Addr} {xb2 xs2:List Value} {xl2:List Str} {xa2:Bool} {xc2:Option Bool} {xd2:Option Addr} {x02 x12 x22 x32 x52:Option Value} {xn3 xq3:Str} {xN3:Addr} {xb3 xs3:List Value} {xl3:List Str} {xa3:Bool} {xc3:Option Bool} {xd3:Option Addr} {x03 x13 x23 x33 x53:Option Value} {xn4 xq4:Str} {xN4:Addr} {xb4 xs4:List Value} {xl4:List Str} {xa4:Bool} {xc4:Option Bool} {xd4:Option Addr} {x04 x14 x24 x34 x54:Option Value}
 (cNum:CK K "Num" Va ["width"])
 (cNested:CK K "Nested" Vb ["shape"])
 (cMany:CK K "Many" Vc ["count","kind"])
 (cPick:CK K "Pick" Vd ["shapes"])
 (cShape:CK K "Shape" Ve ["name","fields"])
 (cShapes:CK K "Shapes" Vf ["shapes"])
  (g_RoomError:nsIn K mainGlobals "RoomError" = some (some (.ref cRE)))
  (g_NamedTwice:nsIn K mainGlobals "NamedTwice" = some (some (.ref C_NamedTwice)))
  (g_NoShapes:nsIn K mainGlobals "NoShapes" = some (some (.ref C_NoShapes)))
  (g_TooMuch:nsIn K mainGlobals "TooMuch" = some (some (.ref C_TooMuch)))
  (g_UnknownShape:nsIn K mainGlobals "UnknownShape" = some (some (.ref C_UnknownShape)))
 (a0:FM K cRE "__init__" "RoomError.__init__" s_RoomError_init f0)
 (a1:FM K C_NoShapes "__init__" "NoShapes.__init__" s_NoShapes_init f1)
 (a2:FM K C_UnknownShape "__init__" "UnknownShape.__init__" s_UnknownShape_init f2)
 (a3:FM K C_NamedTwice "__init__" "NamedTwice.__init__" s_NamedTwice_init f3)
 (a4:FM K C_TooMuch "__init__" "TooMuch.__init__" s_TooMuch_init f4)
 (a5:FG K "is_name" s_is_name f5)
 (a6:FG K "is_text_of" s_is_text_of f6)
 (a7:FG K "number_in" s_number_in f7)
 (a8:FG K "joined" s_joined f8)
 (a9:FM K Vb "units_at" "Kind.units_at" s_Kind_units_at f9)
 (a10:FM K Va "__init__" "Num.__init__" s_Num_init f10)
 (a11:FM K Va "size" "Num.size" s_Num_size f11)
 (a12:FM K Va "depth" "Num.depth" s_Num_depth f12)
 (a13:FM K Va "units_at" "Num.units_at" s_Num_units_at f13)
 (a14:FM K Vb "__init__" "Nested.__init__" s_Nested_init f14)
 (a15:FM K Vb "size" "Nested.size" s_Nested_size f15)
 (a16:FM K Vb "depth" "Nested.depth" s_Nested_depth f16)
 (a17:FM K Vb "parted" "Nested.parted" s_Nested_parted f17)
 (a18:FM K Vc "__init__" "Many.__init__" s_Many_init f18)
 (a19:FM K Vc "size" "Many.size" s_Many_size f19)
 (a20:FM K Vc "depth" "Many.depth" s_Many_depth f20)
 (a21:FM K Vc "parted" "Many.parted" s_Many_parted f21)
 (a22:FM K Vd "__init__" "Pick.__init__" s_Pick_init f22)
 (a23:FM K Vd "size" "Pick.size" s_Pick_size f23)
 (a24:FM K Vd "greatest" "Pick.greatest" s_Pick_greatest f24)
 (a25:FM K Vd "depth" "Pick.depth" s_Pick_depth f25)
 (a26:FM K Vd "units_at" "Pick.units_at" s_Pick_units_at f26)
 (a27:FM K Ve "__init__" "Shape.__init__" s_Shape_init f27)
 (a28:FM K Ve "size" "Shape.size" s_Shape_size f28)
 (a29:FM K Ve "depth" "Shape.depth" s_Shape_depth f29)
 (a30:FM K Ve "units" "Shape.units" s_Shape_units f30)
 (a31:FM K Vf "__init__" "Shapes.__init__" s_Shapes_init f31)
 (a32:FM K Vf "main" "Shapes.main" s_Shapes_main f32)
 (a33:FG K "read_shapes" s_read_shapes f33)
 (a34:FG K "is_shape_line" s_is_shape_line f34)
 (a35:FG K "is_field_line" s_is_field_line f35)
 (a36:FG K "is_kind" s_is_kind f36)
 (a37:FG K "is_single" s_is_single f37)
 (a38:FG K "need_new_shape" s_need_new_shape f38)
 (a39:FG K "need_field" s_need_field f39)
 (a40:FG K "shapes_named" s_shapes_named f40)
 (a41:FG K "whole_shapes" s_whole_shapes f41)
 (a42:FG K "with_field" s_with_field f42)
 (a43:FG K "kind_in" s_kind_in f43)
 (a44:FG K "is_too_much" s_is_too_much f44)
 (a45:FG K "_law_cell" s_law_cell f45)
 (a46:FG K "_law_box" s_law_box f46)
 (a47:FG K "_law_take" s_law_take f47)
 (a48:FG K "_law_told" s_law_told f48)
 (a49:FG K "_law_shapes_right" s_law_shapes_right f49)
 (a50:FG K "_law_fields_right" s_law_fields_right f50)
 (a51:FG K "_law_cells_right" s_law_cells_right f51)
 (a52:FG K "_law_units_right" s_law_units_right f52)
 (a53:FG K "_law_depths_right" s_law_depths_right f53)
 (a54:FG K "law" s_law f54)
  (xo_RoomError:K.lookup cRE=some (xcls xn0 xq0 cRE xN0 xb0 VB true xl0 xs0 xa0 xc0 xd0 x00 x10 x20 x30 x50))
  (xk_RoomError:keepIn K (.ref cRE)=true)
  (xr:PySem.W.readsIn K cRE (.type "type")=true)
  (xf:PySem.W.findCls K (.ref cRE) (.type "type") "__init__" = some (.val (.ref f0)))
  (xp:PySem.W.specialIn K (.ref cRE) "__getattribute__" = some (some (.builtin "type.__getattribute__")))
  (xo_NamedTwice:K.lookup C_NamedTwice=some (xcls xn1 xq1 C_NamedTwice xN1 xb1 (.ref cRE::VB) true xl1 xs1 xa1 xc1 xd1 x01 x11 x21 x31 x51))
  (xk_NamedTwice:keepIn K (.ref C_NamedTwice)=true)
  (xn_NamedTwice:PySem.W.nsOkIn K xN1=true)
  (xi_NamedTwice:nsIn K xN1 "__init__" = some (some (.ref f3)))
  (xs_NamedTwice:findIn K (.ref C_NamedTwice) "__setattr__" = some (some (.builtin "object.__setattr__")))
  (xg_NamedTwice:findIn K (.ref C_NamedTwice) "__getattribute__" = some (some (.builtin "BaseException.__getattribute__")))
  (xh_NamedTwice:findIn K (.ref C_NamedTwice) "__getattr__" = some none)
  (n_NamedTwice_line:findIn K (.ref C_NamedTwice) "line" = some none)
  (n_NamedTwice_name:findIn K (.ref C_NamedTwice) "name" = some none)
  (xo_NoShapes:K.lookup C_NoShapes=some (xcls xn2 xq2 C_NoShapes xN2 xb2 (.ref cRE::VB) true xl2 xs2 xa2 xc2 xd2 x02 x12 x22 x32 x52))
  (xk_NoShapes:keepIn K (.ref C_NoShapes)=true)
  (xn_NoShapes:PySem.W.nsOkIn K xN2=true)
  (xi_NoShapes:nsIn K xN2 "__init__" = some (some (.ref f1)))
  (xs_NoShapes:findIn K (.ref C_NoShapes) "__setattr__" = some (some (.builtin "object.__setattr__")))
  (xg_NoShapes:findIn K (.ref C_NoShapes) "__getattribute__" = some (some (.builtin "BaseException.__getattribute__")))
  (xh_NoShapes:findIn K (.ref C_NoShapes) "__getattr__" = some none)
  (n_NoShapes_line:findIn K (.ref C_NoShapes) "line" = some none)
  (xo_TooMuch:K.lookup C_TooMuch=some (xcls xn3 xq3 C_TooMuch xN3 xb3 (.ref cRE::VB) true xl3 xs3 xa3 xc3 xd3 x03 x13 x23 x33 x53))
  (xk_TooMuch:keepIn K (.ref C_TooMuch)=true)
  (xn_TooMuch:PySem.W.nsOkIn K xN3=true)
  (xi_TooMuch:nsIn K xN3 "__init__" = some (some (.ref f4)))
  (xs_TooMuch:findIn K (.ref C_TooMuch) "__setattr__" = some (some (.builtin "object.__setattr__")))
  (xg_TooMuch:findIn K (.ref C_TooMuch) "__getattribute__" = some (some (.builtin "BaseException.__getattribute__")))
  (xh_TooMuch:findIn K (.ref C_TooMuch) "__getattr__" = some none)
  (n_TooMuch_line:findIn K (.ref C_TooMuch) "line" = some none)
  (xo_UnknownShape:K.lookup C_UnknownShape=some (xcls xn4 xq4 C_UnknownShape xN4 xb4 (.ref cRE::VB) true xl4 xs4 xa4 xc4 xd4 x04 x14 x24 x34 x54))
  (xk_UnknownShape:keepIn K (.ref C_UnknownShape)=true)
  (xn_UnknownShape:PySem.W.nsOkIn K xN4=true)
  (xi_UnknownShape:nsIn K xN4 "__init__" = some (some (.ref f2)))
  (xs_UnknownShape:findIn K (.ref C_UnknownShape) "__setattr__" = some (some (.builtin "object.__setattr__")))
  (xg_UnknownShape:findIn K (.ref C_UnknownShape) "__getattribute__" = some (some (.builtin "BaseException.__getattribute__")))
  (xh_UnknownShape:findIn K (.ref C_UnknownShape) "__getattr__" = some none)
  (n_UnknownShape_line:findIn K (.ref C_UnknownShape) "line" = some none)
  (n_UnknownShape_name:findIn K (.ref C_UnknownShape) "name" = some none)
  (vi1:findIn K (.type "type") "__getattribute__" = some (some (.builtin "type.__getattribute__")))
  (vi2:PySem.W.subIn K (.type "type") (.type "type")=some true)
  (vi3:PySem.W.findCls K (.type "ValueError") (.type "type") "__init__" = some (.val (.builtin "ValueError.__init__")))
  (z0:nsIn K mainGlobals "range" = some none)
  (z1:nsIn K mainGlobals "len" = some none)
  (z2:nsIn K mainGlobals "isinstance" = some none)
  (z3:nsIn K mainGlobals "int" = some none)
  (z4:nsIn K mainGlobals "bool" = some none)
  (z5:nsIn K mainGlobals "list" = some none)
  (z6:nsIn K mainGlobals "all" = some none)
  (z7:nsIn K mainGlobals "max" = some none)
  (z8:nsIn K mainGlobals "min" = some none)
  (z9:nsIn K mainGlobals "reversed" = some none)
  (z10:nsIn K mainGlobals "tuple" = some none)
  (z11:nsIn K mainGlobals "divmod" = some none)
  (z12:nsIn K mainGlobals "str" = some none)
  (z13:nsIn K mainGlobals "sum" = some none)
  (z14:nsIn K mainGlobals "zip" = some none)
  (z15:nsIn K mainGlobals "enumerate" = some none)
  (z16:nsIn K mainGlobals "dict" = some none)
  (z17:nsIn K mainGlobals "ValueError" = some none)
  (z18:nsIn K mainGlobals "repr" = some none)
  (v1:nsIn K mainGlobals "SMALL_LETTERS" = some (some (.str "abcdefghijklmnopqrstuvwxyz" t1))) (v2:nsIn K mainGlobals "FIGURES" = some (some (.str "0123456789" t2))) (v3:nsIn K mainGlobals "MOST_LETTERS" = some (some (.int 6 t3))) (v4:nsIn K mainGlobals "MOST_FIGURES" = some (some (.int 10 t4))) (v5:nsIn K mainGlobals "MOST_SHAPES" = some (some (.int 8 t5))) (v6:nsIn K mainGlobals "MOST_FIELDS" = some (some (.int 6 t6))) (v7:nsIn K mainGlobals "MOST_CELLS" = some (some (.int 64 t7))) (v8:nsIn K mainGlobals "MOST_UNITS" = some (some (.int 40 t8))) (v9:nsIn K mainGlobals "MOST_DEPTH" = some (some (.int 4 t9))) (v10:nsIn K mainGlobals "MOST_WIDTH" = some (some (.int 4 t10))) (v11:nsIn K mainGlobals "MOST_COUNT" = some (some (.int 6 t11))) (v12:nsIn K mainGlobals "LEAST_PICKED" = some (some (.int 2 t12))) (v13:nsIn K mainGlobals "MOST_PICKED" = some (some (.int 4 t13)))
  (w1:nsIn K mainGlobals "OWN_WORDS" = some (some (.ref ts))) (w2:K.lookup ts=some ⟨.type "tuple",odt,.seq #[.str "shape" u0,.str "num" u1,.str "row" u2,.str "pick" u3,.str "tag" u4,.str "room" u5,.str "things" u6,.str "part" u7,.str "tags" u8,.str "put" u9,.str "take" u10,.str "many" u11,.str "look" u12,.str "which" u13,.str "store" u14,.str "choose" u15,.str "copy" u16,.str "each" u17,.str "span" u18,.str "if" u19,.str "else" u20,.str "end" u21,.str "out" u22] nt,slt⟩)
  (w3:findIn K (.ref Vc) "units_at" = some (some (.ref f9)))
  (q1:PySem.W.specialIn K (.builtin "object.__class__") "__get__" = some (some (.builtin "getset_descriptor.__get__"))) (q2:PySem.W.takesIn K (.builtin "object.__class__")=some true)
  (qaf:findIn K (.ref C_NoShapes) "__class__" = some (some (.builtin "object.__class__"))) (qbf:PySem.W.mroIn K C_NoShapes (.type "object")=some true)
  (qat:findIn K (.ref C_NamedTwice) "__class__" = some (some (.builtin "object.__class__"))) (qbt:PySem.W.mroIn K C_NamedTwice (.type "object")=some true)
  (qau:findIn K (.ref C_UnknownShape) "__class__" = some (some (.builtin "object.__class__"))) (qbu:PySem.W.mroIn K C_UnknownShape (.type "object")=some true)
  (qam:findIn K (.ref C_TooMuch) "__class__" = some (some (.builtin "object.__class__"))) (qbm:PySem.W.mroIn K C_TooMuch (.type "object")=some true)
  (qnmf:PySem.W.kin_not K C_TooMuch C_NoShapes=true)
  (qnmu:PySem.W.kin_not K C_TooMuch C_UnknownShape=true)
  (qnmt:PySem.W.kin_not K C_TooMuch C_NamedTwice=true)
  (qnfm:PySem.W.kin_not K C_NoShapes C_TooMuch=true)
  (qnfu:PySem.W.kin_not K C_NoShapes C_UnknownShape=true)
  (qnft:PySem.W.kin_not K C_NoShapes C_NamedTwice=true)
  (qnum:PySem.W.kin_not K C_UnknownShape C_TooMuch=true)
  (qnuf:PySem.W.kin_not K C_UnknownShape C_NoShapes=true)
  (qnut:PySem.W.kin_not K C_UnknownShape C_NamedTwice=true)
  (qntm:PySem.W.kin_not K C_NamedTwice C_TooMuch=true)
  (qntf:PySem.W.kin_not K C_NamedTwice C_NoShapes=true)
  (qntu:PySem.W.kin_not K C_NamedTwice C_UnknownShape=true) :
  ∃ fd:FuncData,(∀ (s:Shared) (v:Value),BindsTo s fd ⟨[v],[]⟩ [("_law_script",v)])/\∀ base:Heap,K.In base->base.Ns mainGlobals mg->FnOk l.prog w K mg base CX0 126 fa fd ["_law_script"] (spLaw K):=by
 have e:=hfa.symm.trans (mg_of X G a54.a)
 cases e
 obtain⟨d54,F54⟩:=a54.l
 obtain⟨d0,F0,D0⟩:=a0.j ["self","words"] (by walk_at "b2")
 obtain⟨d1,F1,D1⟩:=a1.j ["self","line"] (by walk_at "b2")
 obtain⟨d2,F2,D2⟩:=a2.j ["self","line","name"] (by walk_at "b3")
 obtain⟨d3,F3,D3⟩:=a3.j ["self","line","name"] (by walk_at "b3")
 obtain⟨d4,F4,D4⟩:=a4.j ["self","line"] (by walk_at "b2")
 obtain⟨d5,F5,D5⟩:=a5.o X G ["thing"] (by walk_at "b1")
 obtain⟨d6,F6,D6⟩:=a6.o X G ["thing","signs","most"] (by walk_at "b3")
 obtain⟨d7,F7,D7⟩:=a7.o X G ["text","low","high"] (by walk_at "b3")
 obtain⟨d8,F8,D8⟩:=a8.o X G ["path","step"] (by walk_at "b2")
 obtain⟨d9,F9,D9⟩:=a9.o ["self","path"] (by walk_at "b2")
 obtain⟨d10,F10,D10⟩:=a10.j ["self","width"] (by walk_at "b2")
 obtain⟨d11,F11,D11⟩:=a11.o ["self"] (by walk_at "b1")
 obtain⟨d12,F12,D12⟩:=a12.o ["self"] (by walk_at "b1")
 obtain⟨d13,F13,D13⟩:=a13.o ["self","path"] (by walk_at "b2")
 obtain⟨d14,F14,D14⟩:=a14.j ["self","shape"] (by walk_at "b2")
 obtain⟨d15,F15,D15⟩:=a15.o ["self"] (by walk_at "b1")
 obtain⟨d16,F16,D16⟩:=a16.o ["self"] (by walk_at "b1")
 obtain⟨d17,F17,D17⟩:=a17.o ["self"] (by walk_at "b1")
 obtain⟨d18,F18,D18⟩:=a18.j ["self","count","kind"] (by walk_at "b3")
 obtain⟨d19,F19,D19⟩:=a19.o ["self"] (by walk_at "b1")
 obtain⟨d20,F20,D20⟩:=a20.o ["self"] (by walk_at "b1")
 obtain⟨d21,F21,D21⟩:=a21.o ["self"] (by walk_at "b1")
 obtain⟨d22,F22,D22⟩:=a22.j ["self","shapes"] (by walk_at "b2")
 obtain⟨d23,F23,D23⟩:=a23.o ["self"] (by walk_at "b1")
 obtain⟨d24,F24,D24⟩:=a24.o ["self"] (by walk_at "b1")
 obtain⟨d25,F25,D25⟩:=a25.o ["self"] (by walk_at "b1")
 obtain⟨d26,F26,D26⟩:=a26.o ["self","path"] (by walk_at "b2")
 obtain⟨d27,F27,D27⟩:=a27.j ["self","name","fields"] (by walk_at "b3")
 obtain⟨d28,F28,D28⟩:=a28.o ["self"] (by walk_at "b1")
 obtain⟨d29,F29,D29⟩:=a29.o ["self"] (by walk_at "b1")
 obtain⟨d30,F30,D30⟩:=a30.o ["self"] (by walk_at "b1")
 obtain⟨d31,F31,D31⟩:=a31.j ["self","shapes"] (by walk_at "b2")
 obtain⟨d32,F32,D32⟩:=a32.o ["self"] (by walk_at "b1")
 obtain⟨d33,F33,D33⟩:=a33.o X G ["text"] (by walk_at "b1")
 obtain⟨d34,F34,D34⟩:=a34.o X G ["words"] (by walk_at "b1")
 obtain⟨d35,F35,D35⟩:=a35.o X G ["words"] (by walk_at "b1")
 obtain⟨d36,F36,D36⟩:=a36.o X G ["words"] (by walk_at "b1")
 obtain⟨d37,F37,D37⟩:=a37.o X G ["words"] (by walk_at "b1")
 obtain⟨d38,F38,D38⟩:=a38.o X G ["told","line","name"] (by walk_at "b3")
 obtain⟨d39,F39,D39⟩:=a39.o X G ["told","line","words"] (by walk_at "b3")
 obtain⟨d40,F40,D40⟩:=a40.o X G ["words"] (by walk_at "b1")
 obtain⟨d41,F41,D41⟩:=a41.o X G ["told"] (by walk_at "b1")
 obtain⟨d42,F42,D42⟩:=a42.o X G ["told","line","words"] (by walk_at "b3")
 obtain⟨d43,F43,D43⟩:=a43.o X G ["words","shapes"] (by walk_at "b2")
 obtain⟨d44,F44,D44⟩:=a44.o X G ["shape"] (by walk_at "b1")
 obtain⟨d45,F45,D45⟩:=a45.o X G ["_law_script","_law_k"] (by walk_at "b2")
 obtain⟨d46,F46,D46⟩:=a46.o X G ["_law_cell_here"] (by walk_at "b1")
 obtain⟨d47,F47,D47⟩:=a47.o X G ["_law_box_here","_law_many"] (by walk_at "b2")
 obtain⟨d48,F48,D48⟩:=a48.o X G ["_law_lines"] (by walk_at "b1")
 obtain⟨d49,F49,D49⟩:=a49.o X G ["_law_box_here"] (by walk_at "b1")
 obtain⟨d50,F50,D50⟩:=a50.o X G ["_law_box_here"] (by walk_at "b1")
 obtain⟨d51,F51,D51⟩:=a51.o X G ["_law_box_here"] (by walk_at "b1")
 obtain⟨d52,F52,D52⟩:=a52.o X G ["_law_box_here"] (by walk_at "b1")
 obtain⟨d53,F53,D53⟩:=a53.o X G ["_law_box_here"] (by walk_at "b1")
 have Ua:=cNum.o X G a10
 have Ub:=cNested.o X G a14
 have Uc:=cMany.o X G a18
 have Ud:=cPick.o X G a22
 have Ue:=cShape.o X G a27
 have Uf:=cShapes.o X G a31
 have tRE:TXB K mg cRE f0:=⟨mg_of X G g_RoomError,⟨xr,xf,xp,F0.kp⟩,⟨⟨_,_,_,_,_,_,_,_,_,_,_,_,_,_,_,_,xo_RoomError⟩,rfl⟩⟩
 have VI:VInit K:=⟨vi1,vi2,vi3⟩
 have T_NamedTwice:TX K mg "NamedTwice" C_NamedTwice cRE f3 ["line","name"]:=⟨mg_of X G g_NamedTwice,⟨⟨_,_,_,_,_,_,_,_,_,_,_,_,_,_,xo_NamedTwice,xn_NamedTwice,xi_NamedTwice⟩,a3.i,xk_NamedTwice,xs_NamedTwice,xg_NamedTwice,xh_NamedTwice⟩,⟨⟨_,_,_,_,_,_,_,_,_,_,_,_,_,_,_,_,xo_NamedTwice⟩,rfl⟩,fun a ha=>by
   simp only [List.mem_cons,List.not_mem_nil,or_false] at ha
   rcases ha with rfl|rfl
   ·exact n_NamedTwice_line
   ·exact n_NamedTwice_name⟩
 have T_NoShapes:TX K mg "NoShapes" C_NoShapes cRE f1 ["line"]:=⟨mg_of X G g_NoShapes,⟨⟨_,_,_,_,_,_,_,_,_,_,_,_,_,_,xo_NoShapes,xn_NoShapes,xi_NoShapes⟩,a1.i,xk_NoShapes,xs_NoShapes,xg_NoShapes,xh_NoShapes⟩,⟨⟨_,_,_,_,_,_,_,_,_,_,_,_,_,_,_,_,xo_NoShapes⟩,rfl⟩,fun a ha=>by
   rw [List.mem_singleton.mp ha];exact n_NoShapes_line⟩
 have T_TooMuch:TX K mg "TooMuch" C_TooMuch cRE f4 ["line"]:=⟨mg_of X G g_TooMuch,⟨⟨_,_,_,_,_,_,_,_,_,_,_,_,_,_,xo_TooMuch,xn_TooMuch,xi_TooMuch⟩,a4.i,xk_TooMuch,xs_TooMuch,xg_TooMuch,xh_TooMuch⟩,⟨⟨_,_,_,_,_,_,_,_,_,_,_,_,_,_,_,_,xo_TooMuch⟩,rfl⟩,fun a ha=>by
   rw [List.mem_singleton.mp ha];exact n_TooMuch_line⟩
 have T_UnknownShape:TX K mg "UnknownShape" C_UnknownShape cRE f2 ["line","name"]:=⟨mg_of X G g_UnknownShape,⟨⟨_,_,_,_,_,_,_,_,_,_,_,_,_,_,xo_UnknownShape,xn_UnknownShape,xi_UnknownShape⟩,a2.i,xk_UnknownShape,xs_UnknownShape,xg_UnknownShape,xh_UnknownShape⟩,⟨⟨_,_,_,_,_,_,_,_,_,_,_,_,_,_,_,_,xo_UnknownShape⟩,rfl⟩,fun a ha=>by
   simp only [List.mem_cons,List.not_mem_nil,or_false] at ha
   rcases ha with rfl|rfl
   ·exact n_UnknownShape_line
   ·exact n_UnknownShape_name⟩
 have M:Blt mg:=⟨mg_none_of X G z0,mg_none_of X G z1,mg_none_of X G z2,mg_none_of X G z3,mg_none_of X G z4,mg_none_of X G z5,mg_none_of X G z6,mg_none_of X G z7,mg_none_of X G z8,mg_none_of X G z9,mg_none_of X G z10,mg_none_of X G z11,mg_none_of X G z12,mg_none_of X G z13,mg_none_of X G z14,mg_none_of X G z15,mg_none_of X G z16,mg_none_of X G z17,mg_none_of X G z18⟩
 have C:Cst K mg t1 t2 t3 t4 t5 t6 t7 t8 t9 t10 t11 t12 t13 ts:=⟨mg_of X G v1,mg_of X G v2,mg_of X G v3,mg_of X G v4,mg_of X G v5,mg_of X G v6,mg_of X G v7,mg_of X G v8,mg_of X G v9,mg_of X G v10,mg_of X G v11,mg_of X G v12,mg_of X G v13,mg_of X G w1,fun H=>.inr ⟨_,_,_,w2,rfl,rfl,(by show 23<=sizeLine;decide),(.cons ⟨_,rfl⟩ (.cons ⟨_,rfl⟩ (.cons ⟨_,rfl⟩ (.cons ⟨_,rfl⟩ (.cons ⟨_,rfl⟩ (.cons ⟨_,rfl⟩ (.cons ⟨_,rfl⟩ (.cons ⟨_,rfl⟩ (.cons ⟨_,rfl⟩ (.cons ⟨_,rfl⟩ (.cons ⟨_,rfl⟩ (.cons ⟨_,rfl⟩ (.cons ⟨_,rfl⟩ (.cons ⟨_,rfl⟩ (.cons ⟨_,rfl⟩ (.cons ⟨_,rfl⟩ (.cons ⟨_,rfl⟩ (.cons ⟨_,rfl⟩ (.cons ⟨_,rfl⟩ (.cons ⟨_,rfl⟩ (.cons ⟨_,rfl⟩ (.cons ⟨_,rfl⟩ (.cons ⟨_,rfl⟩ .nil)))))))))))))))))))))))⟩⟩
 have XN:XN4 K C_NoShapes C_NamedTwice C_UnknownShape C_TooMuch:=⟨⟨qam,q1,q2,qbm,qnmf⟩,⟨qam,q1,q2,qbm,qnmu⟩,⟨qam,q1,q2,qbm,qnmt⟩,⟨qaf,q1,q2,qbf,qnfm⟩,⟨qaf,q1,q2,qbf,qnfu⟩,⟨qaf,q1,q2,qbf,qnft⟩,⟨qau,q1,q2,qbu,qnum⟩,⟨qau,q1,q2,qbu,qnuf⟩,⟨qau,q1,q2,qbu,qnut⟩,⟨qat,q1,q2,qbt,qntm⟩,⟨qat,q1,q2,qbt,qntf⟩,⟨qat,q1,q2,qbt,qntu⟩⟩
 have Z:=ZZ.mk M C Ua Ub Uc Ud Ue Uf tRE VI T_NamedTwice T_NoShapes T_TooMuch T_UnknownShape
 refine⟨d54,fun s v=>(F54.ex.elim fun _ ⟨_,_,_,_,_,_,_,_,e,_⟩=>e▸.of_eq rfl),fun base _ _=>?_⟩
 have G6:=(ok_is_text_of l.prog w base (k:=0) Z F6 )
 have G5:=(ok_is_name l.prog w base (k:=2) Z F5 D6 (mO G6))
 have G7:=(ok_number_in l.prog w base (k:=2) Z F7 D6 (mO G6))
 have G8:=(ok_joined l.prog w base (k:=0) Z F8 )
 have G46:=(ok_law_box l.prog w base (k:=0) Z F46 )
 have G47:=(ok_law_take l.prog w base (k:=0) Z F47 )
 have G45:=(ok_law_cell l.prog w base (k:=0) Z F45 )
 have G34:=(ok_is_shape_line l.prog w base (k:=4) Z F34 D5 (mO G5))
 have G37:=(ok_is_single l.prog w base (k:=4) Z F37 D7 (mO G7) D5 (mO G5))
 have G36:=(ok_is_kind l.prog w base (k:=6) Z F36 D7 (mO G7) D37 (mO G37) D5 (mO G5))
 have G35:=(ok_is_field_line l.prog w base (k:=8) Z F35 D5 (mO G5) D36 (mO G36))
 have G40:=(ok_shapes_named l.prog w base (k:=4) Z F40 D5 (mO G5))
 have G0:=(ok_RoomError_init l.prog w base (k:=0) Z F0 )
 have G1:=(ok_NoShapes_init l.prog w base (k:=2) Z F1 D0 (mO G0))
 have G3:=(ok_NamedTwice_init l.prog w base (k:=2) Z F3 D0 (mO G0))
 have G2:=(ok_UnknownShape_init l.prog w base (k:=2) Z F2 D0 (mO G0))
 have G4:=(ok_TooMuch_init l.prog w base (k:=2) Z F4 D0 (mO G0))
 have G38:=(ok_need_new_shape l.prog w base (k:=4) Z F38 D1 (mO G1) D3 (mO G3) D4 (mO G4))
 have G41:=(ok_whole_shapes l.prog w base (k:=0) Z F41 )
 have G39:=(ok_need_field l.prog w base (k:=10) Z F39 D35 (mO G35) D40 (mO G40) D41 (mO G41) D1 (mO G1) D3 (mO G3) D2 (mO G2))
 have G10:=(ok_Num_init l.prog w base (k:=0) Z F10 )
 have G14:=(ok_Nested_init l.prog w base (k:=0) Z F14 )
 have G18:=(ok_Many_init l.prog w base (k:=0) Z F18 )
 have G22:=(ok_Pick_init l.prog w base (k:=0) Z F22 )
 have G31:=(ok_Shapes_init l.prog w base (k:=0) Z F31 )
 have G27:=(ok_Shape_init l.prog w base (k:=0) Z F27 )
 have G32:=(ok_Shapes_main l.prog w base (k:=0) Z F32 )
 have t_size:∀ r C sp,TV (Cl5.mk Va Vb Vc Vd Ve) K r vSz C sp->VRow l.prog w K mg base CX0 (6 * r + 4) "size" C sp:=by
  intro r
  induction r with
  | zero =>
   rintro C' sp (⟨rfl,rfl⟩|⟨rfl,rfl⟩|⟨rfl,rfl⟩|⟨rfl,rfl⟩)
   ·exact⟨Ua.cl,_,_,_,D11.me,FnOk.mono (ok_Num_size l.prog w base (k:=0) (r:=0) Z F11 ) (by omega),D11.b⟩
   ·exact⟨Ub.cl,_,_,_,D15.me,noFn (noV nn1),D15.b⟩
   ·exact⟨Uc.cl,_,_,_,D19.me,noFn (noV nn2),D19.b⟩
   ·exact⟨Ud.cl,_,_,_,D23.me,noFn (noV nn3),D23.b⟩
  | succ r ih =>
   have gS:=(ok_Shape_size l.prog w base (k:=6 * r + 4) (r:=r) Z F28 ih)
   have gG:=(ok_Pick_greatest l.prog w base (k:=6 * r + 6) (r:=r) Z F24 D28 gS)
   rintro C' sp (⟨rfl,rfl⟩|⟨rfl,rfl⟩|⟨rfl,rfl⟩|⟨rfl,rfl⟩)
   ·exact⟨Ua.cl,_,_,_,D11.me,FnOk.mono (ok_Num_size l.prog w base (k:=0) (r:=r + 1) Z F11 ) (by omega),D11.b⟩
   ·exact⟨Ub.cl,_,_,_,D15.me,FnOk.mono (ok_Nested_size l.prog w base (k:=6 * r + 6) (r:=r) Z F15 D28 gS) (by omega),D15.b⟩
   ·exact⟨Uc.cl,_,_,_,D19.me,FnOk.mono (ok_Many_size l.prog w base (k:=6 * r + 4) (r:=r) Z F19 ih) (by omega),D19.b⟩
   ·exact⟨Ud.cl,_,_,_,D23.me,FnOk.mono (ok_Pick_size l.prog w base (k:=6 * r + 8) (r:=r) Z F23 D24 gG) (by omega),D23.b⟩
 have s_size:=fun r=>(ok_Shape_size l.prog w base (k:=6 * r + 4) (r:=r) Z F28 (t_size r))
 have s_gr:=fun r=>(ok_Pick_greatest l.prog w base (k:=6 * r + 6) (r:=r) Z F24 D28 (s_size r))
 have t_depth:∀ r C sp,TV (Cl5.mk Va Vb Vc Vd Ve) K r vDp C sp->VRow l.prog w K mg base CX0 (6 * r + 4) "depth" C sp:=by
  intro r
  induction r with
  | zero =>
   rintro C' sp (⟨rfl,rfl⟩|⟨rfl,rfl⟩|⟨rfl,rfl⟩|⟨rfl,rfl⟩)
   ·exact⟨Ua.cl,_,_,_,D12.me,FnOk.mono (ok_Num_depth l.prog w base (k:=0) (r:=0) Z F12 ) (by omega),D12.b⟩
   ·exact⟨Ub.cl,_,_,_,D16.me,noFn (noV nn1),D16.b⟩
   ·exact⟨Uc.cl,_,_,_,D20.me,noFn (noV nn2),D20.b⟩
   ·exact⟨Ud.cl,_,_,_,D25.me,noFn (noV nn3),D25.b⟩
  | succ r ih =>
   have gS:=(ok_Shape_depth l.prog w base (k:=6 * r + 4) (r:=r) Z F29 ih)
   rintro C' sp (⟨rfl,rfl⟩|⟨rfl,rfl⟩|⟨rfl,rfl⟩|⟨rfl,rfl⟩)
   ·exact⟨Ua.cl,_,_,_,D12.me,FnOk.mono (ok_Num_depth l.prog w base (k:=0) (r:=r + 1) Z F12 ) (by omega),D12.b⟩
   ·exact⟨Ub.cl,_,_,_,D16.me,FnOk.mono (ok_Nested_depth l.prog w base (k:=6 * r + 6) (r:=r) Z F16 D29 gS) (by omega),D16.b⟩
   ·exact⟨Uc.cl,_,_,_,D20.me,FnOk.mono (ok_Many_depth l.prog w base (k:=6 * r + 4) (r:=r) Z F20 ih) (by omega),D20.b⟩
   ·exact⟨Ud.cl,_,_,_,D25.me,FnOk.mono (ok_Pick_depth l.prog w base (k:=6 * r + 6) (r:=r) Z F25 D29 gS) (by omega),D25.b⟩
 have s_depth:=fun r=>(ok_Shape_depth l.prog w base (k:=6 * r + 4) (r:=r) Z F29 (t_depth r))
 have t_parted:∀ C sp,TPt (Cl5.mk Va Vb Vc Vd Ve) K C sp->VRow l.prog w K mg base CX0 2 "parted" C sp:=by
  rintro C' sp (⟨rfl,rfl⟩|⟨rfl,rfl⟩)
  ·exact⟨Ub.cl,_,_,_,D17.me,(ok_Nested_parted l.prog w base (k:=0) Z F17 ),D17.b⟩
  ·exact⟨Uc.cl,_,_,_,D21.me,(ok_Many_parted l.prog w base (k:=0) Z F21 ),D21.b⟩
 have DM:DfM K Vc "units_at" f9 d9 ["self","path"]:=⟨⟨w3,a9.i,F9.kp⟩,D9.b⟩
 have t_units:∀ r C sp,TU (Cl5.mk Va Vb Vc Vd Ve) K r C sp->VRow l.prog w K mg base CX0 (6 * r + 4) "units_at" C sp:=by
  intro r
  induction r with
  | zero =>
   rintro C' sp (⟨rfl,rfl⟩|⟨rfl,rfl⟩|⟨rfl,rfl⟩|⟨rfl,rfl⟩)
   ·exact⟨Ua.cl,_,_,_,D13.me,FnOk.mono (ok_Num_units_at l.prog w base (k:=0) (r:=0) Z F13 ) (by omega),D13.b⟩
   ·exact⟨Ub.cl,_,_,_,D9.me,noFn (noU nn1),D9.b⟩
   ·exact⟨Uc.cl,_,_,_,DM.me,noFn (noU nn2),DM.b⟩
   ·exact⟨Ud.cl,_,_,_,D26.me,noFn (noU nn3),D26.b⟩
  | succ r ih =>
   rintro C' sp (⟨rfl,rfl⟩|⟨rfl,rfl⟩|⟨rfl,rfl⟩|⟨rfl,rfl⟩)
   ·exact⟨Ua.cl,_,_,_,D13.me,FnOk.mono (ok_Num_units_at l.prog w base (k:=0) (r:=r + 1) Z F13 ) (by omega),D13.b⟩
   ·exact⟨Ub.cl,_,_,_,D9.me,FnOk.mono (ok_Kind_units_at l.prog w base (k:=6 * r + 4) (r:=r) Z ff1 F9 (fun C' sp h=>VRow.mono (t_parted C' sp h) (by omega)) ih D8 (FnOk.mono G8 (by omega))) (by omega),D9.b⟩
   ·exact⟨Uc.cl,_,_,_,DM.me,FnOk.mono (ok_Kind_units_at l.prog w base (k:=6 * r + 4) (r:=r) Z ff2 F9 (fun C' sp h=>VRow.mono (t_parted C' sp h) (by omega)) ih D8 (FnOk.mono G8 (by omega))) (by omega),DM.b⟩
   ·exact⟨Ud.cl,_,_,_,D26.me,FnOk.mono (ok_Pick_units_at l.prog w base (k:=6 * r + 8) (r:=r) Z F26 D8 (FnOk.mono G8 (by omega)) D24 (s_gr r)) (by omega),D26.b⟩
 have G28:=s_size 18
 have G29:=s_depth 18
 have G30:=(ok_Shape_units l.prog w base (k:=112) (r:=18) Z F30 D14 (mO G14) (t_units 18))
 have G44:=(ok_is_too_much l.prog w base (k:=114) (r:=18) Z F44 D28 (mO G28) D30 (mO G30) D29 (mO G29))
 have r_kin:∀ n,FnOk l.prog w K mg base CX0 (2 * n + 2) f43 d43 ["words","shapes"] (spKin (Cl5.mk Va Vb Vc Vd Ve) K n):=by
  intro n
  induction n with
  | zero=>exact noFn fun vs H Q E ⟨_,_,_,_,_,_,h,_⟩=>absurd h (Nat.not_lt_zero _)
  | succ n ih=>exact FnOk.mono (ok_kind_in l.prog w base (k:=2 * n + 2) (r:=n) Z F43 D43 ih D10 (FnOk.mono G10 (by omega)) D14 (FnOk.mono G14 (by omega)) D18 (FnOk.mono G18 (by omega)) D22 (FnOk.mono G22 (by omega))) (by omega)
 have G43:=r_kin 2
 have G42:=(ok_with_field l.prog w base (k:=116) (r:=18) Z F42 D43 (mO G43) D41 (mO G41) D27 (mO G27) D44 (mO G44) D4 (mO G4))
 have G33:=(ok_read_shapes l.prog w base (k:=118) (r:=18) Z F33 D34 (mO G34) D38 (mO G38) D27 (mO G27) D39 (mO G39) D42 (mO G42) D31 (mO G31) D1 (mO G1))
 have G48:=(ok_law_told l.prog w base (k:=120) (r:=18) Z ⟨by decide,by decide⟩ F48 D33 (mO G33) XN)
 have G49:=(ok_law_shapes_right l.prog w base (k:=122) Z F49 D47 (mO G47) D48 (mO G48))
 have G50:=(ok_law_fields_right l.prog w base (k:=122) Z F50 D47 (mO G47) D48 (mO G48))
 have G51:=(ok_law_cells_right l.prog w base (k:=122) (r:=18) Z ⟨by decide,by decide⟩ F51 D47 (mO G47) D48 (mO G48) D33 (mO G33) D32 (mO G32) D28 (mO G28))
 have G52:=(ok_law_units_right l.prog w base (k:=122) (r:=18) Z ⟨by decide,by decide⟩ F52 D47 (mO G47) D48 (mO G48) D33 (mO G33) D32 (mO G32) D30 (mO G30))
 have G53:=(ok_law_depths_right l.prog w base (k:=122) (r:=18) Z ⟨by decide,by decide⟩ F53 D47 (mO G47) D48 (mO G48) D33 (mO G33) D32 (mO G32) D29 (mO G29))
 have G54:=(ok_law l.prog w base (k:=124) Z F54 D45 (mO G45) D46 (mO G46) D49 (mO G49) D50 (mO G50) D51 (mO G51) D52 (mO G52) D53 (mO G53))
 exact G54
theorem walk {l:PySem.W.OpenLaw} {q:Program} {loose:List Str} {XP:(Str->Option Value)->Heap->Prop} {YP:World->Heap->Prop} {d:DefRec} {K:Params->Frag} (hn:l.most=some 63) (hdf:d.params.defaults=[])
  (hY:∀ (w:World) (h:Heap),YP w h->(K w.params).In h)
  (F:∀ (w:World) (mg:Str->Option Value) (fa:Addr) (h:Heap),(K w.params).In h->h.Ns mainGlobals mg->mg d.name=some (.ref fa) →
   ∃ fd:FuncData,(∀ (s:Shared) (u:Value),BindsTo s fd ⟨[u],[]⟩ [("_law_script",u)])/\∀ base:Heap,(K w.params).In base->base.Ns mainGlobals mg->FnOk l.prog w (K w.params) mg base CX0 126 fa fd ["_law_script"] (spLaw (K w.params))) :
  PySem.W.WalkO q loose XP YP l.row.toRowW d [] (fun f vs=>PySem.call f vs) :=
 L2.walk_of (n:=63) (k:=126) (x:="_law_script") (CX:=fun _=>CX0) (sp:=fun w=>spLaw (K w.params)) hn (by decide) hdf ⟨rfl,by decide,by decide,rfl⟩ hY F (fun _ _ a ns hl _ hS=>⟨a,ns,rfl,hS,hl,fun _=>rfl⟩) fun _ _ _ _ _ z=>z
end K13
namespace PySem.W.Fast
theorem tw11356223698316353650:0=0:=rfl
theorem tw9056568563543718008:0=0:=rfl
theorem tw18283468549909183207:0=0:=rfl
theorem tw1148321784320951849:0=0:=rfl
theorem tw14279071411259214087:0=0:=rfl
theorem tw17884918447097647357:0=0:=rfl
theorem tw5592180880778610121:0=0:=rfl
theorem tw2698925208330022493:0=0:=rfl
theorem tw9782030033723255857:0=0:=rfl
theorem tw10408379293716276082:0=0:=rfl
theorem tw1912422991532253100:0=0:=rfl
theorem tw11339432484791399296:0=0:=rfl
theorem tw4392952066316852115:0=0:=rfl
theorem tw17715875504015009952:0=0:=rfl
theorem tw15607764935658231264:0=0:=rfl
theorem tw9252754755369564258:0=0:=rfl
theorem tw11219725683633021326:0=0:=rfl
theorem tw9897843697133622154:0=0:=rfl
theorem tw16869085458844195936:0=0:=rfl
theorem tw6735044643686712914:0=0:=rfl
theorem tw12319521601321770781:0=0:=rfl
theorem tw12558240078290356018:0=0:=rfl
theorem tw15105867767486951694:0=0:=rfl
theorem tw11337876051682068311:0=0:=rfl
theorem tw4826736215985151807:0=0:=rfl
theorem tw11736616425582834615:0=0:=rfl
theorem tw18334726053527735826:0=0:=rfl
theorem tw18177900670279469609:0=0:=rfl
theorem tw7557127162935074888:0=0:=rfl
theorem tw80135071775545109:0=0:=rfl
theorem tw6662120204164428108:0=0:=rfl
theorem tw7236567721701373192:0=0:=rfl
theorem tw72551182436344437:0=0:=rfl
theorem tw17713321966547061507:0=0:=rfl
theorem tw841496812981048154:0=0:=rfl
theorem tw13674656455367870615:0=0:=rfl
theorem tw815971706124676385:0=0:=rfl
theorem tw5269605844752029835:0=0:=rfl
theorem tw15216997661394957768:0=0:=rfl
theorem tw18345814636552618427:0=0:=rfl
theorem tw2603179421234472664:0=0:=rfl
theorem tw14233810821478169270:0=0:=rfl
theorem tw16818896858902634697:0=0:=rfl
theorem tw3456749539785831676:0=0:=rfl
theorem tw15408042462119275527:0=0:=rfl
theorem tw12230295149501113114:0=0:=rfl
theorem tw7402485665555974030:0=0:=rfl
theorem tw883634146989787622:0=0:=rfl
theorem tw16625646425566105373:0=0:=rfl
theorem tw4323342744653135837:0=0:=rfl
theorem tw4651836948041867924:0=0:=rfl
theorem tw17438845374578193898:0=0:=rfl
theorem tw7475828637151129398:0=0:=rfl
theorem tw12474321820667902239:0=0:=rfl
theorem tw6776885508200462809:0=0:=rfl
theorem tw5305841571751808657:0=0:=rfl
theorem tw7741785306268047589:0=0:=rfl
theorem tw2902117755553247477:0=0:=rfl
theorem tw17962932600603906253:0=0:=rfl
theorem tw16072124274425188424:0=0:=rfl
theorem tw9087498043714323464:0=0:=rfl
theorem tw10322547632836934889:0=0:=rfl
theorem tw1058035405933524472:0=0:=rfl
theorem tw11098886773953003318:0=0:=rfl
theorem tw8456795976261808332:0=0:=rfl
theorem tw9124270834816107661:0=0:=rfl
theorem tw16527034934729699582:0=0:=rfl
theorem tw18055719314468694867:0=0:=rfl
theorem tw10728868482107465245:0=0:=rfl
theorem tw9221605609140500501:0=0:=rfl
theorem tw4137806995012649496:0=0:=rfl
theorem tw3316748116584836252:0=0:=rfl
theorem tw11579720195477835440:0=0:=rfl
theorem tw11826415683618517686:0=0:=rfl
theorem tw13808705546387392402:0=0:=rfl
theorem tw9483064384945760452:0=0:=rfl
theorem tw11094195881086792589:0=0:=rfl
theorem tw12412749026669440645:0=0:=rfl
theorem tw12464265768729715782:0=0:=rfl
theorem tw10861560477428841077:0=0:=rfl
theorem tw7968716326128989696:0=0:=rfl
theorem tw12269016410564045791:0=0:=rfl
theorem tw2066077040312563905:0=0:=rfl
theorem tw17849058347615948783:0=0:=rfl
theorem tw11183837290206331821:0=0:=rfl
theorem tw9430082706332375825:0=0:=rfl
theorem tw6666620867228062710:0=0:=rfl
theorem tw5404503782760233371:0=0:=rfl
theorem tw5737797940436034001:0=0:=rfl
theorem tw7411550181248067576:0=0:=rfl
theorem tw12863346131021994104:0=0:=rfl
theorem tw582440926510228282:0=0:=rfl
theorem tw9433739683040437192:0=0:=rfl
theorem tw18399232419197189905:0=0:=rfl
theorem tw14415778620916345867:0=0:=rfl
theorem tw4592135246938351538:0=0:=rfl
theorem tw12589657139233874957:0=0:=rfl
theorem tw17689462924625482485:0=0:=rfl
theorem tw12745100693506552828:0=0:=rfl
theorem tw15991984180485767012:0=0:=rfl
theorem tw15804262075009093386:0=0:=rfl
theorem tw13399152794410498540:0=0:=rfl
theorem tw1134146495887273074:0=0:=rfl
theorem tw10710359275621723312:0=0:=rfl
theorem tw7932462807651028012:0=0:=rfl
theorem tw15953160388692092831:0=0:=rfl
theorem tw11712623847604081866:0=0:=rfl
theorem tw9115911036083129982:0=0:=rfl
theorem tw18333756733661133572:0=0:=rfl
theorem tw7070377453495611091:0=0:=rfl
theorem tw3935582078592759355:0=0:=rfl
theorem tw10478261443828717100:0=0:=rfl
theorem tw14329609814084395531:0=0:=rfl
theorem tw4219856735157514250:0=0:=rfl
theorem tw18015545815668458772:0=0:=rfl
theorem tw13459636411788546966:0=0:=rfl
theorem tw9602850316544427616:0=0:=rfl
theorem tw17388210351620894697:0=0:=rfl
theorem tw11513199154252189130:0=0:=rfl
theorem tw13629446465795997850:0=0:=rfl
theorem tw9896128776500549538:0=0:=rfl
theorem tw17842567765476157528:0=0:=rfl
theorem tw1682548759402618795:0=0:=rfl
theorem tw304740483106326881:0=0:=rfl
theorem tw8472729344973380362:0=0:=rfl
theorem tw3775703789704863260:0=0:=rfl
theorem tw10328853891770390213:0=0:=rfl
theorem tw1117098506853949677:0=0:=rfl
theorem tw12204004781585117745:0=0:=rfl
theorem tw6734373953526425961:0=0:=rfl
theorem tw5535238144510369993:0=0:=rfl
theorem tw1692717640593481609:0=0:=rfl
theorem tw8749413755644666261:0=0:=rfl
theorem tw7110471566465196528:0=0:=rfl
theorem tw8393741078337637349:0=0:=rfl
theorem tw2092072371487417107:0=0:=rfl
theorem tw982442207088549723:0=0:=rfl
theorem tw15585487207920882787:0=0:=rfl
theorem tw7302072656069403878:0=0:=rfl
theorem tw6231816819486328771:0=0:=rfl
theorem tw18055002620669095242:0=0:=rfl
theorem tw1730731089363325711:0=0:=rfl
theorem tw2283277240781922707:0=0:=rfl
theorem tw16549253886485108271:0=0:=rfl
theorem tw13285940681894253274:0=0:=rfl
theorem tw526521693723153164:0=0:=rfl
theorem tw17784585677043039271:0=0:=rfl
theorem tw857501166814510103:0=0:=rfl
theorem tw15135980009078071757:0=0:=rfl
theorem tw6990573032076483729:0=0:=rfl
theorem tw13437239512439358625:0=0:=rfl
theorem tw11168729371520151001:0=0:=rfl
theorem tw9306359573360266534:0=0:=rfl
theorem tw5266782244515291541:0=0:=rfl
theorem tw15905542306580094550:0=0:=rfl
theorem tw12085484745737039587:0=0:=rfl
theorem tw4681536776816282381:0=0:=rfl
theorem tw3013532621425878778:0=0:=rfl
theorem tw17476498503775284818:0=0:=rfl
theorem tw9670490281585711939:0=0:=rfl
theorem tw16290777358250413051:0=0:=rfl
theorem tw17227629562187914080:0=0:=rfl
theorem tw1150771915673160185:0=0:=rfl
theorem tw15482679071506337482:0=0:=rfl
theorem tw9025489325149214869:0=0:=rfl
theorem tw17469378732305808459:0=0:=rfl
theorem tw1137053242363588923:0=0:=rfl
theorem tw14722553147639414027:0=0:=rfl
theorem tw4041243197854610701:0=0:=rfl
theorem tw8607906457437245515:0=0:=rfl
theorem tw3192304481071899271:0=0:=rfl
theorem tw17666715813841997086:0=0:=rfl
theorem tw4122495628524899287:0=0:=rfl
theorem tw7755627279245917910:0=0:=rfl
theorem tw12703111239547408422:0=0:=rfl
theorem tw4039925195672684943:0=0:=rfl
theorem tw4850070092336935611:0=0:=rfl
theorem tw3645411007879393594:0=0:=rfl
theorem tw9561309695382038676:0=0:=rfl
theorem tw4918102580745841573:0=0:=rfl
theorem tw14738217687136316997:0=0:=rfl
theorem tw1276457207169035197:0=0:=rfl
theorem tw11599352183673140486:0=0:=rfl
theorem tw3771244724553173566:0=0:=rfl
theorem tw12881523000288367898:0=0:=rfl
theorem tw3171005614185517632:0=0:=rfl
theorem tw11062209217795363787:0=0:=rfl
theorem tw17406758098858596618:0=0:=rfl
theorem tw992799065894787804:0=0:=rfl
theorem tw17734867353873773326:0=0:=rfl
theorem tw1544747516150427994:0=0:=rfl
theorem tw18153283783421821073:0=0:=rfl
theorem tw2415719267462073430:0=0:=rfl
theorem tw17688369610288944200:0=0:=rfl
theorem tw14392417334493865235:0=0:=rfl
theorem tw6144514557130900438:0=0:=rfl
theorem tw13561503603626017797:0=0:=rfl
theorem tw8476048276862652090:0=0:=rfl
theorem tw12729094625399314798:0=0:=rfl
theorem tw10406234336331762630:0=0:=rfl
theorem tw7485231789055543464:0=0:=rfl
theorem tw2758336091156741433:0=0:=rfl
theorem tw6066231609075482640:0=0:=rfl
theorem tw2702123330229614891:0=0:=rfl
theorem tw2135179336875975877:0=0:=rfl
theorem tw11927102247486198305:0=0:=rfl
theorem tw2426743025321185132:0=0:=rfl
theorem tw13814796022234308633:0=0:=rfl
theorem tw12636072906960395912:0=0:=rfl
theorem tw9906270211932582774:0=0:=rfl
theorem tw16903981117882766694:0=0:=rfl
theorem tw1217779934159235439:0=0:=rfl
theorem tw2238234079364465209:0=0:=rfl
theorem tw9234254379520309464:0=0:=rfl
theorem tw8856481465596279400:0=0:=rfl
theorem tw4354382777123282286:0=0:=rfl
theorem tw9883340698666622200:0=0:=rfl
theorem tw16607583326869886218:0=0:=rfl
theorem tw2808270449952683535:0=0:=rfl
theorem tw11659364386011447358:0=0:=rfl
theorem tw4167328215849254444:0=0:=rfl
theorem tw2176719659721572235:0=0:=rfl
theorem tw4724944719794898391:0=0:=rfl
theorem tw15192705364721963955:0=0:=rfl
theorem tw1118252119440075013:0=0:=rfl
theorem tw10427319615984334008:0=0:=rfl
theorem tw7913207625829304095:0=0:=rfl
theorem tw15812526277779259111:0=0:=rfl
theorem tw8822879491486591600:0=0:=rfl
theorem tw8372704036539332373:0=0:=rfl
theorem tw1395916930623355733:0=0:=rfl
theorem tw12234745017209633348:0=0:=rfl
theorem tw18354905592549755494:0=0:=rfl
theorem tw11514798542109486052:0=0:=rfl
theorem tw11235191219167731957:0=0:=rfl
theorem tw17138377881198478028:0=0:=rfl
theorem tw544128974200591600:0=0:=rfl
theorem tw15729790120936141092:0=0:=rfl
theorem tw1846329603842532744:0=0:=rfl
theorem tw2878339479770807130:0=0:=rfl
theorem tw16892096388564021381:0=0:=rfl
theorem tw17062936208243496397:0=0:=rfl
theorem tw6993760926019519743:0=0:=rfl
theorem tw2829485077385035477:0=0:=rfl
theorem tw16850085918857493320:0=0:=rfl
theorem tw15885770534740179116:0=0:=rfl
theorem tw11390617601675209034:0=0:=rfl
theorem tw12999567304002696735:0=0:=rfl
theorem tw2732920873021465428:0=0:=rfl
theorem tw8296244925180588854:0=0:=rfl
theorem tw4836695725690465295:0=0:=rfl
theorem tw13781212525521993452:0=0:=rfl
theorem tw2943298729762672456:0=0:=rfl
theorem tw36456694617246385:0=0:=rfl
theorem tw11658134097728125557:0=0:=rfl
theorem tw17817884756020981806:0=0:=rfl
theorem tw18152480160201966072:0=0:=rfl
theorem tw4823205211541724610:0=0:=rfl
theorem tw11956737232132650142:0=0:=rfl
theorem tw5694060664360302268:0=0:=rfl
theorem tw15893333238730889460:0=0:=rfl
theorem tw5749830951642706557:0=0:=rfl
theorem tw2614514176824228242:0=0:=rfl
theorem tw5105208628309867501:0=0:=rfl
theorem tw7853059534517863024:0=0:=rfl
theorem tw10245762153013906100:0=0:=rfl
theorem tw8474470552701129528:0=0:=rfl
theorem tw10897971235614916131:0=0:=rfl
theorem tw1485730446559272209:0=0:=rfl
theorem tw12540639444538415180:0=0:=rfl
theorem tw14815555096173820446:0=0:=rfl
theorem tw14524703132005604733:0=0:=rfl
theorem tw652468836816279762:0=0:=rfl
theorem tw2386143971790260395:0=0:=rfl
theorem tw17737853717816405824:0=0:=rfl
theorem tw8959663060943167570:0=0:=rfl
theorem tw13592385444839829748:0=0:=rfl
theorem tw3713938779302418886:0=0:=rfl
theorem tw6638028222599117831:0=0:=rfl
theorem tw8479896534623611004:0=0:=rfl
theorem tw15056023028958573139:0=0:=rfl
theorem tw15370001408052429120:0=0:=rfl
theorem tw15943282300347176973:0=0:=rfl
theorem tw3056548846815684477:0=0:=rfl
theorem tw6868248397077866654:0=0:=rfl
theorem tw12431328308855869144:0=0:=rfl
theorem tw8715620593124626898:0=0:=rfl
theorem tw2051040988095235703:0=0:=rfl
theorem tw16609208113821549380:0=0:=rfl
theorem tw3030355213503238835:0=0:=rfl
theorem tw14902665254603315349:0=0:=rfl
theorem tw4646642921494561405:0=0:=rfl
theorem tw12028362577927635416:0=0:=rfl
theorem tw12672462801175438684:0=0:=rfl
theorem tw13476673606561963487:0=0:=rfl
theorem tw9891751893788353852:0=0:=rfl
theorem tw15447995428157652911:0=0:=rfl
theorem tw12213883884386705421:0=0:=rfl
theorem tw17098117602741010501:0=0:=rfl
theorem tw3921248363495759870:0=0:=rfl
theorem tw3319485634360811096:0=0:=rfl
theorem tw7413026798335233569:0=0:=rfl
theorem tw13488277110781284502:0=0:=rfl
theorem tw18162846584705946452:0=0:=rfl
theorem tw817532778858909089:0=0:=rfl
theorem tw2375903746838770743:0=0:=rfl
theorem tw17003689778947158322:0=0:=rfl
theorem tw9550724673619798871:0=0:=rfl
theorem tw15429843630778881127:0=0:=rfl
theorem tw11110474253592269007:0=0:=rfl
theorem tw5289540468372127703:0=0:=rfl
theorem tw10954575888575369086:0=0:=rfl
theorem tw15178884045386219019:0=0:=rfl
theorem tw11307033864570079159:0=0:=rfl
theorem tw15918788207411126725:0=0:=rfl
theorem tw3749175616727875272:0=0:=rfl
theorem tw14686139272483194446:0=0:=rfl
theorem tw8991627076958621658:0=0:=rfl
theorem tw3057267345161605026:0=0:=rfl
theorem tw6546504393320634528:0=0:=rfl
theorem tw9294717929557419969:0=0:=rfl
theorem tw16365866287484043861:0=0:=rfl
theorem tw336247861056242385:0=0:=rfl
theorem tw12374368566630413975:0=0:=rfl
theorem tw5791317839136223373:0=0:=rfl
theorem tw1660192665134476289:0=0:=rfl
theorem tw13648778788826115862:0=0:=rfl
theorem tw1637977434993939264:0=0:=rfl
theorem tw15036062927203087041:0=0:=rfl
theorem tw12976050125512456900:0=0:=rfl
theorem tw15488967599104922147:0=0:=rfl
theorem tw5184715128237347885:0=0:=rfl
theorem tw787154636759779144:0=0:=rfl
theorem tw14889548361321096761:0=0:=rfl
theorem tw3110620724961070336:0=0:=rfl
theorem tw16464518919254923475:0=0:=rfl
theorem tw16813037795514005343:0=0:=rfl
theorem tw7645071597469293938:0=0:=rfl
theorem tw9794970658959064907:0=0:=rfl
theorem tw6973839844637555565:0=0:=rfl
theorem tw5803736799480483724:0=0:=rfl
theorem tw14601924754191835999:0=0:=rfl
theorem tw10451242824583617298:0=0:=rfl
theorem tw13003836693803024448:0=0:=rfl
theorem tw3959716546039147778:0=0:=rfl
theorem tw12841468518144660879:0=0:=rfl
theorem tw14153207275366305732:0=0:=rfl
theorem tw4914645036446400097:0=0:=rfl
theorem tw8735928716436291933:0=0:=rfl
theorem tw1680786799352429666:0=0:=rfl
theorem tw3464128371677303035:0=0:=rfl
theorem tw9551316726210130155:0=0:=rfl
theorem tw14564457468358832709:0=0:=rfl
theorem tw16770266625890456406:0=0:=rfl
theorem tw6591486981755217411:0=0:=rfl
theorem tw13385501492068341852:0=0:=rfl
theorem tw12037906427098567658:0=0:=rfl
theorem tw11286104399741878829:0=0:=rfl
theorem tw14766313138397707340:0=0:=rfl
theorem tw11328805885769211565:0=0:=rfl
theorem tw2577236115191462338:0=0:=rfl
theorem tw16821189648298090182:0=0:=rfl
theorem tw13832172150571537165:0=0:=rfl
theorem tw2978665580514090512:0=0:=rfl
theorem tw10345714840188393400:0=0:=rfl
theorem tw996961581875210845:0=0:=rfl
theorem tw7818879302331588771:0=0:=rfl
theorem tw9671915581721292773:0=0:=rfl
theorem tw6627440923004587456:0=0:=rfl
theorem tw7675216168364071901:0=0:=rfl
theorem tw11372898162020303216:0=0:=rfl
theorem tw10330190967563461842:0=0:=rfl
theorem tw2475757638677057458:0=0:=rfl
theorem tw17798254793069269742:0=0:=rfl
theorem tw7668823864985042732:0=0:=rfl
theorem tw10656113107803856291:0=0:=rfl
theorem tw16261984320548176099:0=0:=rfl
theorem tw4631582740335764283:0=0:=rfl
theorem tw15798980109205977662:0=0:=rfl
theorem tw5609555188100685534:0=0:=rfl
theorem tw17585497700554944846:0=0:=rfl
theorem tw10458995824185122701:0=0:=rfl
theorem tw7792237712511600495:0=0:=rfl
theorem tw14074177683603479349:0=0:=rfl
theorem tw11358306405390205503:0=0:=rfl
theorem tw9060359824423623163:0=0:=rfl
theorem tw4794231967860910885:0=0:=rfl
theorem tw9614950349720506630:0=0:=rfl
theorem tw1355260444992713004:0=0:=rfl
theorem tw7513719327306339993:0=0:=rfl
theorem tw11859389828338127604:0=0:=rfl
theorem tw13314971017352750057:0=0:=rfl
theorem tw18203665382310716606:0=0:=rfl
theorem tw17224410930812353959:0=0:=rfl
theorem tw3287486672533817715:0=0:=rfl
theorem tw3626332355475519912:0=0:=rfl
theorem tw7592513944082524143:0=0:=rfl
theorem tw3161196751412306043:0=0:=rfl
theorem tw11493016288938915992:0=0:=rfl
theorem tw15132148822538472350:0=0:=rfl
theorem tw5146466021955738713:0=0:=rfl
theorem tw138150742853665094:0=0:=rfl
theorem tw4017114257150813604:0=0:=rfl
theorem tw12920336742135351164:0=0:=rfl
theorem tw13496977539695765173:0=0:=rfl
theorem tw18173149913912780978:0=0:=rfl
theorem tw7428503502145941647:0=0:=rfl
theorem tw9289748942037163139:0=0:=rfl
theorem tw1568548647656249050:0=0:=rfl
theorem tw14087788228495990702:0=0:=rfl
theorem tw8162578308345218026:0=0:=rfl
theorem tw13027970120070852216:0=0:=rfl
theorem tw16523787210445200642:0=0:=rfl
end PySem.W.Fast
open PySem PySem.W PyProof.Rows
set_option maxRecDepth 100000 in
set_option maxHeartbeats 0 in
theorem PySem.Challenge.cw_roomslaid_k13_too_much_holds : PySem.Challenge.rw_roomslaid_k13_too_much.Holds := by
 w_on;o_law;k_head; (case hw=>w_witness2)
 k_fill
 refine K13.walk (l := PySem.Challenge.rw_roomslaid_k13_too_much) rfl rfl (fun w h Y => PySem.W.kIn_of Y) ?F
 case F =>
  intro w mg fa h KX G hmg
  refine' K13.all_mk KX G hmg ?_ ?_ ?_ ?_ ?_ ?_ ?_ ?_ ?_ ?_ ?_ ?_ ?_ ?_ ?_ ?_ ?_ ?_ ?_ ?_ ?_ ?_ ?_ ?_ ?_ ?_ ?_ ?_ ?_ ?_ ?_ ?_ ?_ ?_ ?_ ?_ ?_ ?_ ?_ ?_ ?_ ?_ ?_ ?_ ?_ ?_ ?_ ?_ ?_ ?_ ?_ ?_ ?_ ?_ ?_ ?_ ?_ ?_ ?_ ?_ ?_ ?_ ?_ ?_ ?_ ?_ ?_ ?_ ?_ ?_ ?_ ?_ ?_ ?_ ?_ ?_ ?_ ?_ ?_ ?_ ?_ ?_ ?_ ?_ ?_ ?_ ?_ ?_ ?_ ?_ ?_ ?_ ?_ ?_ ?_ ?_ ?_ ?_ ?_ ?_ ?_ ?_ ?_ ?_ ?_ ?_ ?_ ?_ ?_ ?_ ?_ ?_ ?_ ?_ ?_ ?_ ?_ ?_ ?_ ?_ ?_ ?_ ?_ ?_ ?_ ?_ ?_ ?_ ?_ ?_ ?_ ?_ ?_ ?_ ?_ ?_ ?_ ?_ ?_ ?_ ?_ ?_ ?_ ?_ ?_ ?_ ?_ ?_ ?_ ?_ ?_ ?_ ?_ ?_ ?_ ?_ ?_ ?_ ?_ ?_ ?_ ?_ ?_ ?_ ?_
  all_goals (first|refine' K13.FG.mk ?_ ⟨_,L2.fun_mk ?_ ?_ ?_⟩|refine' K13.FM.mk ?_ ?_ ⟨_,L2.fun_mk ?_ ?_ ?_⟩|refine' K13.CK.mk ?_ ⟨?_,?_,?_,?_⟩ ?_ ?_ ?_|skip)
  all_goals (repeat' (first|exact K13.na0|refine' K13.na1 ?_ ?_))
  all_goals (first|k_is|exact K13.na0|exact Eq.refl true|exact Eq.refl (some true)|exact Eq.refl (some false)|kernel_rfl|decide +kernel|skip)
