import PyProof.Rows.All
import Wide.All
import OpenK.AllK
import Wide.FinOn
import Lean
import PyProof.EqAt
import PyProof.EqKinds
import PyProof.TupleCall
import PyProof.LongRange
import PyProof.ListRange
import PyProof.RaisesMany
import PyProof.ExcBaseAll.ValueError
import PyProof.ExcArgs
import PyProof.InstStoreFacts
import PyProof.ExcAttrAll.ValueError
import PyProof.RulesAs
import PyProof.RulesDel
import PyProof.ReprRoads
import PyProof.CallFns
import PyProof.InstSpecial
import PyProof.Rows.RuleN_isinstance
import KE.KIsNot
import PyProof.ReprLen
import PyProof.EnumMake
import PyProof.EnumFor
import PyProof.EnumStmt
import PyProof.Rows.EnumRows
import PyProof.RulesDelMore
import PyProof.Rows.SetFrom
import PyProof.ZipIter
import PyProof.IsRules
import PyProof.Conv_int_bool
import PyProof.IsiTuple
import PyProof.NeKinds
import KE.KEqDict
import PyProof.Rows.FStr
import PyProof.Rows.StrNews
import PyProof.StrCalls2
import PyProof.StrLawsChain
import PyProof.StrLawsTight
import PyProof.StrOps2
import PyProof.WalkInts
import PyProof.DictCompW
import PyProof.DictWalks
import PyProof.Rows.DictUnroll
import PyProof.FactsAll.dict
import PySem.Challenge.RW_roomslaid_k07_shapes_read_and_written
set_option Elab.async false
set_option linter.all false
set_option maxRecDepth 100000
open PySem.W (Frag keepIn findIn codeIn nsIn fnOf mg_of isFn mg_none_of)
namespace L2
open PySem PySem.Spec PyProof.Rows
abbrev Key:=Sum Int Str
def keyIs:Key->Value->Bool
 | .inl k,v=>Value.isInt k v
 | .inr x,v=>Value.isStrOf x v
def keyH (w:World):Key->Int
 | .inl k=>hashInt k
 | .inr x=>hashStr w x
theorem keyIs_shape:∀ {k:Key} {v:Value},keyIs k v=true->(∃ i t,k=Sum.inl i/\v=Value.int i t)\/(∃ x t,k=Sum.inr x/\v=Value.str x t)
 | .inl i,v,h=>by
  obtain⟨t,e⟩:=Value.isInt_shape (k:=i) (v:=v) h
  exact .inl ⟨i,t,rfl,e⟩
 | .inr x,v,h=>by
  obtain⟨t,e⟩:=Value.isStrOf_shape (x:=x) (v:=v) h
  exact .inr ⟨x,t,rfl,e⟩
theorem keyIs_int (i:Int) (t:Tok):keyIs (.inl i) (.int i t)=true:=by simp [keyIs,Value.isInt]
theorem keyIs_str (x:Str) (t:Tok):keyIs (.inr x) (.str x t)=true:=by simp [keyIs,Value.isStrOf]
theorem key_ll (a b:Int):decide ((Sum.inl a:Key)=Sum.inl b)=(a == b):=by
 by_cases e:a=b
 ·subst e;simp
 ·have h:¬ (Sum.inl a:Key)=Sum.inl b:=fun q=>e (Sum.inl.inj q)
  rw [decide_eq_false h]
  exact (beq_eq_false_iff_ne.mpr e).symm
theorem key_rr (a b:Str):decide ((Sum.inr a:Key)=Sum.inr b)=decide (a=b):=by
 by_cases e:a=b
 ·subst e;simp
 ·have h:¬ (Sum.inr a:Key)=Sum.inr b:=fun q=>e (Sum.inr.inj q)
  rw [decide_eq_false h,decide_eq_false e]
theorem key_lr (a:Int) (b:Str):decide ((Sum.inl a:Key)=Sum.inr b)=false:=decide_eq_false (fun q=>nomatch q)
theorem key_rl (a:Str) (b:Int):decide ((Sum.inr a:Key)=Sum.inl b)=false:=decide_eq_false (fun q=>nomatch q)
def mixKind (prog:Program) (w:World):PySem.KeyKind prog w Key where
 is:=keyIs
 hash:=keyH w
 inj:=fun v a b ha hb=>by
  rcases keyIs_shape ha with⟨i,t,rfl,rfl⟩|⟨x,t,rfl,rfl⟩
  ·rcases keyIs_shape hb with⟨j,u,rfl,e⟩|⟨y,u,rfl,e⟩
   ·injection e with e1 _;rw [e1]
   ·exact nomatch e
  ·rcases keyIs_shape hb with⟨j,u,rfl,e⟩|⟨y,u,rfl,e⟩
   ·exact nomatch e
   ·injection e with e1 _;rw [e1]
 byValue:=fun k v h=>by
  rcases keyIs_shape h with⟨i,t,rfl,rfl⟩|⟨x,t,rfl,rfl⟩ <;> rfl
 pyHash:=fun hv h=>by
  rcases keyIs_shape hv with⟨i,t,rfl,rfl⟩|⟨x,t,rfl,rfl⟩
  ·exact wpAny_pyHash_int h
  ·exact wpAny_pyHash_str h
 eqBool:=fun hu hv h=>by
  rcases keyIs_shape hu with⟨i,t,rfl,rfl⟩|⟨x,t,rfl,rfl⟩
  ·rcases keyIs_shape hv with⟨j,u,rfl,rfl⟩|⟨y,u,rfl,rfl⟩
   ·rw [key_ll] at h;exact wpAny_eqBool_int h
   ·rw [key_lr] at h;exact SeqAt.EqAt.int_str i t y u _ _ _ _ h
  ·rcases keyIs_shape hv with⟨j,u,rfl,rfl⟩|⟨y,u,rfl,rfl⟩
   ·rw [key_rl] at h;exact SeqAt.EqAt.str_int x t j u _ _ _ _ h
   ·rw [key_rr] at h;exact wpAny_eqBool_str h
 «strs»:=fun k x t v h=>by
  rcases keyIs_shape h with⟨i,u,rfl,e⟩|⟨y,u,rfl,e⟩
  ·exact nomatch e
  ·injection e with e1 _
   subst e1
   cases v <;> rfl
theorem mixKind_int (prog:Program) (w:World) (i:Int) (t:Tok):(mixKind prog w).is (.inl i) (.int i t)=true:=keyIs_int i t
theorem mixKind_str (prog:Program) (w:World) (x:Str) (t:Tok):(mixKind prog w).is (.inr x) (.str x t)=true:=keyIs_str x t
inductive V where
 | non|bl (b:Bool)|int (i:Int)|str (x:Str)|byt (b:Array UInt8)|flt (b:UInt64)|ref (a:Addr)|ty (n:String)
 deriving DecidableEq
def RelV:V->Value->Prop
 | .non,u=>u=Value.none
 | .bl b,u=>u=Value.bool b
 | .int i,u=>∃ t,u=Value.int i t
 | .str x,u=>∃ t,u=Value.str x t
 | .byt b,u=>∃ t,u=Value.bytes b t
 | .flt b,u=>∃ t,u=Value.float b t
 | .ref a,u=>u=Value.ref a
 | .ty n,u=>u=Value.type n
abbrev Vals:List V->List Value->Prop:=Paired RelV
theorem Vals.length {xs:List V} {us:List Value} (r:Vals xs us):xs.length=us.length:=Paired.length r
theorem Vals.get:∀ {xs:List V} {us:List Value} {i:Nat} {x:V},Vals xs us->xs[i]?=some x->∃ u,us[i]?=some u/\RelV x u
 | _,_,_,_,.nil,e=>by simp at e
 | _,_,0,_,.cons r _,e=>by simp at e;subst e;exact⟨_,rfl,r⟩
 | _,_,i + 1,x,.cons _ t,e=>by
  obtain⟨u,h1,h2⟩:=Vals.get (i:=i) (x:=x) t (by simpa using e)
  exact⟨u,by simpa using h1,h2⟩
theorem Vals.set {x:V} {u:Value} (r:RelV x u):∀ {xs:List V} {us:List Value} (i:Nat),Vals xs us->Vals (xs.set i x) (us.set i u)
 | _,_,_,.nil=>.nil
 | _,_,0,.cons _ t=>.cons r t
 | _,_,i + 1,.cons q t=>.cons q (Vals.set r i t)
theorem Vals.append:∀ {xs ys:List V} {us ws:List Value},Vals xs us->Vals ys ws->Vals (xs++ys) (us++ws)
 | _,_,_,_,.nil,s=>s
 | _,_,_,_,.cons r t,s=>.cons r (Vals.append t s)
theorem Vals.take:∀ {xs:List V} {us:List Value} (n:Nat),Vals xs us->Vals (xs.take n) (us.take n)
 | _,_,0,_=>.nil
 | _,_,_ + 1,.nil=>.nil
 | _,_,n + 1,.cons r t=>.cons r (Vals.take n t)
theorem Vals.drop:∀ {xs:List V} {us:List Value} (n:Nat),Vals xs us->Vals (xs.drop n) (us.drop n)
 | _,_,0,r=>r
 | _,_,_ + 1,.nil=>.nil
 | _,_,n + 1,.cons _ t=>Vals.drop n t
theorem Vals.none_of:∀ {xs:List V} {us:List Value} {i:Nat},Vals xs us->xs[i]?=none->us[i]?=none:=fun {xs us i} r e=>by
 have h1:=r.length
 have h2:xs.length<=i:=List.getElem?_eq_none_iff.mp e
 exact List.getElem?_eq_none_iff.mpr (by omega)
def RelO:Option V->Option Value->Prop
 | some v,some u=>RelV v u
 | none,none=>True
 | _,_=>False
def KV {κ : Type} : List (κ × V)->List (κ × Value)->Prop:=Paired fun (p : κ × V) (q : κ × Value)=>p.1=q.1/\RelV p.2 q.2
def kV:Key->V
 | .inl i=>.int i
 | .inr x=>.str x
inductive HO where
 /-- a list -/
 | lst (xs:List V)
 /-- a tuple (never changes) -/
 | tup (xs:List V)
 /-- a dict whose keys are ints and texts; one whose keys are tuples of ints and texts (the empty one is both) -/
 | dK (kvs:List (Key × V))|dT (kvs:List (List Key × V))
 /-- a set of ints: its members,its size -/
 | set (S:Int->Bool) (n:Nat)
 /-- an instance of the class at C,its dict at dx,its attributes -/
 | ins (C dx:Addr) (fs:List (Str × V))
 /-- the dict of the instance at x -/
 | own (x:Addr)
 /-- the dict of an exception -/
 | xd (fs:List (Str × V))
 /-- a bound method,f of x -/
 | met (f x:Addr)
 /-- a range object lo,lo + 1,.. below hi -/
 | rng (lo hi:Int)
 /-- a thing that is known to the object (the script; a dict while a loop walks it): read,never written while it is so -/
 | frz (o:Obj) (u:HO)
 /-- a code object's table -/
 | tbl (ps:Array Value)
 /-- any other thing,by what is true of its one object (a def of one's own: SetO a S n := HO.ext fun h => ..) -/
 | ext (φ : Heap->Prop)
abbrev Hp:=Addr->Option HO
def upd (H:Hp) (a:Addr) (o:HO):Hp:=fun b=>if b=a then some o else H b
theorem upd_same {H:Hp} {a:Addr} {o:HO} : upd H a o a=some o:=by unfold upd;rw [if_pos rfl]
theorem upd_ne {H:Hp} {a b:Addr} {o:HO} (h:b ≠ a):upd H a o b=H b:=by unfold upd;rw [if_neg h]
theorem ne_of {H:Hp} {a b:Addr} {o u:HO} (h:H a=some o) (h':H b=some u) (d:o ≠ u):a ≠ b:=by
 intro e;subst e;rw [h] at h';exact d (Option.some.inj h')
theorem ne_of_none {H:Hp} {a b:Addr} {o:HO} (h:H a=some o) (h':H b=none):a ≠ b:=by
 intro e;subst e;rw [h] at h';cases h'
section
variable (P:Program) (w:World)
def ObjOk (H:Hp) (h:Heap) (a:Addr):HO->Prop
 | .lst xs=>xs.length<=sizeLine/\∃ (its:List Value) (n:Nat),Vals xs its/\h.get? a=some { cls:=.type "list",data:=.seq its.toArray n }
 | .tup xs=>xs.length<=sizeLine/\∃ its:List Value,Vals xs its/\IsTup h a its.toArray
 | .dK kvs=>kvs.length<=sizeLine/\(a == sysModules)=false/\∃ vs,KV kvs vs/\h.DictOf (mixKind P w) a vs
 | .dT kvs=>kvs.length<=sizeLine/\(a == sysModules)=false/\∃ xs:List (List Key × Addr × Value),
   Paired (fun (p:List Key × V) (q:List Key × Addr × Value)=>p.1=q.1/\H q.2.1=some (.tup (p.1.map kV))/\RelV p.2 q.2.2) kvs xs ∧
   ∃ o es ep,h.get? a=some o/\o.ExactDict/\o.data=.dict es ep/\es.toList=xs.map (entryOfKey (tupleKind (mixKind P w)))/\(xs.map (·.1)).Nodup
 | .set S n=>h.SetOf (intKind P w) a S n
 | .ins C dx fs=>H dx=some (.own a)/\fs.length<=1000/\dx ≠ a/\h.get? a=some (PySem.W.instObj C dx) ∧
   ∃ mA,h.Ns1 dx mA/\(∀ f,RelO (fs.lookup f) (mA f))/\PySem.Within mA (fs.map (·.1))
 | .own _=>∃ o,h.get? a=some o
 | .xd fs=>∃ mA,h.Ns1 a mA/\∀ f,RelO (fs.lookup f) (mA f)
 | .rng lo hi=>∃ t u v,h.get? a=some { cls:=.type "range",data:=.fields #[.int lo t,.int hi u,.int 1 v] }
 | .frz o u=>h.get? a=some o/\ObjOk H h a u
 | .tbl ps=>h.get? a=some { cls:=.none,data:=.fields ps }
 | .met f x=>h.get? a=some (PySem.W.methodObj (.ref f) (.ref x))
 | .ext φ=>φ h/\(∃ o,h.get? a=some o)/\∀ h1 h2:Heap,φ h1->(∀ o,h1.get? a=some o->h2.get? a=some o)->φ h2
def HOk (H:Hp) (h:Heap):Prop:=∀ a o,H a=some o->ObjOk P w H h a o
end
section
variable {P:Program} {w:World} {H H':Hp} {h h':Heap} {a:Addr} {o:HO}
theorem ObjOk.lt (x:ObjOk P w H h a o):a < h.objs.size:=by
 cases o with
 | lst xs=>obtain⟨_,_,_,_,e⟩:=x;exact Heap.lt_size e
 | tup xs=>obtain⟨_,_,_,p⟩:=x;exact p.lt
 | dK kvs=>obtain⟨_,_,_,_,o,_,_,e,_⟩:=x;exact Heap.lt_size e
 | dT kvs=>obtain⟨_,_,_,_,o,_,_,e,_⟩:=x;exact Heap.lt_size e
 | set S n=>obtain⟨o,_,_,_,e,_⟩:=x;exact Heap.lt_size e
 | ins C dx fs=>obtain⟨_,_,_,e,_⟩:=x;exact Heap.lt_size e
 | own y=>obtain⟨_,e⟩:=x;exact Heap.lt_size e
 | xd fs=>obtain⟨_,⟨_,_,_,e,_⟩,_⟩:=x;exact Heap.lt_size e
 | rng lo hi=>obtain⟨_,_,_,e⟩:=x;exact Heap.lt_size e
 | frz ob u=>obtain⟨e,_⟩:=x;exact Heap.lt_size e
 | tbl ps=>exact Heap.lt_size (show h.get? a=some _ from x)
 | met f y=>exact Heap.lt_size (show h.get? a=some _ from x)
 | ext φ=>obtain⟨_,⟨_,e⟩,_⟩:=x;exact Heap.lt_size e
theorem Paired.mapP {α β : Type} {F G : α->β->Prop} : ∀ {l₁ : List α} {l₂ : List β},Paired F l₁ l₂->(∀ a b,F a b->G a b)->Paired G l₁ l₂
 | _,_,.nil,_=>.nil
 | _,_,.cons r t,f=>.cons (f _ _ r) (Paired.mapP t f)
theorem ObjOk.stay (x:ObjOk P w H h a o) (k:∀ b u,(b=a\/H b=some (.own a))->h.get? b=some u->h'.get? b=some u)
  (ho:∀ b,H b=some (.own a)->H' b=some (.own a)) (ht:∀ b xs,H b=some (.tup xs)->H' b=some (.tup xs)):ObjOk P w H' h' a o:=by
 induction o with
 | lst xs=>obtain⟨z,its,n,r,e⟩:=x;exact⟨z,its,n,r,k _ _ (.inl rfl) e⟩
 | tup xs=>obtain⟨z,its,r,ob,e,c⟩:=x;exact⟨z,its,r,ob,k _ _ (.inl rfl) e,c⟩
 | dK kvs=>obtain⟨z,y,vs,r,ob,es,ep,e,c⟩:=x;exact⟨z,y,vs,r,ob,es,ep,k _ _ (.inl rfl) e,c⟩
 | dT kvs =>
  obtain⟨z,y,xs,r,ob,es,ep,e,c⟩:=x
  exact⟨z,y,xs,Paired.mapP r fun p q z=>⟨z.1,ht _ _ z.2.1,z.2.2⟩,ob,es,ep,k _ _ (.inl rfl) e,c⟩
 | set S n=>obtain⟨ob,es,ep,t,e,c⟩:=x;exact⟨ob,es,ep,t,k _ _ (.inl rfl) e,c⟩
 | ins C dx fs =>
  obtain⟨d,z,ne,e,mA,⟨od,es,ep,e2,c⟩,r⟩:=x
  exact⟨ho _ d,z,ne,k _ _ (.inl rfl) e,mA,⟨od,es,ep,k _ _ (.inr d) e2,c⟩,r⟩
 | own y=>obtain⟨ob,e⟩:=x;exact⟨ob,k _ _ (.inl rfl) e⟩
 | xd fs=>obtain⟨mA,⟨od,es,ep,e,c⟩,r⟩:=x;exact⟨mA,⟨od,es,ep,k _ _ (.inl rfl) e,c⟩,r⟩
 | rng lo hi=>obtain⟨t,u,v,e⟩:=x;exact⟨t,u,v,k _ _ (.inl rfl) e⟩
 | frz ob u ih=>obtain⟨e,q⟩:=x;exact⟨k _ _ (.inl rfl) e,ih q⟩
 | tbl ps =>
  have e:h.get? a=some { cls:=.none,data:=.fields ps }:=x
  show h'.get? a=some { cls:=.none,data:=.fields ps }
  exact k a _ (.inl rfl) e
 | met f y =>
  have e:h.get? a=some (PySem.W.methodObj (.ref f) (.ref y)):=x
  show h'.get? a=some (PySem.W.methodObj (.ref f) (.ref y))
  exact k a _ (.inl rfl) e
 | ext φ=>obtain⟨p,⟨o,e⟩,st⟩:=x;exact⟨st _ _ p fun o q=>k _ _ (.inl rfl) q,⟨o,k _ _ (.inl rfl) e⟩,st⟩
theorem HOk.lt (x:HOk P w H h) (e:H a=some o):a < h.objs.size:=(x a o e).lt
theorem HOk.fresh (x:HOk P w H h) (e:h.objs.size<=a):H a=none:=by
 cases q:H a with
 | none=>rfl
 | some u=>exact absurd (Nat.lt_of_lt_of_le (x.lt q) e) (Nat.lt_irrefl _)
theorem HOk.kept (x:HOk P w H h) (k:∀ b u,h.get? b=some u->h'.get? b=some u):HOk P w H h':=fun a o e =>
 (x a o e).stay (fun b u _ q=>k b u q) (fun _ q=>q) fun _ _ q=>q
theorem HOk.laid (x:HOk P w H h) (k:∀ b u,h.get? b=some u->h'.get? b=some u) (hp:h.objs.size<=a) (new:ObjOk P w (upd H a o) h' a o):HOk P w (upd H a o) h':=fun b u e=>by
 have hn:=x.fresh hp
 by_cases hb:b=a
 ·subst hb;rw [upd_same] at e;cases e;exact new
 ·rw [upd_ne hb] at e
  exact (x b u e).stay (fun c v _ q=>k c v q) (fun c q=>by rw [upd_ne (ne_of_none q hn)];exact q) fun c xs q=>by rw [upd_ne (ne_of_none q hn)];exact q
end
def Rd (H:Hp) (a:Addr) (u:HO):Prop:=H a=some u\/∃ o,H a=some (.frz o u)
theorem Rd.of {H:Hp} {a:Addr} {u:HO} (h:H a=some u):Rd H a u:=.inl h
theorem Rd.ok {P:Program} {w:World} {H:Hp} {h:Heap} {a:Addr} {u:HO} (r:Rd H a u) (x:HOk P w H h):ObjOk P w H h a u:=by
 rcases r with r|⟨o,r⟩
 ·exact x a u r
 ·obtain⟨_,q⟩:=x a _ r
  exact q
def Mut:Option HO->Prop
 | some (.lst _)=>True
 | some (.dK _)=>True
 | some (.dT _)=>True
 | some (.set _ _)=>True
 | some (.ins _ _ _)=>True
 | some (.ext _)=>True
 | _=>False
section
variable {P:Program} {w:World} {H:Hp} {h h':Heap} {x e:Addr} {o':HO}
theorem HOk.write (ok:HOk P w H h) (mu:Mut (H x)) (he:e=x\/H e=some (.own x)) (k:∀ b u,b ≠ e->h.get? b=some u->h'.get? b=some u) (heo:∃ u,h'.get? e=some u)
  (new:ObjOk P w (upd H x o') h' x o'):HOk P w (upd H x o') h':=fun b u q=>by
 have nown:∀ c y,H c=some (.own y)->c ≠ x:=fun c y r z=>by subst z;rw [r] at mu;exact mu
 have ntup:∀ c xs,H c=some (.tup xs)->c ≠ x:=fun c xs r z=>by subst z;rw [r] at mu;exact mu
 by_cases hb:b=x
 ·subst hb;rw [upd_same] at q;cases q;exact new
 ·rw [upd_ne hb] at q
  by_cases hbe:b=e
  ·have q':H b=some (.own x):=by
    rcases he with z|z
    ·exact absurd (hbe.trans z) hb
    ·rw [hbe];exact z
   rw [q] at q';cases q'
   obtain⟨v,hv⟩:=heo
   exact⟨v,by rw [hbe];exact hv⟩
  ·refine (ok b u q).stay (fun c v hc r=>k c v ?_ r) (fun c r=>by rw [upd_ne (nown c b r)];exact r) fun c xs r=>by rw [upd_ne (ntup c xs r)];exact r
   rcases hc with rfl|hc
   ·exact hbe
   ·rintro rfl
    rcases he with z|z
    ·exact nown c b hc z
    ·rw [hc] at z;cases z;exact hb rfl
end
structure Un (fs ex:List Addr) (H H':Hp) (h h':Heap):Prop where
 keep:∀ b o,h.get? b=some o->H b=none->b ∉ fs->b ∉ ex->h'.get? b=some o
 slot:∀ b o,h.get? b=some o->H b=none->b ∈ fs->b ∉ ex->∃ sl,h'.get? b=some { o with slots:=sl }
 free:∀ b o,h.get? b=some o->H b=none->b ∉ ex->H' b=none
 there:∀ b o,h.get? b=some o->b ∉ ex->∃ o',h'.get? b=some o'
 tups:∀ b xs,H b=some (.tup xs)->H' b=some (.tup xs)
 frzs:∀ b o u,H b=some (.frz o u)->H' b=some (.frz o u)
 tbls:∀ b ps,H b=some (.tbl ps)->∃ more,H' b=some (.tbl (ps++more))
section
variable {fs fs' ex ex':List Addr} {H H1 H2:Hp} {h h1 h2 h':Heap} {a x e:Addr} {o:HO}
theorem Un.any (u:Un fs ex H H1 h h1) {b:Addr} {ob:Obj} (q:h.get? b=some ob) (n:H b=none) (hx:b ∉ ex):∃ sl,h1.get? b=some { ob with slots:=sl }:=by
 by_cases hb:b ∈ fs
 ·exact u.slot b ob q n hb hx
 ·exact⟨ob.slots,u.keep b ob q n hb hx⟩
theorem Un.trans (a:Un fs ex H H1 h h1) (b:Un fs ex H1 H2 h1 h2):Un fs ex H H2 h h2 where
 keep:=fun c ob q n hc hx=>b.keep c ob (a.keep c ob q n hc hx) (a.free c ob q n hx) hc hx
 slot:=fun c ob q n hc hx=>by
  obtain⟨sl,e1⟩:=a.slot c ob q n hc hx
  obtain⟨sl',e2⟩:=b.slot c _ e1 (a.free c ob q n hx) hc hx
  exact⟨sl',e2⟩
 free:=fun c ob q n hx=>by
  obtain⟨o',e1⟩:=a.there c ob q hx
  exact b.free c o' e1 (a.free c ob q n hx) hx
 there:=fun c ob q hx=>by
  obtain⟨o',e1⟩:=a.there c ob q hx
  exact b.there c o' e1 hx
 tups:=fun c xs q=>b.tups c xs (a.tups c xs q)
 frzs:=fun c ob xs q=>b.frzs c ob xs (a.frzs c ob xs q)
 tbls:=fun c ps q=>by
  obtain⟨m1,e1⟩:=a.tbls c ps q
  obtain⟨m2,e2⟩:=b.tbls c _ e1
  exact⟨m1++m2,by rw [e2,Array.append_assoc]⟩
theorem Un.kept (k:∀ b u,h.get? b=some u->h'.get? b=some u):Un fs ex H H h h' :=
 ⟨fun b ob q _ _ _=>k b ob q,fun b ob q _ _ _=>⟨ob.slots,k b ob q⟩,fun _ _ _ n _=>n,fun b ob q _=>⟨ob,k b ob q⟩,fun _ _ q=>q,fun _ _ _ q=>q,fun _ ps q=>⟨#[],by rw [q];simp⟩⟩
theorem Un.refl:Un fs ex H H h h:=Un.kept fun _ _ q=>q
theorem Un.laid (k:∀ b u,h.get? b=some u->h'.get? b=some u) (hp:h.objs.size<=a) (hn:H a=none):Un fs ex H (upd H a o) h h' where
 keep:=fun b u q _ _ _=>k b u q
 slot:=fun b u q _ _ _=>⟨u.slots,k b u q⟩
 free:=fun b u q n _=>by rw [upd_ne (Nat.ne_of_lt (Nat.lt_of_lt_of_le (Heap.lt_size q) hp))];exact n
 there:=fun b u q _=>⟨u,k b u q⟩
 tups:=fun b xs q=>by rw [upd_ne (ne_of_none q hn)];exact q
 frzs:=fun b u xs q=>by rw [upd_ne (ne_of_none q hn)];exact q
 tbls:=fun b ps q=>⟨#[],by rw [upd_ne (ne_of_none q hn),q];simp⟩
theorem Un.write (mu:Mut (H x)) (he:e=x\/H e=some (.own x)) (k:∀ b u,b ≠ e->h.get? b=some u->h'.get? b=some u) (heo:∃ u,h'.get? e=some u):Un fs ex H (upd H x o) h h':=by
 have hx:∀ b,H b=none->b ≠ x:=fun b n z=>by subst z;rw [n] at mu;exact mu
 have hb:∀ b,H b=none->b ≠ e:=fun b n z=>by
  subst z
  rcases he with r|r
  ·exact hx b n r
  ·rw [n] at r;cases r
 have hm:∀ b u,H b=some u->¬ Mut (some u)->b ≠ x:=fun b u q nm z=>by subst z;rw [q] at mu;exact nm mu
 refine⟨fun b u q n _ _=>k b u (hb b n) q,fun b u q n _ _=>⟨u.slots,k b u (hb b n) q⟩,fun b u q n _=>by rw [upd_ne (hx b n)];exact n,fun b u q _=>?_,
  fun b xs q=>by rw [upd_ne (hm b _ q fun z=>z)];exact q,fun b u xs q=>by rw [upd_ne (hm b _ q fun z=>z)];exact q,fun b ps q=>⟨#[],by rw [upd_ne (hm b _ q fun z=>z),q];simp⟩⟩
 by_cases hbe:b=e
 ·subst hbe;exact heo
 ·exact⟨u,k b u hbe q⟩
theorem Un.mono (u:Un fs ex H H1 h h1) (hs:∀ b ∈ fs,b ∈ fs') (hx:∀ b ∈ ex,b ∈ ex'):Un fs' ex' H H1 h h1 :=
 ⟨fun b ob q n hb he=>u.keep b ob q n (fun z=>hb (hs b z)) fun z=>he (hx b z),fun _ _ q n _ he=>u.any q n fun z=>he (hx _ z),fun b ob q n he=>u.free b ob q n fun z=>he (hx b z),fun b ob q he=>u.there b ob q fun z=>he (hx b z),u.tups,u.frzs,u.tbls⟩
end
def trk (h:Heap) (H:Hp):List Addr:=(List.range h.objs.size).filter fun a=>(H a).isSome
def hidT (h:Heap) (H:Hp):Heap:=PySem.W.hideAll h (trk h H)
theorem hidT_size (h:Heap) (H:Hp):(hidT h H).objs.size=h.objs.size:=PySem.W.hideAll_size _ _
theorem hidT_get {h:Heap} {H:Hp} {b:Addr} {o:Obj} (e:h.get? b=some o) (n:H b=none):(hidT h H).get? b=some o :=
 PySem.W.hideAll_get _ e fun hm=>by
  have q:(H b).isSome=true:=(List.mem_filter.mp hm).2
  rw [n] at q;simp at q
theorem of_hidT {h:Heap} {H:Hp} {b:Addr} {o:Obj} (e:(hidT h H).get? b=some o):h.get? b=some o/\H b=none:=by
 have e':h.get? b=some o:=PySem.W.of_hideAll (trk h H) e
 refine⟨e',?_⟩
 cases q:H b with
 | none=>rfl
 | some x =>
  have hm:b ∈ trk h H:=List.mem_filter.mpr ⟨List.mem_range.mpr (Heap.lt_size e'),by simp [q]⟩
  have z:(hidT h H).get? b=none:=PySem.W.hideAll_none (trk h H) hm
  rw [z] at e;cases e
def allNews (g h:Heap) (L:Addr):List (Addr × Obj):=(List.range h.objs.size).filterMap fun a=>if a=L\/(g.get? a).isSome=true then none else (h.get? a).map fun o=>(a,o)
def rest (g h:Heap) (L d:Addr):List (Addr × Obj):=(allNews g h L).filter fun p=>decide (p.1 ≠ d)
structure Mod (K:Frag) (mg:Str->Option Value) (base:Heap):Prop where
 kin:K.In base
 glob:base.Ns mainGlobals mg
 blt:∃ mb,base.Ns builtinsNs mb/\∀ x:Str,x ≠ "__name__"->mb x=bootBuiltins x
 nolimit:base.NoLimit
structure Cx where
 prog:Program
 w:World
 K:Frag
 mg:Str->Option Value
 base:Heap
 A:Around
 N:List Str
 s₀ : Shared
 H₀ : Hp
 env:Env
 outer:List Env
 stack:List Env
 ex:List Addr
 fn:Str->Bool
 calm:Bool
 pn:List (Addr × Obj)
 xe:Value->Shared->Prop
def frs (l:List Env):List Addr:=l.filterMap (·.frame)
abbrev Cx.fs (X:Cx):List Addr:=frs X.outer
def Vis (sc:Scope) (x:Str):Prop:=sc.names.lookup x=some .local\/sc.names.lookup x=some .cell\/sc.names.lookup x=some .free
def Loc (sc:Scope) (x:Str):Prop:=sc.names.lookup x=some .local\/sc.names.lookup x=some .cell
def Look (env:Env) (h:Heap) (m:Str->Option Value) (x:Str) (u:Value):Prop :=
 (env.kindOf x=some .local/\m x=some u)\/((env.kindOf x=some .cell\/env.kindOf x=some .free)/\∃ c,env.cells.lookup x=some c/\h.IsCell c (some u))
structure Cx.Ok (X:Cx):Prop where
 mod:Mod X.K X.mg X.base
 kind:X.env.scope.kind=.function
 glob:X.env.globals=mainGlobals
 blt:X.env.builtins=builtinsNs
 above:X.s₀.heap.objs.size<=X.env.locals
 inj:∀ x y c,X.env.cells.lookup x=some c->X.env.cells.lookup y=some c->x=y
 has:∀ x,(X.env.kindOf x=some .cell\/X.env.kindOf x=some .free)->∃ c,X.env.cells.lookup x=some c
 cab:∀ x c,X.fn x=true->X.env.cells.lookup x=some c->X.s₀.heap.objs.size<=c
 hd:X.calm=true->X.A.handled=none
 frames:X.A.frames=some X.stack
 stk:X.stack=X.outer\/(X.stack=X.env::X.outer/\X.env.frame=some X.env.locals)
 exf:∀ b ∈ X.ex,b ≠ X.env.locals/\∀ x c,X.env.cells.lookup x=some c->c ≠ b
 bs:∀ b o,X.base.get? b=some o->X.s₀.heap.get? b=some o/\X.H₀ b=none
 bsz:X.base.objs.size<=X.s₀.heap.objs.size
 noex:∀ b o,X.base.get? b=some o->b ∉ X.ex
 exfs:∀ b ∈ X.ex,b ∉ X.fs
 funs:X.s₀.heap.FunFrames X.base X.outer
 frf:∀ b ∈ X.fs,X.H₀ b=none
structure Inv (X:Cx) (pins:List (Addr × Obj)) (σ:List (Option V)) (H:Hp) (s:Shared):Prop where
 ok:X.Ok
 os:s.os=X.s₀.os
 bare:AllBare s.gens
 base:Un X.fs X.ex X.H₀ H X.s₀.heap s.heap
 loc:∃ m,s.heap.Ns X.env.locals m/\∀ (i:Nat) (x:Str) (v:V),X.N[i]?=some x->σ[i]?=some (some v)->Vis X.env.scope x->∃ u,RelV v u/\Look X.env s.heap m x u
 cell:∀ x c,X.env.cells.lookup x=some c->∃ v,s.heap.IsCell c v
 free:H X.env.locals=none
 freeC:∀ x c,X.env.cells.lookup x=some c->H c=none
 pin:∀ p ∈ X.pn++pins,s.heap.get? p.1=some p.2/\H p.1=none/\p.1 ≠ X.env.locals/\p.1 ∉ X.fs/\∀ v,p.2.data ≠ .cell v
 hok:HOk X.prog X.w H s.heap
 len : σ.length=X.N.length
section
variable {X:Cx} {pins:List (Addr × Obj)} {σ:List (Option V)} {H H':Hp} {s:Shared} {h':Heap}
theorem Cx.Ok.nofr (ok:X.Ok) {b:Addr} {o:Obj} (e:X.base.get? b=some o):b ∉ X.fs:=fun hb=>by
 have:=(ok.funs.mem hb).1
 rw [e] at this;cases this
theorem Inv.bs (I:Inv X pins σ H s):∀ b o,X.base.get? b=some o->s.heap.get? b=some o/\H b=none:=fun b o e =>
 ⟨I.base.keep b o (I.ok.bs b o e).1 (I.ok.bs b o e).2 (I.ok.nofr e) (I.ok.noex b o e),I.base.free b o (I.ok.bs b o e).1 (I.ok.bs b o e).2 (I.ok.noex b o e)⟩
theorem Inv.bk (I:Inv X pins σ H s):∀ b o,X.base.get? b=some o->s.heap.get? b=some o:=fun b o e=>(I.bs b o e).1
theorem Inv.mod (I:Inv X pins σ H s):Mod X.K X.mg X.base:=I.ok.mod
theorem Inv.kIn (I:Inv X pins σ H s):X.K.In s.heap:=I.ok.mod.kin.keeps I.bk
theorem Inv.nolimit (I:Inv X pins σ H s):s.heap.NoLimit:=I.ok.mod.nolimit.keeps I.bk
theorem Inv.fr (I:Inv X pins σ H s):∃ m,Fr X.base X.env.locals s.heap m :=
 let ⟨m,hn,_⟩:=I.loc
 ⟨m,hn,I.bk,Nat.le_trans I.ok.bsz I.ok.above⟩
theorem Inv.lt (I:Inv X pins σ H s):X.env.locals < s.heap.objs.size:=let ⟨_,hn,_⟩:=I.loc;hn.lt
theorem Inv.sz (I:Inv X pins σ H s):X.s₀.heap.objs.size<=s.heap.objs.size:=Nat.le_trans I.ok.above (Nat.le_of_lt I.lt)
theorem Inv.nofs (I:Inv X pins σ H s) {a:Addr} (h:s.heap.objs.size<=a):a ∉ X.fs:=fun hb=>by
 obtain⟨_,o,ho,_⟩:=I.ok.funs.mem hb
 exact absurd (Nat.lt_of_lt_of_le (Heap.lt_size ho) (Nat.le_trans I.sz h)) (Nat.lt_irrefl _)
theorem Inv.cne (I:Inv X pins σ H s):∀ x c,X.env.cells.lookup x=some c->c ≠ X.env.locals:=fun x c e z=>by
 obtain⟨v,o,ho,hd⟩:=I.cell x c e
 obtain⟨m,⟨o',es,ep,ho',hd',_⟩,_⟩:=I.loc
 rw [z,ho'] at ho;cases ho;rw [hd'] at hd;cases hd
theorem Inv.funs (I:Inv X pins σ H s):s.heap.FunFrames X.base X.outer:=by
 have all:∀ (l:List Env),(∀ b ∈ frs l,b ∈ X.fs)->X.s₀.heap.FunFrames X.base l->s.heap.FunFrames X.base l:=by
  intro l
  induction l with
  | nil=>intro _ _;trivial
  | cons env r ih =>
   intro hs hl
   obtain⟨hk,⟨L,o,hf,hn,ho,hd⟩,hr⟩:=hl
   have hL:L ∈ X.fs:=hs L (by unfold frs;rw [List.filterMap_cons,hf];exact List.mem_cons_self)
   obtain⟨sl,e⟩:=I.base.slot L o ho (I.ok.frf L hL) hL fun z=>I.ok.exfs L z hL
   exact⟨hk,⟨L,_,hf,hn,e,hd⟩,ih (fun b hb=>hs b (by unfold frs;rw [List.filterMap_cons,hf];exact List.mem_cons_of_mem _ hb)) hr⟩
 exact all X.outer (fun _ hb=>hb) I.ok.funs
theorem Inv.stack (I:Inv X pins σ H s):s.heap.FunFrames X.base X.stack:=by
 rcases I.ok.stk with e|⟨e,hf⟩
 ·rw [e];exact I.funs
 ·rw [e]
  obtain⟨m,hn,_⟩:=I.loc
  refine .cons (by rw [I.ok.kind];decide) hf hn ?_ I.funs
  exact Heap.get?_none_of_le (Nat.le_trans I.ok.bsz I.ok.above)
theorem Inv.stkSub (I:Inv X pins σ H s):∀ b ∈ frs X.stack,b ∈ X.env.locals::X.fs:=fun b hb=>by
 rcases I.ok.stk with e|⟨e,hf⟩
 ·rw [e] at hb;exact List.mem_cons_of_mem _ hb
 ·rw [e] at hb
  unfold frs at hb
  rw [List.filterMap_cons,hf] at hb
  exact hb
theorem Inv.stkFree (I:Inv X pins σ H s):∀ b ∈ frs X.stack,H b=none:=fun b hb=>by
 rcases List.mem_cons.mp (I.stkSub b hb) with e|hb
 ·rw [e];exact I.free
 ·obtain⟨_,o,ho,_⟩:=I.ok.funs.mem hb
  exact I.base.free b o ho (I.ok.frf b hb) fun z=>I.ok.exfs b z hb
theorem Inv.step {g':Array GenState} {t':Nat} {d':Drawn} {ch:List Addr} (I:Inv X pins σ H s)
  (hch:∀ b ∈ ch,(b ∈ X.ex\/X.s₀.heap.objs.size<=b)/\b ≠ X.env.locals/\(∀ x c,X.env.cells.lookup x=some c->c ≠ b)/\∀ p ∈ X.pn++pins,p.1 ≠ b)
  (keep:∀ b o,b ≠ X.env.locals->b ∉ X.fs->b ∉ ch->s.heap.get? b=some o->H b=none->h'.get? b=some o)
  (slot:∀ b o,b ≠ X.env.locals->b ∈ X.fs->b ∉ ch->s.heap.get? b=some o->H b=none->∃ sl,h'.get? b=some { o with slots:=sl }) (free:∀ b o,b ∉ ch->s.heap.get? b=some o->H b=none->H' b=none)
  (there:∀ b o,b ∉ ch->s.heap.get? b=some o->∃ o',h'.get? b=some o')
  (tups:∀ b xs,H b=some (.tup xs)->H' b=some (.tup xs)) (frzs:∀ b o u,H b=some (.frz o u)->H' b=some (.frz o u)) (tbls:∀ b ps,H b=some (.tbl ps)->∃ more,H' b=some (.tbl (ps++more)))
  (ns:∀ m,s.heap.Ns X.env.locals m->h'.Ns X.env.locals m) (hok:HOk X.prog X.w H' h') (hg:AllBare g') :
  Inv X pins σ H' { s with heap:=h',gens:=g',drawn:=d',toks:=t' }:=by
 have neL:∀ b o,X.s₀.heap.get? b=some o->b ≠ X.env.locals:=fun b o e=>Nat.ne_of_lt (Nat.lt_of_lt_of_le (Heap.lt_size e) I.ok.above)
 have neC:∀ b o,X.s₀.heap.get? b=some o->b ∉ X.ex->b ∉ ch:=fun b o e hx hb=>by
  rcases (hch b hb).1 with z|z
  ·exact hx z
  ·exact absurd (Nat.lt_of_lt_of_le (Heap.lt_size e) z) (Nat.lt_irrefl _)
 have cellK:∀ x c,X.env.cells.lookup x=some c->∀ v,s.heap.IsCell c v->h'.IsCell c v:=fun x c e v ⟨o,ho,hd⟩=>by
  have nch:c ∉ ch:=fun z=>(hch c z).2.2.1 x c e rfl
  by_cases hc:c ∈ X.fs
  ·obtain⟨sl,q⟩:=slot c o (I.cne x c e) hc nch ho (I.freeC x c e)
   exact⟨_,q,hd⟩
  ·exact⟨o,keep c o (I.cne x c e) hc nch ho (I.freeC x c e),hd⟩
 refine⟨I.ok,I.os,hg,⟨fun b o e n hb hx=>?_,fun b o e n hb hx=>?_,fun b o e n hx=>?_,fun b o e hx=>?_,fun b xs e=>tups b xs (I.base.tups b xs e),fun b o xs e=>frzs b o xs (I.base.frzs b o xs e),fun b ps e=>?_⟩,?_,fun x c e=>?_,?_,fun x c e=>?_,fun p hp=>?_,hok,I.len⟩
 ·exact keep b o (neL b o e) hb (neC b o e hx) (I.base.keep b o e n hb hx) (I.base.free b o e n hx)
 ·obtain⟨sl,e1⟩:=I.base.slot b o e n hb hx
  obtain⟨sl',e2⟩:=slot b _ (neL b o e) hb (neC b o e hx) e1 (I.base.free b o e n hx)
  exact⟨sl',e2⟩
 ·obtain⟨o',e1⟩:=I.base.there b o e hx
  exact free b o' (neC b o e hx) e1 (I.base.free b o e n hx)
 ·obtain⟨o',e1⟩:=I.base.there b o e hx
  exact there b o' (neC b o e hx) e1
 ·obtain⟨m1,e1⟩:=I.base.tbls b ps e
  obtain⟨m2,e2⟩:=tbls b _ e1
  exact⟨m1++m2,by rw [e2,Array.append_assoc]⟩
 ·obtain⟨m,hn,hl⟩:=I.loc
  refine⟨m,ns m hn,fun i x v e1 e2 e3=>?_⟩
  obtain⟨u,r,l⟩:=hl i x v e1 e2 e3
  refine⟨u,r,?_⟩
  rcases l with l|⟨k,c,e,z⟩
  ·exact .inl l
  ·exact .inr ⟨k,c,e,cellK x c e _ z⟩
 ·obtain⟨v,z⟩:=I.cell x c e
  exact⟨v,cellK x c e v z⟩
 ·obtain⟨m,⟨o,_,_,ho,_⟩,_⟩:=I.loc
  exact free _ o (fun z=>(hch _ z).2.1 rfl) ho I.free
 ·obtain⟨v,o,ho,hd⟩:=I.cell x c e
  exact free c o (fun z=>(hch c z).2.2.1 x c e rfl) ho (I.freeC x c e)
 ·obtain⟨e,n,ne,nf,d⟩:=I.pin p hp
  have nch:p.1 ∉ ch:=fun z=>(hch p.1 z).2.2.2 p hp rfl
  exact⟨keep p.1 p.2 ne nf nch e n,free p.1 p.2 nch e n,ne,nf,d⟩
theorem Inv.un {t':Nat} (I:Inv X pins σ H s) (u:Un X.fs [] H H' s.heap h') (hok:HOk X.prog X.w H' h'):Inv X pins σ H' { s with heap:=h',toks:=t' }:=by
 obtain⟨m,⟨o,es,ep,ho,r⟩,_⟩:=id I.loc
 obtain⟨sl,hL⟩:=u.any ho I.free (by simp)
 exact I.step (g':=s.gens) (d':=s.drawn) (ch:=[]) (fun _ z=>nomatch z) (fun b o _ hb _ e n=>u.keep b o e n hb (by simp)) (fun b o _ hb _ e n=>u.slot b o e n hb (by simp)) (fun b o _ e n=>u.free b o e n (by simp)) (fun b o _ e=>u.there b o e (by simp)) u.tups u.frzs u.tbls (fun m' hm=>by
  obtain⟨o',es',ep',ho',r'⟩:=hm
  rw [ho] at ho';cases ho'
  exact⟨_,es',ep',hL,r'⟩) hok I.bare
theorem Inv.call {g':Array GenState} {t':Nat} {d':Drawn} {ch:List Addr} (I:Inv X pins σ H s) (u:Un (frs X.stack) ch H H' s.heap h') (hok:HOk X.prog X.w H' h') (hg:AllBare g')
  (hch:∀ b ∈ ch,(b ∈ X.ex\/X.s₀.heap.objs.size<=b)/\b ≠ X.env.locals/\(∀ x c,X.env.cells.lookup x=some c->c ≠ b)/\∀ p ∈ X.pn++pins,p.1 ≠ b) :
  Inv X pins σ H' { s with heap:=h',gens:=g',drawn:=d',toks:=t' }:=by
 obtain⟨m,⟨o,es,ep,ho,r⟩,_⟩:=id I.loc
 obtain⟨sl,hL⟩:=u.any ho I.free fun z=>(hch _ z).2.1 rfl
 exact I.step (ch:=ch) hch (fun b o hL hb hc e n=>u.keep b o e n (fun z=>(List.mem_cons.mp (I.stkSub b z)).elim hL hb) hc) (fun b o _ _ hc e n=>u.any e n hc) (fun b o hc e n=>u.free b o e n hc) (fun b o hc e=>u.there b o e hc) u.tups u.frzs u.tbls (fun m' hm=>by
  obtain⟨o',es',ep',ho',r'⟩:=hm
  rw [ho] at ho';cases ho'
  exact⟨_,es',ep',hL,r'⟩) hok hg
theorem Inv.turned {t':Nat} {it:Addr} (I:Inv X pins σ H s) (k:∀ b o,b ≠ it->s.heap.get? b=some o->h'.get? b=some o) (hn:H it=none) (hL:it ≠ X.env.locals)
  (h1:it ∈ X.ex\/X.s₀.heap.objs.size<=it) (h2:∀ x c,X.env.cells.lookup x=some c->c ≠ it) (h3:∀ p ∈ X.pn++pins,p.1 ≠ it):Inv X pins σ H { s with heap:=h',toks:=t' }:=by
 have nit:∀ b u,H b=some u->b ≠ it:=fun b u e z=>by rw [z,hn] at e;cases e
 refine I.step (g':=s.gens) (d':=s.drawn) (ch:=[it]) (fun b hb=>?_) (fun b o _ _ hc e _=>k b o (fun z=>hc (by simp [z])) e) (fun b o _ _ hc e _=>⟨o.slots,k b o (fun z=>hc (by simp [z])) e⟩) (fun _ _ _ _ n=>n)
  (fun b o hc e=>⟨o,k b o (fun z=>hc (by simp [z])) e⟩) (fun _ _ e=>e) (fun _ _ _ e=>e) (fun b ps e=>⟨#[],by rw [e];simp⟩) (fun m hm=>?_) (fun b u e=>?_) I.bare
 ·have e:b=it:=by simpa using hb
  subst e
  exact⟨h1,hL,h2,h3⟩
 ·obtain⟨o,es,ep,ho,r⟩:=hm
  exact⟨o,es,ep,k _ o (Ne.symm hL) ho,r⟩
 ·refine (I.hok b u e).stay (fun c v hc q=>k c v ?_ q) (fun _ q=>q) fun _ _ q=>q
  rcases hc with z|z
  ·rw [z];exact nit b u e
  ·exact nit c _ z
theorem Inv.tok (I:Inv X pins σ H s) (t:Nat):Inv X pins σ H { s with toks:=t }:=I.un (h':=s.heap) (t':=t) Un.refl I.hok
theorem Inv.kept {t':Nat} (I:Inv X pins σ H s) (k:∀ b u,s.heap.get? b=some u->h'.get? b=some u):Inv X pins σ H { s with heap:=h',toks:=t' }:=I.un (Un.kept k) (I.hok.kept k)
theorem Inv.laid {a:Addr} {o:HO} {t':Nat} (I:Inv X pins σ H s) (k:∀ b u,s.heap.get? b=some u->h'.get? b=some u) (hp:s.heap.objs.size<=a) (new:ObjOk X.prog X.w (upd H a o) h' a o) :
  Inv X pins σ (upd H a o) { s with heap:=h',toks:=t' }:=I.un (Un.laid k hp (I.hok.fresh hp)) (I.hok.laid k hp new)
theorem Inv.write {x e:Addr} {o:HO} {t':Nat} (I:Inv X pins σ H s) (mu:Mut (H x)) (he:e=x\/H e=some (.own x)) (k:∀ b u,b ≠ e->s.heap.get? b=some u->h'.get? b=some u) (heo:∃ u,h'.get? e=some u)
  (new:ObjOk X.prog X.w (upd H x o) h' x o):Inv X pins σ (upd H x o) { s with heap:=h',toks:=t' }:=I.un (Un.write mu he k heo) (I.hok.write mu he k heo new)
theorem Inv.pins_of {pins':List (Addr × Obj)} (I:Inv X pins σ H s) (h:∀ p ∈ pins',s.heap.get? p.1=some p.2/\H p.1=none/\p.1 ≠ X.env.locals/\p.1 ∉ X.fs/\∀ v,p.2.data ≠ .cell v):Inv X pins' σ H s :=
 ⟨I.ok,I.os,I.bare,I.base,I.loc,I.cell,I.free,I.freeC,fun p hp=>(List.mem_append.mp hp).elim (fun z=>I.pin p (List.mem_append_left _ z)) (h p),I.hok,I.len⟩
theorem nodup_ix {N:List Str} (hN:N.Nodup) {i j:Nat} {x:Str} (a:N[i]?=some x) (b:N[j]?=some x):i=j:=by
 obtain⟨h1,e1⟩:=List.getElem?_eq_some_iff.mp a
 obtain⟨h2,e2⟩:=List.getElem?_eq_some_iff.mp b
 exact (List.getElem_inj hN).mp (e1.trans e2.symm)
theorem store_ok2 {M:Model} {A:Around} {E:Value->Shared->Prop} {i:Nat} {x:Str} {v:V} {u:Value} {Q:Unit->Shared->Prop} (I:Inv X pins σ H s) (hN:X.N.Nodup) (hi:X.N[i]?=some x) (hx:Loc X.env.scope x) (r:RelV v u)
  (h:∀ s',Inv X pins (σ.set i (some v)) H s'->(∃ a,Heap.SameBut a s.heap s'.heap/\(a=X.env.locals\/X.env.cells.lookup x=some a))->Q () s') (hf:X.fn x=true\/X.env.scope.names.lookup x=some .local:=by first|exact .inl rfl|exact .inr rfl|assumption):wpAny M A (storeName X.env x u) Q E s:=by
 obtain⟨m,hn,hl⟩:=id I.loc
 have hcls:(X.env.scope.kind == .class || (X.env.scope.kind == .module && X.env.locals != X.env.globals))=false:=by rw [I.ok.kind];rfl
 have hiσ:i < σ.length:=by rw [I.len];exact (List.getElem?_eq_some_iff.mp hi).1
 have cne:=I.cne
 have tracked:∀ {a:Addr} {h':Heap},(∃ o,s.heap.get? a=some o/\H a=none)->Heap.SameBut a s.heap h'->HOk X.prog X.w H h':=fun {a h'} ha hs b ob e=>by
  obtain⟨_,_,hfree⟩:=ha
  refine (I.hok b ob e).stay (fun c w' hc q=>(hs.2 c ?_).trans q) (fun _ q=>q) fun _ _ q=>q
  rintro rfl
  rcases hc with rfl|hc
  ·rw [hfree] at e;cases e
  ·rw [hfree] at hc;cases hc
 rcases hx with hk|hk
 ·refine wpAny_storeName_local hk hn (fun h' hn' hs=>?_) hcls
  obtain⟨oL,_,_,hoL,_⟩:=id hn
  refine h _ ⟨I.ok,I.os,I.bare,⟨fun b o e n hb hx=>?_,fun b o e n hb hx=>?_,I.base.free,fun b o e hx=>?_,I.base.tups,I.base.frzs,I.base.tbls⟩,⟨_,hn',fun j y v' e1 e2 e3=>?_⟩,fun y c e=>?_,I.free,I.freeC,fun p hp=>?_,tracked ⟨oL,hoL,I.free⟩ hs,by simpa using I.len⟩ ⟨_,hs,.inl rfl⟩
  ·exact (hs.2 b (Nat.ne_of_lt (Nat.lt_of_lt_of_le (Heap.lt_size e) I.ok.above))).trans (I.base.keep b o e n hb hx)
  ·obtain⟨sl,e1⟩:=I.base.slot b o e n hb hx
   exact⟨sl,(hs.2 b (Nat.ne_of_lt (Nat.lt_of_lt_of_le (Heap.lt_size e) I.ok.above))).trans e1⟩
  ·obtain⟨o',e1⟩:=I.base.there b o e hx
   exact⟨o',(hs.2 b (Nat.ne_of_lt (Nat.lt_of_lt_of_le (Heap.lt_size e) I.ok.above))).trans e1⟩
  ·by_cases hj:j=i
   ·subst hj
    rw [hi] at e1;cases e1
    rw [List.getElem?_set_self hiσ] at e2
    cases e2
    exact⟨u,r,.inl ⟨hk,by simp⟩⟩
   ·rw [List.getElem?_set_ne (Ne.symm hj)] at e2
    obtain⟨u',r',q⟩:=hl j y v' e1 e2 e3
    refine⟨u',r',?_⟩
    rcases q with⟨k,e⟩|⟨k,c,e,z⟩
    ·refine .inl ⟨k,?_⟩
     have:y ≠ x:=fun e=>hj (nodup_ix hN e1 (e ▸ hi))
     simp [this,e]
    ·exact .inr ⟨k,c,e,z.sameBut hs (cne y c e)⟩
  ·obtain⟨w',z⟩:=I.cell y c e
   exact⟨w',z.sameBut hs (cne y c e)⟩
  ·obtain⟨e,n,ne,nf,d⟩:=I.pin p hp
   exact⟨(hs.2 p.1 ne).trans e,n,ne,nf,d⟩
 ·have hfn:X.fn x=true:=by
   rcases hf with z|z
   ·exact z
   ·rw [z] at hk;cases hk
  obtain⟨c,hc⟩:=I.ok.has x (.inl hk)
  obtain⟨w',z⟩:=I.cell x c hc
  refine wpAny_storeName_cell I.ok.kind hk hc z (fun h' hc' hs=>?_)
  obtain⟨oc,hoc,hocd⟩:=id z
  refine h { s with heap:=h' } ⟨I.ok,I.os,I.bare,⟨fun b o e n hb hx=>?_,fun b o e n hb hx=>?_,I.base.free,fun b o e hx=>?_,I.base.tups,I.base.frzs,I.base.tbls⟩,⟨m,hn.sameBut hs (Ne.symm (cne x c hc)),fun j y v' e1 e2 e3=>?_⟩,fun y c' e=>?_,I.free,I.freeC,fun p hp=>?_,tracked ⟨oc,hoc,I.freeC x c hc⟩ hs,by simpa using I.len⟩ ⟨c,hs,.inr hc⟩
  ·exact (hs.2 b (Nat.ne_of_lt (Nat.lt_of_lt_of_le (Heap.lt_size e) (I.ok.cab x c hfn hc)))).trans (I.base.keep b o e n hb hx)
  ·obtain⟨sl,e1⟩:=I.base.slot b o e n hb hx
   exact⟨sl,(hs.2 b (Nat.ne_of_lt (Nat.lt_of_lt_of_le (Heap.lt_size e) (I.ok.cab x c hfn hc)))).trans e1⟩
  ·obtain⟨o',e1⟩:=I.base.there b o e hx
   exact⟨o',(hs.2 b (Nat.ne_of_lt (Nat.lt_of_lt_of_le (Heap.lt_size e) (I.ok.cab x c hfn hc)))).trans e1⟩
  ·by_cases hj:j=i
   ·subst hj
    rw [hi] at e1;cases e1
    rw [List.getElem?_set_self hiσ] at e2
    cases e2
    exact⟨u,r,.inr ⟨.inl hk,c,hc,hc'⟩⟩
   ·rw [List.getElem?_set_ne (Ne.symm hj)] at e2
    obtain⟨u',r',q⟩:=hl j y v' e1 e2 e3
    refine⟨u',r',?_⟩
    rcases q with q|⟨k,c',e,z'⟩
    ·exact .inl q
    ·refine .inr ⟨k,c',e,z'.sameBut hs ?_⟩
     rintro rfl
     exact hj (nodup_ix hN e1 (I.ok.inj _ _ _ e hc ▸ hi))
  ·by_cases hcc:c'=c
   ·subst hcc;exact⟨_,hc'⟩
   ·obtain⟨w2,z2⟩:=I.cell y c' e
    exact⟨w2,z2.sameBut hs hcc⟩
  ·obtain⟨e,n,ne,nf,d⟩:=I.pin p hp
   refine⟨(hs.2 p.1 ?_).trans e,n,ne,nf,d⟩
   intro q
   rw [q,hoc] at e
   have q':oc=p.2:=Option.some.inj e
   exact d w' (by rw [← q'];exact hocd)
theorem store_ok {M:Model} {A:Around} {E:Value->Shared->Prop} {i:Nat} {x:Str} {v:V} {u:Value} {Q:Unit->Shared->Prop} (I:Inv X pins σ H s) (hN:X.N.Nodup) (hi:X.N[i]?=some x) (hx:Loc X.env.scope x) (r:RelV v u)
  (h:∀ s',Inv X pins (σ.set i (some v)) H s'->Q () s') (hf:X.fn x=true\/X.env.scope.names.lookup x=some .local:=by first|exact .inl rfl|exact .inr rfl|assumption):wpAny M A (storeName X.env x u) Q E s :=
 store_ok2 I hN hi hx r (fun s' I' _=>h s' I') hf
theorem Inv.call' {s':Shared} {ch:List Addr} (I:Inv X pins σ H s) (ho:s'.os=s.os) (u:Un (frs X.stack) ch H H' s.heap s'.heap) (hok:HOk X.prog X.w H' s'.heap) (hg:AllBare s'.gens)
  (hch:∀ b ∈ ch,(b ∈ X.ex\/X.s₀.heap.objs.size<=b)/\b ≠ X.env.locals/\(∀ x c,X.env.cells.lookup x=some c->c ≠ b)/\∀ p ∈ X.pn++pins,p.1 ≠ b):Inv X pins σ H' s':=by
 obtain⟨h',g',d',t',o'⟩:=s'
 have e:o'=s.os:=ho
 subst e
 exact I.call (g':=g') (t':=t') (d':=d') u hok hg hch
end
abbrev XK:=Value->Option Addr->Hp->Prop
abbrev St:=List (Option V)
abbrev VK:=V->Hp->Prop
abbrev TE:=St->Hp->VK->Prop
abbrev TT:=St->Hp->(Bool->Hp->Prop)->Prop
abbrev TA:=St->Hp->(List V->Hp->Prop)->Prop
structure Ends where
 nx:St->Hp->Prop
 rt:VK
 bk:St->Hp->Prop:=fun _ _=>False
 ct:St->Hp->Prop:=fun _ _=>False
abbrev TS:=Ends->St->Hp->Prop
def EP (X:Cx) (pins:List (Addr × Obj)) (σ:St) (Q:VK) (u:Value) (s':Shared):Prop:=∃ v H',Inv X pins σ H' s'/\RelV v u/\Q v H'
def TP (X:Cx) (pins:List (Addr × Obj)) (σ:St) (Q:Bool->Hp->Prop) (b:Bool) (s':Shared):Prop:=∃ H',Inv X pins σ H' s'/\Q b H'
def AP (X:Cx) (pins:List (Addr × Obj)) (σ:St) (Q:List V->Hp->Prop) (us:List Value) (s':Shared):Prop:=∃ vs H',Inv X pins σ H' s'/\Vals vs us/\Q vs H'
def SP (X:Cx) (pins:List (Addr × Obj)) (D:Ends) (f:Flow) (s':Shared):Prop :=
 match f with
 | .next=>∃ σ' H',Inv X pins σ' H' s'/\D.nx σ' H'
 | .brk=>∃ σ' H',Inv X pins σ' H' s'/\D.bk σ' H'
 | .cont=>∃ σ' H',Inv X pins σ' H' s'/\D.ct σ' H'
 | .ret u=>∃ v σ' H',Inv X pins σ' H' s'/\RelV v u/\D.rt v H'
def PE (X:Cx) (e:Expr) (t:TE):Prop :=
 ∀ (pins:List (Addr × Obj)) (s:Shared) (σ:St) (H:Hp) (Q:VK),Inv X pins σ H s->t σ H Q->wpAny (model X.prog X.w) X.A (eval e X.env) (EP X pins σ Q) X.xe s
def PT (X:Cx) (e:Expr) (t:TT):Prop :=
 ∀ (pins:List (Addr × Obj)) (s:Shared) (σ:St) (H:Hp) (Q:Bool->Hp->Prop),Inv X pins σ H s->t σ H Q->wpAny (model X.prog X.w) X.A (isTrue e X.env (eval e X.env)) (TP X pins σ Q) X.xe s
def PW (X:Cx) (e:Expr) (t:TT):Prop :=
 ∀ (whole:Sem Value) (pins:List (Addr × Obj)) (s:Shared) (σ:St) (H:Hp) (Q:Bool->Hp->Prop),Inv X pins σ H s->t σ H Q->wpAny (model X.prog X.w) X.A (isTrue e X.env whole) (TP X pins σ Q) X.xe s
theorem PW.pt {X:Cx} {e:Expr} {t:TT} (h:PW X e t):PT X e t:=h _
def PA (X:Cx) (es:List Expr) (t:TA):Prop :=
 ∀ (pos:Pos) (pins:List (Addr × Obj)) (s:Shared) (σ:St) (H:Hp) (Q:List V->Hp->Prop),Inv X pins σ H s->t σ H Q->wpAny (model X.prog X.w) X.A (spliced (backTo pos (starEach es X.env))) (AP X pins σ Q) X.xe s
def PS (X:Cx) (st:Stmt) (t:TS):Prop :=
 ∀ (pins:List (Addr × Obj)) (s:Shared) (σ:St) (H:Hp) (D:Ends),Inv X pins σ H s->t D σ H->wpAny (model X.prog X.w) X.A (exec st X.env) (SP X pins D) X.xe s
def PSs (X:Cx) (st:List Stmt) (t:TS):Prop :=
 ∀ (pins:List (Addr × Obj)) (s:Shared) (σ:St) (H:Hp) (D:Ends),Inv X pins σ H s->t D σ H->wpAny (model X.prog X.w) X.A (execs st X.env) (SP X pins D) X.xe s
theorem thn {α : Type} {t:Sem α} {Q Q' : α->Shared->Prop} {M:Model} {A:Around} {E:Value->Shared->Prop} {s:Shared} (h:wpAny M A t Q E s) (hQ:∀ a s,Q a s->Q' a s):wpAny M A t Q' E s:=wpAny_mono h hQ fun _ _ x=>x
section
variable {X:Cx}
def tVar (i:Nat):TE:=fun σ H Q=>∃ v,σ[i]?=some (some v)/\Q v H
def tC (v:V):TE:=fun _ H Q=>Q v H
theorem pe_var {i:Nat} {x:Str} {pos:Pos} (hN:X.N[i]?=some x) (hv:Vis X.env.scope x) (hd:(x == ("__debug__" : Str))=false:=by decide) (hcd:(x == ("__classdict__" : Str))=false:=by decide):PE X (.Name x pos) (tVar i):=by
 intro pins s σ H Q I h
 obtain⟨v,e,h⟩:=h
 obtain⟨m,hn,hl⟩:=I.loc
 obtain⟨u,r,l⟩:=hl i x v hN e hv
 have fin:EP X pins σ Q u s:=⟨v,H,I,r,h⟩
 rcases l with⟨hk,hm⟩|⟨hk,c,hc,hcell⟩
 ·exact wpAny_Name (wpAny_loadName_local I.ok.kind hk hn hm fin) hd
 ·rcases hk with hk|hk
  ·exact wpAny_Name (wpAny_loadName_cell I.ok.kind hk hc hcell fin) hd
  ·exact wpAny_Name (wpAny_loadName_free I.ok.kind hk hc hcell fin hcd) hd
theorem pe_int {i j pos} : PE X (.Constant (.int i) j pos) (tC (.int i)):=fun _ _ _ H _ I h=>wpAny_Constant_int ⟨.int i,H,I.tok _,⟨_,rfl⟩,h⟩
theorem pe_bl {b j pos} : PE X (.Constant (.bool b) j pos) (tC (.bl b)):=fun _ _ _ H _ I h=>Constant_bool ⟨.bl b,H,I,rfl,h⟩
theorem pe_non {j pos} : PE X (.Constant .none j pos) (tC .non):=fun _ _ _ H _ I h=>Constant_none ⟨.non,H,I,rfl,h⟩
theorem pe_str {x j pos} : PE X (.Constant (.str x) j pos) (tC (.str x)):=fun _ _ _ H _ I h=>Calls.Constant_str ⟨.str x,H,I.tok _,⟨_,rfl⟩,h⟩
def Gl (X:Cx) (x:Str):Prop:=X.env.kindOf x=some .globalImplicit
theorem ld_glob {E:Value->Shared->Prop} {pins:List (Addr × Obj)} {s:Shared} {σ:St} {H:Hp} {x:Str} {u:Value} {pos:Pos} {Q:Value->Shared->Prop} (I:Inv X pins σ H s) (hg:Gl X x) (hm:X.mg x=some u) (h:Q u s)
  (hd:(x == ("__debug__" : Str))=false:=by decide):wpAny (model X.prog X.w) X.A (eval (.Name x pos) X.env) Q E s :=
 Calls.Name_function_global I.ok.kind hg (Calls.loadGlobal_global (by rw [I.ok.glob];exact I.mod.glob.keeps I.bk) hm h) hd
theorem ld_blt {E:Value->Shared->Prop} {pins:List (Addr × Obj)} {s:Shared} {σ:St} {H:Hp} {x:Str} {u:Value} {pos:Pos} {Q:Value->Shared->Prop} (I:Inv X pins σ H s) (hg:Gl X x) (hm:X.mg x=none) (hv:bootBuiltins x=some u) (h:Q u s)
  (hn:x ≠ "__name__":=by decide) (hd:(x == ("__debug__" : Str))=false:=by decide):wpAny (model X.prog X.w) X.A (eval (.Name x pos) X.env) Q E s:=by
 obtain⟨mb,h1,h2⟩:=I.mod.blt
 exact Calls.Name_function_global I.ok.kind hg (Calls.loadGlobal_builtin (by rw [I.ok.glob];exact I.mod.glob.keeps I.bk) hm (by rw [I.ok.blt];exact h1.keeps I.bk) ((h2 x hn).trans hv) h) hd
theorem pe_glob {x:Str} {v:V} {u:Value} {pos:Pos} (hg:Gl X x) (hm:X.mg x=some u) (r:RelV v u) (hd:(x == ("__debug__" : Str))=false:=by decide):PE X (.Name x pos) (tC v) :=
 fun _ _ _ H _ I h=>ld_glob I hg hm ⟨v,H,I,r,h⟩ hd
theorem pe_bltn {x:Str} {v:V} {u:Value} {pos:Pos} (hg:Gl X x) (hm:X.mg x=none) (hv:bootBuiltins x=some u) (r:RelV v u) (hn:x ≠ "__name__":=by decide) (hd:(x == ("__debug__" : Str))=false:=by decide):PE X (.Name x pos) (tC v) :=
 fun _ _ _ H _ I h=>ld_blt I hg hm hv ⟨v,H,I,r,h⟩ hn hd
variable {a b:Expr} {ta tb:TE} {pos:Pos}
def PC (X:Cx) (op:CmpOp) (a b:Expr) (t:TE):Prop :=
 ∀ (pins:List (Addr × Obj)) (s:Shared) (σ:St) (H:Hp) (Q:VK),Inv X pins σ H s->t σ H Q →
  wpAny (model X.prog X.w) X.A (eval a X.env) (fun v s₁=>wpAny (model X.prog X.w) X.A (eval b X.env) (fun u s₂=>wpAny (model X.prog X.w) X.A (compareOp op v u) (EP X pins σ Q) X.xe s₂) X.xe s₁) X.xe s
theorem nobehind (b:Expr) {op:CmpOp} (h:op ≠ .In) (h2:op ≠ .NotIn):behindInMarks op b=false:=by
 have e1:(op == CmpOp.In)=false:=by cases op <;> first|rfl|exact absurd rfl h
 have e2:(op == CmpOp.NotIn)=false:=by cases op <;> first|rfl|exact absurd rfl h2
 cases b <;> simp [behindInMarks,e1,e2]
def tB (t:TE):TT:=fun σ H Q=>t σ H fun x H1=>∃ c,x=.bl c/\Q c H1
theorem pt_cmp {op:CmpOp} {t:TE} (h:PC X op a b t) (h1:behindInMarks op b=false:=by first|exact nobehind _ (by decide) (by decide)|rfl):PT X (.Compare a [op] [b] pos) (tB t):=by
 intro pins s σ H Q I hw
 refine wpAny_isTrue_Compare1 (thn (h pins s σ H _ I hw) fun v s1 h1=>thn h1 fun u s2 h2=>thn h2 fun c s3 ⟨x,H1,I1,r1,q1⟩=>?_) h1
 obtain⟨d,rfl,q⟩:=q1
 cases r1
 exact wpAny_truthy_bool ⟨H1,I1,q⟩
theorem pt_val {e:Expr} {t:TE} (h:PE X e t) (he:∀ whole,isTrue e X.env whole=(do let v ← whole;standAt e.pos;holding [v] (truthy v)):=by intro _;rfl):PT X e (tB t):=by
 intro pins s σ H Q I hw
 refine isTrue_plain (thn (h pins s σ H _ I hw) fun v s1 ⟨x,H1,I1,r1,q1⟩=>?_) (he _)
 obtain⟨d,rfl,q⟩:=q1
 cases r1
 exact wpAny_truthy_bool ⟨H1,I1,q⟩
variable {tA tB':TT} {rest:List Expr}
def tAnd (t u:TT):TT:=fun σ H Q=>t σ H fun c H1=>if c=true then u σ H1 Q else Q false H1
def tOr (t u:TT):TT:=fun σ H Q=>t σ H fun c H1=>if c=true then Q true H1 else u σ H1 Q
def tNot (t:TT):TT:=fun σ H Q=>t σ H fun c H1=>Q (!c) H1
theorem pw_and1 (ha:PT X a tA):PW X (.BoolOp .And [a] pos) tA:=by
 intro wh pins s σ H Q I h
 refine isTrue_and (thn (ha pins s σ H Q I h) fun c s1 e=>?_)
 cases c with
 | true=>exact isTrue_and_nil e
 | false=>exact e
theorem pw_or1 (ha:PT X a tA):PW X (.BoolOp .Or [a] pos) tA:=by
 intro wh pins s σ H Q I h
 refine isTrue_or (thn (ha pins s σ H Q I h) fun c s1 e=>?_)
 cases c with
 | false=>exact isTrue_or_nil e
 | true=>exact e
theorem pw_and (ha:PT X a tA) (hb:PW X (.BoolOp .And (b::rest) pos) tB'):PW X (.BoolOp .And (a::b::rest) pos) (tAnd tA tB'):=by
 intro wh pins s σ H Q I h
 refine isTrue_and (thn (ha pins s σ H _ I h) fun c s1 ⟨H1,I1,q1⟩=>?_)
 cases c with
 | true=>exact hb wh pins s1 σ H1 Q I1 q1
 | false=>exact⟨H1,I1,q1⟩
theorem pw_or (ha:PT X a tA) (hb:PW X (.BoolOp .Or (b::rest) pos) tB'):PW X (.BoolOp .Or (a::b::rest) pos) (tOr tA tB'):=by
 intro wh pins s σ H Q I h
 refine isTrue_or (thn (ha pins s σ H _ I h) fun c s1 ⟨H1,I1,q1⟩=>?_)
 cases c with
 | true=>exact⟨H1,I1,q1⟩
 | false=>exact hb wh pins s1 σ H1 Q I1 q1
theorem pt_not (ha:PT X a tA):PT X (.UnaryOp .Not a pos) (tNot tA):=by
 intro pins s σ H Q I h
 exact isTrue_not (ha pins s σ H (fun c H1=>Q (!c) H1) I h)
def tAndV (ta tb:TE):TE:=fun σ H Q=>ta σ H fun x H1=>∃ c,x=.bl c/\if c=true then tb σ H1 Q else Q (.bl false) H1
def tOrV (ta tb:TE):TE:=fun σ H Q=>ta σ H fun x H1=>∃ c,x=.bl c/\if c=true then Q (.bl true) H1 else tb σ H1 Q
def tNotV (ta:TE):TE:=fun σ H Q=>ta σ H fun x H1=>∃ c,x=.bl c/\Q (.bl (!c)) H1
theorem pe_one {op} {t:TE} (h:PE X a t):PE X (.BoolOp op [a] pos) t:=fun pins s σ H Q I hw=>BoolOp_one (h pins s σ H Q I hw)
theorem pe_and (ha:PE X a ta) (hb:PE X (.BoolOp .And (b::rest) pos) tb):PE X (.BoolOp .And (a::b::rest) pos) (tAndV ta tb):=by
 intro pins s σ H Q I h
 refine BoolOp_and (thn (ha pins s σ H _ I h) fun v s1 ⟨x,H1,I1,r1,q1⟩=>?_)
 obtain⟨c,rfl,q1⟩:=q1
 cases r1
 refine wpAny_truthy_bool ?_
 cases c with
 | true=>exact hb pins s1 σ H1 Q I1 q1
 | false=>exact⟨.bl false,H1,I1,rfl,q1⟩
theorem pe_or (ha:PE X a ta) (hb:PE X (.BoolOp .Or (b::rest) pos) tb):PE X (.BoolOp .Or (a::b::rest) pos) (tOrV ta tb):=by
 intro pins s σ H Q I h
 refine BoolOp_or (thn (ha pins s σ H _ I h) fun v s1 ⟨x,H1,I1,r1,q1⟩=>?_)
 obtain⟨c,rfl,q1⟩:=q1
 cases r1
 refine wpAny_truthy_bool ?_
 cases c with
 | false=>exact hb pins s1 σ H1 Q I1 q1
 | true=>exact⟨.bl true,H1,I1,rfl,q1⟩
theorem pe_not (ha:PE X a ta):PE X (.UnaryOp .Not a pos) (tNotV ta):=by
 intro pins s σ H Q I h
 refine UnaryOp_ (thn (ha pins s σ H _ I h) fun v s1 ⟨x,H1,I1,r1,q1⟩=>?_)
 obtain⟨c,rfl,q1⟩:=q1
 cases r1
 exact not_of (wpAny_truthy_bool ⟨.bl (!c),H1,I1,rfl,q1⟩)
def tIf (t:TT) (ta tb:TE):TE:=fun σ H Q=>t σ H fun c H1=>if c=true then ta σ H1 Q else tb σ H1 Q
theorem pe_ifExp {c:Expr} (hc:PT X c tA) (ha:PE X a ta) (hb:PE X b tb):PE X (.IfExp c a b pos) (tIf tA ta tb):=by
 intro pins s σ H Q I h
 refine wpAny_IfExp (thn (hc pins s σ H _ I h) fun d s1 ⟨H1,I1,q1⟩=>?_)
 cases d with
 | true=>exact ha pins s1 σ H1 Q I1 q1
 | false=>exact hb pins s1 σ H1 Q I1 q1
end
def SqL (K:Frag) (H:Hp) (a:Addr) (xs:List V):Prop :=
 Rd H a (.lst xs) ∨
  ∃ (o:Obj) (its:Array Value) (n:Nat),K.lookup a=some o/\o.cls=.type "list"/\o.dict=none/\o.data=.seq its n/\its.size<=sizeLine/\Vals xs its.toList
def SqT (K:Frag) (H:Hp) (a:Addr) (xs:List V):Prop :=
 Rd H a (.tup xs) ∨
  ∃ (o:Obj) (its:Array Value) (n:Nat),K.lookup a=some o/\o.cls=.type "tuple"/\o.data=.seq its n/\its.size<=sizeLine/\Vals xs its.toList
def absV:Value->Option V
 | .none=>some .non
 | .bool b=>some (.bl b)
 | .int i _=>some (.int i)
 | .str x _=>some (.str x)
 | .bytes b _=>some (.byt b)
 | .float b _=>some (.flt b)
 | .ref a=>some (.ref a)
 | .type n=>some (.ty n)
 | _=>none
theorem RelV.abs {x:V} {u:Value} (r:RelV x u):absV u=some x:=by
 cases x with
 | non=>cases r;rfl
 | bl _=>cases r;rfl
 | int _=>obtain⟨t,rfl⟩:=r;rfl
 | str _=>obtain⟨t,rfl⟩:=r;rfl
 | byt _=>obtain⟨t,rfl⟩:=r;rfl
 | flt _=>obtain⟨t,rfl⟩:=r;rfl
 | ref _=>cases r;rfl
 | ty _=>cases r;rfl
theorem RelV.inj {x y:V} {u:Value} (r:RelV x u) (q:RelV y u):x=y:=Option.some.inj (r.abs.symm.trans q.abs)
theorem Vals.inj:∀ {xs ys:List V} {us:List Value},Vals xs us->Vals ys us->xs=ys
 | _,_,_,.nil,.nil=>rfl
 | _,_,_,.cons r t,.cons r' t'=>by rw [r.inj r',Vals.inj t t']
section
variable {X:Cx} {pins:List (Addr × Obj)} {σ:St} {H:Hp} {s:Shared} {a:Addr} {xs ys:List V}
theorem SqL.of {K:Frag} (h:H a=some (.lst xs)):SqL K H a xs:=.inl (.inl h)
theorem SqT.of {K:Frag} (h:H a=some (.tup xs)):SqT K H a xs:=.inl (.inl h)
theorem Inv.list (I:Inv X pins σ H s) (h:SqL X.K H a xs):∃ its:List Value,Vals xs its/\PlainL s.heap a its.toArray/\xs.length<=sizeLine:=by
 rcases h with h|⟨o,its,n,hk,hc,hd,hs,hz,r⟩
 ·obtain⟨z,its,n,r,e⟩:=h.ok I.hok
  exact⟨its,r,⟨_,n,e,rfl,rfl,rfl⟩,z⟩
 ·refine⟨its.toList,r,⟨o,n,I.kIn a o hk,hc,hd,by simpa using hs⟩,?_⟩
  have e:=r.length
  simp only [Array.length_toList] at e
  omega
theorem Inv.tuple (I:Inv X pins σ H s) (h:SqT X.K H a xs):∃ its:List Value,Vals xs its/\IsTup s.heap a its.toArray/\xs.length<=sizeLine:=by
 rcases h with h|⟨o,its,n,hk,hc,hs,hz,r⟩
 ·obtain⟨z,its,r,p⟩:=h.ok I.hok
  exact⟨its,r,p,z⟩
 ·refine⟨its.toList,r,⟨o,I.kIn a o hk,hc,n,by simpa using hs⟩,?_⟩
  have e:=r.length
  simp only [Array.length_toList] at e
  omega
theorem Inv.list_inj (I:Inv X pins σ H s) (h:SqL X.K H a xs) (h':SqL X.K H a ys):xs=ys:=by
 obtain⟨its,r,⟨o,n,e,_,_,d⟩,_⟩:=I.list h
 obtain⟨its',r',⟨o',n',e',_,_,d'⟩,_⟩:=I.list h'
 rw [e] at e';cases e'
 rw [d] at d'
 injection d' with d1 _
 have:its=its':=by simpa using congrArg Array.toList d1
 subst this
 exact r.inj r'
theorem Inv.tuple_inj (I:Inv X pins σ H s) (h:SqT X.K H a xs) (h':SqT X.K H a ys):xs=ys:=by
 obtain⟨its,r,⟨o,e,_,n,d⟩,_⟩:=I.tuple h
 obtain⟨its',r',⟨o',e',_,n',d'⟩,_⟩:=I.tuple h'
 rw [e] at e';cases e'
 rw [d] at d'
 injection d' with d1 _
 have:its=its':=by simpa using congrArg Array.toList d1
 subst this
 exact r.inj r'
end
abbrev Cx.wish (X:Cx) (E:Value->Shared->Prop):Cx:={ X with xe:=E }
abbrev Cx.nox (X:Cx):Cx:=X.wish fun _ _=>False
theorem Cx.Ok.wish {X:Cx} (ok:X.Ok) (E:Value->Shared->Prop):(X.wish E).Ok :=
 ⟨ok.mod,ok.kind,ok.glob,ok.blt,ok.above,ok.inj,ok.has,ok.cab,ok.hd,ok.frames,ok.stk,ok.exf,ok.bs,ok.bsz,ok.noex,ok.exfs,ok.funs,ok.frf⟩
theorem Cx.Ok.unwish {X:Cx} {E:Value->Shared->Prop} (ok:(X.wish E).Ok):X.Ok :=
 ⟨ok.mod,ok.kind,ok.glob,ok.blt,ok.above,ok.inj,ok.has,ok.cab,ok.hd,ok.frames,ok.stk,ok.exf,ok.bs,ok.bsz,ok.noex,ok.exfs,ok.funs,ok.frf⟩
section
variable {X:Cx} {pins:List (Addr × Obj)} {σ:St} {H:Hp} {s:Shared} {E:Value->Shared->Prop}
theorem Inv.wish (I:Inv X pins σ H s) (E:Value->Shared->Prop):Inv (X.wish E) pins σ H s:=⟨I.ok.wish E,I.os,I.bare,I.base,I.loc,I.cell,I.free,I.freeC,I.pin,I.hok,I.len⟩
theorem Inv.unwish (I:Inv (X.wish E) pins σ H s):Inv X pins σ H s:=⟨I.ok.unwish,I.os,I.bare,I.base,I.loc,I.cell,I.free,I.freeC,I.pin,I.hok,I.len⟩
theorem SP.unwish {D:Ends} {f:Flow} {s':Shared} (h:SP (X.wish E) pins D f s'):SP X pins D f s':=by
 cases f with
 | next=>obtain⟨σ',H',I,q⟩:=h;exact⟨σ',H',I.unwish,q⟩
 | brk=>obtain⟨σ',H',I,q⟩:=h;exact⟨σ',H',I.unwish,q⟩
 | cont=>obtain⟨σ',H',I,q⟩:=h;exact⟨σ',H',I.unwish,q⟩
 | ret u=>obtain⟨v,σ',H',I,r,q⟩:=h;exact⟨v,σ',H',I.unwish,r,q⟩
theorem PE.nox {e:Expr} {t:TE} (h:PE X.nox e t):PE X e t:=fun pins s σ H Q I hw =>
 wpAny_mono (h pins s σ H Q (I.wish _) hw) (fun _ _ ⟨v,H',I',r,q⟩=>⟨v,H',I'.unwish,r,q⟩) fun _ _ z=>False.elim z
theorem PT.nox {e:Expr} {t:TT} (h:PT X.nox e t):PT X e t:=fun pins s σ H Q I hw =>
 wpAny_mono (h pins s σ H Q (I.wish _) hw) (fun _ _ ⟨H',I',q⟩=>⟨H',I'.unwish,q⟩) fun _ _ z=>False.elim z
theorem PSs.nox {st:List Stmt} {t:TS} (h:PSs X.nox st t):PSs X st t:=fun pins s σ H D I hw =>
 wpAny_mono (h pins s σ H D (I.wish _) hw) (fun _ _ q=>q.unwish) fun _ _ z=>False.elim z
end
section
variable {X:Cx} {st:Stmt} {rest:List Stmt} {t u:TS} {e:Expr} {te:TE} {pos:Pos}
def tNext:TS:=fun D σ H=>D.nx σ H
def tSeq (t u:TS):TS:=fun D σ H=>t { D with nx:=u D } σ H
theorem pss_nil:PSs X [] tNext:=fun _ _ σ H _ I h=>wpAny_execs_nil ⟨σ,H,I,h⟩
theorem pss_cons (h1:PS X st t) (h2:PSs X rest u):PSs X (st::rest) (tSeq t u):=by
 intro pins s σ H D I h
 refine wpAny_execs_cons (thn (h1 pins s σ H { D with nx:=u D } I h) fun f s1 q=>?_)
 cases f with
 | next =>
  obtain⟨σ',H',I',q⟩:=q
  exact h2 pins s1 σ' H' D I' q
 | ret v=>exact q
 | brk=>exact q
 | cont=>exact q
theorem pss_one (h1:PS X st t):PSs X [st] t:=by
 intro pins s σ H D I h
 refine wpAny_execs_cons (thn (h1 pins s σ H D I h) fun f s1 q=>?_)
 cases f with
 | next=>exact wpAny_execs_nil q
 | ret v=>exact q
 | brk=>exact q
 | cont=>exact q
theorem Inv.quiet {pins:List (Addr × Obj)} {σ:St} {H:Hp} {s:Shared} (I:Inv X pins σ H s):interactive X.env=false:=by simp [interactive,I.ok.kind]
def tDrop (te:TE):TS:=fun D σ H=>te σ H fun _ H1=>D.nx σ H1
theorem ps_expr (he:PE X e te) (hs:swapsWith e none pos.line X.env=pure false:=by rfl):PS X (.Expr e pos) (tDrop te):=by
 intro pins s σ H D I h
 exact wpAny_Expr_any (thn (he pins s σ H _ I h) fun v s1 ⟨x,H1,I1,r1,q1⟩=>⟨σ,H1,I1,q1⟩) I.quiet hs
def tRet (te:TE):TS:=fun D σ H=>te σ H D.rt
theorem ps_ret (he:PE X e te):PS X (.Return (some e) pos) (tRet te):=by
 intro pins s σ H D I h
 exact wpAny_Return_some (thn (he pins s σ H _ I h) fun v s1 ⟨x,H1,I1,r1,q1⟩=>⟨x,σ,H1,I1,r1,q1⟩)
def tIfS (c:TT) (t u:TS):TS:=fun D σ H=>c σ H fun b H1=>if b=true then t D σ H1 else u D σ H1
theorem ps_if {c:Expr} {a b:List Stmt} {tc:TT} (hc:PT X c tc) (ha:PSs X a t) (hb:PSs X b u):PS X (.If c a b pos) (tIfS tc t u):=by
 intro pins s σ H D I h
 refine wpAny_If (thn (hc pins s σ H _ I h) fun d s1 ⟨H1,I1,q1⟩=>?_)
 cases d with
 | true=>exact ha pins s1 σ H1 D I1 q1
 | false=>exact hb pins s1 σ H1 D I1 q1
def tNever:TS:=fun _ _ _=>False
theorem ps_never:PS X st tNever:=fun _ _ _ _ _ _ h=>h.elim
end
abbrev TG:=V->St->Hp->(St->Hp->Prop)->Prop
abbrev TGs:=List V->St->Hp->(St->Hp->Prop)->Prop
def PG (X:Cx) (target:Expr) (t:TG):Prop :=
 ∀ (pins:List (Addr × Obj)) (s:Shared) (σ:St) (H:Hp) (v:V) (u:Value) (Q:St->Hp->Prop),Inv X pins σ H s->RelV v u->t v σ H Q →
  wpAny (model X.prog X.w) X.A (assign target X.env u) (fun _ s'=>∃ σ' H',Inv X pins σ' H' s'/\Q σ' H') X.xe s
def PGs (X:Cx) (ts:List Expr) (t:TGs):Prop :=
 ∀ (pins:List (Addr × Obj)) (s:Shared) (σ:St) (H:Hp) (vs:List V) (us:List Value) (Q:St->Hp->Prop),Inv X pins σ H s->Vals vs us->t vs σ H Q →
  wpAny (model X.prog X.w) X.A (assignInOrder ((assignEach ts X.env).map (·.2)) us) (fun _ s'=>∃ σ' H',Inv X pins σ' H' s'/\Q σ' H') X.xe s
abbrev TSet:=V->V->V->Hp->(Hp->Prop)->Prop
def PSet (X:Cx) (t:TSet):Prop :=
 ∀ (pins:List (Addr × Obj)) (s:Shared) (σ:St) (H:Hp) (o i v:V) (ov iv u:Value) (Q:Hp->Prop),Inv X pins σ H s->RelV o ov->RelV i iv->RelV v u->t o i v H Q →
  wpAny (model X.prog X.w) X.A (setItem ov iv u) (fun _ s'=>∃ H',Inv X pins σ H' s'/\Q H') X.xe s
section
variable {X:Cx} {pos:Pos}
def gName (i:Nat):TG:=fun v σ H Q=>Q (σ.set i (some v)) H
theorem pg_name {i:Nat} {x:Str} (hN:X.N.Nodup) (hi:X.N[i]?=some x) (hx:Loc X.env.scope x) (hf:X.fn x=true\/X.env.scope.names.lookup x=some .local:=by first|exact .inl rfl|exact .inr rfl|assumption):PG X (.Name x pos) (gName i):=by
 intro pins s σ H v u Q I r h
 exact wpAny_assign_Name (store_ok I hN hi hx r (fun s' I'=>⟨_,H,I',h⟩) hf)
def gNil:TGs:=fun vs σ H Q=>vs=[]/\Q σ H
def gCons (t:TG) (u:TGs):TGs:=fun vs σ H Q=>∃ v r,vs=v::r/\t v σ H fun σ' H'=>u r σ' H' Q
theorem pgs_nil:PGs X [] gNil:=by
 intro pins s σ H vs us Q I r h
 obtain⟨e,h⟩:=h
 subst e
 cases r
 exact assignInOrder_nil ⟨σ,H,I,h⟩
theorem pgs_cons {e:Expr} {es:List Expr} {t:TG} {u:TGs} (h1:PG X e t) (h2:PGs X es u)
  (hs:(assignEach (e::es) X.env).map (·.2)=assign e X.env::(assignEach es X.env).map (·.2):=by rfl):PGs X (e::es) (gCons t u):=by
 intro pins s σ H vs us Q I r h
 obtain⟨v,vr,e1,h⟩:=h
 subst e1
 cases r with
 | cons r rr =>
  rw [hs]
  refine assignInOrder_cons (thn (h1 pins s σ H _ _ _ I r h) fun _ s1 ⟨σ1,H1,I1,q1⟩=>?_)
  exact h2 pins s1 σ1 H1 _ _ Q I1 rr q1
def gTup (K:Frag) (n:Nat) (t:TGs):TG:=fun v σ H Q=>∃ a xs,v=.ref a/\SqT K H a xs/\xs.length=n/\t xs σ H Q
theorem pg_tup {es:List Expr} {k:Nat} {t:TGs} {n:Nat} (hc:X.calm=true) (h:PGs X es t)
  (hn:(assignEach es X.env).length=n:=by rfl) (hst:(assignEach es X.env).findIdx? (·.1)=none:=by rfl):PG X (.Tuple es k pos) (gTup X.K n t):=by
 intro pins s σ H v u Q I r hw
 obtain⟨a,xs,e1,hq,hl,hw⟩:=hw
 subst e1
 cases r
 obtain⟨its,rv,ht,hz⟩:=I.tuple hq
 refine assign_Tuple_tuple (I.ok.hd hc) ht (by simp [hn,← hl,rv.length]) hst fun h' hx=>?_
 have I1:Inv X pins σ H { s with heap:=h' }:=I.kept (t':=s.toks) fun b o e=>hx b o (Nat.ne_of_lt (Heap.lt_size e)) e
 exact h pins _ σ H xs _ Q I1 (by simpa using rv) hw
def gSub (to ti:TE) (t:TSet):TG:=fun v σ H Q=>to σ H fun o H1=>ti σ H1 fun i H2=>t o i v H2 fun H3=>Q σ H3
theorem pg_sub {o i:Expr} {to ti:TE} {t:TSet} (ho:PE X o to) (hi:PE X i ti) (hs:PSet X t)
  (ha:∀ v,assign (.Subscript o i pos) X.env v=(do
   let ov ← holding [v] (eval o X.env)
   let iv ← holding [v,ov] (eval i X.env)
   standAt pos
   holding [v,ov,iv] (setItem ov iv v)
   release [v,ov,iv] []):=by intro _;rfl):PG X (.Subscript o i pos) (gSub to ti t):=by
 intro pins s σ H v u Q I r h
 rw [ha]
 refine wpAny_bind (wpAny_holding (thn (ho pins s σ H _ I h) fun ov s1 ⟨x,H1,I1,r1,q1⟩=>?_))
 refine wpAny_bind (wpAny_holding (thn (hi pins s1 σ H1 _ I1 q1) fun iv s2 ⟨y,H2,I2,r2,q2⟩=>?_))
 refine wpAny_bind (wpAny_standAt (wpAny_bind (wpAny_holding (thn (hs pins s2 σ H2 x y v ov iv u _ I2 r1 r2 r q2) fun _ s3 ⟨H3,I3,q3⟩=>?_))))
 exact wpAny_release ⟨σ,H3,I3,q3⟩
def tAsg (te:TE) (g:TG):TS:=fun D σ H=>te σ H fun x H1=>g x σ H1 D.nx
theorem ps_asg {tg e:Expr} {te:TE} {g:TG} (he:PE X e te) (hg:PG X tg g) (hs:swapsWithSole [tg] e pos.line X.env=pure false:=by rfl) (hw:swappedStores [tg] e X.env=pure none:=by rfl)
  (h1:(assignEach [tg] X.env).map (·.2)=[assign tg X.env]:=by rfl):PS X (.Assign [tg] e pos) (tAsg te g):=by
 intro pins s σ H D I h
 refine wpAny_Assign_stores (thn (he pins s σ H _ I h) fun v s1 ⟨x,H1,I1,r1,q1⟩=>?_) hs hw
 rw [h1]
 exact thn (hg pins s1 σ H1 x v _ I1 r1 q1) fun _ s2 q=>q
theorem ps_set {i:Nat} {x:Str} {e:Expr} {te:TE} {pos':Pos} (hN:X.N.Nodup) (hi:X.N[i]?=some x) (hx:Loc X.env.scope x) (he:PE X e te) (hs:swapsWith e (some (.Name x pos')) pos.line X.env=pure false:=by rfl) (hf:X.fn x=true\/X.env.scope.names.lookup x=some .local:=by first|exact .inl rfl|exact .inr rfl|assumption) :
  PS X (.Assign [.Name x pos'] e pos) (tAsg te (gName i)):=by
 intro pins s σ H D I h
 refine wpAny_Assign_Name (thn (he pins s σ H _ I h) fun v s1 ⟨y,H1,I1,r1,q1⟩=>?_) hs
 exact store_ok I1 hN hi hx r1 (fun s2 I2=>⟨_,H1,I2,q1⟩) hf
end
structure It where
 go:Nat->Hp->Prop
 yld:Nat->Hp->V->Hp->Prop
 stop:Nat->Hp->Prop
def FpOk (X:Cx) (pins:List (Addr × Obj)) (H:Hp) (b:Addr):Prop :=
 H b=none/\b ≠ X.env.locals/\b ∉ X.fs/\(b ∈ X.ex\/X.s₀.heap.objs.size<=b)/\(∀ x c,X.env.cells.lookup x=some c->c ≠ b)/\∀ p ∈ X.pn++pins,p.1 ≠ b
theorem Inv.fpOk {X:Cx} {pins:List (Addr × Obj)} {σ:St} {H H':Hp} {s:Shared} {b:Addr} (I:Inv X pins σ H s) (hb:s.heap.objs.size<=b) (hn:H' b=none):FpOk X pins H' b:=by
 refine⟨hn,Nat.ne_of_gt (Nat.lt_of_lt_of_le I.lt hb),I.nofs hb,.inr (Nat.le_trans I.sz hb),fun x c e z=>?_,fun p hp z=>?_⟩
 ·obtain⟨v,q⟩:=I.cell x c e
  exact absurd (Nat.lt_of_lt_of_le q.lt (by rw [z];exact hb)) (Nat.lt_irrefl _)
 ·exact absurd (Nat.lt_of_lt_of_le (Heap.lt_size (I.pin p hp).1) (by rw [z];exact hb)) (Nat.lt_irrefl _)
structure Turn (P:Program) (w:World) (K:Frag) (tg:Expr) (J:It) (fp:List Addr) (it:Addr) (tn:Nat->Heap->Prop):Prop where
 mem:it ∈ fp
 obj:∀ i h,tn i h->∀ b ∈ fp,∃ o,h.get? b=some o/\∀ v,o.data ≠ .cell v
 keep:∀ i h h',tn i h->(∀ b ∈ fp,∀ o,h.get? b=some o->h'.get? b=some o)->tn i h'
 item:∀ (X:Cx),X.prog=P->X.w=w->X.K=K->X.calm=true->∀ (i:Nat) (pins:List (Addr × Obj)) (s:Shared) (σ:St) (H:Hp) (E:Value->Shared->Prop),Inv X pins σ H s->(∀ b ∈ fp,FpOk X pins H b)->tn i s.heap->J.go i H →
  wpAny (model P w) X.A (pyNext (.ref it)) (fun r s1=>∃ u,r=some u ∧
   wpAny (model P w) X.A (letOwnedTupleGo tg (.ref it) u) (fun _ s2=>∃ x H',Inv X pins σ H' s2/\RelV x u/\J.yld i H x H'/\tn (i + 1) s2.heap/\∀ b ∈ fp,H' b=none) E s1) E s
 done:∀ (X:Cx),X.prog=P->X.w=w->X.K=K->X.calm=true->∀ (i:Nat) (pins:List (Addr × Obj)) (s:Shared) (σ:St) (H:Hp) (E:Value->Shared->Prop),Inv X pins σ H s->(∀ b ∈ fp,FpOk X pins H b)->tn i s.heap->J.stop i H →
  wpAny (model P w) X.A (pyNext (.ref it)) (fun r s1=>r=none/\Inv X pins σ H s1) E s
 self:∀ (A:Around) (i:Nat) (s:Shared) (Q:Value->Shared->Prop) (E:Value->Shared->Prop),tn i s.heap->Q (.ref it) s->wpAny (model P w) A (pyIter (.ref it)) Q E s
abbrev TI:=St->Hp->(It->Hp->Prop)->Prop
def PIE (X:Cx) (pins:List (Addr × Obj)) (σ:St) (tg:Expr) (R:It->Hp->Prop) (itv:Value) (s2:Shared):Prop :=
 ∃ (it:Addr) (fp:List Addr) (tn:Nat->Heap->Prop) (J:It) (H':Hp),itv=.ref it/\Inv X pins σ H' s2/\Turn X.prog X.w X.K tg J fp it tn/\tn 0 s2.heap/\(∀ b ∈ fp,FpOk X pins H' b)/\R J H'
def PI (X:Cx) (tg iter:Expr) (wi:TI):Prop :=
 ∀ (pins:List (Addr × Obj)) (s:Shared) (σ:St) (H:Hp) (R:It->Hp->Prop),Inv X pins σ H s->wi σ H R →
  wpAny (model X.prog X.w) X.A (eval iter X.env) (fun v s1=>wpAny (model X.prog X.w) X.A (pyIter v) (PIE X pins σ tg R) X.xe s1) X.xe s
theorem go_of {M:Model} {A:Around} {E:Value->Shared->Prop} {s:Shared} {tg:Expr} {it:Addr} {u:Value} {o:Obj} {n:String} {vs:Array Value} {Q:Unit->Shared->Prop} (ho:s.heap.get? it=some o) (hc:o.cls=.type n) (hd:o.data=.fields vs)
  (hn : ["enumerate","zip","dict_itemiterator","dict_reverseitemiterator","odict_iterator","itertools.zip_longest","itertools.pairwise"].contains n=false) (hQ:Q () s):wpAny M A (letOwnedTupleGo tg (.ref it) u) Q E s:=by
 unfold letOwnedTupleGo
 cases tg <;> first
  | exact wpAny_pure hQ
  | (cases u <;> first
      | exact wpAny_pure hQ
      | (refine wpAny_bind (wpAny_load ho ?_)
         rw [hc,hd]
         show wpAny M A (if (["enumerate","zip","dict_itemiterator","dict_reverseitemiterator","odict_iterator","itertools.zip_longest","itertools.pairwise"].contains n && vs[0]? == some (rawInt _))=true then _ else _) Q E s
         rw [if_neg (by intro h;rw [hn,Bool.false_and] at h;cases h)]
         exact wpAny_pure hQ))
def Itl (K:Frag) (a:Addr):It :=
 ⟨fun i H=>∃ xs x,SqL K H a xs/\xs[i]?=some x,fun i H x H'=>H'=H/\∀ xs,SqL K H a xs->xs[i]?=some x,fun i H=>∃ xs,SqL K H a xs/\xs.length<=i⟩
def Itt (K:Frag) (a:Addr):It :=
 ⟨fun i H=>∃ xs x,SqT K H a xs/\xs[i]?=some x,fun i H x H'=>H'=H/\∀ xs,SqT K H a xs->xs[i]?=some x,fun i H=>∃ xs,SqT K H a xs/\xs.length<=i⟩
def Itr (lo:Int) (n:Nat):It:=⟨fun i _=>i < n,fun i H x H'=>H'=H/\x=.int (lo + i),fun i _=>n<=i⟩
theorem turn_list {P:Program} {w:World} {K:Frag} {tg:Expr} (a it:Addr):Turn P w K tg (Itl K a) [it] it (fun i h=>h.IsListIter it a i) where
 mem:=by simp
 obj:=fun i h st b hb=>by
  have e:b=it:=by simpa using hb
  subst e
  obtain⟨o,e,c,d⟩:=st
  exact⟨o,e,fun v z=>by rw [d] at z;cases z⟩
 keep:=fun i h h' st k=>st.at fun o e=>k it (by simp) o e
 item:=by
  intro X hP hw hK hc i pins s σ H E I hf st hg
  subst hP hw hK
  obtain⟨xs,x,hq,hx⟩:=hg
  obtain⟨its,rv,p,hz⟩:=I.list hq
  obtain⟨u,hu,ru⟩:=rv.get hx
  obtain⟨f0,f1,f2,f3,f4,f5⟩:=hf it (by simp)
  refine wpAny_pyNext_list_item st p.isList (x:=u) (by simpa using hu) fun h' st' sb=>?_
  have I1:Inv X pins σ H { s with heap:=h' }:=I.turned (t':=s.toks) (fun b o hb e=>(sb.2 b hb).trans e) f0 f1 f3 f4 f5
  obtain⟨o,e,c,d⟩:=id st'
  exact⟨u,rfl,go_of (s:={ s with heap:=h' }) e c d (by decide) ⟨x,H,I1,ru,⟨rfl,fun ys hy=>by rw [I.list_inj hy hq];exact hx⟩,st',fun b hb=>(hf b hb).1⟩⟩
 done:=by
  intro X hP hw hK hc i pins s σ H E I hf st hg
  subst hP hw hK
  obtain⟨xs,hq,hx⟩:=hg
  obtain⟨its,rv,p,hz⟩:=I.list hq
  obtain⟨f0,f1,f2,f3,f4,f5⟩:=hf it (by simp)
  have hl:=rv.length
  exact wpAny_pyNext_list_end (I.ok.hd hc) st p.isList (by simp;omega) fun h' eb=>⟨rfl,I.turned (t':=s.toks) (fun b o hb e=>eb b o hb e) f0 f1 f3 f4 f5⟩
 self:=fun _ _ _ _ _ st h=>wpAny_pyIter_listiter st h
theorem turn_tuple {P:Program} {w:World} {K:Frag} {tg:Expr} (a it:Addr):Turn P w K tg (Itt K a) [it] it (fun i h=>h.IsTupleIter it a i) where
 mem:=by simp
 obj:=fun i h st b hb=>by
  have e:b=it:=by simpa using hb
  subst e
  obtain⟨o,e,c,d⟩:=st
  exact⟨o,e,fun v z=>by rw [d] at z;cases z⟩
 keep:=fun i h h' st k=>st.at fun o e=>k it (by simp) o e
 item:=by
  intro X hP hw hK hc i pins s σ H E I hf st hg
  subst hP hw hK
  obtain⟨xs,x,hq,hx⟩:=hg
  obtain⟨its,rv,p,hz⟩:=I.tuple hq
  obtain⟨u,hu,ru⟩:=rv.get hx
  obtain⟨f0,f1,f2,f3,f4,f5⟩:=hf it (by simp)
  refine wpAny_pyNext_tuple_item st (show s.heap.IsTuple a its.toArray from p) (x:=u) (by simpa using hu) fun h' st' sb=>?_
  have I1:Inv X pins σ H { s with heap:=h' }:=I.turned (t':=s.toks) (fun b o hb e=>(sb.2 b hb).trans e) f0 f1 f3 f4 f5
  obtain⟨o,e,c,d⟩:=id st'
  exact⟨u,rfl,go_of (s:={ s with heap:=h' }) e c d (by decide) ⟨x,H,I1,ru,⟨rfl,fun ys hy=>by rw [I.tuple_inj hy hq];exact hx⟩,st',fun b hb=>(hf b hb).1⟩⟩
 done:=by
  intro X hP hw hK hc i pins s σ H E I hf st hg
  subst hP hw hK
  obtain⟨xs,hq,hx⟩:=hg
  obtain⟨its,rv,p,hz⟩:=I.tuple hq
  obtain⟨f0,f1,f2,f3,f4,f5⟩:=hf it (by simp)
  have hl:=rv.length
  exact wpAny_pyNext_tuple_end (I.ok.hd hc) st (show s.heap.IsTuple a its.toArray from p) (by simp;omega) fun h' eb=>⟨rfl,I.turned (t':=s.toks) (fun b o hb e=>eb b o hb e) f0 f1 f3 f4 f5⟩
 self:=fun _ _ _ _ _ st h=>wpAny_pyIter_tupleiter st h
theorem turn_range {P:Program} {w:World} {K:Frag} {tg:Expr} (it:Addr) (lo:Int) (n:Nat):Turn P w K tg (Itr lo n) [it] it (fun i h=>IsRangeIter h it (lo + (i:Nat) * 1) ((n:Int) - (i:Nat)) 1) where
 mem:=by simp
 obj:=fun i h st b hb=>by
  have e:b=it:=by simpa using hb
  subst e
  exact⟨_,st,fun v z=>by
   have z':Data.fields _=Data.cell v:=z
   cases z'⟩
 keep:=fun i h h' st k=>k it (by simp) _ st
 item:=by
  intro X hP hw hK hc i pins s σ H E I hf st hg
  subst hP hw hK
  obtain⟨f0,f1,f2,f3,f4,f5⟩:=hf it (by simp)
  have W:=Walks.range (prog:=X.prog) (w:=X.w) (I.ok.hd hc) it lo 1 n
  refine W.item i s _ _ hg st fun v h' tk hv st' kk=>?_
  obtain⟨t,rfl⟩:=hv
  have I1:Inv X pins σ H { s with heap:=h',toks:=tk }:=I.turned (fun b o hb e=>kk b o (by simpa using hb) e) f0 f1 f3 f4 f5
  refine⟨_,rfl,go_of (s:={ s with heap:=h',toks:=tk }) (n:="range_iterator") st' rfl rfl (by decide) ⟨.int (lo + i),H,I1,⟨t,?_⟩,⟨rfl,rfl⟩,st',fun b hb=>(hf b hb).1⟩⟩
  rw [Int.mul_one]
 done:=by
  intro X hP hw hK hc i pins s σ H E I hf st hg
  subst hP hw hK
  obtain⟨f0,f1,f2,f3,f4,f5⟩:=hf it (by simp)
  exact wpAny_pyNext_range_end (I.ok.hd hc) st (by have:n<=i:=hg;omega) fun h' eb=>⟨rfl,I.turned (t':=s.toks) (fun b o hb e=>eb b o hb e) f0 f1 f3 f4 f5⟩
 self:=fun _ _ _ _ _ st h=>wpAny_pyIter_rangeiter st h
section
variable {X:Cx} {tg:Expr}
def iList (K:Frag) (tl:TE):TI:=fun σ H R=>tl σ H fun x H1=>∃ a,x=.ref a/\(∃ xs,SqL K H1 a xs)/\R (Itl K a) H1
def iTup (K:Frag) (tl:TE):TI:=fun σ H R=>tl σ H fun x H1=>∃ a,x=.ref a/\(∃ xs,SqT K H1 a xs)/\R (Itt K a) H1
theorem pi_list {l:Expr} {tl:TE} (hl:PE X l tl):PI X tg l (iList X.K tl):=by
 intro pins s σ H R I h
 refine thn (hl pins s σ H _ I h) fun v s1 ⟨x,H1,I1,r1,q1⟩=>?_
 obtain⟨a,e,⟨xs,hq⟩,q⟩:=q1
 subst e
 cases r1
 obtain⟨its,rv,p,hz⟩:=I1.list hq
 refine wpAny_pyIter_list p.isList ?_
 refine⟨s1.heap.objs.size,[s1.heap.objs.size],_,_,H1,rfl,I1.kept (t':=s1.toks) fun b o e=>Heap.get?_push_of_some _ e,turn_list a _,⟨_,Heap.get?_push_size _ rfl,rfl,rfl⟩,fun b hb=>?_,q⟩
 have e:b=s1.heap.objs.size:=by simpa using hb
 subst e
 exact I1.fpOk (Nat.le_refl _) (I1.hok.fresh (Nat.le_refl _))
theorem pi_tup {l:Expr} {tl:TE} (hl:PE X l tl):PI X tg l (iTup X.K tl):=by
 intro pins s σ H R I h
 refine thn (hl pins s σ H _ I h) fun v s1 ⟨x,H1,I1,r1,q1⟩=>?_
 obtain⟨a,e,⟨xs,hq⟩,q⟩:=q1
 subst e
 cases r1
 obtain⟨its,rv,p,hz⟩:=I1.tuple hq
 refine wpAny_pyIter_tuple (show s1.heap.IsTuple a its.toArray from p) ?_
 refine⟨s1.heap.objs.size,[s1.heap.objs.size],_,_,H1,rfl,I1.kept (t':=s1.toks) fun b o e=>Heap.get?_push_of_some _ e,turn_tuple a _,⟨_,Heap.get?_push_size _ rfl,rfl,rfl⟩,fun b hb=>?_,q⟩
 have e:b=s1.heap.objs.size:=by simpa using hb
 subst e
 exact I1.fpOk (Nat.le_refl _) (I1.hok.fresh (Nat.le_refl _))
theorem range_it {pins:List (Addr × Obj)} {σ:St} {H:Hp} {s:Shared} {R:It->Hp->Prop} {E:Value->Shared->Prop} {lo hi:Int} {t u v:Tok} {tk:Nat} (I:Inv X pins σ H s) (h1 : -(2 ^ 62)<=lo) (h2:lo < 2 ^ 62) (h3 : -(2 ^ 62)<=hi) (h4:hi < 2 ^ 62)
  (q:R (Itr lo (hi - lo).toNat) H):wpAny (model X.prog X.w) X.A (pyIter (.ref s.heap.objs.size)) (PIE X pins σ tg R) E { s with heap:=s.heap.push { cls:=.type "range",data:=.fields #[.int lo t,.int hi u,.int 1 v] },toks:=tk }:=by
 refine wpAny_pyIter_range (IsRange.new ..) (small_one h1 h2 h3 h4) ?_
 have I1:Inv X pins σ H { s with heap:=s.heap.push { cls:=.type "range",data:=.fields #[.int lo t,.int hi u,.int 1 v] },toks:=tk }:=I.kept fun b o e=>Heap.get?_push_of_some _ e
 refine⟨(s.heap.push { cls:=.type "range",data:=.fields #[.int lo t,.int hi u,.int 1 v] }).objs.size,[(s.heap.push { cls:=.type "range",data:=.fields #[.int lo t,.int hi u,.int 1 v] }).objs.size],_,_,H,rfl,
  I1.kept (t':=tk) fun b o e=>Heap.get?_push_of_some _ e,turn_range _ lo (hi - lo).toNat,?_,fun b hb=>?_,q⟩
 ·have e1:lo + ((0:Nat):Int) * 1=lo:=by simp
  have e2:(((hi - lo).toNat:Nat):Int) - ((0:Nat):Int)=Builtin.Range.rangeSize lo hi 1:=by rw [rangeSize_one];split <;> omega
  show IsRangeIter _ _ (lo + ((0:Nat):Int) * 1) ((((hi - lo).toNat:Nat):Int) - ((0:Nat):Int)) 1
  rw [e1,e2]
  exact Heap.get?_push_size _ rfl
 ·have e:b=(s.heap.push { cls:=.type "range",data:=.fields #[.int lo t,.int hi u,.int 1 v] }).objs.size:=by simpa using hb
  subst e
  exact I1.fpOk (Nat.le_refl _) (I1.hok.fresh (Nat.le_refl _))
def iRng1 (ta:TA):TI:=fun σ H R=>ta σ H fun vs H1=>∃ j:Int,vs=[.int j]/\-(2 ^ 62)<=j/\j < 2 ^ 62/\R (Itr 0 j.toNat) H1
theorem pi_range1 {a:Expr} {ta:TA} {p pos:Pos} (hg:Gl X "range") (hm:X.mg "range" = none) (ha:PA X [a] ta) (hs:starEach [a] X.env=[(false,eval a X.env)]:=by rfl):PI X tg (.Call (.Name "range" p) [a] [] pos) (iRng1 ta):=by
 intro pins s σ H R I h
 refine Call_ (ld_blt I hg hm boot_range (PyProof.Rows.callWith_type1 (thn (ha pos pins s σ H _ I h) fun us s1 ⟨vs,H1,I1,r1,q1⟩=>?_) hs rfl))
 obtain⟨j,e,q1,q2,q⟩:=q1
 subst e
 cases r1 with
 | cons r rr =>
  cases rr
  obtain⟨t,rfl⟩:=r
  exact call_range_1 (range_it I1 (by omega) (by omega) q1 q2 (by simpa using q))
def tFor (wi:TI) (g:TG) (tb:TS):TS:=fun D σ H=>wi σ H fun J H1=>∃ W:Nat->Nat->St->Hp->Prop,(∃ m,W 0 m σ H1)/\∀ i m σ H,W i m σ H →
 (J.stop i H/\D.nx σ H)\/(J.go i H/\∃ N:St->Hp->Prop,(∀ σ' H',N σ' H'->∃ m',m' < m/\W (i + 1) m' σ' H')/\∀ x H',J.yld i H x H'->g x σ H' fun σ2 H2=>tb { D with nx:=N,ct:=N,bk:=D.nx } σ2 H2)
def pinsAt (fp:List Addr) (h:Heap):List (Addr × Obj):=fp.filterMap fun b=>(h.get? b).map fun o=>(b,o)
theorem mem_pinsAt {fp:List Addr} {h:Heap} {b:Addr} {o:Obj} (hb:b ∈ fp) (e:h.get? b=some o):(b,o) ∈ pinsAt fp h:=List.mem_filterMap.mpr ⟨b,hb,by rw [e];rfl⟩
theorem of_pinsAt {fp:List Addr} {h:Heap} {p:Addr × Obj} (hp:p ∈ pinsAt fp h):p.1 ∈ fp/\h.get? p.1=some p.2:=by
 obtain⟨b,hb,e⟩:=List.mem_filterMap.mp hp
 cases q:h.get? b with
 | none=>rw [q] at e;cases e
 | some o =>
  rw [q] at e
  have e':(b,o)=p:=Option.some.inj e
  subst e'
  exact⟨hb,q⟩
theorem Inv.pinned {pins:List (Addr × Obj)} {σ:St} {H:Hp} {s:Shared} {fp:List Addr} (I:Inv X pins σ H s) (hf:∀ b ∈ fp,FpOk X pins H b) (ho:∀ b ∈ fp,∃ o,s.heap.get? b=some o/\∀ v,o.data ≠ .cell v):Inv X (pins++pinsAt fp s.heap) σ H s :=
 I.pins_of fun p hp=>(List.mem_append.mp hp).elim (fun z=>I.pin p (List.mem_append_right _ z)) fun z=>by
  obtain⟨hb,e⟩:=of_pinsAt z
  obtain⟨f0,f1,f2,_⟩:=hf p.1 hb
  obtain⟨o,e',d⟩:=ho p.1 hb
  rw [e] at e';cases e'
  exact⟨e,f0,f1,f2,d⟩
theorem Inv.unpinned {pins pl:List (Addr × Obj)} {σ:St} {H:Hp} {s:Shared} (I:Inv X (pins++pl) σ H s):Inv X pins σ H s:=I.pins_of fun p hp=>I.pin p (List.mem_append_right _ (List.mem_append_left _ hp))
theorem ps_for {iter:Expr} {body:List Stmt} {wi:TI} {g:TG} {tb:TS} {pos:Pos} (hp:PassesOwn (model X.prog X.w) X.A X.env X.xe) (hc:X.calm=true) (hi:PI X tg iter wi) (hg:PG X tg g) (hb:PSs X body tb)
  (hs:∀ x,foldedSetIterable iter X.env x=pure x:=by intro _;rfl):PS X (.For tg iter body [] pos) (tFor wi g tb):=by
 intro pins s σ H D I h
 refine wpAny_For (thn (hi pins s σ H _ I h) fun v s1 h1=>thn h1 fun itv s2 h2=>?_) hs
 obtain⟨it,fp,tn,J,H2,e,I2,T,st2,f2,W,⟨m0,w0⟩,turn⟩:=h2
 subst e
 have stat:∀ {H':Hp},(∀ b ∈ fp,H' b=none)->∀ b ∈ fp,FpOk X pins H' b:=fun hn b hb=>⟨hn b hb,(f2 b hb).2⟩
 refine codeAny_forLoop_any (fun n s'=>∃ i σ' H',Inv X pins σ' H' s'/\tn i s'.heap/\(∀ b ∈ fp,H' b=none)/\W i n σ' H') ?_ m0 ⟨0,σ,H2,I2,st2,fun b hb=>(f2 b hb).1,w0⟩
 rintro n s3 ⟨i,σ3,H3,I3,st3,fr3,w3⟩
 rcases turn i n σ3 H3 w3 with⟨stop,qn⟩|⟨go,N,hN,step⟩
 ·refine wpAny_passesOwn hp (thn (T.done X rfl rfl rfl hc i pins s3 σ3 H3 X.xe I3 (stat fr3) st3 stop) fun r s4 ⟨hr,I4⟩=>?_)
  subst hr
  exact wpAny_execs_nil ⟨σ3,H3,I4,qn⟩
 ·refine wpAny_passesOwn hp (thn (T.item X rfl rfl rfl hc i pins s3 σ3 H3 X.xe I3 (stat fr3) st3 go) fun r s4 ⟨u,hr,h4⟩=>?_)
  subst hr
  refine wpAny_passesOwn hp (thn h4 fun _ s5 ⟨x,H5,I5,r5,y5,st5,fr5⟩=>?_)
  have I5':=I5.pinned (stat fr5) (T.obj _ _ st5)
  refine wpAny_passesOwn hp (thn (hg _ s5 σ3 H5 x u _ I5' r5 (step x H5 y5)) fun _ s6 ⟨σ6,H6,I6,q6⟩=>?_)
  refine wpAny_passesOwn hp (thn (hb _ s6 σ6 H6 _ I6 q6) fun f s7 q7=>?_)
  have again:∀ {σ7:St} {H7:Hp},Inv X (pins++pinsAt fp s5.heap) σ7 H7 s7->N σ7 H7->∃ m,m < n/\∃ i σ' H',Inv X pins σ' H' s7/\tn i s7.heap/\(∀ b ∈ fp,H' b=none)/\W i m σ' H':=fun {σ7 H7} I7 n7=>by
   obtain⟨m',hm,w7⟩:=hN σ7 H7 n7
   refine⟨m',hm,i + 1,σ7,H7,I7.unpinned,T.keep _ _ _ st5 fun b hb o e=>(I7.pin (b,o) (List.mem_append_right _ (List.mem_append_right _ (mem_pinsAt hb e)))).1,fun b hb=>?_,w7⟩
   obtain⟨o,e,d⟩:=T.obj _ _ st5 b hb
   exact (I7.pin (b,o) (List.mem_append_right _ (List.mem_append_right _ (mem_pinsAt hb e)))).2.1
  cases f with
  | next=>obtain⟨σ7,H7,I7,n7⟩:=q7;exact again I7 n7
  | cont=>obtain⟨σ7,H7,I7,n7⟩:=q7;exact again I7 n7
  | brk=>obtain⟨σ7,H7,I7,q7⟩:=q7;exact⟨σ7,H7,I7.unpinned,q7⟩
  | ret v=>obtain⟨x7,σ7,H7,I7,r7,q7⟩:=q7;exact⟨x7,σ7,H7,I7.unpinned,r7,q7⟩
end
theorem for_list {K:Frag} {a:Addr} {xs:List V} {g:TG} {tb:TS} {D:Ends} {σ:St} {H:Hp} (Pv:Nat->St->Hp->Prop) (h0:Pv 0 σ H) (hl:∀ i σ H,i<=xs.length->Pv i σ H->SqL K H a xs)
  (hs:∀ i x σ H,xs[i]?=some x->Pv i σ H->g x σ H fun σ2 H2=>tb { D with nx:=Pv (i + 1),ct:=Pv (i + 1),bk:=D.nx } σ2 H2) (hd:∀ σ H,Pv xs.length σ H->D.nx σ H) :
  ∃ W:Nat->Nat->St->Hp->Prop,(∃ m,W 0 m σ H)/\∀ i m σ H,W i m σ H →
   ((Itl K a).stop i H/\D.nx σ H)\/((Itl K a).go i H/\∃ N:St->Hp->Prop,(∀ σ' H',N σ' H'->∃ m',m' < m/\W (i + 1) m' σ' H')/\∀ x H',(Itl K a).yld i H x H'->g x σ H' fun σ2 H2=>tb { D with nx:=N,ct:=N,bk:=D.nx } σ2 H2):=by
 refine⟨fun i m σ H=>m=xs.length - i/\i<=xs.length/\Pv i σ H,⟨xs.length,by simp,Nat.zero_le _,h0⟩,?_⟩
 rintro i m σ H ⟨rfl,hi,p⟩
 have q:=hl i σ H hi p
 by_cases hlt:i < xs.length
 ·refine .inr ⟨⟨xs,xs[i],q,by simp [hlt]⟩,Pv (i + 1),fun σ' H' p'=>⟨xs.length - (i + 1),by omega,rfl,hlt,p'⟩,fun x H' y=>?_⟩
  obtain⟨e,y⟩:=y
  subst e
  exact hs i x σ _ (y xs q) p
 ·have e:i=xs.length:=by omega
  subst e
  exact .inl ⟨⟨xs,q,Nat.le_refl _⟩,hd σ H p⟩
theorem for_tup {K:Frag} {a:Addr} {xs:List V} {g:TG} {tb:TS} {D:Ends} {σ:St} {H:Hp} (Pv:Nat->St->Hp->Prop) (h0:Pv 0 σ H) (hl:∀ i σ H,i<=xs.length->Pv i σ H->SqT K H a xs)
  (hs:∀ i x σ H,xs[i]?=some x->Pv i σ H->g x σ H fun σ2 H2=>tb { D with nx:=Pv (i + 1),ct:=Pv (i + 1),bk:=D.nx } σ2 H2) (hd:∀ σ H,Pv xs.length σ H->D.nx σ H) :
  ∃ W:Nat->Nat->St->Hp->Prop,(∃ m,W 0 m σ H)/\∀ i m σ H,W i m σ H →
   ((Itt K a).stop i H/\D.nx σ H)\/((Itt K a).go i H/\∃ N:St->Hp->Prop,(∀ σ' H',N σ' H'->∃ m',m' < m/\W (i + 1) m' σ' H')/\∀ x H',(Itt K a).yld i H x H'->g x σ H' fun σ2 H2=>tb { D with nx:=N,ct:=N,bk:=D.nx } σ2 H2):=by
 refine⟨fun i m σ H=>m=xs.length - i/\i<=xs.length/\Pv i σ H,⟨xs.length,by simp,Nat.zero_le _,h0⟩,?_⟩
 rintro i m σ H ⟨rfl,hi,p⟩
 have q:=hl i σ H hi p
 by_cases hlt:i < xs.length
 ·refine .inr ⟨⟨xs,xs[i],q,by simp [hlt]⟩,Pv (i + 1),fun σ' H' p'=>⟨xs.length - (i + 1),by omega,rfl,hlt,p'⟩,fun x H' y=>?_⟩
  obtain⟨e,y⟩:=y
  subst e
  exact hs i x σ _ (y xs q) p
 ·have e:i=xs.length:=by omega
  subst e
  exact .inl ⟨⟨xs,q,Nat.le_refl _⟩,hd σ H p⟩
theorem for_range {lo:Int} {n:Nat} {g:TG} {tb:TS} {D:Ends} {σ:St} {H:Hp} (Pv:Nat->St->Hp->Prop) (h0:Pv 0 σ H)
  (hs:∀ i σ H,i < n->Pv i σ H->g (.int (lo + i)) σ H fun σ2 H2=>tb { D with nx:=Pv (i + 1),ct:=Pv (i + 1),bk:=D.nx } σ2 H2) (hd:∀ σ H,Pv n σ H->D.nx σ H) :
  ∃ W:Nat->Nat->St->Hp->Prop,(∃ m,W 0 m σ H)/\∀ i m σ H,W i m σ H →
   ((Itr lo n).stop i H/\D.nx σ H)\/((Itr lo n).go i H/\∃ N:St->Hp->Prop,(∀ σ' H',N σ' H'->∃ m',m' < m/\W (i + 1) m' σ' H')/\∀ x H',(Itr lo n).yld i H x H'->g x σ H' fun σ2 H2=>tb { D with nx:=N,ct:=N,bk:=D.nx } σ2 H2):=by
 refine⟨fun i m σ H=>m=n - i/\i<=n/\Pv i σ H,⟨n,by simp,Nat.zero_le _,h0⟩,?_⟩
 rintro i m σ H ⟨rfl,hi,p⟩
 by_cases hlt:i < n
 ·refine .inr ⟨hlt,Pv (i + 1),fun σ' H' p'=>⟨n - (i + 1),by omega,rfl,hlt,p'⟩,fun x H' y=>?_⟩
  obtain⟨e,y⟩:=y
  subst e y
  exact hs i σ _ hlt p
 ·have e:i=n:=by omega
  subst e
  exact .inl ⟨Nat.le_refl _,hd σ H p⟩
abbrev R2:=V->V->Hp->VK->Prop
def OpR (X:Cx) (f:Value->Value->Sem Value) (r:R2):Prop :=
 ∀ (pins:List (Addr × Obj)) (s:Shared) (σ:St) (H:Hp) (x y:V) (v u:Value) (Q:VK),Inv X pins σ H s->RelV x v->RelV y u->r x y H Q →
  wpAny (model X.prog X.w) X.A (f v u) (EP X pins σ Q) X.xe s
def UnR (X:Cx) (f:Value->Sem Value) (r:V->Hp->VK->Prop):Prop :=
 ∀ (pins:List (Addr × Obj)) (s:Shared) (σ:St) (H:Hp) (x:V) (v:Value) (Q:VK),Inv X pins σ H s->RelV x v->r x H Q →
  wpAny (model X.prog X.w) X.A (f v) (EP X pins σ Q) X.xe s
def CallR (X:Cx) (f:Value) (r:List V->Hp->VK->Prop):Prop :=
 ∀ (pins:List (Addr × Obj)) (s:Shared) (σ:St) (H:Hp) (xs:List V) (us:List Value) (Q:VK),Inv X pins σ H s->Vals xs us->r xs H Q →
  wpAny (model X.prog X.w) X.A (call f us) (EP X pins σ Q) X.xe s
def TruR (X:Cx) (r:V->Hp->(Bool->Hp->Prop)->Prop):Prop :=
 ∀ (pins:List (Addr × Obj)) (s:Shared) (σ:St) (H:Hp) (x:V) (v:Value) (Q:Bool->Hp->Prop),Inv X pins σ H s->RelV x v->r x H Q →
  wpAny (model X.prog X.w) X.A (truthy v) (TP X pins σ Q) X.xe s
def tOp (r:R2) (ta tb:TE):TE:=fun σ H Q=>ta σ H fun x H1=>tb σ H1 fun y H2=>r x y H2 Q
def tUn (r:V->Hp->VK->Prop) (ta:TE):TE:=fun σ H Q=>ta σ H fun x H1=>r x H1 Q
def rI (C:Int->Int->Prop) (g:Int->Int->V):R2:=fun x y H Q=>∃ i j,x=.int i/\y=.int j/\C i j/\Q (g i j) H
def rI0 (g:Int->Int->V):R2:=fun x y H Q=>∃ i j,x=.int i/\y=.int j/\Q (g i j) H
def rU (g:Int->V):V->Hp->VK->Prop:=fun x H Q=>∃ i,x=.int i/\Q (g i) H
section
variable {X:Cx} {a b c:Expr} {ta tb tc:TE} {pos:Pos}
theorem binT (ha:PE X a ta) (hb:PE X b tb) {pins:List (Addr × Obj)} {s:Shared} {σ:St} {H:Hp} {R:V->V->Hp->Prop} (I:Inv X pins σ H s)
  (h:ta σ H fun x H1=>tb σ H1 fun y H2=>R x y H2) {Q:Value->Shared->Prop} {f:Value->Value->Sem Value}
  (hf:∀ v u s2 x y H2,Inv X pins σ H2 s2->RelV x v->RelV y u->R x y H2->wpAny (model X.prog X.w) X.A (f v u) Q X.xe s2) :
  wpAny (model X.prog X.w) X.A (eval a X.env) (fun v s₁=>wpAny (model X.prog X.w) X.A (eval b X.env) (fun u s₂=>wpAny (model X.prog X.w) X.A (f v u) Q X.xe s₂) X.xe s₁) X.xe s:=by
 refine thn (ha pins s σ H _ I h) fun v s1 ⟨x,H1,I1,r1,q1⟩=>?_
 refine thn (hb pins s1 σ H1 _ I1 q1) fun u s2 ⟨y,H2,I2,r2,q2⟩=>?_
 exact hf v u s2 x y H2 I2 r1 r2 q2
theorem pe_op {op:Operator} {r:R2} (ho:OpR X (binaryOp op) r) (ha:PE X a ta) (hb:PE X b tb):PE X (.BinOp a op b pos) (tOp r ta tb):=by
 intro pins s σ H Q I h
 exact wpAny_BinOp (binT ha hb I h fun v u s2 x y H2 I2 rx ry q=>ho pins s2 σ H2 x y v u Q I2 rx ry q)
theorem pe_un {op:UnaryOp} {r:V->Hp->VK->Prop} (ho:UnR X (unaryOp op) r) (ha:PE X a ta):PE X (.UnaryOp op a pos) (tUn r ta):=by
 intro pins s σ H Q I h
 exact UnaryOp_ (thn (ha pins s σ H _ I h) fun v s1 ⟨x,H1,I1,r1,q1⟩=>ho pins s1 σ H1 x v Q I1 r1 q1)
theorem opI {f:Value->Value->Sem Value} {C:Int->Int->Prop} {g:Int->Int->Int}
  (rule:∀ (i j:Int) (t u:Tok) (s:Shared) (Q:Value->Shared->Prop) (E:Value->Shared->Prop),C i j->Q (.int (g i j) s.toks) { s with toks:=s.toks + 1 }->wpAny (model X.prog X.w) X.A (f (.int i t) (.int j u)) Q E s) :
  OpR X f (rI C fun i j=>.int (g i j)):=by
 intro pins s σ H x y v u Q I rx ry h
 obtain⟨i,j,rfl,rfl,hc,q⟩:=h
 obtain⟨t,rfl⟩:=rx
 obtain⟨t',rfl⟩:=ry
 exact rule i j t t' s _ _ hc ⟨.int (g i j),H,I.tok _,⟨_,rfl⟩,q⟩
theorem opI0 {f:Value->Value->Sem Value} {g:Int->Int->Int}
  (rule:∀ (i j:Int) (t u:Tok) (s:Shared) (Q:Value->Shared->Prop) (E:Value->Shared->Prop),Q (.int (g i j) s.toks) { s with toks:=s.toks + 1 }->wpAny (model X.prog X.w) X.A (f (.int i t) (.int j u)) Q E s) :
  OpR X f (rI0 fun i j=>.int (g i j)):=by
 intro pins s σ H x y v u Q I rx ry h
 obtain⟨i,j,rfl,rfl,q⟩:=h
 obtain⟨t,rfl⟩:=rx
 obtain⟨t',rfl⟩:=ry
 exact rule i j t t' s _ _ ⟨.int (g i j),H,I.tok _,⟨_,rfl⟩,q⟩
theorem opB0 {f:Value->Value->Sem Value} {g:Int->Int->Bool}
  (rule:∀ (i j:Int) (t u:Tok) (s:Shared) (Q:Value->Shared->Prop) (E:Value->Shared->Prop),Q (.bool (g i j)) s->wpAny (model X.prog X.w) X.A (f (.int i t) (.int j u)) Q E s) :
  OpR X f (rI0 fun i j=>.bl (g i j)):=by
 intro pins s σ H x y v u Q I rx ry h
 obtain⟨i,j,rfl,rfl,q⟩:=h
 obtain⟨t,rfl⟩:=rx
 obtain⟨t',rfl⟩:=ry
 exact rule i j t t' s _ _ ⟨.bl (g i j),H,I,rfl,q⟩
def CDiv (i j:Int):Prop:=0 < j/\j < 1073741824
def CPow (i j:Int):Prop:=0<=j/\j<=1000000/\i.natAbs < 2 ^ 64
def CMul (i j:Int):Prop:=(-(2 ^ 64) < i/\i < 2 ^ 64)\/(-(2 ^ 64) < j/\j < 2 ^ 64)
theorem CMul.ok {i j:Int} (h:CMul i j):IntMulOk i j:=by
 rcases h with⟨h1,h2⟩|⟨h1,h2⟩
 ·exact .of_left (intBits_le_64 h1 h2)
 ·exact .of_right (intBits_le_64 h1 h2)
theorem op_add:OpR X (binaryOp .Add) (rI0 fun i j=>.int (i + j)):=opI0 fun _ _ _ _ _ _ _ q=>add_int q
theorem op_sub:OpR X (binaryOp .Sub) (rI0 fun i j=>.int (i - j)):=opI0 fun _ _ _ _ _ _ _ q=>sub_int q
theorem op_mul:OpR X (binaryOp .Mult) (rI CMul fun i j=>.int (i * j)):=opI fun _ _ _ _ _ _ _ hc q=>mul_int q hc.ok
theorem op_fdiv:OpR X (binaryOp .FloorDiv) (rI CDiv fun i j=>.int (i / j)):=opI fun i j _ _ _ _ _ hc q=>by
 have h1:(0:Int) < j:=hc.1
 have h2:j < 1073741824:=hc.2
 exact floordiv_int (by omega) (by rw [Int.fdiv_eq_ediv_of_nonneg i (by omega)];exact q) (.inl (PyProof.noPylong_small (by omega)))
theorem op_mod:OpR X (binaryOp .Mod) (rI (fun _ j=>0 < j) fun i j=>.int (i % j)):=opI fun i j _ _ _ _ _ hc q=>by
 have h1:(0:Int) < j:=hc
 exact mod_int' (by omega) (by rw [Int.fmod_eq_emod_of_nonneg i (by omega)];exact q)
theorem op_pow:OpR X (binaryOp .Pow) (rI CPow fun i j=>.int (i ^ j.toNat)):=opI fun _ _ _ _ _ _ _ hc q=>pow_int_small hc.1 hc.2.1 hc.2.2 q
theorem unI {f:Value->Sem Value} {g:Int->Int}
  (rule:∀ (i:Int) (t:Tok) (s:Shared) (Q:Value->Shared->Prop) (E:Value->Shared->Prop),Q (.int (g i) s.toks) { s with toks:=s.toks + 1 }->wpAny (model X.prog X.w) X.A (f (.int i t)) Q E s) :
  UnR X f (rU fun i=>.int (g i)):=by
 intro pins s σ H x v Q I rx h
 obtain⟨i,rfl,q⟩:=h
 obtain⟨t,rfl⟩:=rx
 exact rule i t s _ _ ⟨.int (g i),H,I.tok _,⟨_,rfl⟩,q⟩
theorem un_neg:UnR X (unaryOp .USub) (rU fun i=>.int (-i)):=unI fun _ _ _ _ _ q=>neg_int q
end
def scal:V->V->Bool
 | .non,.non=>true | .non,.int _=>true | .int _,.non=>true | .non,.bl _=>true | .bl _,.non=>true | .non,.str _=>true | .str _,.non=>true
 | .int _,.int _=>true | .bl _,.bl _=>true | .str _,.str _=>true | .byt _,.byt _=>true
 | .int _,.str _=>true | .str _,.int _=>true | .bl _,.str _=>true | .str _,.bl _=>true
 | _,_=>false
def rEq:R2:=fun x y H Q=>scal x y=true/\Q (.bl (decide (x=y))) H
def rNe:R2:=fun x y H Q=>scal x y=true/\Q (.bl (!decide (x=y))) H
theorem dec_int {i j:Int} : decide (V.int i=V.int j)=(i == j):=by
 rw [Bool.eq_iff_iff]
 simp
theorem dec_bl {i j:Bool} : decide (V.bl i=V.bl j)=(i == j):=by
 rw [Bool.eq_iff_iff]
 simp
theorem dec_str {i j:Str} : decide (V.str i=V.str j)=(i == j):=by
 rw [Bool.eq_iff_iff]
 simp
theorem dec_byt {i j:Array UInt8} : decide (V.byt i=V.byt j)=(i.toList == j.toList):=by
 rw [Bool.eq_iff_iff]
 cases i
 cases j
 simp
section
variable {X:Cx} {a b c:Expr} {ta tb tc:TE} {pos:Pos}
theorem fin_bl {pins:List (Addr × Obj)} {σ:St} {H:Hp} {s:Shared} {Q:VK} {k k':Bool} (I:Inv X pins σ H s) (q:Q (.bl k) H) (e:k=k'):EP X pins σ Q (.bool k') s:=by
 subst e
 exact⟨.bl k,H,I,rfl,q⟩
theorem op_eq:OpR X (compareOp .Eq) rEq:=by
 intro pins s σ H x y v u Q I rx ry h
 obtain⟨hs,q⟩:=h
 cases x with
 | non =>
  cases rx
  cases y with
  | non=>cases ry;exact PySem.EqNone.eq_none_none (fin_bl I q (by simp))
  | bl j=>cases ry;exact PySem.EqNone.eq_none_bool (fin_bl I q (by simp))
  | int j=>obtain⟨t',rfl⟩:=ry;exact PySem.EqNone.eq_none_int (fin_bl I q (by simp))
  | str j=>obtain⟨t',rfl⟩:=ry;exact PySem.EqNone.eq_none_str (fin_bl I q (by simp))
  | _=>exact absurd (show false=true from hs) Bool.false_ne_true
 | bl i =>
  cases rx
  cases y with
  | non=>cases ry;exact PySem.EqNone.eq_bool_none (fin_bl I q (by simp))
  | bl j=>cases ry;exact eq_bool (fin_bl I q dec_bl)
  | str j=>obtain⟨t',rfl⟩:=ry;exact PySem.EqMixed.eq_bool_str (fin_bl I q (by simp))
  | _=>exact absurd (show false=true from hs) Bool.false_ne_true
 | int i =>
  obtain⟨t,rfl⟩:=rx
  cases y with
  | non=>cases ry;exact PySem.EqNone.eq_int_none (fin_bl I q (by simp))
  | int j=>obtain⟨t',rfl⟩:=ry;exact eq_int (fin_bl I q dec_int)
  | str j=>obtain⟨t',rfl⟩:=ry;exact PySem.EqMixed.eq_int_str (fin_bl I q (by simp))
  | _=>exact absurd (show false=true from hs) Bool.false_ne_true
 | str i =>
  obtain⟨t,rfl⟩:=rx
  cases y with
  | non=>cases ry;exact PySem.EqNone.eq_str_none (fin_bl I q (by simp))
  | bl j=>cases ry;exact PySem.EqMixed.eq_str_bool (fin_bl I q (by simp))
  | int j=>obtain⟨t',rfl⟩:=ry;exact PySem.EqMixed.eq_str_int (fin_bl I q (by simp))
  | str j=>obtain⟨t',rfl⟩:=ry;exact eq_str (fin_bl I q dec_str)
  | _=>exact absurd (show false=true from hs) Bool.false_ne_true
 | byt i =>
  obtain⟨t,rfl⟩:=rx
  cases y with
  | byt j=>obtain⟨t',rfl⟩:=ry;exact PySem.W.eq_bytes (fin_bl I q dec_byt)
  | _=>exact absurd (show false=true from hs) Bool.false_ne_true
 | _=>cases y <;> exact absurd (show false=true from hs) Bool.false_ne_true
theorem op_ne:OpR X (compareOp .NotEq) rNe:=by
 intro pins s σ H x y v u Q I rx ry h
 obtain⟨hs,q⟩:=h
 cases x with
 | non =>
  cases rx
  cases y with
  | non=>cases ry;exact PySem.EqNone.ne_none_none (fin_bl I q (by simp))
  | bl j=>cases ry;exact PySem.EqNone.ne_none_bool (fin_bl I q (by simp))
  | int j=>obtain⟨t',rfl⟩:=ry;exact PySem.EqNone.ne_none_int (fin_bl I q (by simp))
  | str j=>obtain⟨t',rfl⟩:=ry;exact PySem.EqNone.ne_none_str (fin_bl I q (by simp))
  | _=>exact absurd (show false=true from hs) Bool.false_ne_true
 | bl i =>
  cases rx
  cases y with
  | non=>cases ry;exact PySem.EqNone.ne_bool_none (fin_bl I q (by simp))
  | bl j=>cases ry;exact ne_bool (fin_bl I q (congrArg not dec_bl))
  | str j=>obtain⟨t',rfl⟩:=ry;exact PySem.EqMixed.ne_bool_str (fin_bl I q (by simp))
  | _=>exact absurd (show false=true from hs) Bool.false_ne_true
 | int i =>
  obtain⟨t,rfl⟩:=rx
  cases y with
  | non=>cases ry;exact PySem.EqNone.ne_int_none (fin_bl I q (by simp))
  | int j=>obtain⟨t',rfl⟩:=ry;exact ne_int (fin_bl I q (congrArg not dec_int))
  | str j=>obtain⟨t',rfl⟩:=ry;exact PySem.EqMixed.ne_int_str (fin_bl I q (by simp))
  | _=>exact absurd (show false=true from hs) Bool.false_ne_true
 | str i =>
  obtain⟨t,rfl⟩:=rx
  cases y with
  | non=>cases ry;exact PySem.EqNone.ne_str_none (fin_bl I q (by simp))
  | bl j=>cases ry;exact PySem.EqMixed.ne_str_bool (fin_bl I q (by simp))
  | int j=>obtain⟨t',rfl⟩:=ry;exact PySem.EqMixed.ne_str_int (fin_bl I q (by simp))
  | str j=>obtain⟨t',rfl⟩:=ry;exact ne_str (fin_bl I q (congrArg not dec_str))
  | _=>exact absurd (show false=true from hs) Bool.false_ne_true
 | byt i =>
  obtain⟨t,rfl⟩:=rx
  cases y with
  | byt j=>obtain⟨t',rfl⟩:=ry;exact PySem.W.ne_bytes (fin_bl I q (congrArg not dec_byt))
  | _=>exact absurd (show false=true from hs) Bool.false_ne_true
 | _=>cases y <;> exact absurd (show false=true from hs) Bool.false_ne_true
theorem op_lt:OpR X (compareOp .Lt) (rI0 fun i j=>.bl (decide (i < j))):=opB0 fun _ _ _ _ _ _ _ q=>lt_int q
theorem op_le:OpR X (compareOp .LtE) (rI0 fun i j=>.bl (decide (i<=j))):=opB0 fun _ _ _ _ _ _ _ q=>le_int q
theorem op_gt:OpR X (compareOp .Gt) (rI0 fun i j=>.bl (decide (j < i))):=opB0 fun _ _ _ _ _ _ _ q=>gt_int q
theorem op_in_str:OpR X (compareOp .In) (fun x y H Q=>∃ i j,x=.str i/\y=.str j/\Q (.bl (!(Builtin.Str.occurrences j i 0 j.length 1).isEmpty)) H):=by
 intro pins s σ H x y v u Q I rx ry h
 obtain⟨i,j,rfl,rfl,q⟩:=h
 obtain⟨t,rfl⟩:=rx
 obtain⟨t',rfl⟩:=ry
 exact in_str (fin_bl I q rfl)
theorem op_notN:OpR X (compareOp .IsNot) (fun x y H Q=>y=.non/\Q (.bl (!decide (x=.non))) H):=by
 intro pins s σ H x y v u Q I rx ry h
 obtain⟨rfl,q⟩:=h
 cases ry
 refine isnot_none_gen (fin_bl I q ?_)
 cases x <;> first
  | (cases rx;rfl)
  | (obtain⟨t,rfl⟩:=rx;rfl)
theorem OpR.or {f:Value->Value->Sem Value} {r r':R2} (h:OpR X f r) (h':OpR X f r'):OpR X f (fun x y H Q=>r x y H Q\/r' x y H Q):=by
 intro pins s σ H x y v u Q I rx ry q
 rcases q with q|q
 ·exact h pins s σ H x y v u Q I rx ry q
 ·exact h' pins s σ H x y v u Q I rx ry q
theorem nomark (b:Expr) {op:CmpOp} (h:op ≠ .In:=by decide) (h2:op ≠ .NotIn:=by decide):behindInMarks op b=false:=by
 have e1:(op == CmpOp.In)=false:=by cases op <;> first|rfl|exact absurd rfl h
 have e2:(op == CmpOp.NotIn)=false:=by cases op <;> first|rfl|exact absurd rfl h2
 cases b <;> simp [behindInMarks,e1,e2]
theorem pe_cmpR {op:CmpOp} {r:R2} (ho:OpR X (compareOp op) r) (ha:PE X a ta) (hb:PE X b tb) (hm:behindInMarks op b=false):PE X (.Compare a [op] [b] pos) (tOp r ta tb):=by
 intro pins s σ H Q I h
 exact wpAny_Compare1 (binT ha hb I h fun v u s2 x y H2 I2 rx ry q=>ho pins s2 σ H2 x y v u Q I2 rx ry q) hm
def tTest (t:TE):TT:=fun σ H Q=>t σ H fun x H'=>∃ k,x=.bl k/\Q k H'
theorem pt_cmpR {op:CmpOp} {r:R2} (ho:OpR X (compareOp op) r) (ha:PE X a ta) (hb:PE X b tb) (hm:behindInMarks op b=false):PT X (.Compare a [op] [b] pos) (tTest (tOp r ta tb)):=by
 intro pins s σ H Q I h
 refine wpAny_isTrue_Compare1 (thn (ha pins s σ H _ I h) fun v s1 ⟨x,H1,I1,r1,q1⟩=>thn (hb pins s1 σ H1 _ I1 q1) fun u s2 ⟨y,H2,I2,r2,q2⟩ =>
  thn (ho pins s2 σ H2 x y v u _ I2 r1 r2 q2) fun c s3 ⟨z,H3,I3,r3,k,e,q3⟩=>?_) hm
 subst e
 cases r3
 exact wpAny_truthy_bool ⟨H3,I3,q3⟩
def tChain (r r':R2) (ta tb tc:TE):TE:=fun σ H Q=>ta σ H fun x H1=>tb σ H1 fun y H2=>r x y H2 fun z H3=>∃ k,z=.bl k ∧
 (if k=true then tc σ H3 fun w' H4=>r' y w' H4 Q else Q (.bl false) H3)
theorem pe_chain {op op':CmpOp} {r r':R2} (ho:OpR X (compareOp op) r) (ho':OpR X (compareOp op') r') (ha:PE X a ta) (hb:PE X b tb) (hc:PE X c tc)
  (hm:lastMarks [op,op'] [b,c]=false:=by with_unfolding_all rfl):PE X (.Compare a [op,op'] [b,c] pos) (tChain r r' ta tb tc):=by
 intro pins s σ H Q I h
 refine Compare_chain (thn (ha pins s σ H _ I h) fun v s1 ⟨x,H1,I1,r1,q1⟩=>chain_link (thn (hb pins s1 σ H1 _ I1 q1) fun u s2 ⟨y,H2,I2,r2,q2⟩ =>
  thn (ho pins s2 σ H2 x y v u _ I2 r1 r2 q2) fun d s3 ⟨z,H3,I3,r3,k,e,q3⟩=>?_)) hm
 subst e
 cases r3
 refine wpAny_truthy_bool ?_
 cases k with
 | false=>exact ite_ff ⟨.bl false,H3,I3,rfl,q3⟩
 | true=>exact ite_tt (chain_last (thn (hc pins s3 σ H3 _ I3 q3) fun w' s4 ⟨z',H4,I4,r4,q4⟩=>ho' pins s4 σ H4 y z' u w' Q I4 r2 r4 q4))
theorem pt_chain {op op':CmpOp} {r r':R2} (ho:OpR X (compareOp op) r) (ho':OpR X (compareOp op') r') (ha:PE X a ta) (hb:PE X b tb) (hc:PE X c tc)
  (hm:lastMarks [op,op'] [b,c]=false:=by with_unfolding_all rfl):PT X (.Compare a [op,op'] [b,c] pos) (tTest (tChain r r' ta tb tc)):=by
 intro pins s σ H Q I h
 refine isTrue_chain (thn (ha pins s σ H _ I h) fun v s1 ⟨x,H1,I1,r1,q1⟩=>test_link (thn (hb pins s1 σ H1 _ I1 q1) fun u s2 ⟨y,H2,I2,r2,q2⟩ =>
  thn (ho pins s2 σ H2 x y v u _ I2 r1 r2 q2) fun d s3 ⟨z,H3,I3,r3,k,e,q3⟩=>?_)) hm
 subst e
 cases r3
 refine wpAny_truthy_bool ?_
 cases k with
 | false =>
  obtain⟨k',e',q'⟩:=q3
  cases e'
  exact ite_ff ⟨H3,I3,q'⟩
 | true =>
  refine ite_tt (test_last (thn (hc pins s3 σ H3 _ I3 q3) fun w' s4 ⟨z',H4,I4,r4,q4⟩=>thn (ho' pins s4 σ H4 y z' u w' _ I4 r2 r4 q4) fun d' s5 ⟨z2,H5,I5,r5,k2,e2,q5⟩=>?_))
  subst e2
  cases r5
  exact wpAny_truthy_bool ⟨H5,I5,q5⟩
def TruV (K:Frag) (x:V) (H:Hp) (k:Bool):Prop :=
 match x with
 | .non=>k=false
 | .bl b=>k=b
 | .int i=>k=(i != 0)
 | .str y=>y.length<=sizeLine/\k=((y.length:Int) != 0)
 | .byt y=>y.size<=sizeLine/\k=((y.size:Int) != 0)
 | .ref p=>(∃ xs,SqL K H p xs/\k = !xs.isEmpty)\/(∃ xs,SqT K H p xs/\k = !xs.isEmpty)\/∃ kvs,H p=some (.dK kvs)/\k = !kvs.isEmpty
 | _=>False
theorem isEmpty_kv {κ : Type} {kvs:List (κ × V)} {vs:List (κ × Value)} (r:KV kvs vs):(!vs.isEmpty) = !kvs.isEmpty:=by
 cases r <;> rfl
theorem isEmpty_of {xs:List V} {its:List Value} (r:Vals xs its):(!its.toArray.isEmpty) = !xs.isEmpty:=by
 cases r <;> simp
theorem line63:(sizeLine:Nat) < 2 ^ 63:=by rw [sizeLine_eq];decide
theorem tru_ok:TruR X (fun x H Q=>∃ k,TruV X.K x H k/\Q k H):=by
 intro pins s σ H x v Q I rx h
 obtain⟨k,e,q⟩:=h
 have hl:=line63
 have hs:sizeLine=16777216:=sizeLine_eq
 cases x with
 | non =>
  cases rx
  have e':k=false:=e
  subst e'
  exact truthy_none ⟨H,I,q⟩
 | bl b =>
  cases rx
  have e':k=b:=e
  subst e'
  exact wpAny_truthy_bool ⟨H,I,q⟩
 | int i =>
  obtain⟨t,rfl⟩:=rx
  have e':k=(i != 0):=e
  subst e'
  exact PySem.P.truthy_int ⟨H,I,q⟩
 | str y =>
  obtain⟨t,rfl⟩:=rx
  obtain⟨hy,e'⟩ : y.length<=sizeLine/\k=((y.length:Int) != 0):=e
  subst e'
  exact PySem.P.truthy_str (by omega) ⟨H,I.tok _,q⟩
 | byt y =>
  obtain⟨t,rfl⟩:=rx
  obtain⟨hy,e'⟩ : y.size<=sizeLine/\k=((y.size:Int) != 0):=e
  subst e'
  exact PySem.W.truthy_bytes (by omega) ⟨H,I.tok _,q⟩
 | ref p =>
  cases rx
  have e':(∃ xs,SqL X.K H p xs/\k = !xs.isEmpty)\/(∃ xs,SqT X.K H p xs/\k = !xs.isEmpty)\/∃ kvs,H p=some (.dK kvs)/\k = !kvs.isEmpty:=e
  rcases e' with⟨xs,hx,e'⟩|⟨xs,hx,e'⟩|⟨kvs,hx,e'⟩
  ·subst e'
   obtain⟨its,r,pl,hz⟩:=I.list hx
   have hlen:=r.length
   exact wpAny_truthy_list pl.isList (by simp only [List.size_toArray];omega) ⟨H,I.tok _,by rw [isEmpty_of r];exact q⟩
  ·subst e'
   obtain⟨its,r,pl,hz⟩:=I.tuple hx
   have hlen:=r.length
   exact truthy_tuple pl (by simp only [List.size_toArray];omega) ⟨H,I.tok _,by rw [isEmpty_of r];exact q⟩
  ·subst e'
   obtain⟨hz,hS,vs,r,m⟩ : kvs.length<=sizeLine/\(p == sysModules)=false/\∃ vs,KV kvs vs/\s.heap.DictOf (mixKind X.prog X.w) p vs:=I.hok p _ hx
   have hlen:kvs.length=vs.length:=Paired.length r
   exact wpAny_truthy_dict hS m (by omega) ⟨H,I.tok _,by rw [isEmpty_kv r];exact q⟩
 | _=>exact (show False from e).elim
theorem pt_truth (ha:PE X a ta) (he:∀ whole,isTrue a X.env whole=(do let v ← whole;standAt a.pos;holding [v] (truthy v))) :
  PT X a (fun σ H Q=>ta σ H fun x H'=>∃ k,TruV X.K x H' k/\Q k H'):=by
 intro pins s σ H Q I h
 exact isTrue_plain (thn (ha pins s σ H _ I h) fun v s1 ⟨x,H1,I1,r1,q1⟩=>tru_ok pins s1 σ H1 x v Q I1 r1 q1) (he _)
theorem op_add_str:OpR X (binaryOp .Add) (fun x y H Q=>∃ i j,x=.str i/\y=.str j/\i.length + j.length<=sizeLine/\Q (.str (i++j)) H):=by
 intro pins s σ H x y v u Q I rx ry h
 obtain⟨i,j,rfl,rfl,hz,q⟩:=h
 obtain⟨t,rfl⟩:=rx
 obtain⟨t',rfl⟩:=ry
 exact add_str (fun t' tk=>⟨.str (i++j),H,I.tok _,⟨_,rfl⟩,q⟩) hz
theorem vals1 {x:V} {us:List Value} (r:Vals [x] us):∃ u,us=[u]/\RelV x u:=by
 cases r with
 | cons r1 r2=>cases r2;exact⟨_,rfl,r1⟩
theorem vals2 {x y:V} {us:List Value} (r:Vals [x,y] us):∃ u w',us=[u,w']/\RelV x u/\RelV y w':=by
 cases r with
 | cons r1 r2 =>
  cases r2 with
  | cons r3 r4=>cases r4;exact⟨_,_,rfl,r1,r3⟩
theorem call_max2 (hc:X.calm=true):CallR X (.builtin "max") (fun xs H Q=>∃ i j,xs=[.int i,.int j]/\Q (.int (if j > i then j else i)) H):=by
 intro pins s σ H xs us Q I r h
 obtain⟨i,j,rfl,q⟩:=h
 obtain⟨u,w',rfl,⟨t,rfl⟩,⟨t',rfl⟩⟩:=vals2 r
 refine max_two_ints (I.ok.hd hc) fun h' tk k=>⟨_,H,I.kept k,?_,q⟩
 by_cases hj:j > i
 ·rw [if_pos hj,if_pos hj];exact⟨_,rfl⟩
 ·rw [if_neg hj,if_neg hj];exact⟨_,rfl⟩
theorem call_min2 (hc:X.calm=true):CallR X (.builtin "min") (fun xs H Q=>∃ i j,xs=[.int i,.int j]/\Q (.int (if j < i then j else i)) H):=by
 intro pins s σ H xs us Q I r h
 obtain⟨i,j,rfl,q⟩:=h
 obtain⟨u,w',rfl,⟨t,rfl⟩,⟨t',rfl⟩⟩:=vals2 r
 refine min_two_ints (I.ok.hd hc) fun h' tk k=>⟨_,H,I.kept k,?_,q⟩
 by_cases hj:j < i
 ·rw [if_pos hj,if_pos hj];exact⟨_,rfl⟩
 ·rw [if_neg hj,if_neg hj];exact⟨_,rfl⟩
theorem call_str_int:CallR X (.type "str") (fun xs H Q=>∃ i,xs=[.int i]/\i.natAbs.log2 < 1920/\Q (.str (toString i)) H):=by
 intro pins s σ H xs us Q I r h
 obtain⟨i,rfl,hz,q⟩:=h
 obtain⟨u,rfl,t,rfl⟩:=vals1 r
 exact PySem.P.str_of_int hz ⟨.str _,H,I.tok _,⟨_,rfl⟩,q⟩
def LenV (K:Frag) (x:V) (H:Hp) (n:Nat):Prop :=
 match x with
 | .str y=>y.length<=sizeLine/\n=y.length
 | .byt y=>y.size<=sizeLine/\n=y.size
 | .ref p=>(∃ xs,SqL K H p xs/\n=xs.length)\/∃ xs,SqT K H p xs/\n=xs.length
 | _=>False
theorem call_len:CallR X (.builtin "len") (fun xs H Q=>∃ x n,xs=[x]/\LenV X.K x H n/\Q (.int n) H):=by
 intro pins s σ H xs us Q I r h
 obtain⟨x,n,rfl,e,q⟩:=h
 obtain⟨u,rfl,rx⟩:=vals1 r
 have hl:=line63
 have hs:sizeLine=16777216:=sizeLine_eq
 cases x with
 | str y =>
  obtain⟨t,rfl⟩:=rx
  obtain⟨hy,e'⟩ : y.length<=sizeLine/\n=y.length:=e
  subst e'
  exact len_str (by omega) ⟨.int _,H,I.tok _,⟨_,rfl⟩,q⟩
 | byt y =>
  obtain⟨t,rfl⟩:=rx
  obtain⟨hy,e'⟩ : y.size<=sizeLine/\n=y.size:=e
  subst e'
  exact PySem.W.len_bytes (by omega) ⟨.int _,H,I.tok _,⟨_,rfl⟩,q⟩
 | ref p =>
  cases rx
  have e':(∃ xs,SqL X.K H p xs/\n=xs.length)\/∃ xs,SqT X.K H p xs/\n=xs.length:=e
  rcases e' with⟨xs,hx,e'⟩|⟨xs,hx,e'⟩
  ·subst e'
   obtain⟨its,r',pl,hz⟩:=I.list hx
   have hlen:=r'.length
   exact Calls.call_len_list pl.isList (by simp only [List.size_toArray];omega) ⟨.int xs.length,H,I.tok _,⟨_,by simp only [List.size_toArray];rw [hlen]⟩,q⟩
  ·subst e'
   obtain⟨its,r',pl,hz⟩:=I.tuple hx
   have hlen:=r'.length
   exact len_tuple pl (by simp only [List.size_toArray];omega) ⟨.int xs.length,H,I.tok _,⟨_,by simp only [List.size_toArray];rw [hlen]⟩,q⟩
 | _=>exact (show False from e).elim
end
structure ObjM (h:Heap) (x dx C:Addr) (mA:Str->Option Value):Prop where
 obj:h.get? x=some (PySem.W.instObj C dx)
 ns:h.Ns1 dx mA
 ne:dx ≠ x
theorem lookIn_ns {h:Heap} {dx:Addr} {mA:Str->Option Value} (n:h.Ns1 dx mA):∃ od,h.get? dx=some od/\∀ name,PySem.W.lookIn name od=some (mA name):=by
 obtain⟨o,es,ep,ho,hd,hk,_,hm⟩:=n
 refine⟨o,ho,fun name=>?_⟩
 have e:=hm name
 unfold nsFind findBy at e
 rw [← Array.find?_toList] at e
 unfold PySem.W.lookIn
 rw [hd]
 dsimp only
 split
 ·rename_i y q
  rw [q] at e
  exact congrArg some e
 ·rename_i q
  rw [q] at e
  have a:es.toList.any (·.refKey)=false:=by
   rw [List.any_eq_false]
   intro y hy
   obtain⟨z,t,hkey⟩:=hk y (Array.mem_toList_iff.mp hy)
   simp [DictEntry.refKey,hkey]
  have a':¬ es.toList.any (·.refKey)=true:=by rw [a];exact Bool.false_ne_true
  rw [if_neg a']
  exact congrArg some e
theorem ObjM.look {h:Heap} {x dx C:Addr} {mA:Str->Option Value} (I:ObjM h x dx C mA):∃ od,PySem.W.InstAt h x (PySem.W.instObj C dx) C (some od)/\∀ name,PySem.W.lookIn name od=some (mA name) :=
 let ⟨od,ho,hl⟩:=lookIn_ns I.ns
 ⟨od,⟨I.obj,rfl,rfl,ho⟩,hl⟩
section
variable {prog:Program} {w:World} {A:Around} {E:Value->Shared->Prop} {s:Shared} {K:Frag} {x dx C f:Addr} {mA:Str->Option Value} {name:Str} {v:Value}
theorem get_map {expr:Bool} {Q:Value->Shared->Prop} (X:K.In s.heap) (I:ObjM s.heap x dx C mA) (hg:PySem.W.plainGet K C name=true) (hh:PySem.W.hasDictIn K C=true)
  (ha:findIn K (.ref C) name=some none) (hv:mA name=some v) (hv':PySem.W.handedIn v=true) (h:Q v { s with toks:=s.toks + 1 }) :
  wpAny (model prog w) A (getAttr (.ref x) name expr) Q E s:=by
 obtain⟨od,J,hl⟩:=I.look
 exact PySem.W.get_value X J (PySem.W.plainGet_of hg).1 (PySem.W.findObj_own hh ha rfl (by rw [hl,hv])) hv' h
theorem get_meth {pl:Sem Bool} {Q:Value × List Value->Shared->Prop} (X:K.In s.heap) (I:ObjM s.heap x dx C mA) (hg:PySem.W.plainGet K C name=true)
  (hf:findIn K (.ref C) name=some (some (.ref f))) (ht:isFn K (.ref f)=true) (hv:mA name=none) (h:Q (.ref f,[.ref x]) s) :
  wpAny (model prog w) A (getMethod (.ref x) name pl) Q E s:=by
 obtain⟨od,J,hl⟩:=I.look
 exact PySem.W.method_fn X J (PySem.W.plainGet_of hg).1 (PySem.W.plainGet_of hg).2 hf (beq_iff_eq.mp ht) (by show (PySem.W.lookIn name od).map (·.isSome)=some false;rw [hl,hv];rfl) h
theorem set_map {ns:List Str} {Q:Unit->Shared->Prop} (X:K.In s.heap) (I:ObjM s.heap x dx C mA)
  (hs:findIn K (.ref C) "__setattr__" = some (some (.builtin "object.__setattr__"))) (hp:PySem.W.plainOver K C=true) (ht:PySem.W.takerIn K C name=some none) (hh:PySem.W.hasDictIn K C=true)
  (hw:PySem.Within mA ns) (hsz:ns.length<=sizeLine)
  (h:∀ h',ObjM h' x dx C (fun y=>if y=name then some v else mA y)->Heap.SameBut dx s.heap h'->Q () { s with heap:=h',toks:=s.toks + 2 }) :
  wpAny (model prog w) A (setAttr (.ref x) name v) Q E s:=by
 obtain⟨od,J,hl⟩:=I.look
 refine PySem.W.set_plain X J hs (PySem.W.osa_open (s:={ s with toks:=s.toks + 1 }) (r:=none) X J hp ht fun b=>?_)
 obtain⟨cd,hc,hd'⟩:=PySem.W.any_some hh
 have hx:s.heap.get? x=some ⟨.ref C,some dx,.plain,#[]⟩:=I.obj
 refine wpAny_bind (wpAny_pure (wpAny_bind (wpAny_bind (wpAny_loadPart hx (wpAny_bind (PySem.W.Looks.here (s:={ s with toks:=s.toks + 1 }) (PySem.W.looks_clsIn X hc) ?_))))))
 rw [hd']
 refine wpAny_pure (a:=some dx) (wpAny_bind (wpAny_pure (wpAny_bind ?_)))
 refine wpAny_nsSet1 (s:={ s with toks:=s.toks + 1 }) I.ns fun h' hn2 hs2=>?_
 obtain⟨oD,esD,epD,hoD,hdD,hcD⟩:=hn2.count (PySem.Within.cons name v hw)
 refine wpAny_bind (wpAny_lookBehind hoD (by rw [hdD];exact pastItsLine_dict (Nat.le_trans hcD (by rw [List.length_cons];omega))) ?_)
 exact wpAny_pure (h _ ⟨(hs2.2 _ (Ne.symm I.ne)).trans I.obj,hn2,I.ne⟩ hs2)
theorem make_map {R:Result->Shared->Prop} {vs:List Value} {kw:List (Str × Value)} (X:K.In s.heap) (hm:PySem.W.makesIn K C=true)
  (hi:findIn K (.ref C) "__init__" = some (some (.ref f))) (hf:PySem.W.typeIn K (.ref f)=some (.type "function"))
  (h:codeAny (model prog w) (A.under (.builtin "type.__call__" ⟨.ref C::vs,kw⟩)) (.call (.ref f) ⟨.ref (s.heap.objs.size + 1)::vs,kw⟩) (PySem.W.InitBack (s.heap.objs.size + 1) R)
   { s with heap:=(s.heap.push PySem.W.emptyDict).push (PySem.W.instObj C s.heap.objs.size) }) :
  codeAny (model prog w) A (.call (.ref C) ⟨vs,kw⟩) R s:=by
 obtain⟨hh,g,d,t,os⟩:=s
 exact PySem.W.make_core (PySem.W.makes_of X hm) (PySem.W.looks_findIn X hi) (fun self=>PySem.W.bind_fn X self hf) (.inl rfl) h
end
def putF (f:Str) (v:V):List (Str × V)->List (Str × V)
 | []=>[(f,v)]
 | (g,x)::r=>if g=f then (g,v)::r else (g,x)::putF f v r
theorem lookup_putF (f g:Str) (v:V):∀ fs:List (Str × V),(putF f v fs).lookup g=if g=f then some v else fs.lookup g
 | []=>by
  show List.lookup g [(f,v)]=_
  by_cases h:g=f
  ·have hb:(g == f)=true:=beq_iff_eq.mpr h
   simp only [List.lookup,hb,if_pos h]
  ·have hb:(g == f)=false:=beq_eq_false_iff_ne.mpr h
   simp only [List.lookup,hb,if_neg h]
 | (k,x)::r=>by
  have ih:=lookup_putF f g v r
  rw [show putF f v ((k,x)::r)=(if k=f then (k,v)::r else (k,x)::putF f v r) from rfl]
  by_cases hk:k=f
  ·rw [if_pos hk]
   by_cases h:g=k
   ·have hb:(g == k)=true:=beq_iff_eq.mpr h
    simp only [List.lookup,hb,if_pos (h.trans hk)]
   ·have hb:(g == k)=false:=beq_eq_false_iff_ne.mpr h
    simp only [List.lookup,hb,if_neg (fun e:g=f=>h (e.trans hk.symm))]
  ·rw [if_neg hk]
   by_cases h:g=k
   ·have hb:(g == k)=true:=beq_iff_eq.mpr h
    simp only [List.lookup,hb,if_neg (fun e:g=f=>hk (h.symm.trans e))]
   ·have hb:(g == k)=false:=beq_eq_false_iff_ne.mpr h
    simp only [List.lookup,hb]
    exact ih
theorem keys_putF (f:Str) (v:V):∀ fs:List (Str × V),f ∈ (putF f v fs).map (·.1)/\∀ g,g ∈ fs.map (·.1)->g ∈ (putF f v fs).map (·.1)
 | []=>⟨by simp [putF],fun g h=>by simp at h⟩
 | (k,x)::r=>by
  obtain⟨i1,i2⟩:=keys_putF f v r
  rw [show putF f v ((k,x)::r)=(if k=f then (k,v)::r else (k,x)::putF f v r) from rfl]
  by_cases hk:k=f
  ·rw [if_pos hk]
   subst hk
   exact⟨by simp,fun g h=>by simpa using h⟩
  ·rw [if_neg hk]
   refine⟨?_,fun g h=>?_⟩
   ·rw [List.map_cons]
    exact List.mem_cons_of_mem _ i1
   ·rw [List.map_cons] at h ⊢
    rcases List.mem_cons.mp h with e|e
    ·exact List.mem_cons.mpr (.inl e)
    ·exact List.mem_cons_of_mem _ (i2 g e)
theorem length_putF (f:Str) (v:V):∀ fs:List (Str × V),(putF f v fs).length<=fs.length + 1
 | []=>by simp [putF]
 | (k,x)::r=>by
  have ih:=length_putF f v r
  rw [show putF f v ((k,x)::r)=(if k=f then (k,v)::r else (k,x)::putF f v r) from rfl]
  by_cases hk:k=f
  ·rw [if_pos hk,List.length_cons,List.length_cons];omega
  ·rw [if_neg hk,List.length_cons,List.length_cons];omega
theorem RelO.some_of {v:V} {o:Option Value} (r:RelO (some v) o):∃ u,o=some u/\RelV v u:=by
 cases o with
 | none=>exact (show False from r).elim
 | some u=>exact⟨u,rfl,r⟩
theorem RelO.none_of {o:Option Value} (r:RelO none o):o=none:=by
 cases o with
 | none=>rfl
 | some u=>exact (show False from r).elim
theorem handed_of {v:V} {u:Value} (r:RelV v u):PySem.W.handedIn u=true:=by
 cases v with
 | non=>cases (show u=Value.none from r);rfl
 | bl b=>cases (show u=Value.bool b from r);rfl
 | int i=>obtain⟨t,e⟩:=(show ∃ t,u=Value.int i t from r);cases e;rfl
 | str x=>obtain⟨t,e⟩:=(show ∃ t,u=Value.str x t from r);cases e;rfl
 | byt b=>obtain⟨t,e⟩:=(show ∃ t,u=Value.bytes b t from r);cases e;rfl
 | flt b=>obtain⟨t,e⟩:=(show ∃ t,u=Value.float b t from r);cases e;rfl
 | ref a=>cases (show u=Value.ref a from r);rfl
 | ty n=>cases (show u=Value.type n from r);rfl
section
variable {P:Program} {w:World} {H H':Hp} {h h':Heap} {a C dx:Addr} {fs fs':List (Str × V)}
theorem ins_get (hok:HOk P w H h) (e:H a=some (.ins C dx fs)):∃ mA,ObjM h a dx C mA/\(∀ f,RelO (fs.lookup f) (mA f))/\PySem.Within mA (fs.map (·.1))/\fs.length<=1000/\H dx=some (.own a):=by
 obtain⟨d,z,ne,ob,mA,n,r,q⟩:=(show ObjOk P w H h a (.ins C dx fs) from hok a _ e)
 exact⟨mA,⟨ob,n,ne⟩,r,q,z,d⟩
end
structure Cls (K:Frag) (C:Addr):Prop where
 pg:PySem.W.plainGet K C Str.empty=true
 hd:PySem.W.hasDictIn K C=true
 po:PySem.W.plainOver K C=true
 sa:findIn K (.ref C) "__setattr__" = some (some (.builtin "object.__setattr__"))
theorem Cls.get {K:Frag} {C:Addr} (c:Cls K C) (f:Str):PySem.W.plainGet K C f=true:=c.pg
def NoAttr (K:Frag) (C:Addr) (f:Str):Prop:=findIn K (.ref C) f=some none
theorem NoAttr.taker {K:Frag} {C:Addr} {f:Str} (n:NoAttr K C f):PySem.W.takerIn K C f=some none:=by
 unfold PySem.W.takerIn
 rw [show findIn K (.ref C) f=some none from n]
 rfl
structure Meth (K:Frag) (C:Addr) (m:Str) (f:Addr):Prop where
 at_:findIn K (.ref C) m=some (some (.ref f))
 fn:isFn K (.ref f)=true
 kp:keepIn K (.ref f)=true
section
variable {X:Cx} {pins:List (Addr × Obj)} {σ:St} {H:Hp} {s:Shared} {a C dx:Addr} {fs:List (Str × V)} {f:Str} {v:V} {A:Around} {E:Value->Shared->Prop}
theorem getattr_ok {b:Bool} {Q:Value->Shared->Prop} (I:Inv X pins σ H s) (e:H a=some (.ins C dx fs)) (c:Cls X.K C) (n:NoAttr X.K C f) (l:fs.lookup f=some v)
  (h:∀ u s',Inv X pins σ H s'->RelV v u->Q u s'):wpAny (model X.prog X.w) A (getAttr (.ref a) f b) Q E s:=by
 obtain⟨mA,O,r,_,_,_⟩:=ins_get I.hok e
 obtain⟨u,hu,ru⟩:=RelO.some_of (v:=v) (o:=mA f) (by rw [← l];exact r f)
 exact get_map I.kIn O (c.get f) c.hd n hu (handed_of ru) (h u _ (I.tok _) ru)
theorem getmeth_ok {m:Str} {g:Addr} {pl:Sem Bool} {Q:Value × List Value->Shared->Prop} (I:Inv X pins σ H s) (e:H a=some (.ins C dx fs)) (c:Cls X.K C) (k:Meth X.K C m g) (l:fs.lookup m=none)
  (h:Q (.ref g,[.ref a]) s):wpAny (model X.prog X.w) A (getMethod (.ref a) m pl) Q E s:=by
 obtain⟨mA,O,r,_,_,_⟩:=ins_get I.hok e
 have hn:mA m=none:=RelO.none_of (by rw [← l];exact r m)
 exact get_meth I.kIn O (c.get m) k.at_ k.fn hn h
theorem setattr_ok {y:V} {u:Value} {Q:Unit->Shared->Prop} (I:Inv X pins σ H s) (e:H a=some (.ins C dx fs)) (c:Cls X.K C) (n:NoAttr X.K C f) (hl:fs.length < 1000) (ry:RelV y u)
  (h:∀ s',Inv X pins σ (upd H a (.ins C dx (putF f y fs))) s'->Q () s'):wpAny (model X.prog X.w) A (setAttr (.ref a) f u) Q E s:=by
 obtain⟨mA,O,r,wi,_,ho⟩:=ins_get I.hok e
 have hz:(fs.map (·.1)).length<=sizeLine:=by rw [List.length_map,sizeLine_eq];omega
 refine set_map I.kIn O c.sa c.po n.taker c.hd wi hz fun h' O' sb=>h _ ?_
 have hd:∃ o,h'.get? dx=some o:=let ⟨o,_,_,e',_⟩:=O'.ns; ⟨o,e'⟩
 refine I.write (x:=a) (e:=dx) (by rw [e];exact True.intro) (.inr ho) (fun b q hb z=>(sb.2 b hb).trans z) hd ?_
 refine⟨by rw [upd_ne O.ne];exact ho,?_,O.ne,O'.obj,_,O'.ns,fun g=>?_,fun g hg=>?_⟩
 ·have:=length_putF f y fs;omega
 ·show RelO ((putF f y fs).lookup g) (if g=f then some u else mA g)
  rw [lookup_putF]
  by_cases q:g=f
  ·rw [if_pos q,if_pos q];exact ry
  ·rw [if_neg q,if_neg q];exact r g
 ·by_cases q:g=f
  ·rw [q];exact (keys_putF f y fs).1
  ·refine (keys_putF f y fs).2 g (wi g fun z=>hg ?_)
   show (if g=f then some u else mA g)=none
   rw [if_neg q];exact z
theorem Inv.made (I:Inv X pins σ H s):Inv X pins σ (upd (upd H s.heap.objs.size (.own (s.heap.objs.size + 1))) (s.heap.objs.size + 1) (.ins C s.heap.objs.size []))
  { s with heap:=(s.heap.push PySem.W.emptyDict).push (PySem.W.instObj C s.heap.objs.size) }:=by
 have e1:(s.heap.push PySem.W.emptyDict).get? s.heap.objs.size=some PySem.W.emptyDict:=Heap.get?_push_size s.heap rfl
 have e2:((s.heap.push PySem.W.emptyDict).push (PySem.W.instObj C s.heap.objs.size)).get? (s.heap.objs.size + 1)=some (PySem.W.instObj C s.heap.objs.size):=by
  have:=Heap.get?_push_size (s.heap.push PySem.W.emptyDict) (o:=PySem.W.instObj C s.heap.objs.size) rfl
  rwa [Heap.size_push] at this
 have e3:(s.heap.push PySem.W.emptyDict).Ns s.heap.objs.size (fun _=>none):=⟨PySem.W.emptyDict,#[],_,e1,rfl,(fun e he=>absurd he (by simp)),fun _=>rfl⟩
 have I1:=I.laid (a:=s.heap.objs.size) (o:=.own (s.heap.objs.size + 1)) (h':=s.heap.push PySem.W.emptyDict) (t':=s.toks) (fun b u q=>Heap.get?_push_of_some _ q) (Nat.le_refl _) ⟨_,e1⟩
 refine I1.laid (a:=s.heap.objs.size + 1) (o:=.ins C s.heap.objs.size []) (t':=s.toks) (fun b u q=>Heap.get?_push_of_some _ q) (Nat.le_of_eq (Heap.size_push _ _)) ?_
 have ne:s.heap.objs.size ≠ s.heap.objs.size + 1:=Nat.ne_of_lt (Nat.lt_succ_self _)
 refine⟨by rw [upd_ne ne,upd_same],Nat.zero_le _,ne,e2,fun _=>none,(Heap.Ns1.of_empty e3).at fun o q=>Heap.get?_push_of_some _ q,fun _=>True.intro,fun y hy=>absurd rfl hy⟩
theorem attr_of {prog:Program} {w:World} {env:Env} {e:Expr} {f:Str} {pos:Pos} {s:Shared} {Q:Value->Shared->Prop} (hb:attributeBase e f env (eval e env)=eval e env)
  (h:wpAny (model prog w) A (eval e env) (fun o s₁=>wpAny (model prog w) A (getAttr o f true) Q E s₁) E s):wpAny (model prog w) A (eval (.Attribute e f pos) env) Q E s :=
 Attribute_any_ h (by rw [arm_eval_Attribute,hb])
end
def tFld (K:Frag) (ta:TE) (f:Str):TE:=fun σ H Q=>ta σ H fun x H1=>∃ a C dx fs v,x=.ref a/\H1 a=some (.ins C dx fs)/\Cls K C/\NoAttr K C f/\fs.lookup f=some v/\Q v H1
def sFld (K:Frag) (ta tv:TE) (f:Str):TS:=fun D σ H=>tv σ H fun y H1=>ta σ H1 fun x H2=>∃ a C dx fs,x=.ref a/\H2 a=some (.ins C dx fs)/\Cls K C/\NoAttr K C f/\fs.length < 1000 ∧
 D.nx σ (upd H2 a (.ins C dx (putF f y fs)))
section
variable {X:Cx} {o e value:Expr} {f:Str} {pos pos' tpos:Pos} {ta tv:TE}
theorem pe_fld (he:PE X e ta) (hb:attributeBase e f X.env (eval e X.env)=eval e X.env):PE X (.Attribute e f pos) (tFld X.K ta f):=by
 intro pins s σ H Q I h
 refine attr_of hb (thn (he pins s σ H _ I h) fun u s1 ⟨x,H1,I1,rx,a,C,dx,fs,v,ex,ea,c,n,l,q⟩=>?_)
 subst ex
 obtain rfl:u=Value.ref a:=rx
 exact getattr_ok I1 ea c n l fun u' s2 I2 ru=>⟨v,H1,I2,ru,q⟩
theorem ps_fld (ha:PE X o ta) (hv:PE X value tv) (hs:swapsWith value (some (.Attribute o f pos')) pos.line X.env=pure false):PS X (.Assign [.Attribute o f pos'] value pos) (sFld X.K ta tv f):=by
 intro pins s σ H D I h
 refine plainObj_wpAny_Assign_Attribute (thn (hv pins s σ H _ I h) fun u s1 ⟨y,H1,I1,ry,q⟩=>thn (ha pins s1 σ H1 _ I1 q) fun ov s2 ⟨x,H2,I2,rx,a,C,dx,fs,ex,ea,c,n,l,q2⟩=>?_) hs
 subst ex
 obtain rfl:ov=Value.ref a:=rx
 exact setattr_ok I2 ea c n l ry fun s3 I3=>⟨σ,_,I3,q2⟩
end
section
variable {X:Cx} {pins:List (Addr × Obj)} {σ:St} {H:Hp} {s:Shared} {A:Around} {E:Value->Shared->Prop} {Q:Value->Shared->Prop} {c:Value} {b:Bool}
inductive TyOf (K:Frag) (H:Hp):V->Value->Prop where
 | non:TyOf K H .non (.type "NoneType")
 | bl (x:Bool):TyOf K H (.bl x) (.type "bool")
 | int (i:Int):TyOf K H (.int i) (.type "int")
 | str (x:Str):TyOf K H (.str x) (.type "str")
 | flt (x:UInt64):TyOf K H (.flt x) (.type "float")
 | lst {a:Addr} {xs:List V} (e:H a=some (.lst xs)):TyOf K H (.ref a) (.type "list")
 | frz {a:Addr} {o:Obj} {xs:List V} (e:H a=some (.frz o (.lst xs))):TyOf K H (.ref a) (.type "list")
 | tup {a:Addr} {xs:List V} (e:H a=some (.tup xs)):TyOf K H (.ref a) (.type "tuple")
 | dK {a:Addr} {kvs:List (Key × V)} (e:H a=some (.dK kvs)):TyOf K H (.ref a) (.type "dict")
 | dT {a:Addr} {kvs:List (List Key × V)} (e:H a=some (.dT kvs)):TyOf K H (.ref a) (.type "dict")
 | ins {a C dx:Addr} {fs:List (Str × V)} (e:H a=some (.ins C dx fs)) (cl:Cls K C) (ha:findIn K (.ref C) "__class__" = some (some (.builtin "object.__class__")))
   (hn:PySem.W.specialIn K (.builtin "object.__class__") "__get__" = some (some (.builtin "getset_descriptor.__get__"))) (htk:PySem.W.takesIn K (.builtin "object.__class__")=some true)
   (hm:PySem.W.mroIn K C (.type "object")=some true):TyOf K H (.ref a) (.ref C)
theorem isinst_ok {x:V} {u t:Value} (I:Inv X pins σ H s) (rx:RelV x u) (ty:TyOf X.K H x t) (e:PySem.W.kitOne X.K t c=some b) (h:∀ tk,Q (.bool b) { s with toks:=tk }) :
  wpAny (model X.prog X.w) A (call (.builtin "isinstance") [u,c]) Q E s:=by
 cases ty with
 | non=>cases (show u=Value.none from rx);exact PySem.W.kia_one PySem.W.kitx_none I.kIn True.intro e (fun z=>nomatch z) h
 | bl y=>cases (show u=Value.bool y from rx);exact PySem.W.kia_one PySem.W.kitx_bool I.kIn True.intro e (fun z=>nomatch z) h
 | int i=>obtain⟨t,q⟩:=(show ∃ t,u=Value.int i t from rx);cases q;exact PySem.W.kia_one PySem.W.kitx_int I.kIn True.intro e (fun z=>nomatch z) h
 | str y=>obtain⟨t,q⟩:=(show ∃ t,u=Value.str y t from rx);cases q;exact PySem.W.kia_one PySem.W.kitx_str I.kIn True.intro e (fun z=>nomatch z) h
 | flt y=>obtain⟨t,q⟩:=(show ∃ t,u=Value.float y t from rx);cases q;exact PySem.W.kia_one PySem.W.kitx_float I.kIn True.intro e (fun z=>nomatch z) h
 | @lst a xs ea =>
  cases (show u=Value.ref a from rx)
  obtain⟨_,_,n,_,h1⟩:=(show ObjOk X.prog X.w H s.heap a (.lst xs) from I.hok a _ ea)
  exact PySem.W.kia_one PySem.W.kitx_list I.kIn ⟨_,h1,rfl⟩ e (fun z=>nomatch z) h
 | @frz a ob xs ea =>
  cases (show u=Value.ref a from rx)
  obtain⟨_,_,_,n,_,h1⟩:=(show ObjOk X.prog X.w H s.heap a (.frz ob (.lst xs)) from I.hok a _ ea)
  exact PySem.W.kia_one PySem.W.kitx_list I.kIn ⟨_,h1,rfl⟩ e (fun z=>nomatch z) h
 | @tup a xs ea =>
  cases (show u=Value.ref a from rx)
  obtain⟨_,_,_,p⟩:=(show ObjOk X.prog X.w H s.heap a (.tup xs) from I.hok a _ ea)
  obtain⟨o,h1,h2,_⟩:=p
  exact PySem.W.kia_one PySem.W.kitx_tuple I.kIn ⟨o,h1,h2⟩ e (fun z=>nomatch z) h
 | @dK a kvs ea =>
  cases (show u=Value.ref a from rx)
  obtain⟨_,_,vs,_,p⟩:=(show ObjOk X.prog X.w H s.heap a (.dK kvs) from I.hok a _ ea)
  obtain⟨o,es,ep,h1,h2,_⟩:=p
  exact PySem.W.kia_one PySem.W.kitx_dict I.kIn ⟨o,h1,h2.1⟩ e (fun z=>nomatch z) h
 | @dT a kvs ea =>
  cases (show u=Value.ref a from rx)
  obtain⟨_,_,xs,_,o,es,ep,h1,h2,_⟩:=(show ObjOk X.prog X.w H s.heap a (.dT kvs) from I.hok a _ ea)
  exact PySem.W.kia_one PySem.W.kitx_dict I.kIn ⟨o,h1,h2.1⟩ e (fun z=>nomatch z) h
 | @ins a C dx fs ea cl ha hn htk hm =>
  cases (show u=Value.ref a from rx)
  obtain⟨mA,O,_⟩:=ins_get I.hok ea
  obtain⟨od,J,_⟩:=O.look
  exact PySem.W.kia_one (PySem.W.kitx_own (cl.get _) cl.hd ha hn htk hm) I.kIn J e (fun z=>nomatch z) h
end
structure Room (k:Nat) (A:Around):Prop where
 hd:A.handled=none
 dp:A.depth + 3 * k + 5 < recursionLimit
 un:A.units + 16 * k + 200 < cLine
 gd:A.guards=some []
theorem Room.mono {j k:Nat} {A:Around} (r:Room k A) (h:j<=k):Room j A:=⟨r.hd,by have:=r.dp;omega,by have:=r.un;omega,r.gd⟩
theorem Room.deeper {k:Nat} {A:Around} (r:Room (k + 1) A) (env:Env):Room k (A.deeper env) :=
 ⟨r.hd,by have:=r.dp;show A.depth + 1 + 3 * k + 5 < _;omega,by have:=r.un;show A.units + 3 + 16 * k + 200 < _;omega,r.gd⟩
theorem Room.in1 {k:Nat} {A:Around} (r:Room (k + 1) A):Room k A.in1 :=
 ⟨r.hd,by have:=r.dp;show A.depth + 3 * k + 5 < _;omega,by have:=r.un;show A.units + 1 + 16 * k + 200 < _;omega,r.gd⟩
theorem make_depth {A:Around} {C:Addr} {us:List Value} {kw:List (Str × Value)} : (A.under (.builtin "type.__call__" ⟨.ref C::us,kw⟩)).depth=A.depth + 1:=by
 first|rfl|simp [Around.under,Code.weight,Code.isCreation,Code.isGuard,Code.isCaller,Code.frames,Code.isFrame,guardIds]
theorem make_units {A:Around} {C:Addr} {us:List Value} {kw:List (Str × Value)} : (A.under (.builtin "type.__call__" ⟨.ref C::us,kw⟩)).units=A.units + 1:=by
 first|rfl|simp [Around.under,Code.cUnits,Code.frames,Code.isFrame]
theorem make_guards {A:Around} {C:Addr} {us:List Value} {kw:List (Str × Value)} : (A.under (.builtin "type.__call__" ⟨.ref C::us,kw⟩)).guards=A.guards:=by
 have hg:guardIds.contains "type.__call__" = false:=by decide +kernel
 have e:Code.guards (.builtin "type.__call__" ⟨.ref C::us,kw⟩)=[]:=by
  unfold Code.guards
  rw [if_neg (fun z=>by rw [show Code.isGuard (.builtin "type.__call__" ⟨.ref C::us,kw⟩)=guardIds.contains "type.__call__" from rfl,hg] at z;cases z)]
 unfold Around.under
 rw [e]
 rfl
theorem Room.make {k:Nat} {A:Around} (r:Room (k + 1) A) (C:Addr) (us:List Value) (kw:List (Str × Value)):Room k (A.under (.builtin "type.__call__" ⟨.ref C::us,kw⟩)) :=
 ⟨r.hd,by have:=r.dp;rw [make_depth];omega,by have:=r.un;rw [make_units];omega,make_guards.trans r.gd⟩
theorem Room.depth {k:Nat} {A:Around} (r:Room k A):A.depth < recursionLimit:=by have:=r.dp;omega
theorem Room.units {k:Nat} {A:Around} (r:Room k A):A.units + 64 < cLine:=by have:=r.un;omega
def tNil:TA:=fun _ H Q=>Q [] H
def tCons (ta:TE) (tr:TA):TA:=fun σ H Q=>ta σ H fun x H1=>tr σ H1 fun xs H2=>Q (x::xs) H2
section
variable {X:Cx} {e:Expr} {es:List Expr} {te:TE} {t:TA} {pos:Pos}
theorem pa_nil:PA X [] tNil:=fun _ _ _ _ H Q I h=>Calls.spliced_nil ⟨[],H,I,.nil,h⟩
theorem pa_cons (ha:PE X e te) (hr:PA X es t) (hs:starEach (e::es) X.env=(false,eval e X.env)::starEach es X.env:=by rfl):PA X (e::es) (tCons te t):=by
 intro pos pins s σ H Q I h
 rw [hs]
 show wpAny _ _ (spliced ((false,eval e X.env)::backTo pos (starEach es X.env))) _ _ s
 refine Calls.spliced_cons (thn (ha pins s σ H _ I h) fun u s1 ⟨x,H1,I1,r1,q1⟩=>?_)
 exact thn (hr pos pins s1 σ H1 _ I1 q1) fun us s2 ⟨xs,H2,I2,r2,q2⟩=>⟨x::xs,H2,I2,.cons r1 r2,q2⟩
def tTup (t:TA):TE:=fun σ H Q=>t σ H fun xs H1=>xs.length<=sizeLine/\∀ p,H1 p=none->Q (.ref p) (upd H1 p (.tup xs))
def tLst (t:TA):TE:=fun σ H Q=>t σ H fun xs H1=>xs.length<=sizeLine/\∀ p,H1 p=none->Q (.ref p) (upd H1 p (.lst xs))
theorem pe_tup {x1} (h:PA X es t):PE X (.Tuple es x1 pos) (tTup t):=by
 intro pins s σ H Q I hq
 refine wpAny_Tuple_spliced (thn (h pos pins s σ H _ I hq) fun us s1 ⟨xs,H1,I1,r,z,q⟩=>⟨by rw [← r.length];exact z,?_⟩)
 have hf:H1 s1.heap.objs.size=none:=I1.hok.fresh (Nat.le_refl _)
 refine⟨.ref s1.heap.objs.size,upd H1 s1.heap.objs.size (.tup xs),I1.laid (t':=s1.toks) (fun b u e=>Heap.get?_push_of_some _ e) (Nat.le_refl _) ?_,rfl,q _ hf⟩
 exact⟨z,us,r,⟨_,Heap.get?_push_size _ rfl,rfl,_,rfl⟩⟩
theorem pe_lst (h:PA X es t):PE X (.List es pos) (tLst t):=by
 intro pins s σ H Q I hq
 refine wpAny_List_spliced (thn (h pos pins s σ H _ I hq) fun us s1 ⟨xs,H1,I1,r,z,q⟩=>⟨by rw [← r.length];exact z,?_⟩)
 have hf:H1 s1.heap.objs.size=none:=I1.hok.fresh (Nat.le_refl _)
 refine⟨.ref s1.heap.objs.size,upd H1 s1.heap.objs.size (.lst xs),I1.laid (t':=s1.toks) (fun b u e=>Heap.get?_push_of_some _ e) (Nat.le_refl _) ?_,rfl,q _ hf⟩
 exact⟨z,us,0,r,Heap.get?_push_size _ rfl⟩
end
abbrev Sp:=List V->Hp->VK->XK->Prop
abbrev CXT:=List Env->Hp->Shared->XK->Value->Shared->Prop
structure Env0 (P:Program) (w:World) (K:Frag) (mg:Str->Option Value) (base:Heap) (A:Around) (outer:List Env) (s:Shared) (H:Hp):Prop where
 frames:A.frames=some outer
 mod:Mod K mg base
 bs:∀ b o,base.get? b=some o->s.heap.get? b=some o/\H b=none
 bsz:base.objs.size<=s.heap.objs.size
 funs:s.heap.FunFrames base outer
 frf:∀ b ∈ frs outer,H b=none
 hok:HOk P w H s.heap
 bare:AllBare s.gens
def CE (outer:List Env) (P:Program) (w:World) (H:Hp) (s:Shared) (Q:VK) (u:Value) (s':Shared):Prop :=
 ∃ v H',s'.os=s.os/\AllBare s'.gens/\Un (frs outer) [] H H' s.heap s'.heap/\HOk P w H' s'.heap/\RelV v u/\Q v H'
def CR (CX:CXT) (outer:List Env) (P:Program) (w:World) (H:Hp) (s:Shared) (Q:VK) (E:XK) (r:Result) (s':Shared):Prop :=
 match r with
 | .ok (.ret u)=>CE outer P w H s Q u s'
 | .ok _=>False
 | .error e=>CX outer H s E e s'
structure FnOk (P:Program) (w:World) (K:Frag) (mg:Str->Option Value) (base:Heap) (CX:CXT) (k:Nat) (f:Addr) (fd:FuncData) (ps:List Str) (sp:Sp):Prop where
 len:∀ vs H Q E,sp vs H Q E->vs.length=ps.length
 run:∀ (A:Around) (outer:List Env) (s:Shared) (H:Hp) (args:Args) (us:List Value) (vs:List V) (Q:VK) (E:XK),Room k A->Env0 P w K mg base A outer s H->BindsTo s fd args (ps.zip us)->Vals vs us->sp vs H Q E →
  codeAny (model P w) A (.call (.ref f) args) (CR CX outer P w H s Q E) s
theorem FnOk.mono {P:Program} {w:World} {K:Frag} {mg:Str->Option Value} {base:Heap} {CX:CXT} {j k:Nat} {f:Addr} {fd:FuncData} {ps:List Str} {sp:Sp} (F:FnOk P w K mg base CX j f fd ps sp) (h:j<=k) :
  FnOk P w K mg base CX k f fd ps sp:=⟨F.len,fun A outer s H args us vs Q E hr=>F.run A outer s H args us vs Q E (hr.mono h)⟩
theorem FnOk.imp {P:Program} {w:World} {K:Frag} {mg:Str->Option Value} {base:Heap} {CX:CXT} {k:Nat} {f:Addr} {fd:FuncData} {ps:List Str} {sp sp':Sp} (F:FnOk P w K mg base CX k f fd ps sp)
  (h:∀ vs H Q E,sp' vs H Q E->sp vs H Q E):FnOk P w K mg base CX k f fd ps sp' :=
 ⟨fun vs H Q E q=>F.len vs H Q E (h _ _ _ _ q),fun A outer s H args us vs Q E hr he hb hv hs=>F.run A outer s H args us vs Q E hr he hb hv (h _ _ _ _ hs)⟩
theorem Env0.make {P:Program} {w:World} {K:Frag} {mg:Str->Option Value} {base:Heap} {A:Around} {outer:List Env} {s:Shared} {H:Hp} (e:Env0 P w K mg base A outer s H) (C:Addr) (us:List Value) (kw:List (Str × Value)) :
  Env0 P w K mg base (A.under (.builtin "type.__call__" ⟨.ref C::us,kw⟩)) outer s H:=⟨by first|exact e.frames|(simpa [Around.under,Code.envs,Code.isFrame,pushEnvs] using e.frames),e.mod,e.bs,e.bsz,e.funs,e.frf,e.hok,e.bare⟩
theorem Env0.in1 {P:Program} {w:World} {K:Frag} {mg:Str->Option Value} {base:Heap} {A:Around} {outer:List Env} {s:Shared} {H:Hp} (e:Env0 P w K mg base A outer s H) :
  Env0 P w K mg base A.in1 outer s H:=⟨e.frames,e.mod,e.bs,e.bsz,e.funs,e.frf,e.hok,e.bare⟩
section
variable {X:Cx} {pins:List (Addr × Obj)} {σ:St} {H:Hp} {s s':Shared}
theorem Inv.env0 (I:Inv X pins σ H s):Env0 X.prog X.w X.K X.mg X.base X.A X.stack s H :=
 ⟨I.ok.frames,I.ok.mod,I.bs,Nat.le_trans I.ok.bsz I.sz,I.stack,I.stkFree,I.hok,I.bare⟩
theorem Inv.after {Q:VK} {u:Value} (I:Inv X pins σ H s) (h:CE X.stack X.prog X.w H s Q u s'):EP X pins σ Q u s':=by
 obtain⟨v,H',os,bare,un,hok,r,q⟩:=h
 obtain⟨hh,g,d,t,os'⟩:=s'
 obtain rfl:os'=s.os:=os
 exact⟨v,H',I.call (h':=hh) (g':=g) (d':=d) (t':=t) (ch:=[]) un hok bare (fun b z=>absurd z (by simp)),r,q⟩
end
def tCall (sp:Sp) (dvs:List V) (E:XK) (t:TA):TE:=fun σ H Q=>t σ H fun vs H1=>sp (vs++dvs) H1 Q E
def tMeth (C:Addr) (m:Str) (sp:Sp) (dvs:List V) (E:XK) (ta:TE) (t:TA):TE:=fun σ H Q=>ta σ H fun x H1=>∃ a dx fs,x=.ref a/\H1 a=some (.ins C dx fs)/\fs.lookup m=none ∧
 t σ H1 fun vs H2=>sp (x::(vs++dvs)) H2 Q E
def tMake (C:Addr) (sp:Sp) (dvs:List V) (E:XK) (t:TA):TE:=fun σ H Q=>t σ H fun vs H1=>∀ x dx,H1 x=none->H1 dx=none->dx ≠ x →
 sp (.ref x::(vs++dvs)) (upd (upd H1 dx (.own x)) x (.ins C dx [])) (fun v H2=>v=.non/\Q (.ref x) H2) E
def Binds (K:Frag) (fd:FuncData) (ps:List Str) (ds:List Value):Prop :=
 ∀ (s:Shared) (us:List Value),K.In s.heap->(us++ds).length=ps.length->BindsTo s fd ⟨us,[]⟩ (ps.zip (us++ds))
theorem Binds.all {K:Frag} {fd:FuncData} {ps:List Str} (h:∀ us:List Value,us.length=ps.length->bindArgs fd ⟨us,[]⟩=pure (ps.zip us)):Binds K fd ps []:=fun s us _ hl=>by
 rw [List.append_nil] at hl ⊢
 exact .of_eq (h us hl)
def Passes (CX:CXT) (X:Cx) (E:XK):Prop:=∀ (pins:List (Addr × Obj)) (σ:St) (H:Hp) (s:Shared) (e:Value) (s':Shared),Inv X pins σ H s->CX X.stack H s E e s'->X.xe e s'
section
variable {X:Cx} {CX:CXT} {k:Nat} {f C:Addr} {fd:FuncData} {ps:List Str} {sp:Sp} {dvs:List V} {ds:List Value} {E:XK} {x m:Str} {p pos apos:Pos} {e o:Expr} {es:List Expr} {ta:TE} {t:TA}
theorem run_fn {pins:List (Addr × Obj)} {σ:St} {H:Hp} {s:Shared} {Q:VK} {us:List Value} {vs:List V} (F:FnOk X.prog X.w X.K X.mg X.base CX k f fd ps sp) (hr:Room k X.A) (hb:Binds X.K fd ps ds) (hd:Vals dvs ds) (hx:Passes CX X E)
  (I:Inv X pins σ H s) (r:Vals vs us) (h:sp (vs++dvs) H Q E):wpAny (model X.prog X.w) X.A (call (.ref f) us) (EP X pins σ Q) X.xe s:=by
 have r2:Vals (vs++dvs) (us++ds):=r.append hd
 have hl:(us++ds).length=ps.length:=by rw [← r2.length];exact F.len _ _ _ _ h
 refine wpAny_call (codeAny_mono (F.run X.A X.stack s H ⟨us,[]⟩ (us++ds) (vs++dvs) Q E hr I.env0 (hb s us I.kIn hl) r2 h) fun r s' hq=>?_)
 cases r with
 | error e=>exact hx pins σ H s e s' I hq
 | ok fl =>
  cases fl with
  | ret u=>exact I.after hq
  | next=>exact False.elim hq
  | brk=>exact False.elim hq
  | cont=>exact False.elim hq
theorem pe_call (F:FnOk X.prog X.w X.K X.mg X.base CX k f fd ps sp) (hr:Room k X.A) (hg:Gl X x) (hm:X.mg x=some (.ref f)) (hk:keepIn X.K (.ref f)=true) (hb:Binds X.K fd ps ds) (hd:Vals dvs ds) (hx:Passes CX X E)
  (ha:PA X (e::es) t) (hdb:(x == ("__debug__" : Str))=false:=by decide) (he:starEach (e::es) X.env=(false,eval e X.env)::starEach es X.env:=by rfl) (hpl:(backTo pos (starEach es X.env)).any (·.1)=false:=by rfl) :
  PE X (.Call (.Name x p) (e::es) [] pos) (tCall sp dvs E t):=by
 intro pins s σ H Q I h
 refine wpAny_Call_Name_kw (ld_glob I hg hm ?_ hdb)
 refine PySem.W.callWith_K (h₀:=X.base) I.ok.mod.kin hk (thn (ha pos pins s σ H _ I h) fun us s1 ⟨vs,H1,I1,r,q⟩=>⟨I1.kIn,?_⟩) he hpl
 exact run_fn F hr hb hd hx I1 r q
theorem pe_meth {pl:Sem Bool} (he:PE X o ta) (c:Cls X.K C) (hm:Meth X.K C m f) (F:FnOk X.prog X.w X.K X.mg X.base CX k f fd ps sp) (hr:Room k X.A) (hb:Binds X.K fd ps ds) (hd:Vals dvs ds) (hx:Passes CX X E) (ha:PA X (e::es) t)
  (hst:starEach (e::es) X.env=(false,eval e X.env)::starEach es X.env:=by rfl) (hpl:(backTo pos (starEach es X.env)).any (·.1)=false:=by rfl)
  (ht:eval (.Call (.Attribute o m apos) (e::es) [] pos) X.env=(do
   let ov ← eval o X.env
   standAt apos.atName
   let (f,first) ← holding [ov] (getMethod ov m pl)
   callWith pos f first (backTo pos (starEach (e::es) X.env)) (backToKw pos (keywordEach [] X.env))):=by rfl) :
  PE X (.Call (.Attribute o m apos) (e::es) [] pos) (tMeth C m sp dvs E ta t):=by
 intro pins s σ H Q I h
 refine PySem.W.methodCall_KW (pl:=pl) (thn (he pins s σ H _ I h) fun u s1 ⟨x,H1,I1,rx,a,dx,fs,ex,ea,l,q⟩=>?_) ht
 subst ex
 obtain rfl:u=Value.ref a:=rx
 refine getmeth_ok I1 ea c hm l ?_
 refine PySem.W.callWith_K (first:=[.ref a]) (h₀:=X.base) I.ok.mod.kin hm.kp (thn (ha pos pins s1 σ H1 _ I1 q) fun us s2 ⟨vs,H2,I2,r,q2⟩=>⟨I2.kIn,?_⟩) hst hpl
 exact run_fn (us:=.ref a::us) (vs:=.ref a::vs) F hr hb hd hx I2 (.cons rfl r) q2
theorem pe_meth0 {pl:Sem Bool} (he:PE X o ta) (c:Cls X.K C) (hm:Meth X.K C m f) (F:FnOk X.prog X.w X.K X.mg X.base CX k f fd ps sp) (hr:Room k X.A) (hb:Binds X.K fd ps ds) (hd:Vals dvs ds) (hx:Passes CX X E)
  (ht:eval (.Call (.Attribute o m apos) [] [] pos) X.env=(do
   let ov ← eval o X.env
   standAt apos.atName
   let (f,first) ← holding [ov] (getMethod ov m pl)
   callWith pos f first (backTo pos (starEach [] X.env)) (backToKw pos (keywordEach [] X.env))):=by rfl) :
  PE X (.Call (.Attribute o m apos) [] [] pos) (tMeth C m sp dvs E ta tNil):=by
 intro pins s σ H Q I h
 refine PySem.W.methodCall_KW (pl:=pl) (thn (he pins s σ H _ I h) fun u s1 ⟨x,H1,I1,rx,a,dx,fs,ex,ea,l,q⟩=>?_) ht
 subst ex
 obtain rfl:u=Value.ref a:=rx
 refine getmeth_ok I1 ea c hm l ?_
 exact PySem.W.callWith_K0 (first:=[.ref a]) I1.kIn hm.kp (run_fn (us:=[.ref a]) (vs:=[.ref a]) F hr hb hd hx I1 (.cons rfl .nil) q)
structure Mk (K:Frag) (C f:Addr):Prop where
 makes:PySem.W.makesIn K C=true
 init:findIn K (.ref C) "__init__" = some (some (.ref f))
 fn:isFn K (.ref f)=true
 kp:keepIn K (.ref C)=true
theorem run_make {pins:List (Addr × Obj)} {σ:St} {H:Hp} {s:Shared} {Q:VK} {us:List Value} {vs:List V} (M:Mk X.K C f) (F:FnOk X.prog X.w X.K X.mg X.base CX k f fd ps sp) (hr:Room (k + 1) X.A) (hb:Binds X.K fd ps ds) (hd:Vals dvs ds)
  (hx:Passes CX X E) (I:Inv X pins σ H s) (r:Vals vs us)
  (h:∀ x dx,H x=none->H dx=none->dx ≠ x->sp (.ref x::(vs++dvs)) (upd (upd H dx (.own x)) x (.ins C dx [])) (fun v H2=>v=.non/\Q (.ref x) H2) E) :
  wpAny (model X.prog X.w) X.A (call (.ref C) us) (EP X pins σ Q) X.xe s:=by
 have hq:=h (s.heap.objs.size + 1) s.heap.objs.size (I.hok.fresh (Nat.le_succ _)) (I.hok.fresh (Nat.le_refl _)) (Nat.ne_of_lt (Nat.lt_succ_self _))
 have I2:=Inv.made (C:=C) I
 have r2:Vals (V.ref (s.heap.objs.size + 1)::(vs++dvs)) (Value.ref (s.heap.objs.size + 1)::(us++ds)):=.cons rfl (r.append hd)
 have hl:(Value.ref (s.heap.objs.size + 1)::us++ds).length=ps.length:=by
  have e:=r2.length
  rw [F.len _ _ _ _ hq] at e
  exact e.symm
 refine wpAny_call (make_map (f:=f) I.kIn M.makes M.init (beq_iff_eq.mp M.fn) (codeAny_mono (F.run _ X.stack _ _ ⟨Value.ref (s.heap.objs.size + 1)::us,[]⟩ (Value.ref (s.heap.objs.size + 1)::(us++ds)) _ _ E (hr.make C us [])
  (I2.env0.make C us []) (hb _ (Value.ref (s.heap.objs.size + 1)::us) I2.kIn hl) r2 hq) fun r s' hq'=>?_))
 cases r with
 | error e=>exact hx pins σ _ _ e s' I2 hq'
 | ok fl =>
  cases fl with
  | ret u =>
   obtain⟨v,H',I3,rv,ev,q3⟩:=I2.after hq'
   subst ev
   exact⟨rv,⟨V.ref (s.heap.objs.size + 1),H',I3,rfl,q3⟩⟩
  | next=>exact False.elim hq'
  | brk=>exact False.elim hq'
  | cont=>exact False.elim hq'
theorem pe_make (M:Mk X.K C f) (F:FnOk X.prog X.w X.K X.mg X.base CX k f fd ps sp) (hr:Room (k + 1) X.A) (hg:Gl X x) (hm:X.mg x=some (.ref C)) (hb:Binds X.K fd ps ds) (hd:Vals dvs ds) (hx:Passes CX X E)
  (ha:PA X (e::es) t) (hdb:(x == ("__debug__" : Str))=false:=by decide) (he:starEach (e::es) X.env=(false,eval e X.env)::starEach es X.env:=by rfl) (hpl:(backTo pos (starEach es X.env)).any (·.1)=false:=by rfl) :
  PE X (.Call (.Name x p) (e::es) [] pos) (tMake C sp dvs E t):=by
 intro pins s σ H Q I h
 refine wpAny_Call_Name_kw (ld_glob I hg hm ?_ hdb)
 refine PySem.W.callWith_K (h₀:=X.base) I.ok.mod.kin M.kp (thn (ha pos pins s σ H _ I h) fun us s1 ⟨vs,H1,I1,r,q⟩=>⟨I1.kIn,?_⟩) he hpl
 exact run_make M F hr hb hd hx I1 r q
end
structure FnScope (N P:List Str) (sc:Scope):Prop where
 kind:sc.kind=.function
 co:sc.isCoroutine=false
 gen:sc.isGenerator=false
 nd:N.Nodup
 pre:N.take P.length=P
 par:∀ x ∈ P,sc.names.lookup x=some .local\/sc.names.lookup x=some .cell
 nofree:∀ y ∈ sc.names,y.2 ≠ .free
theorem bindL_out {kindOf:Str->Option NameKind} {x:Str} : ∀ {binds:List (Str × Value)} {m:Str->Option Value},(∀ v,(x,v) ∉ binds)->bindL kindOf binds m x=m x
 | [],_,_=>rfl
 | (n,v)::r,m,h=>by
  unfold bindL
  rw [bindL_out fun w hw=>h w (List.mem_cons_of_mem _ hw)]
  split
  ·have:x ≠ n:=by rintro rfl;exact h v List.mem_cons_self
   simp [this]
  ·rfl
theorem bindC_out {kindOf:Str->Option NameKind} {x:Str} : ∀ {binds:List (Str × Value)} {m:Str->Option Value},(∀ v,(x,v) ∉ binds)->bindC kindOf binds m x=m x
 | [],_,_=>rfl
 | (n,v)::r,m,h=>by
  unfold bindC
  rw [bindC_out fun w hw=>h w (List.mem_cons_of_mem _ hw)]
  split
  ·rfl
  ·have:x ≠ n:=by rintro rfl;exact h v List.mem_cons_self
   simp [this]
theorem bindL_get {kindOf:Str->Option NameKind} {x:Str} {v:Value} : ∀ {P:List Str} {vs:List Value} {i:Nat} {m:Str->Option Value},P.Nodup->P[i]?=some x->vs[i]?=some v->kindOf x=some .local →
  bindL kindOf (P.zip vs) m x=some v
 | [],_,_,_,_,h,_,_=>by simp at h
 | _::_,[],_,_,_,_,h,_=>by simp at h
 | p::P,w::vs,0,m,nd,h1,h2,hk=>by
  simp at h1 h2;subst h1;subst h2
  show bindL kindOf ((p,w)::P.zip vs) m p=_
  unfold bindL
  rw [bindL_out fun v hv=>(List.nodup_cons.mp nd).1 (List.of_mem_zip hv).1,if_pos hk]
  simp
 | p::P,w::vs,i + 1,m,nd,h1,h2,hk=>by
  show bindL kindOf ((p,w)::P.zip vs) m x=_
  unfold bindL
  exact bindL_get (i:=i) (List.nodup_cons.mp nd).2 (by simpa using h1) (by simpa using h2) hk
theorem bindC_get {kindOf:Str->Option NameKind} {x:Str} {v:Value} : ∀ {P:List Str} {vs:List Value} {i:Nat} {m:Str->Option Value},P.Nodup->P[i]?=some x->vs[i]?=some v->kindOf x ≠ some .local →
  bindC kindOf (P.zip vs) m x=some v
 | [],_,_,_,_,h,_,_=>by simp at h
 | _::_,[],_,_,_,_,h,_=>by simp at h
 | p::P,w::vs,0,m,nd,h1,h2,hk=>by
  simp at h1 h2;subst h1;subst h2
  show bindC kindOf ((p,w)::P.zip vs) m p=_
  unfold bindC
  rw [bindC_out fun v hv=>(List.nodup_cons.mp nd).1 (List.of_mem_zip hv).1,if_neg hk]
  simp
 | p::P,w::vs,i + 1,m,nd,h1,h2,hk=>by
  show bindC kindOf ((p,w)::P.zip vs) m x=_
  unfold bindC
  exact bindC_get (i:=i) (List.nodup_cons.mp nd).2 (by simpa using h1) (by simpa using h2) hk
def start (N:List Str) (vs:List V):St:=vs.map some++List.replicate (N.length - vs.length) none
def cxOf (CX:CXT) (P:Program) (w:World) (K:Frag) (mg:Str->Option Value) (base:Heap) (N:List Str) (qual:Str) (scope:Scope) (f:Addr) (cd:Value) (A:Around) (outer:List Env) (s:Shared) (H:Hp) (E:XK):Cx where
 prog:=P
 w:=w
 K:=K
 mg:=mg
 base:=base
 A:=A.deeper (envOfC qual scope s.heap.objs.size f cd)
 N:=N
 s₀:=s
 H₀:=H
 env:=envOfC qual scope s.heap.objs.size f cd
 outer:=outer
 stack:=envOfC qual scope s.heap.objs.size f cd::outer
 ex:=[]
 calm:=true
 fn:=fun _=>true
 pn:=[]
 xe:=fun e s'=>wpAny (model P w) (A.deeper (envOfC qual scope s.heap.objs.size f cd)) (leaving (envOfC qual scope s.heap.objs.size f cd) e) (fun _ s''=>CX outer H s E e s'') (fun e' s''=>CX outer H s E e' s'') s'
theorem cell_has {sc:Scope} {n:Nat} {x:Str} (h:sc.names.lookup x=some .cell):∃ c,(cellsFrom n sc.names []).lookup x=some c:=by
 have q:=PySem.W.cellsFrom_some sc.names n [] (.inl h)
 exact Option.isSome_iff_exists.mp q
theorem inv_start {CX:CXT} {P:Program} {w:World} {K:Frag} {mg:Str->Option Value} {base:Heap} {N ps:List Str} {qual:Str} {scope:Scope} {f:Addr} {cd:Value} {A:Around} {outer:List Env} {s s1:Shared} {H:Hp} {E:XK} {us:List Value} {vs:List V}
  (S:FnScope N ps scope) (hd:A.handled=none) (e0:Env0 P w K mg base A outer s H) (hl:vs.length=ps.length) (r:Vals vs us)
  (x:InCallC s s.heap.objs.size (bindL (envOfC qual scope s.heap.objs.size f cd).kindOf (ps.zip us) fun _=>none) (cellsFrom (s.heap.objs.size + 1) scope.names []) (bindC (envOfC qual scope s.heap.objs.size f cd).kindOf (ps.zip us) fun _=>none) s1) :
  Inv (cxOf CX P w K mg base N qual scope f cd A outer s H E) [] (start N vs) H s1:=by
 have hpl:ps.length<=N.length:=by have:=congrArg List.length S.pre;rw [List.length_take] at this;omega
 obtain⟨h1,tk,rfl,hk⟩:=x.done
 have noA:∀ b:Addr,b ∉ (cxOf CX P w K mg base N qual scope f cd A outer s H E).ex:=fun b z=>absurd (show b ∈ ([]:List Addr) from z) (by simp)
 refine⟨⟨e0.mod,S.kind,rfl,rfl,Nat.le_refl _,fun y z c h1 h2=>?_,fun y hy=>?_,fun y c _ h=>?_,fun _=>hd,Around.frames_deeper e0.frames,.inr ⟨rfl,rfl⟩,fun b z=>absurd z (noA b),e0.bs,e0.bsz,fun b _ _=>noA b,fun b z=>absurd z (noA b),e0.funs,e0.frf⟩,
  rfl,e0.bare,Un.kept hk,⟨_,x.toInCall.ns,fun i y v h1 h2 h3=>?_⟩,fun y c h=>⟨_,x.cell y c h⟩,e0.hok.fresh (Nat.le_refl _),fun y c h=>?_,fun p hp=>absurd (show p ∈ ([]:List (Addr × Obj)) from hp) (by simp),e0.hok.kept hk,?_⟩
 ·exact name_of_addr x.apart (PySem.mem_of_lookup h1) (PySem.mem_of_lookup h2)
 ·have hy:scope.names.lookup y=some .cell\/scope.names.lookup y=some .free:=hy
  rcases hy with hy|hy
  ·exact cell_has hy
  ·exact absurd rfl (S.nofree _ (PySem.mem_of_lookup hy))
 ·exact Nat.le_of_lt (x.above y c (PySem.mem_of_lookup h))
 ·have hi:i < vs.length:=by
   unfold start at h2
   by_cases hi:i < vs.length
   ·exact hi
   ·rw [List.getElem?_append_right (by simpa using hi)] at h2
    rw [List.getElem?_replicate] at h2
    split at h2 <;> cases h2
  have ha:vs[i]?=some v:=by
   unfold start at h2
   rw [List.getElem?_append_left (by simpa using hi),List.getElem?_map] at h2
   cases e:vs[i]? with
   | none=>rw [e] at h2;cases h2
   | some a=>rw [e] at h2;cases h2;rfl
  obtain⟨u,hu,rv⟩:=r.get ha
  have hp:ps[i]?=some y:=by
   rw [← S.pre,List.getElem?_take_of_lt (by omega)];exact h1
  have ndP:ps.Nodup:=by rw [← S.pre];exact S.nd.sublist (List.take_sublist _ _)
  refine⟨u,rv,?_⟩
  rcases S.par y (List.mem_of_getElem? hp) with k|k
  ·exact .inl ⟨k,bindL_get ndP hp hu k⟩
  ·obtain⟨c,e⟩:=cell_has (n:=s.heap.objs.size + 1) k
   refine .inr ⟨.inl k,c,e,?_⟩
   have q:=x.cell y c e
   rw [bindC_get ndP hp hu (by show scope.names.lookup y ≠ _;rw [k];decide)] at q
   exact q
 ·exact e0.hok.fresh (Nat.le_of_lt (x.above y c (PySem.mem_of_lookup h)))
 ·unfold start
  show _=N.length
  rw [List.length_append,List.length_map,List.length_replicate]
  omega
theorem fn_of {CX:CXT} {P:Program} {w:World} {K:Frag} {mg:Str->Option Value} {base:Heap} {k:Nat} {f:Addr} {name qual:Str} {params:Arguments} {body:List Stmt} {scope:Scope} {dV kV doc pm cdv ct oc:Value} {an od:Option Addr}
  {osl:Array (Option Value)} {N ps:List Str} {sp:Sp} (lk:K.lookup f=some ⟨oc,od,.func (fnOf name qual params body scope dV kV doc pm an cdv ct),osl⟩) (hcd:codeIn K cdv qual=true) (S:FnScope N ps scope)
  (len:∀ vs H Q E,sp vs H Q E->vs.length=ps.length)
  (hbody:∀ (A:Around) (outer:List Env) (s:Shared) (H:Hp) (vs:List V) (Q:VK) (E:XK),Room k (A.deeper (envOfC qual scope s.heap.objs.size f cdv))->sp vs H Q E →
   ∃ t,PSs (cxOf CX P w K mg base N qual scope f cdv A outer s H E) body t/\t { nx:=fun _ H'=>Q .non H',rt:=Q } (start N vs) H) :
  FnOk P w K mg base CX (k + 1) f (fnOf name qual params body scope dV kV doc pm an cdv ct) ps sp:=by
 refine⟨len,fun A outer s H args us vs Q E hr e0 hb r hsp=>?_⟩
 have hl:=len _ _ _ _ hsp
 have KX:K.In s.heap:=e0.mod.kin.keeps fun b o e=>(e0.bs b o e).1
 have lim:s.heap.NoLimit:=e0.mod.nolimit.keeps fun b o e=>(e0.bs b o e).1
 have hkind:∀ y ∈ ps.zip us,scope.names.lookup y.1=some .local\/(scope.names.lookup y.1=some .cell/\((cellsFrom (s.heap.objs.size + 1) scope.names []).lookup y.1).isSome=true):=fun ⟨n,v⟩ hy=>by
  rcases S.par n (List.of_mem_zip hy).1 with q|q
  ·exact .inl q
  ·exact .inr ⟨q,PySem.W.cellsFrom_some _ _ _ (.inl q)⟩
 refine codeAny_call_function hr.depth (KX _ _ lk) rfl S.co S.gen rfl (PySem.W.codeRec_of KX hcd) (hb _ _ _ _ ?_)
 refine wpAny_newFunctionEnv_cells S.kind hkind fun env he s1 x=>?_
 subst he
 refine⟨lim.keeps x.toInCall.keep,codeAny_func ?_⟩
 obtain⟨t,ht,hq⟩:=hbody A outer s H vs Q E (hr.deeper _) hsp
 have I:Inv (cxOf CX P w K mg base N qual scope f cdv A outer s H E) [] (start N vs) H s1:=inv_start S hr.hd e0 hl r x
 refine wpAny_mono (ht [] s1 (start N vs) H _ I hq) (fun fl s' hs=>?_) fun e s' hs=>hs
 have fin:∀ {σ':St} {H':Hp} {v:V} {u:Value},Inv (cxOf CX P w K mg base N qual scope f cdv A outer s H E) [] σ' H' s'->RelV v u->Q v H'->CE outer P w H s Q u s' :=
  fun {σ' H' v u} J rv q=>⟨v,H',J.os,J.bare,J.base,J.hok,rv,q⟩
 cases fl with
 | ret u =>
  obtain⟨v,σ',H',J,rv,q⟩:=hs
  exact fin J rv q
 | next =>
  obtain⟨σ',H',J,q⟩:=hs
  exact fin (v:=V.non) (u:=Value.none) J rfl q
 | brk =>
  obtain⟨_,_,_,q⟩:=hs
  exact False.elim q
 | cont =>
  obtain⟨_,_,_,q⟩:=hs
  exact False.elim q
section
variable {X:Cx} {x:Str} {p pos:Pos} {e:Expr} {es:List Expr} {t:TA} {id T:String} {r:List V->Hp->VK->Prop}
def tCB (r:List V->Hp->VK->Prop) (t:TA):TE:=fun σ H Q=>t σ H fun vs H1=>r vs H1 Q
theorem pe_callB (hc:CallR X (.builtin id) r) (hg:Gl X x) (hm:X.mg x=none) (hv:bootBuiltins x=some (.builtin id)) (ha:PA X (e::es) t) (hn:x ≠ "__name__":=by decide) (hdb:(x == ("__debug__" : Str))=false:=by decide)
  (he:starEach (e::es) X.env=(false,eval e X.env)::starEach es X.env:=by rfl) (hpl:(backTo pos (starEach es X.env)).any (·.1)=false:=by rfl):PE X (.Call (.Name x p) (e::es) [] pos) (tCB r t):=by
 intro pins s σ H Q I h
 refine wpAny_Call_Name_kw (ld_blt I hg hm hv ?_ hn hdb)
 exact PyProof.Rows.callWith_builtin1 (thn (ha pos pins s σ H _ I h) fun us s1 ⟨vs,H1,I1,r1,q1⟩=>hc pins s1 σ H1 vs us Q I1 r1 q1) he hpl
theorem pe_callTy (hc:CallR X (.type T) r) (hg:Gl X x) (hm:X.mg x=none) (hv:bootBuiltins x=some (.type T)) (ha:PA X (e::es) t) (hn:x ≠ "__name__":=by decide) (hdb:(x == ("__debug__" : Str))=false:=by decide)
  (he:starEach (e::es) X.env=(false,eval e X.env)::starEach es X.env:=by rfl) (hpl:(backTo pos (starEach es X.env)).any (·.1)=false:=by rfl):PE X (.Call (.Name x p) (e::es) [] pos) (tCB r t):=by
 intro pins s σ H Q I h
 refine wpAny_Call_Name_kw (ld_blt I hg hm hv ?_ hn hdb)
 exact PyProof.Rows.callWith_type1 (thn (ha pos pins s σ H _ I h) fun us s1 ⟨vs,H1,I1,r1,q1⟩=>hc pins s1 σ H1 vs us Q I1 r1 q1) he hpl
end
end L2
namespace HT
open PySem PyProof.Rows
section
open PySem.SeqAt
open PySem.AutoSeq1 (wpAny_loadPart')
open PySem.MeetsSeq PySem.MeetsSeq2 PySem.MeetsSeq3
end
section
variable {prog:Program} {w:World} {A:Around} {E:Value->Shared->Prop} {s:Shared}
theorem cat_tup {t b:Addr} {vs ws:List Value} {Q:Value->Shared->Prop} (ht:IsTup s.heap t vs.toArray) (hb:IsTup s.heap b ws.toArray) (hv:vs ≠ [])
  (h1:ws=[]->Q (.ref t) s) (h2:ws ≠ []->Q (.ref s.heap.objs.size) { s with heap:=s.heap.push { cls:=.type "tuple",data:=.seq (vs++ws).toArray } })
  (hsz:vs.length + ws.length<=sizeLine):wpAny (model prog w) A (binaryOp .Add (.ref t) (.ref b)) Q E s:=by
 obtain⟨⟨cls,dd,data,sl⟩,ho,hc,n,hd⟩:=id ht
 obtain⟨⟨cls2,dd2,data2,sl2⟩,ho2,hc2,n2,hd2⟩:=id hb
 simp only at hc hd hc2 hd2
 subst hc hd hc2 hd2
 have e:vs.toArray++ws.toArray=(vs++ws).toArray:=by simp
 by_cases hw:ws=[]
 ·exact concat_meets ⟨_,ho,rfl⟩ ⟨_,ho2,rfl⟩ noFill_tuple_add seq_tuple_add PySem.F.slot_tuple_add PySem.F.entry_tuple_add (PySem.F.args_tuple_add_2 _ _)
   (tuple_addW1 t b vs.toArray ws.toArray n n2 dd dd2 sl sl2 (by simpa using hv) (by simp [hw])) ⟨ho,ho2,h1 hw⟩
 ·refine concat_meets ⟨_,ho,rfl⟩ ⟨_,ho2,rfl⟩ noFill_tuple_add seq_tuple_add PySem.F.slot_tuple_add PySem.F.entry_tuple_add (PySem.F.args_tuple_add_2 _ _)
   (tuple_addW2 t b vs.toArray ws.toArray n n2 dd dd2 sl sl2 (by simpa using hv) (by simpa using hw) (by rw [List.size_toArray,List.size_toArray];exact hsz)) ⟨ho,ho2,?_⟩
  rw [e]
  exact h2 hw
def sIx (n d:Nat):Option Int->Nat
 | none=>d
 | some v=>if v < 0 then (v + (n:Int)).toNat else min v.toNat n
theorem sIx_none (n d:Nat):sIx n d none=d:=rfl
theorem sIx_nat (n d k:Nat):sIx n d (some (k:Int))=min k n:=by
 show (if (k:Int) < 0 then ((k:Int) + (n:Int)).toNat else min (k:Int).toNat n)=min k n
 rw [if_neg (by omega),Int.toNat_natCast]
end
end HT
namespace L2
open PySem PySem.Spec PyProof.Rows
abbrev TO:=St->Hp->(Option Int->Hp->Prop)->Prop
def PO (X:Cx) (e:Option Expr) (t:TO):Prop :=
 ∀ (pins:List (Addr × Obj)) (s:Shared) (σ:St) (H:Hp) (Q:Option Int->Hp->Prop),Inv X pins σ H s->t σ H Q →
  wpAny (model X.prog X.w) X.A (evalPart e X.env) (fun u s'=>∃ o H',Inv X pins σ H' s'/\IsPart u o/\Q o H') X.xe s
def tNoPart:TO:=fun _ H Q=>Q none H
def tPart (t:TE):TO:=fun σ H Q=>t σ H fun x H1=>∃ i,x=.int i/\Q (some i) H1
theorem intsAre_of {ns:List Int} : ∀ {us:List Value},Vals (ns.map V.int) us->IntsAre us ns:=by
 induction ns with
 | nil=>intro us r;rw [List.map_nil] at r;cases r;exact .nil
 | cons n ns ih =>
  intro us r
  rw [List.map_cons] at r
  cases r with
  | cons r1 r2 =>
   obtain⟨t,e⟩:=r1
   subst e
   exact .cons n t (ih r2)
section
variable {X:Cx} {e:Expr} {te:TE} {lo hi:Option Expr} {tl th:TO} {pos p2:Pos}
theorem po_none:PO X none tNoPart:=by
 intro pins s σ H Q I h
 rw [evalPart_none]
 exact wpAny_pure ⟨none,H,I,.none,h⟩
theorem po_some (h:PE X e te):PO X (some e) (tPart te):=by
 intro pins s σ H Q I hw
 rw [evalPart_some]
 refine thn (h pins s σ H _ I hw) fun u s1 ⟨x,H1,I1,r1,q1⟩=>?_
 obtain⟨i,rfl,q⟩:=q1
 obtain⟨t,rfl⟩:=r1
 exact⟨some i,H1,I1,.int i t,q⟩
def SlR (X:Cx) (r:V->Option Int->Option Int->Hp->VK->Prop):Prop :=
 ∀ (pins:List (Addr × Obj)) (s:Shared) (σ:St) (H:Hp) (x:V) (v vl vu:Value) (lo hi:Option Int) (sl:Addr) (Q:VK),Inv X pins σ H s->RelV x v->s.heap.IsSliceOf sl vl vu .none->IsPart vl lo->IsPart vu hi->r x lo hi H Q →
  ∃ T id,typeLookup (.type T) "__getitem__" = pure (some (.builtin id))/\s.TypeIs v T/\wpAny (model X.prog X.w) X.A (getItem v (.ref sl)) (EP X pins σ Q) X.xe s
theorem SlR.or {r r':V->Option Int->Option Int->Hp->VK->Prop} (h:SlR X r) (h':SlR X r'):SlR X (fun x lo hi H Q=>r x lo hi H Q\/r' x lo hi H Q):=by
 intro pins s σ H x v vl vu lo hi sl Q I rx hs pl pu q
 rcases q with q|q
 ·exact h pins s σ H x v vl vu lo hi sl Q I rx hs pl pu q
 ·exact h' pins s σ H x v vl vu lo hi sl Q I rx hs pl pu q
def tSl (r:V->Option Int->Option Int->Hp->VK->Prop) (te:TE) (tl th:TO):TE:=fun σ H Q=>te σ H fun x H1=>tl σ H1 fun l H2=>th σ H2 fun u H3=>r x l u H3 Q
theorem pe_slice {r:V->Option Int->Option Int->Hp->VK->Prop} (hr:SlR X r) (he:PE X e te) (hl:PO X lo tl) (hu:PO X hi th):PE X (.Subscript e (.Slice lo hi none p2) pos) (tSl r te tl th):=by
 intro pins s σ H Q I h
 refine Subscript_ (thn (he pins s σ H _ I h) fun v s1 ⟨x,H1,I1,r1,q1⟩=>?_)
 refine wpAny_Slice (thn (hl pins s1 σ H1 _ I1 q1) fun vl s2 ⟨l,H2,I2,pl,q2⟩=>thn (hu pins s2 σ H2 _ I2 q2) fun vu s3 ⟨u,H3,I3,pu,q3⟩=>?_)
 rw [evalPart_none]
 refine wpAny_pure ?_
 have I4:Inv X pins σ H3 { s3 with heap:=s3.heap.push { cls:=.type "slice",data:=.fields #[vl,vu,.none] } }:=I3.kept (t':=s3.toks) fun b ob q=>Heap.get?_push_of_some _ q
 obtain⟨T,id,hT,ht,hg⟩:=hr pins { s3 with heap:=s3.heap.push { cls:=.type "slice",data:=.fields #[vl,vu,.none] } } σ H3 x v vl vu l u s3.heap.objs.size Q I4 r1 (Heap.IsSliceOf.new ..) pl pu q3
 show wpAny (model X.prog X.w) X.A (subscriptTail e (.Slice lo hi none p2) v (.ref s3.heap.objs.size)) (EP X pins σ Q) X.xe { s3 with heap:=s3.heap.push { cls:=.type "slice",data:=.fields #[vl,vu,.none] } }
 exact tail_any (ops:=[.ref s3.heap.objs.size,v]) ht hT hg (by with_unfolding_all rfl)
def cutV (xs:List V) (lo hi:Option Int):List V:=(xs.drop (HT.sIx xs.length 0 lo)).take (HT.sIx xs.length xs.length hi - HT.sIx xs.length 0 lo)
theorem cutV_length (xs:List V) (lo hi:Option Int):(cutV xs lo hi).length<=xs.length:=by
 unfold cutV
 rw [List.length_take,List.length_drop]
 omega
def rCatT (K:Frag):R2:=fun x y H Q=>∃ a b xs ys,x=.ref a/\y=.ref b/\SqT K H a xs/\SqT K H b ys/\xs ≠ []/\xs.length + ys.length<=sizeLine ∧
 (ys=[]->Q (.ref a) H)/\(ys ≠ []->∀ p,H p=none->Q (.ref p) (upd H p (.tup (xs++ys))))
theorem Vals.nil_iff {xs:List V} {us:List Value} (r:Vals xs us):us=[] ↔ xs=[]:=by
 cases r with
 | nil=>simp
 | cons _ _=>simp
theorem op_catT:OpR X (binaryOp .Add) (rCatT X.K):=by
 intro pins s σ H x y v u Q I rx ry h
 obtain⟨a,b,xs,ys,rfl,rfl,ha,hb,hx,hz,q1,q2⟩:=h
 cases rx
 cases ry
 obtain⟨its,r1,p1,_⟩:=I.tuple ha
 obtain⟨its2,r2,p2,_⟩:=I.tuple hb
 refine HT.cat_tup p1 p2 (fun z=>hx (r1.nil_iff.mp z)) (fun z=>⟨.ref a,H,I,rfl,q1 (r2.nil_iff.mp z)⟩) (fun z=>?_) (by rw [← r1.length,← r2.length];exact hz)
 refine⟨.ref s.heap.objs.size,_,I.laid (t':=s.toks) (o:=.tup (xs++ys)) (fun b ob q=>Heap.get?_push_of_some _ q) (Nat.le_refl _) ?_,rfl,q2 (fun w=>z (r2.nil_iff.mpr w)) _ (I.hok.fresh (Nat.le_refl _))⟩
 exact⟨by rw [List.length_append];exact hz,_,r1.append r2,IsTup.new _ _⟩
end
def ixN (n:Nat) (i:Int):Option Nat:=if 0<=i then (if i < n then some i.toNat else none) else if -(n:Int)<=i then some (i + n).toNat else none
def atI {α : Type} (xs:List α) (i:Int):Option α:=(ixN xs.length i).bind fun j=>xs[j]?
theorem ixN_seq {n:Nat} {i:Int} {j:Nat} (h:ixN n i=some j):seqIndex? i n=some j/\j < n/\-(n:Int)<=i/\i < n:=by
 unfold ixN at h
 by_cases h0 : 0<=i
 ·rw [if_pos h0] at h
  by_cases h1:i < n
  ·rw [if_pos h1] at h
   have e:i.toNat=j:=Option.some.inj h
   exact⟨by rw [seqIndex_of h0 h1,e],by omega,by omega,h1⟩
  ·rw [if_neg h1] at h;cases h
 ·rw [if_neg h0] at h
  by_cases h1 : -(n:Int)<=i
  ·rw [if_pos h1] at h
   have e:(i + n).toNat=j:=Option.some.inj h
   exact⟨by rw [seqIndex_neg (by omega) h1,e],by omega,h1,by omega⟩
  ·rw [if_neg h1] at h;cases h
theorem atI_get {α : Type} {xs:List α} {i:Int} {v : α} (h:atI xs i=some v):∃ j,seqIndex? i xs.length=some j/\xs[j]?=some v/\j < xs.length/\-(xs.length:Int)<=i/\i < xs.length:=by
 unfold atI at h
 cases e:ixN xs.length i with
 | none=>rw [e] at h;cases h
 | some j =>
  rw [e] at h
  obtain⟨h1,h2,h3,h4⟩:=ixN_seq e
  exact⟨j,h1,h,h2,h3,h4⟩
theorem atI_nat {α : Type} {xs:List α} {j:Nat} {v : α} (h:xs[j]?=some v):atI xs (j:Int)=some v:=by
 have hj:j < xs.length:=(List.getElem?_eq_some_iff.mp h).1
 have e:ixN xs.length (j:Int)=some j:=by
  unfold ixN
  rw [if_pos (by omega),if_pos (by omega)];simp
 unfold atI;rw [e];exact h
def PlainIx (b:Expr):Prop:=∀ o i,subscripted b false o i=operate [o,i] (getItem o i)
def IxR (X:Cx) (r:R2):Prop :=
 ∀ (value slice:Expr) (pins:List (Addr × Obj)) (s:Shared) (σ:St) (H:Hp) (x y:V) (v u:Value) (Q:VK),Inv X pins σ H s->RelV x v->RelV y u->r x y H Q →
  subscripted slice false v u=operate [v,u] (getItem v u)->wpAny (model X.prog X.w) X.A (subscriptTail value slice v u) (EP X pins σ Q) X.xe s
def MtR (X:Cx) (id:String) (r:V->List V->Hp->VK->Prop):Prop :=
 ∀ (pins:List (Addr × Obj)) (s:Shared) (σ:St) (H:Hp) (x:V) (xs:List V) (v:Value) (us:List Value) (Q:VK),Inv X pins σ H s->RelV x v->Vals xs us->r x xs H Q →
  wpAny (model X.prog X.w) X.A (call (.builtin id) (v::us)) (EP X pins σ Q) X.xe s
section
variable {X:Cx} {a b:Expr} {ta tb:TE} {pos:Pos}
theorem IxR.or {r r':R2} (h:IxR X r) (h':IxR X r'):IxR X (fun x y H Q=>r x y H Q\/r' x y H Q):=by
 intro value slice pins s σ H x y v u Q I rx ry q hs
 rcases q with q|q
 ·exact h value slice pins s σ H x y v u Q I rx ry q hs
 ·exact h' value slice pins s σ H x y v u Q I rx ry q hs
theorem MtR.or {id:String} {r r':V->List V->Hp->VK->Prop} (h:MtR X id r) (h':MtR X id r'):MtR X id (fun x xs H Q=>r x xs H Q\/r' x xs H Q):=by
 intro pins s σ H x xs v us Q I rx rs q
 rcases q with q|q
 ·exact h pins s σ H x xs v us Q I rx rs q
 ·exact h' pins s σ H x xs v us Q I rx rs q
theorem pe_ix {r:R2} (hr:IxR X r) (ha:PE X a ta) (hb:PE X b tb) (hs:PlainIx b):PE X (.Subscript a b pos) (tOp r ta tb):=by
 intro pins s σ H Q I h
 exact Subscript_ (binT ha hb I h fun v u s2 x y H2 I2 rx ry q=>hr a b pins s2 σ H2 x y v u Q I2 rx ry q (hs _ _))
def rIxL (K:Frag):R2:=fun x y H Q=>∃ p xs i v,x=.ref p/\y=.int i/\SqL K H p xs/\atI xs i=some v/\Q v H
def rIxT (K:Frag):R2:=fun x y H Q=>∃ p xs i v,x=.ref p/\y=.int i/\SqT K H p xs/\atI xs i=some v/\Q v H
def rIxS:R2:=fun x y H Q=>∃ z i c,x=.str z/\y=.int i/\z.length<=sizeLine/\atI z.cps.toList i=some c/\Q (.str ⟨#[c]⟩) H
theorem ix_list:IxR X (rIxL X.K):=by
 intro value slice pins s σ H x y v u Q I rx ry h hs
 obtain⟨p,xs,i,z,rfl,rfl,hq,he,q⟩:=h
 cases rx
 obtain⟨t,rfl⟩:=ry
 obtain⟨its,r,pl,hz⟩:=I.list hq
 obtain⟨j,h1,h2,h3,h4,h5⟩:=atI_get he
 obtain⟨w,ew,rw'⟩:=r.get h2
 have hl:=r.length
 have hn:=line63
 have fin:EP X pins σ Q w s:=⟨z,H,I,rw',q⟩
 by_cases h0 : 0<=i
 ·have hj:i.toNat=j:=by
   rw [seqIndex_of h0 h5] at h1
   exact Option.some.inj h1
  exact item_listR pl.isList h0 (by omega) (by rw [hj];simpa using ew) fin hs
 ·have hj:(i + (its.toArray.size:Int)).toNat=j:=by
   rw [seqIndex_neg (by omega) h4] at h1
   rw [List.size_toArray,← hl]
   exact Option.some.inj h1
  exact subscriptTail_builtinR (x:=w) pl.isList.typeIs slot_list_getitem.lookup
   (wpAny_getItem_list_neg (Q:=fun r s'=>r=w/\EP X pins σ Q r s') pl.isList (by omega) (by rw [List.size_toArray] <;> omega) (by omega) (by rw [hj];simpa using ew) ⟨rfl,fin⟩) hs
theorem ix_tup:IxR X (rIxT X.K):=by
 intro value slice pins s σ H x y v u Q I rx ry h hs
 obtain⟨p,xs,i,z,rfl,rfl,hq,he,q⟩:=h
 cases rx
 obtain⟨t,rfl⟩:=ry
 obtain⟨its,r,pl,hz⟩:=I.tuple hq
 obtain⟨j,h1,h2,h3,h4,h5⟩:=atI_get he
 obtain⟨w,ew,rw'⟩:=r.get h2
 have hl:=r.length
 have hn:=line63
 have fin:EP X pins σ Q w s:=⟨z,H,I,rw',q⟩
 exact subscriptTail_builtinR (x:=w) pl.typeIs slot_tuple_getitem.lookup
  (getItem_tuple (j:=j) (Q:=fun r s'=>r=w/\EP X pins σ Q r s') pl (by omega) (by omega) (by rw [List.size_toArray,← hl];exact h1) (by simpa using ew) ⟨rfl,fin⟩) hs
theorem ix_str:IxR X rIxS:=by
 intro value slice pins s σ H x y v u Q I rx ry h hs
 obtain⟨z,i,c,rfl,rfl,hz,he,q⟩:=h
 obtain⟨t,rfl⟩:=rx
 obtain⟨t',rfl⟩:=ry
 obtain⟨j,h1,h2,h3,h4,h5⟩:=atI_get he
 have hl:z.cps.toList.length=z.length:=by simp [Str.length]
 rw [hl] at h1 h4 h5
 have hn:=line63
 exact tail_any (typeIs_str s z t) slot_str_getitem.lookup (getItem_str (c:=c) (by
  have e1:decide (i < -(2 ^ 63:Int))=false:=decide_eq_false (by omega)
  have e2:decide (i ≥ 2 ^ 63)=false:=decide_eq_false (by omega)
  rw [e1,e2,Bool.or_false]) (by rw [h1];simpa using h2) ⟨.str ⟨#[c]⟩,H,I.tok _,⟨_,rfl⟩,q⟩) hs
theorem mapSeq_set (its:List Value) (n j:Nat) (u:Value):Obj.mapSeq (·.setIfInBounds j u) { cls:=.type "list",data:=.seq its.toArray n }={ cls:=.type "list",data:=.seq (its.set j u).toArray n }:=by
 simp [Obj.mapSeq]
theorem Inv.lst {pins:List (Addr × Obj)} {σ:St} {H:Hp} {s:Shared} {p:Addr} {xs:List V} (I:Inv X pins σ H s) (h:H p=some (.lst xs)) :
  ∃ (its:List Value) (n:Nat),Vals xs its/\s.heap.get? p=some { cls:=.type "list",data:=.seq its.toArray n }/\xs.length<=sizeLine:=by
 obtain⟨z,its,n,r,e⟩:=I.hok p _ h
 exact⟨its,n,r,e,z⟩
theorem Inv.lstUpd {pins:List (Addr × Obj)} {σ:St} {H:Hp} {s:Shared} {p:Addr} {xs ys:List V} {its its':List Value} {n n':Nat} {f:Obj->Obj} (I:Inv X pins σ H s) (h:H p=some (.lst xs))
  (ho:s.heap.get? p=some { cls:=.type "list",data:=.seq its.toArray n }) (hf:f { cls:=.type "list",data:=.seq its.toArray n }={ cls:=.type "list",data:=.seq its'.toArray n' }) (r:Vals ys its') (hz:ys.length<=sizeLine) (t:Nat) :
  Inv X pins σ (upd H p (.lst ys)) { s with heap:=s.heap.update p f,toks:=t }:=by
 have e:(s.heap.update p f).get? p=some { cls:=.type "list",data:=.seq its'.toArray n' }:=by
  rw [Heap.get?_update_self f ho (by rw [hf] <;> rfl),hf]
 refine I.write (x:=p) (e:=p) (by rw [h];trivial) (.inl rfl) (fun b u hb q=>(Heap.get?_update_other _ _ (Ne.symm hb)).trans q) ⟨_,e⟩ ?_
 exact⟨hz,its',n',r,e⟩
def rSetL:V->V->V->Hp->(Hp->Prop)->Prop:=fun o i v H Q=>∃ p xs k j,o=.ref p/\i=.int k/\H p=some (.lst xs)/\ixN xs.length k=some j/\Q (upd H p (.lst (xs.set j v)))
theorem set_list:PSet X rSetL:=by
 intro pins s σ H o i v ov iv u Q I ro ri rv h
 obtain⟨p,xs,k,j,rfl,rfl,hp,hj,q⟩:=h
 cases ro
 obtain⟨t,rfl⟩:=ri
 obtain⟨its,n,r,ho,hz⟩:=I.lst hp
 obtain⟨h1,h2,h3,h4⟩:=ixN_seq hj
 have hl:=r.length
 have hn:=line63
 have I':Inv X pins σ (upd H p (.lst (xs.set j v))) { s with heap:=s.heap.update p (Obj.mapSeq (·.setIfInBounds j u)) } :=
  I.lstUpd hp ho (mapSeq_set its n j u) (r.set rv j) (by rw [List.length_set];exact hz) s.toks
 by_cases h0 : 0<=k
 ·have hk:k.toNat=j:=by
   rw [seqIndex_of h0 h4] at h1
   exact Option.some.inj h1
  exact PySem.W.ki_setAt ho h0 (by omega) (by rw [List.size_toArray,← hl];exact h4) (by rw [hk];exact⟨_,I',q⟩)
 ·have hk:(k + (its.toArray.size:Int)).toNat=j:=by
   rw [seqIndex_neg (by omega) h3] at h1
   rw [List.size_toArray,← hl]
   exact Option.some.inj h1
  exact PySem.W.ki_setBack ho (by omega) (by rw [List.size_toArray,← hl];exact h3) (by omega) (by rw [hk];exact⟨_,I',q⟩)
theorem slice_bounds (lo hi:Option Int) (n:Nat):(sliceBounds lo hi none n).1=((HT.sIx n 0 lo:Nat):Int)/\(sliceBounds lo hi none n).2.1=((HT.sIx n n hi:Nat):Int)/\(sliceBounds lo hi none n).2.2=1:=by
 refine⟨?_,?_,rfl⟩
 ·cases lo with
  | none=>simp [sliceBounds,HT.sIx]
  | some i =>
   simp only [sliceBounds,HT.sIx,Option.getD_none,show (1:Int) > 0 by decide,if_true]
   by_cases h:i < 0
   ·simp only [h,if_true] <;> omega
   ·simp only [h,if_false] <;> omega
 ·cases hi with
  | none=>simp [sliceBounds,HT.sIx]
  | some i =>
   simp only [sliceBounds,HT.sIx,Option.getD_none,show (1:Int) > 0 by decide,if_true]
   by_cases h:i < 0
   ·simp only [h,if_true] <;> omega
   ·simp only [h,if_false] <;> omega
theorem slicePick_cut (its:List Value) (lo hi:Option Int):slicePick its.toArray lo hi none=((its.drop (HT.sIx its.length 0 lo)).take (HT.sIx its.length its.length hi - HT.sIx its.length 0 lo)).toArray:=by
 obtain⟨h1,h2,h3⟩:=slice_bounds lo hi its.toArray.size
 unfold slicePick
 rw [h1,h2,h3]
 simp only [sliceRange_one,pick_run,List.size_toArray] <;> rfl
def rSlL (K:Frag):V->Option Int->Option Int->Hp->VK->Prop:=fun x lo hi H Q=>∃ a xs,x=.ref a/\SqL K H a xs/\∀ p,H p=none->Q (.ref p) (upd H p (.lst (cutV xs lo hi)))
theorem sl_list:SlR X (rSlL X.K):=by
 intro pins s σ H x v vl vu lo hi sl Q I rx hs pl pu h
 obtain⟨a,xs,rfl,hx,q⟩:=h
 cases rx
 obtain⟨its,r,ht,hz⟩:=I.list hx
 have hlen:=r.length
 refine⟨"list",_,slot_list_getitem.lookup,ht.isList.typeIs,?_⟩
 refine wpAny_getItem_list_slice ht.isList hs pl pu .none (by simp) ?_ (by rw [List.size_toArray] <;> omega)
 rw [slicePick_cut,← hlen]
 refine⟨.ref s.heap.objs.size,_,I.laid (t':=s.toks) (o:=.lst (cutV xs lo hi)) (fun b ob q=>Heap.get?_push_of_some _ q) (Nat.le_refl _) ?_,rfl,q _ (I.hok.fresh (Nat.le_refl _))⟩
 exact⟨Nat.le_trans (cutV_length xs lo hi) hz,_,0,(r.drop (HT.sIx xs.length 0 lo)).take (HT.sIx xs.length xs.length hi - HT.sIx xs.length 0 lo),Heap.get?_push_size _ rfl⟩
def flatV:V->Bool
 | .non=>true
 | .bl _=>true
 | .int _=>true
 | .str _=>true
 | _=>false
def eqV:V->V->Bool
 | .non,.non=>true
 | .bl a,.bl b=>a == b
 | .bl a,.int b=>(if a then 1 else 0) == b
 | .int a,.bl b=>a == (if b then 1 else 0)
 | .int a,.int b=>a == b
 | .str a,.str b=>a == b
 | _,_=>false
theorem eqAt_V {A:Around} {s:Shared} {y x:V} {u v:Value} (ry:RelV y u) (rx:RelV x v) (fy:flatV y=true) (fx:flatV x=true):SeqAt.EqAt A s u v (eqV y x):=by
 cases y with
 | non =>
  cases ry
  cases x with
  | non=>cases rx;exact SeqAt.EqAt.same _
  | bl b=>cases rx;exact SeqAt.EqAt.none_bool b
  | int b=>obtain⟨t,rfl⟩:=rx;exact SeqAt.EqAt.none_int b t
  | str b=>obtain⟨t,rfl⟩:=rx;exact SeqAt.EqAt.none_str b t
  | _=>exact absurd (show false=true from fx) Bool.false_ne_true
 | bl a =>
  cases ry
  cases x with
  | non=>cases rx;exact SeqAt.EqAt.bool_none a
  | bl b=>cases rx;exact SeqAt.EqAt.bool_bool a b
  | int b=>obtain⟨t,rfl⟩:=rx;exact SeqAt.EqAt.bool_int a b t
  | str b=>obtain⟨t,rfl⟩:=rx;exact SeqAt.EqAt.bool_str a b t
  | _=>exact absurd (show false=true from fx) Bool.false_ne_true
 | int a =>
  obtain⟨t',rfl⟩:=ry
  cases x with
  | non=>cases rx;exact SeqAt.EqAt.int_none a t'
  | bl b=>cases rx;exact SeqAt.EqAt.int_bool a t' b
  | int b=>obtain⟨t,rfl⟩:=rx;exact SeqAt.EqAt.int_int a t' b t
  | str b=>obtain⟨t,rfl⟩:=rx;exact SeqAt.EqAt.int_str a t' b t
  | _=>exact absurd (show false=true from fx) Bool.false_ne_true
 | str a =>
  obtain⟨t',rfl⟩:=ry
  cases x with
  | non=>cases rx;exact SeqAt.EqAt.str_none a t'
  | bl b=>cases rx;exact SeqAt.EqAt.str_bool a t' b
  | int b=>obtain⟨t,rfl⟩:=rx;exact SeqAt.EqAt.str_int a t' b t
  | str b=>obtain⟨t,rfl⟩:=rx;exact SeqAt.EqAt.str_str a t' b t
  | _=>exact absurd (show false=true from fx) Bool.false_ne_true
 | _=>exact absurd (show false=true from fy) Bool.false_ne_true
def eqU (x:V) (u:Value):Bool:=match u with
 | .none=>eqV .non x
 | .bool b=>eqV (.bl b) x
 | .int i _=>eqV (.int i) x
 | .str z _=>eqV (.str z) x
 | _=>false
theorem eqU_of {x y:V} {u:Value} (r:RelV y u) (f:flatV y=true):eqU x u=eqV y x:=by
 cases y with
 | non=>cases r;rfl
 | bl b=>cases r;rfl
 | int i=>obtain⟨t,rfl⟩:=r;rfl
 | str z=>obtain⟨t,rfl⟩:=r;rfl
 | _=>exact absurd (show false=true from f) Bool.false_ne_true
theorem any_eqU {x:V} : ∀ {xs:List V} {us:List Value},Vals xs us->xs.all flatV=true->us.any (eqU x)=xs.any fun y=>eqV y x
 | _,_,.nil,_=>rfl
 | y::xs,u::us,.cons r t,f=>by
  rw [List.all_cons,Bool.and_eq_true] at f
  rw [List.any_cons,List.any_cons,eqU_of r f.1,any_eqU t f.2]
theorem mem_eqAt {A:Around} {s:Shared} {x:V} {v:Value} (rx:RelV x v) (fx:flatV x=true):∀ {xs:List V} {us:List Value},Vals xs us->xs.all flatV=true->∀ u ∈ us,SeqAt.EqAt A s u v (eqU x u)
 | _,_,.nil,_=>fun u hu=>by cases hu
 | y::xs,u::us,.cons r t,f=>fun u' hu=>by
  rw [List.all_cons,Bool.and_eq_true] at f
  rcases List.mem_cons.mp hu with rfl|hu
  ·rw [eqU_of r f.1];exact eqAt_V r rx f.1 fx
  ·exact mem_eqAt rx fx t f.2 u' hu
def inV (x:V) (xs:List V):Bool:=xs.any fun y=>eqV y x
def rIn (K:Frag) (neg:Bool):R2:=fun x y H Q=>∃ p xs,y=.ref p/\(SqL K H p xs\/SqT K H p xs)/\flatV x=true/\xs.all flatV=true/\Q (.bl (if neg then !inV x xs else inV x xs)) H
theorem op_in_seq:OpR X (compareOp .In) (rIn X.K false):=by
 intro pins s σ H x y v u Q I rx ry h
 obtain⟨p,xs,rfl,hq,fx,fs,q⟩:=h
 cases ry
 rcases hq with hq|hq
 ·obtain⟨its,r,pl,hz⟩:=I.list hq
  refine SeqAt.in_listAt (eqU x) pl.isList (fun w hw=>mem_eqAt rx fx r fs w (by simpa using hw)) ⟨.bl _,H,I,rfl,?_⟩
  rw [show its.toArray.any (eqU x)=its.any (eqU x) by simp,any_eqU r fs]
  exact q
 ·obtain⟨its,r,pl,hz⟩:=I.tuple hq
  refine SeqAt.in_tupleAt (eqU x) pl (fun w hw=>mem_eqAt rx fx r fs w (by simpa using hw)) ⟨.bl _,H,I,rfl,?_⟩
  rw [show its.toArray.any (eqU x)=its.any (eqU x) by simp,any_eqU r fs]
  exact q
theorem op_notIn_seq:OpR X (compareOp .NotIn) (rIn X.K true):=by
 intro pins s σ H x y v u Q I rx ry h
 obtain⟨p,xs,rfl,hq,fx,fs,q⟩:=h
 cases ry
 rcases hq with hq|hq
 ·obtain⟨its,r,pl,hz⟩:=I.list hq
  refine SeqAt.notIn_listAt (eqU x) pl.isList (fun w hw=>mem_eqAt rx fx r fs w (by simpa using hw)) ⟨.bl _,H,I,rfl,?_⟩
  rw [show its.toArray.any (eqU x)=its.any (eqU x) by simp,any_eqU r fs]
  exact q
 ·obtain⟨its,r,pl,hz⟩:=I.tuple hq
  refine SeqAt.notIn_tupleAt (eqU x) pl (fun w hw=>mem_eqAt rx fx r fs w (by simpa using hw)) ⟨.bl _,H,I,rfl,?_⟩
  rw [show its.toArray.any (eqU x)=its.any (eqU x) by simp,any_eqU r fs]
  exact q
theorem call_len_seq:CallR X (.builtin "len") (fun xs H Q=>∃ p ys,xs=[.ref p]/\(SqL X.K H p ys\/SqT X.K H p ys)/\Q (.int ys.length) H):=by
 intro pins s σ H xs us Q I r h
 obtain⟨p,ys,rfl,hq,q⟩:=h
 obtain⟨u,rfl,rx⟩:=vals1 r
 cases rx
 have hn:=line63
 rcases hq with hq|hq
 ·obtain⟨its,r',pl,hz⟩:=I.list hq
  have hlen:=r'.length
  exact Calls.call_len_list pl.isList (by simp only [List.size_toArray] <;> omega) ⟨.int ys.length,H,I.tok _,⟨s.toks + 1,by rw [List.size_toArray,hlen]⟩,q⟩
 ·obtain⟨its,r',pl,hz⟩:=I.tuple hq
  have hlen:=r'.length
  exact len_tuple pl (by simp only [List.size_toArray] <;> omega) ⟨.int ys.length,H,I.tok _,⟨s.toks + 1,by rw [List.size_toArray,hlen]⟩,q⟩
theorem CallR.or {f:Value} {r r':List V->Hp->VK->Prop} (h:CallR X f r) (h':CallR X f r'):CallR X f (fun xs H Q=>r xs H Q\/r' xs H Q):=by
 intro pins s σ H xs us Q I rs q
 rcases q with q|q
 ·exact h pins s σ H xs us Q I rs q
 ·exact h' pins s σ H xs us Q I rs q
theorem call_list_of:CallR X (.type "list") (fun xs H Q=>∃ p ys,xs=[.ref p]/\(SqL X.K H p ys\/SqT X.K H p ys)/\∀ l,H l=none->Q (.ref l) (upd H l (.lst ys))):=by
 intro pins s σ H xs us Q I r h
 obtain⟨p,ys,rfl,hq,q⟩:=h
 obtain⟨u,rfl,rx⟩:=vals1 r
 cases rx
 have fin:∀ (its:List Value),Vals ys its->ys.length<=sizeLine->∀ (h':Heap) (c':Nat),(∀ b o',s.heap.get? b=some o'->h'.get? b=some o') →
   h'.get? s.heap.objs.size=some { cls:=.type "list",dict:=none,data:=.seq its.toArray c',slots:=#[] }->EP X pins σ Q (.ref s.heap.objs.size) { s with heap:=h' }:=fun its r' hz h' c' kp e =>
  ⟨.ref s.heap.objs.size,_,I.laid (t':=s.toks) kp (Nat.le_refl _) (show ObjOk X.prog X.w _ h' _ (.lst ys) from⟨hz,its,c',r',e⟩),rfl,q _ (I.hok.fresh (Nat.le_refl _))⟩
 rcases hq with hq|hq
 ·obtain⟨its,r',pl,hz⟩:=I.list hq
  have hlen:=r'.length
  obtain⟨o,ho,hc,n,hd⟩:=pl.isList
  exact call_list_seq p (.inl rfl) ho hc hd (fun h' c' kp e=>fin its r' hz h' c' kp e) (by simp only [List.size_toArray] <;> omega)
 ·obtain⟨its,r',pl,hz⟩:=I.tuple hq
  have hlen:=r'.length
  obtain⟨o,ho,hc,n,hd⟩:=pl
  exact call_list_seq p (.inr rfl) ho hc hd (fun h' c' kp e=>fin its r' hz h' c' kp e) (by simp only [List.size_toArray] <;> omega)
theorem call_tuple_of:CallR X (.type "tuple") (fun xs H Q=>∃ p ys,xs=[.ref p]/\((SqL X.K H p ys/\∀ l,H l=none->Q (.ref l) (upd H l (.tup ys)))\/(SqT X.K H p ys/\Q (.ref p) H))):=by
 intro pins s σ H xs us Q I r h
 obtain⟨p,ys,rfl,h⟩:=h
 obtain⟨u,rfl,rx⟩:=vals1 r
 cases rx
 rcases h with⟨hq,q⟩|⟨hq,q⟩
 ·obtain⟨its,r',pl,hz⟩:=I.list hq
  have hlen:=r'.length
  refine call_tuple_list pl.isList (fun h' kp=>?_) (by simp only [List.size_toArray] <;> omega)
  have I1:Inv X pins σ H { s with heap:=h' }:=I.kept (t':=s.toks) kp
  have I2:Inv X pins σ (upd H h'.objs.size (.tup ys)) { s with heap:=h'.push { cls:=.type "tuple",data:=.seq its.toArray } } :=
   I1.laid (t':=s.toks) (fun b o e=>Heap.get?_push_of_some _ e) (Nat.le_refl _) (show ObjOk X.prog X.w _ _ _ (.tup ys) from⟨hz,its,r',IsTup.new _ _⟩)
  exact⟨.ref h'.objs.size,_,I2,rfl,q _ (I1.hok.fresh (Nat.le_refl _))⟩
 ·obtain⟨its,r',pl,hz⟩:=I.tuple hq
  exact call_tuple_same pl ⟨.ref p,H,I,rfl,q⟩
def tyV (K:Frag) (T:String) (x:V) (H:Hp):Prop:=match x with
 | .str _=>T = "str"
 | .int _=>T = "int"
 | .ref p=>(T = "list"/\∃ xs,SqL K H p xs)\/(T = "tuple"/\∃ o,K.lookup p=some o/\o.cls=.type "tuple"/\o.dict=none) ∨
   (T = "dict"/\((∃ kvs,H p=some (.dK kvs))\/∃ kvs,H p=some (.dT kvs)))\/(T = "set"/\∃ S n,H p=some (.set S n))
 | _=>False
theorem tyV_is {pins:List (Addr × Obj)} {σ:St} {H:Hp} {s:Shared} {T:String} {x:V} {v:Value} (I:Inv X pins σ H s) (r:RelV x v) (ty:tyV X.K T x H) :
  s.TypeIs v T/\∀ a,v=.ref a->∃ ob,s.heap.get? a=some ob/\ob.dict=none:=by
 cases x with
 | str z =>
  obtain⟨t,rfl⟩:=r
  cases (show T = "str" from ty)
  exact⟨typeIs_str s z t,fun _ e=>nomatch e⟩
 | int i =>
  obtain⟨t,rfl⟩:=r
  cases (show T = "int" from ty)
  exact⟨typeIs_int s i t,fun _ e=>nomatch e⟩
 | ref p =>
  cases r
  rcases ty with⟨rfl,xs,hq⟩|⟨rfl,o,hk,hc,hd⟩|⟨rfl,hk⟩|⟨rfl,S,n,hk⟩
  ·obtain⟨its,_,pl,_⟩:=I.list hq
   refine⟨pl.isList.typeIs,fun a e=>?_⟩
   cases e
   obtain⟨o,n,e,c,hd,_⟩:=pl
   exact⟨o,e,hd⟩
  ·refine⟨⟨o,I.kIn p o hk,hc⟩,fun a e=>?_⟩
   cases e
   exact⟨o,I.kIn _ o hk,hd⟩
  ·have z:∃ o,s.heap.get? p=some o/\o.ExactDict:=by
    rcases hk with⟨kvs,hk⟩|⟨kvs,hk⟩
    ·obtain⟨_,_,_,_,o,_,_,e,ex,_⟩:=I.hok p _ hk
     exact⟨o,e,ex⟩
    ·obtain⟨_,_,_,_,o,_,_,e,ex,_⟩:=I.hok p _ hk
     exact⟨o,e,ex⟩
   obtain⟨o,e,ex⟩:=z
   refine⟨⟨o,e,ex.1⟩,fun a e2=>?_⟩
   cases e2
   exact⟨o,e,ex.2.1⟩
  ·obtain⟨o,_,_,_,e,ex,_⟩:=I.hok p _ hk
   refine⟨⟨o,e,ex.1⟩,fun a e2=>?_⟩
   cases e2
   exact⟨o,e,ex.2.1⟩
 | _=>exact False.elim ty
def tBM0 (K:Frag) (T:String) (r:V->List V->Hp->VK->Prop) (to:TE):TE:=fun σ H Q=>to σ H fun x H1=>tyV K T x H1/\r x [] H1 Q
def tBM (K:Frag) (T:String) (r:V->List V->Hp->VK->Prop) (to:TE) (t:TA):TE:=fun σ H Q=>to σ H fun x H1=>tyV K T x H1/\t σ H1 fun xs H2=>r x xs H2 Q
variable {o e:Expr} {es:List Expr} {to:TE} {t:TA} {name:Str} {apos cpos:Pos} {T id:String} {r:V->List V->Hp->VK->Prop}
theorem pe_bm0 (pa:PlainAttrs T) (slot:Slot T name id) (hty:typeOf (.builtin id)=pure (.type "method_descriptor")) (hm:MtR X id r) (ho:PE X o to)
  (hbase:attributeBase o name X.env (eval o X.env)=eval o X.env:=by rfl) (hline:(apos.endLine == cpos.line)=true:=by rfl):PE X (.Call (.Attribute o name apos) [] [] cpos) (tBM0 X.K T r to):=by
 intro pins s σ H Q I h
 refine wpAny_Call_method0_late hbase hline (thn (ho pins s σ H _ I h) fun v s1 ⟨x,H1,I1,r1,ty,q1⟩=>?_)
 obtain⟨h1,h2⟩:=tyV_is I1 r1 ty
 exact⟨T,id,pa,slot,hty,h1,h2,Calls.callWith_builtin rfl (PySem.evalArgs_none (hm pins s1 σ H1 x [] v [] Q I1 r1 .nil q1))⟩
theorem pe_bm (pa:PlainAttrs T) (slot:Slot T name id) (hty:typeOf (.builtin id)=pure (.type "method_descriptor")) (hm:MtR X id r) (ho:PE X o to) (ha:PA X (e::es) t)
  (hbase:attributeBase o name X.env (eval o X.env)=eval o X.env:=by rfl)
  (hfew:((backTo cpos (starEach (e::es) X.env)).all (fun x=>!x.1) && (backToKw cpos (keywordEach [] X.env)).all (fun x=>x.1.isSome)
   && decide ((e::es).length + ([]:List Keyword).length + (if ([]:List Keyword).isEmpty then 0 else 1) < 30))=true:=by rfl)
  (hline:(apos.endLine == cpos.line)=true:=by rfl) (hs:starEach (e::es) X.env=(false,eval e X.env)::starEach es X.env:=by rfl) (hplain:(backTo cpos (starEach es X.env)).any (·.1)=false:=by rfl) :
  PE X (.Call (.Attribute o name apos) (e::es) [] cpos) (tBM X.K T r to t):=by
 intro pins s σ H Q I h
 refine wpAny_Call_method_late hbase hfew hline rfl (thn (ho pins s σ H _ I h) fun v s1 ⟨x,H1,I1,r1,ty,q1⟩=>?_)
 obtain⟨h1,h2⟩:=tyV_is I1 r1 ty
 refine⟨T,id,pa,slot,hty,h1,h2,?_⟩
 have hA:=ha cpos pins s1 σ H1 _ I1 q1
 rw [hs] at hA ⊢
 refine Calls.callWith_builtin (by show (false || (backTo cpos (starEach es X.env)).any (·.1))=false;rw [hplain] <;> rfl) (Calls.evalArgs_plain ?_)
 exact thn hA fun us s2 ⟨vs,H2,I2,r2,q2⟩=>hm pins s2 σ H2 x vs v us Q I2 r1 r2 q2
end
def MtM (X:Cx) (id:String) (r:V->List V->Hp->VK->Prop):Prop :=
 ∀ (pins:List (Addr × Obj)) (s:Shared) (σ:St) (H:Hp) (x:V) (xs:List V) (v:Value) (us:List Value) (Q:VK),Inv X pins σ H s->RelV x v->Vals xs us->r x xs H Q →
  wpAny (model X.prog X.w) X.A (call (.builtin id) (v::us)) (EP X pins σ Q) X.xe s
theorem Vals.one:∀ {x:V} {us:List Value},Vals [x] us->∃ u,us=[u]/\RelV x u
 | _,_,.cons r .nil=>⟨_,rfl,r⟩
theorem Vals.two:∀ {x y:V} {us:List Value},Vals [x,y] us->∃ u v,us=[u,v]/\RelV x u/\RelV y v
 | _,_,_,.cons r (.cons q .nil)=>⟨_,_,rfl,r,q⟩
theorem Vals.zero:∀ {us:List Value},Vals [] us->us=[]
 | _,.nil=>rfl
section
variable {X:Cx} {pins:List (Addr × Obj)} {σ:St} {H:Hp} {s:Shared} {l b:Addr} {xs ys zs:List V}
theorem Inv.lset {its its':List Value} {n:Nat} {f:Array Value->Array Value} {t':Nat} (I:Inv X pins σ H s) (hH:H l=some (.lst xs))
  (e:s.heap.get? l=some { cls:=.type "list",data:=.seq its.toArray n }) (hf:f its.toArray=its'.toArray) (hv:Vals ys its') (hz:ys.length<=sizeLine) :
  Inv X pins σ (upd H l (.lst ys)) { s with heap:=s.heap.update l (Obj.mapSeq f),toks:=t' }:=by
 have q:=PySem.IsL.update e f
 rw [hf] at q
 refine I.write (x:=l) (e:=l) (by rw [hH];exact trivial) (.inl rfl) (fun b' u hb hu=>(Heap.get?_update_other s.heap (Obj.mapSeq f) (Ne.symm hb)).trans hu) ⟨_,q⟩ ?_
 exact⟨hz,its',_,hv,q⟩
theorem Inv.lnew {its:List Value} {t':Nat} (I:Inv X pins σ H s) (hv:Vals ys its) (hz:ys.length<=sizeLine) :
  Inv X pins σ (upd H s.heap.objs.size (.lst ys)) { s with heap:=s.heap.push { cls:=.type "list",data:=.seq its.toArray },toks:=t' } :=
 I.laid (fun _ _ q=>Heap.get?_push_of_some _ q) (Nat.le_refl _) ⟨hz,its,0,hv,Heap.get?_push_size _ rfl⟩
theorem Inv.fresh (I:Inv X pins σ H s):H s.heap.objs.size=none:=I.hok.fresh (Nat.le_refl _)
theorem Inv.lstM (I:Inv X pins σ H s) (hH:H l=some (.lst xs)):xs.length<=sizeLine/\∃ (its:List Value) (n:Nat),Vals xs its/\xs.length=its.length/\s.heap.get? l=some { cls:=.type "list",data:=.seq its.toArray n }:=by
 obtain⟨z,its,n,r,e⟩:=I.hok l _ hH
 exact⟨z,its,n,r,r.length,e⟩
theorem notLongL {n:Nat} (h:n<=sizeLine):Builtin.List.listTooLong n=false:=by
 unfold Builtin.List.listTooLong
 exact decide_eq_false (by omega)
end
section
variable {X:Cx}
def rAppend:V->List V->Hp->VK->Prop:=fun x vs H Q=>∃ l xs y,x=.ref l/\vs=[y]/\H l=some (.lst xs)/\xs.length < sizeLine/\Q .non (upd H l (.lst (xs++[y])))
theorem mt_append:MtM X "list.append" rAppend:=by
 intro pins s σ H x vs v us Q I rx rv h
 obtain⟨l,xs,y,rfl,rfl,hH,hz,q⟩:=h
 cases rx
 obtain⟨u,rfl,ru⟩:=rv.one
 obtain⟨z,its,n,r,hl,e⟩:=I.lstM hH
 refine call_meets F.slot_list_append ⟨_,e,rfl⟩ F.entry_list_append (F.args_list_append_2 _ _) (PySem.list_append l its.toArray n u (by rw [List.size_toArray];omega)) ⟨e,?_⟩
 refine⟨.non,_,I.lset (its':=its++[u]) hH e (by simp) (r.append (.cons ru .nil)) ?_,rfl,q⟩
 rw [List.length_append,List.length_singleton]
 omega
def rExtend:V->List V->Hp->VK->Prop:=fun x vs H Q=>∃ l b xs zs,x=.ref l/\vs=[.ref b]/\H l=some (.lst xs)/\H b=some (.lst zs)/\xs.length + zs.length<=sizeLine/\Q .non (upd H l (.lst (xs++zs)))
theorem mt_extend:MtM X "list.extend" rExtend:=by
 intro pins s σ H x vs v us Q I rx rv h
 obtain⟨l,b,xs,zs,rfl,rfl,hH,hB,hz,q⟩:=h
 cases rx
 obtain⟨u,rfl,ru⟩:=rv.one
 cases ru
 obtain⟨z,its,n,r,hl,e⟩:=I.lstM hH
 obtain⟨z2,its2,n2,r2,hl2,e2⟩:=I.lstM hB
 have hsz:its.toArray.size + its2.toArray.size<=sizeLine:=by rw [List.size_toArray,List.size_toArray];omega
 have hlong:¬ (!its.toArray.isEmpty && Builtin.List.listTooLong (its.toArray.size + its2.toArray.size))=true:=by
  rw [notLongL hsz,Bool.and_false]
  exact Bool.false_ne_true
 refine call_meets F.slot_list_extend ⟨_,e,rfl⟩ F.entry_list_extend (F.args_list_extend_2 _ _)
  (AutoSeq1.list_extend_list_list_0 l its.toArray n b its2.toArray n2 hlong (by rw [List.size_toArray];omega) (by omega)) ⟨e,e2,?_⟩
 refine⟨.non,_,I.lset (its':=its++its2) hH e (by simp) (r.append r2) ?_,rfl,q⟩
 rw [List.length_append]
 omega
def rClear:V->List V->Hp->VK->Prop:=fun x vs H Q=>∃ l xs,x=.ref l/\vs=[]/\H l=some (.lst xs)/\Q .non (upd H l (.lst []))
theorem mt_clear:MtM X "list.clear" rClear:=by
 intro pins s σ H x vs v us Q I rx rv h
 obtain⟨l,xs,rfl,rfl,hH,q⟩:=h
 cases rx
 have hus:=rv.zero
 subst hus
 obtain⟨z,its,n,r,hl,e⟩:=I.lstM hH
 refine call_meets F.slot_list_clear ⟨_,e,rfl⟩ F.entry_list_clear (F.args_list_clear_1 _) (AutoSeq1.list_clear_list_0 l its.toArray n (by rw [List.size_toArray];omega)) ⟨e,?_⟩
 exact⟨.non,_,I.lset (its':=[]) (ys:=[]) hH e rfl .nil (Nat.zero_le _),rfl,q⟩
def rCat:R2:=fun x y H Q=>∃ l b xs zs,x=.ref l/\y=.ref b/\H l=some (.lst xs)/\H b=some (.lst zs)/\xs.length + zs.length<=sizeLine/\∀ p,H p=none->Q (.ref p) (upd H p (.lst (xs++zs)))
theorem op_cat:OpR X (binaryOp .Add) rCat:=by
 intro pins s σ H x y v u Q I rx ry h
 obtain⟨l,b,xs,zs,rfl,rfl,hH,hB,hz,q⟩:=h
 cases rx
 cases ry
 obtain⟨z,its,n,r,hl,e⟩:=I.lstM hH
 obtain⟨z2,its2,n2,r2,hl2,e2⟩:=I.lstM hB
 refine PySem.P.add_list e e2 ?_ (by rw [List.size_toArray,List.size_toArray];omega)
 have ea:its.toArray++its2.toArray=(its++its2).toArray:=by simp
 rw [ea]
 exact⟨.ref _,_,I.lnew (t':=s.toks) (r.append r2) (by rw [List.length_append];omega),rfl,q _ I.fresh⟩
end
end L2
namespace Att
open PySem PySem.W PySem.Calls PyProof.Rows
theorem ints_of_wellAll {P:Params} {h:Heap} : ∀ (ns:List Int) (vs:List Value),WellAll P h vs (ns.map WData.int)->IntsAre vs ns:=by
 intro ns
 induction ns with
 | nil =>
  intro vs w
  rw [List.map_nil] at w
  cases w
  exact .nil
 | cons n ns ih =>
  intro vs w
  rw [List.map_cons] at w
  cases w with
  | cons a b =>
   cases a
   exact .cons _ _ (ih _ b)
theorem script_of {l:OpenLaw} {n:Nat} (hn:l.most=some n) {P:Params} {h:Heap} {args:List WData} {vals:List Value}
  (hpre:l.row.toRowW.claim.pre args=true) (hwl:WellAll P h vals args) :
  ∃ a vs ns,vals=[Value.ref a]/\args=[WData.list (ns.map WData.int)]/\h.get? a=some { cls:=.type "list",data:=.seq vs.toArray }/\IntsAre vs ns/\ns.length<=n:=by
 have hsh:WShape.hasAll [] args [.list .int]=true:=(pre_splitW hpre).1
 have hc:l.pre.holds [] { args:=args }=true:=(pre_splitW hpre).2
 obtain⟨d,r,rfl,h1,h2⟩:=hasAllW_cons hsh
 obtain rfl:=hasAllW_nil h2
 obtain⟨xs,rfl,h3⟩:=hasW_list h1
 obtain⟨ns,rfl⟩:=items_int h3
 have hlen:ns.length<=n:=by
  unfold OpenLaw.pre at hc
  have h4:(WTm.not (.lt (.lit (.int (n:Int))) (.len (.arg 0)))).holds [] { args:=[.list (ns.map .int)] }=true:=by
   have h4:=(holds_andW hc).1
   rw [hn] at h4
   exact h4
  have h5:=condW_of h4 (w_not (w_lt w_lit (w_len_list (w_arg rfl))))
  rw [List.length_map] at h5
  refine Nat.le_of_not_lt fun q=>?_
  have q':(n:Int) < ((ns.length:Nat):Int):=by omega
  first
   | (rw [decide_eq_true q'] at h5;exact absurd h5 (by decide))
   | (simp at h5;omega)
 cases hwl with
 | cons w1 w2 =>
  cases w2
  cases w1 with
  | list ho hall=>exact⟨_,_,ns,rfl,rfl,ho,ints_of_wellAll ns _ hall,hlen⟩
theorem post_true (l:OpenLaw) (args:List WData):l.row.toRowW.claim.post args (.bool true) args=true :=
 postW_of (r:=l.row.toRowW) (X:=(true == true))
  (show WShape.has [] (.bool true) .bool=true by first|rfl|decide|simp [WShape.has,WShape.arms,WShape.armsAll])
  (show (WTm.eq .res (.lit (.bool true))).value [] { args:=args,res:=some (.bool true),after:=args }=some (.bool (true == true)) from w_eq_bool (w_res rfl) w_lit) rfl
theorem attach_call {l:OpenLaw} {n:Nat} {q:Program} {loose:List Str} {XP:(Str->Option Value)->Heap->Prop} {YP:World->Heap->Prop} {d:DefRec}
  (hn:l.most=some n) (hdf:d.params.defaults=[])
  (call:∀ (w:World) (s₀ s₁ : Shared) (mg mb:Str->Option Value) (fa:Addr) (o:Obj) (pm cd doc:Value) (a:Addr) (vs:List Value) (ns:List Int),
   Ground q loose [] XP w s₀ mg mb s₁.heap->YP w s₁.heap →
   s₁.heap.get? fa=some o->o.data=.func (docDef d.name d.params d.body d.scope pm cd doc)->s₁.heap.CodeRec cd d.name->mg d.name=some (.ref fa) →
   s₁.heap.get? a=some { cls:=.type "list",data:=.seq vs.toArray }->IntsAre vs ns->ns.length<=n->s₁.gens = #[] →
   codeAny (model l.prog w) callerA (.call (.ref fa) ⟨[.ref a],[]⟩) (fun r s'=>r=.ok (.ret (.bool true))/\OldK s₁.heap s'.heap/\s'.os=s₁.os/\AllBare s'.gens) s₁) :
  WalkO q loose XP YP l.row.toRowW d [] (fun f vs=>PySem.call f vs):=by
 intro w s₀ s₁ mg mb G Y fa o pm cd doc dV kV ho hd hcd hD hmg hg args vals as hpre hlay hrd hwl hlo
 obtain rfl:dV=.none:=Dflts.none hD hdf
 obtain rfl:kV=.none:=Dflts.noKw hD
 obtain⟨a,vs,ns,rfl,rfl,hobj,hints,hlen⟩:=script_of hn hpre hwl
 refine enter_call (codeAny_mono (call w s₀ s₁ mg mb fa o pm cd doc a vs ns G Y ho (fd_plain hd) hcd hmg hobj hints hlen hg) fun r s' hq=>?_)
 obtain⟨rfl,h2,h3,h4⟩:=hq
 exact⟨.inl ⟨.bool true,.bool true,[],rfl,fun _=>rfl,.bool true,post_true l _,fun _=>⟨List.Pairwise.nil,fun _ hm=>(nomatch hm)⟩⟩,h2,h3,h4⟩
section
variable {prog:Program} {w:World} {A:Around} {E:Value->Shared->Prop} {s:Shared} {K:Frag}
end
end Att
namespace L2
open PySem PySem.Spec PyProof.Rows
theorem vals_ints:∀ {vs:List Value} {ns:List Int},IntsAre vs ns->Vals (ns.map V.int) vs
 | _,_,.nil=>.nil
 | _,_,.cons n t h=>.cons ⟨t,rfl⟩ (vals_ints h)
def Only (H:Hp):Prop:=∀ b,H b=none\/∃ o xs,H b=some (.frz o (.lst xs))
theorem law_call {P:Program} {w:World} {K:Frag} {mg mb:Str->Option Value} {CX:CXT} {k:Nat} {fa a:Addr} {fd:FuncData} {x:Str} {sp:Sp} {s₁ : Shared} {vs:List Value} {ns:List Int}
  (KX:K.In s₁.heap) (hns:s₁.heap.Ns mainGlobals mg) (hb:s₁.heap.Ns builtinsNs mb) (hbb:∀ x:Str,x ≠ "__name__"->mb x=bootBuiltins x) (hlim:s₁.heap.NoLimit) (hg:s₁.gens = #[])
  (ha:s₁.heap.get? a=some { cls:=.type "list",data:=.seq vs.toArray }) (hi:IntsAre vs ns) (hl:ns.length<=sizeLine) (hr:Room k callerA)
  (F:∀ base:Heap,K.In base->base.Ns mainGlobals mg->FnOk P w K mg base CX k fa fd [x] sp) (hbind:∀ (s:Shared) (u:Value),BindsTo s fd ⟨[u],[]⟩ [(x,u)])
  (hsp:∀ H:Hp,Only H->SqL K H a (ns.map V.int)->sp [.ref a] H (fun v _=>v=.bl true) fun _ _ _=>False)
  (hCX:∀ H e s',CX [] H s₁ (fun _ _ _=>False) e s'->False) :
  codeAny (model P w) callerA (.call (.ref fa) ⟨[.ref a],[]⟩) (fun r s'=>r=.ok (.ret (.bool true))/\OldK s₁.heap s'.heap/\s'.os=s₁.os/\AllBare s'.gens) s₁:=by
 have rv:=vals_ints hi
 have lenV:=hi.length
 have core:∀ H:Hp,Only H->SqL K H a (ns.map V.int)->HOk P w H s₁.heap->(∀ b,H b ≠ none->b=a)->(H a ≠ none->K.lookup a=none) →
   codeAny (model P w) callerA (.call (.ref fa) ⟨[.ref a],[]⟩) (fun r s'=>r=.ok (.ret (.bool true))/\OldK s₁.heap s'.heap/\s'.os=s₁.os/\AllBare s'.gens) s₁:=by
  intro H hO hS hok hA hK
  have base_of:∀ {b:Addr} {o:Obj},s₁.heap.get? b=some o->H b=none->(hidT s₁.heap H).get? b=some o:=fun e n=>hidT_get e n
  have noA:∀ {b:Addr} {o:Obj} {es:Array DictEntry} {ep:Nat},s₁.heap.get? b=some o->o.data=.dict es ep->H b=none:=fun {b o es ep} e d=>by
   cases q:H b with
   | none=>rfl
   | some u =>
    have e':b=a:=hA b (by rw [q];simp)
    subst e'
    rw [ha] at e;cases e
    have d':Data.seq vs.toArray _=Data.dict es ep:=d
    cases d'
  have nsK:∀ {b:Addr} {m:Str->Option Value},s₁.heap.Ns b m->(hidT s₁.heap H).Ns b m:=fun {b m} ⟨o,es,ep,e,d,r⟩=>⟨o,es,ep,base_of e (noA e d),d,r⟩
  have hKb:K.In (hidT s₁.heap H):=fun b o e=>base_of (KX b o e) (by
   cases q:H b with
   | none=>rfl
   | some u =>
    have e':b=a:=hA b (by rw [q];simp)
    subst e'
    rw [hK (by rw [q];simp)] at e;cases e)
  have hM:Mod K mg (hidT s₁.heap H):=⟨hKb,nsK hns,⟨mb,nsK hb,hbb⟩,let ⟨mc,h1,h2⟩:=hlim; ⟨mc,nsK h1,h2⟩⟩
  have e0:Env0 P w K mg (hidT s₁.heap H) callerA [] s₁ H:=⟨rfl,hM,fun b o e=>of_hidT e,Nat.le_of_eq (hidT_size _ _),trivial,fun b hb=>absurd (show b ∈ ([]:List Addr) from hb) (by simp),hok,.of_eq hg⟩
  refine codeAny_mono ((F _ hKb (nsK hns)).run callerA [] s₁ H ⟨[.ref a],[]⟩ [.ref a] [.ref a] _ _ hr e0 (hbind s₁ (.ref a)) (.cons rfl .nil) (hsp H hO hS)) fun r s' h=>?_
  cases r with
  | error e=>exact (hCX H e s' h).elim
  | ok fl =>
   cases fl with
   | next=>exact False.elim h
   | brk=>exact False.elim h
   | cont=>exact False.elim h
   | ret u =>
    obtain⟨v,H',os,bare,un,hok',r',q⟩:=h
    have q':v=.bl true:=q
    subst q'
    obtain rfl:u=Value.bool true:=r'
    refine⟨rfl,OldK.of_keep fun b o e=>?_,os,bare⟩
    cases q:H b with
    | none=>exact un.keep b o e q (by intro z;exact absurd (show b ∈ ([]:List Addr) from z) (by simp)) (by simp)
    | some u =>
     rcases hO b with z|⟨ob,xs,z⟩
     ·rw [q] at z;cases z
     ·have z2:=un.frzs b ob _ z
      obtain⟨e1,_⟩:=hok b _ z
      obtain⟨e2,_⟩:=hok' b _ z2
      rw [e] at e1;cases e1
      exact e2
 cases hk:K.lookup a with
 | some o =>
  have e:=KX a o hk
  rw [ha] at e
  cases e
  refine core (fun _=>none) (fun _=>.inl rfl) (.inr ⟨_,vs.toArray,_,hk,rfl,rfl,rfl,by rw [List.size_toArray,lenV];exact hl,by simpa using rv⟩) (fun b u z=>by have z':(none:Option HO)=some u:=z;cases z') (fun b z=>absurd rfl z) fun z=>absurd rfl z
 | none =>
  refine core (fun b=>if b=a then some (.frz { cls:=.type "list",data:=.seq vs.toArray } (.lst (ns.map V.int))) else none) (fun b=>?_) (.inl (.inr ⟨{ cls:=.type "list",data:=.seq vs.toArray },if_pos rfl⟩)) (fun b u z=>?_) (fun b z=>?_) fun _=>hk
  ·by_cases hb:b=a
   ·exact .inr ⟨_,_,if_pos hb⟩
   ·exact .inl (if_neg hb)
  ·by_cases hb:b=a
   ·have z':=(if_pos hb).symm.trans z
    cases z'
    subst hb
    exact⟨ha,by rw [List.length_map];exact hl,vs,_,rv,ha⟩
   ·have z':=(if_neg hb).symm.trans z
    cases z'
  ·by_cases hb:b=a
   ·exact hb
   ·exact absurd (if_neg hb) z
theorem walk_of {l:PySem.W.OpenLaw} {n k:Nat} {q:Program} {loose:List Str} {XP:(Str->Option Value)->Heap->Prop} {YP:World->Heap->Prop} {d:DefRec} {K:Params->Frag} {CX:World->CXT} {sp:World->Sp} {x:Str}
  (hn:l.most=some n) (hn2:n<=sizeLine) (hdf:d.params.defaults=[]) (hr:Room k callerA)
  (hY:∀ (w:World) (h:Heap),YP w h->(K w.params).In h)
  (F:∀ (w:World) (mg:Str->Option Value) (fa:Addr) (h:Heap),(K w.params).In h->h.Ns mainGlobals mg->mg d.name=some (.ref fa) →
   ∃ fd:FuncData,(∀ (s:Shared) (u:Value),BindsTo s fd ⟨[u],[]⟩ [(x,u)]) ∧
    ∀ base:Heap,(K w.params).In base->base.Ns mainGlobals mg->FnOk l.prog w (K w.params) mg base (CX w) k fa fd [x] (sp w))
  (hsp:∀ (w:World) (H:Hp) (a:Addr) (ns:List Int),ns.length<=n->Only H->SqL (K w.params) H a (ns.map V.int)->sp w [.ref a] H (fun v _=>v=.bl true) fun _ _ _=>False)
  (hCX:∀ (w:World) (H:Hp) (s:Shared) (e:Value) (s':Shared),CX w [] H s (fun _ _ _=>False) e s'->False) :
  PySem.W.WalkO q loose XP YP l.row.toRowW d [] (fun f vs=>PySem.call f vs):=by
 refine Att.attach_call hn hdf fun w s₀ s₁ mg mb fa o pm cd doc a vs ns G Y ho hd hcd hmg hobj hints hlen hg=>?_
 have KX:=hY w _ Y
 obtain⟨fd,hb,hF⟩:=F w mg fa _ KX G.T.g hmg
 exact law_call KX G.T.g G.T.b G.T.builtins G.T.nolimit hg hobj hints (Nat.le_trans hlen hn2) hr hF hb (fun H hO hS=>hsp w H a ns hlen hO hS) fun H e s'=>hCX w H s₁ e s'
def inClass (s:Stmt) (j:Nat):Stmt:=match s with
 | .ClassDef _ _ _ body _ _ _ _ _ _ _=>body.getD j (.Pass ⟨0,0,0,0⟩)
 | _=>.Pass ⟨0,0,0,0⟩
def defArgs (s:Stmt):Arguments:=match s with
 | .FunctionDef _ a _ _ _ _ _ _ _ _=>a
 | _=>{ posonlyargs:=[],args:=[],vararg:=none,kwonlyargs:=[],kw_defaults:=[],kwarg:=none,defaults:=[] }
def defBody (s:Stmt):List Stmt:=match s with
 | .FunctionDef _ _ b _ _ _ _ _ _ _=>b
 | _=>[]
def defScope (s:Stmt):Scope:=match s with
 | .FunctionDef _ _ _ _ _ _ sc _ _ _=>sc
 | _=>{ kind:=.function,names:=[],isGenerator:=false,isCoroutine:=false }
abbrev CX0:CXT:=fun _ _ _ _ _ _=>False
abbrev E0:XK:=fun _ _ _=>False
theorem pass0 {X:Cx} : Passes CX0 X E0:=fun _ _ _ _ _ _ _ h=>h.elim
structure Fun (K:Frag) (x qual:Str) (st:Stmt) (f:Addr) (fd:FuncData):Prop where
 ex:∃ (oc:Value) (od:Option Addr) (kV doc pm:Value) (an:Option Addr) (cdv ct:Value) (osl:Array (Option Value)),
  fd=fnOf x qual (defArgs st) (defBody st) (defScope st) .none kV doc pm an cdv ct/\K.lookup f=some ⟨oc,od,.func fd,osl⟩/\codeIn K cdv qual=true
 kp:keepIn K (.ref f)=true
section
variable {P:Program} {w:World} {K:Frag} {mg:Str->Option Value} {base:Heap}
theorem Fun.ok {x qual:Str} {st:Stmt} {f:Addr} {fd:FuncData} {N ps:List Str} {k:Nat} {sp:Sp} (F:Fun K x qual st f fd) (S:FnScope N ps (defScope st)) (len:∀ vs H Q E,sp vs H Q E->vs.length=ps.length)
  (hbody:∀ (cdv:Value) (A:Around) (outer:List Env) (s:Shared) (H:Hp) (vs:List V) (Q:VK) (E:XK),Room k (A.deeper (envOfC qual (defScope st) s.heap.objs.size f cdv))->sp vs H Q E →
   ∃ t,PSs (cxOf CX0 P w K mg base N qual (defScope st) f cdv A outer s H E).nox (defBody st) t/\t { nx:=fun _ H'=>Q .non H',rt:=Q } (start N vs) H):FnOk P w K mg base CX0 (k + 1) f fd ps sp:=by
 obtain⟨oc,od,kV,doc,pm,an,cdv,ct,osl,rfl,lk,hcd⟩:=F.ex
 refine fn_of lk hcd S len fun A outer s H vs Q E hr hsp=>?_
 obtain⟨t,h,q⟩:=hbody cdv A outer s H vs Q E hr hsp
 exact⟨t,h.nox,q⟩
theorem Fun.binds {x qual:Str} {st:Stmt} {f:Addr} {fd:FuncData} {ps:List Str} (F:Fun K x qual st f fd)
  (h:∀ (kV doc pm:Value) (an:Option Addr) (cdv ct:Value) (us:List Value),us.length=ps.length->bindArgs (fnOf x qual (defArgs st) (defBody st) (defScope st) .none kV doc pm an cdv ct) ⟨us,[]⟩=pure (ps.zip us)):Binds K fd ps []:=by
 obtain⟨oc,od,kV,doc,pm,an,cdv,ct,osl,rfl,lk,hcd⟩:=F.ex
 exact .all (h kV doc pm an cdv ct)
theorem fun_mk {x qual:Str} {st:Stmt} {f:Addr} {oc:Value} {od an:Option Addr} {osl:Array (Option Value)} {kV doc pm cdv ct:Value} (l:K.lookup f=some ⟨oc,od,.func (fnOf x qual (defArgs st) (defBody st) (defScope st) .none kV doc pm an cdv ct),osl⟩)
  (c:codeIn K cdv qual=true) (k:keepIn K (.ref f)=true):Fun K x qual st f (fnOf x qual (defArgs st) (defBody st) (defScope st) .none kV doc pm an cdv ct):=⟨⟨oc,od,kV,doc,pm,an,cdv,ct,osl,rfl,l,c⟩,k⟩
end
theorem small1000 {n:Nat} (h:n<=1000):n < sizeLine:=Nat.lt_of_le_of_lt h (by decide)
section
variable {X:Cx}
theorem pv (i:Nat) {x:Str} {pos:Pos} (hN:X.N[i]?=some x:=by rfl) (hv:Vis X.env.scope x:=by first|exact Or.inl rfl|exact Or.inr (Or.inl rfl)|exact Or.inr (Or.inr rfl)) (hd:(x == ("__debug__" : Str))=false:=by decide)
  (hcd:(x == ("__classdict__" : Str))=false:=by decide):PE X (.Name x pos) (tVar i):=pe_var hN hv hd hcd
end
theorem iteF {A B:Prop} (h:B):if false=true then A else B:=by
 rw [if_neg Bool.false_ne_true]
 exact h
theorem iteT {A B:Prop} (h:A):if true=true then A else B:=by
 rw [if_pos rfl]
 exact h
theorem ite2 {c A B:Prop} [Decidable c] (h1:c->A) (h2:¬ c->B):if c then A else B:=by
 by_cases h:c
 ·rw [if_pos h]
  exact h1 h
 ·rw [if_neg h]
  exact h2 h
def Same (H H':Hp):Prop:=∀ b o,H b=some o->H' b=some o
theorem Same.refl (H:Hp):Same H H:=fun _ _ h=>h
theorem Same.trans {H H1 H2:Hp} (a:Same H H1) (b:Same H1 H2):Same H H2:=fun c o h=>b c o (a c o h)
theorem Same.free {H H':Hp} (e:Same H H') {l:Addr} (h:H' l=Option.none):H l=Option.none:=by
 cases q:H l with
 | none=>rfl
 | some o =>
  rw [e l o q] at h
  cases h
theorem Same.seq {K:Frag} {H H':Hp} {a:Addr} {xs:List V} (e:Same H H') (h:SqL K H a xs):SqL K H' a xs:=by
 rcases h with (h|⟨o,h⟩)|h
 ·exact .inl (.inl (e _ _ h))
 ·exact .inl (.inr ⟨o,e _ _ h⟩)
 ·exact .inr h
end L2
set_option maxHeartbeats 4000000
namespace L2
open PySem PySem.Spec PyProof.Rows
theorem Vals.getR:∀ {xs:List V} {us:List Value} {i:Nat} {u:Value},Vals xs us->us[i]?=some u->∃ x,xs[i]?=some x/\RelV x u
 | _,_,_,_,.nil,e=>by simp at e
 | _,_,0,_,.cons r _,e=>by simp at e;subst e;exact⟨_,rfl,r⟩
 | _,_,i + 1,u,.cons _ t,e=>by
  obtain⟨x,h1,h2⟩:=Vals.getR (i:=i) (u:=u) t (by simpa using e)
  exact⟨x,by simpa using h1,h2⟩
def isa (t T:String):Bool:=t == T || (t == "bool" && T == "int")
def tyN (K:Frag) (x:V) (H:Hp) (t:String):Prop :=
 match x with
 | .non=>t = "NoneType"
 | .bl _=>t = "bool"
 | .int _=>t = "int"
 | .str _=>t = "str"
 | .ref p=>(t = "list"/\∃ xs,SqL K H p xs)\/(t = "tuple"/\∃ xs,SqT K H p xs)
 | _=>False
def isiTs:List String:=["int","bool","str","list","tuple","dict"]
section
variable {X:Cx}
theorem call_isi:CallR X (.builtin "isinstance") (fun xs H Q=>∃ x T t,xs=[x,.ty T]/\T ∈ isiTs/\tyN X.K x H t/\Q (.bl (isa t T)) H):=by
 intro pins s σ H xs us Q I r h
 obtain⟨x,T,t,rfl,hT,ht,q⟩:=h
 obtain⟨u,w',rfl,rx,rT⟩:=vals2 r
 cases rT
 have hT':T = "int" ∨ T = "bool" ∨ T = "str" ∨ T = "list" ∨ T = "tuple" ∨ T = "dict":=by simpa [isiTs] using hT
 have fin:∀ {k:Bool} {s':Shared},isa t T=k->Inv X pins σ H s'->EP X pins σ Q (.bool k) s':=fun {k s'} e I'=>by subst e;exact⟨.bl _,H,I',rfl,q⟩
 cases x with
 | non =>
  cases rx
  have ht':t = "NoneType":=ht
  subst ht'
  rcases hT' with rfl|rfl|rfl|rfl|rfl|rfl
  ·exact IsiPair.NoneType_int (fin (by decide) (I.tok _))
  ·exact IsiPair.NoneType_bool (fin (by decide) (I.tok _))
  ·exact IsiPair.NoneType_str (fin (by decide) (I.tok _))
  ·exact IsiPair.NoneType_list (fin (by decide) (I.tok _))
  ·exact IsiPair.NoneType_tuple (fin (by decide) (I.tok _))
  ·exact IsiPair.NoneType_dict (fin (by decide) (I.tok _))
 | bl b =>
  cases rx
  have ht':t = "bool":=ht
  subst ht'
  rcases hT' with rfl|rfl|rfl|rfl|rfl|rfl
  ·exact IsiPair.bool_int (fin (by decide) I)
  ·exact IsiPair.bool_bool (fin (by decide) I)
  ·exact IsiPair.bool_str (fin (by decide) (I.tok _))
  ·exact IsiPair.bool_list (fin (by decide) (I.tok _))
  ·exact IsiPair.bool_tuple (fin (by decide) (I.tok _))
  ·exact IsiPair.bool_dict (fin (by decide) (I.tok _))
 | int i =>
  obtain⟨tk,rfl⟩:=rx
  have ht':t = "int":=ht
  subst ht'
  rcases hT' with rfl|rfl|rfl|rfl|rfl|rfl
  ·exact IsiPair.int_int (fin (by decide) I)
  ·exact IsiPair.int_bool (fin (by decide) (I.tok _))
  ·exact IsiPair.int_str (fin (by decide) (I.tok _))
  ·exact IsiPair.int_list (fin (by decide) (I.tok _))
  ·exact IsiPair.int_tuple (fin (by decide) (I.tok _))
  ·exact IsiPair.int_dict (fin (by decide) (I.tok _))
 | str y =>
  obtain⟨tk,rfl⟩:=rx
  have ht':t = "str":=ht
  subst ht'
  rcases hT' with rfl|rfl|rfl|rfl|rfl|rfl
  ·exact IsiPair.str_int (fin (by decide) (I.tok _))
  ·exact IsiPair.str_bool (fin (by decide) (I.tok _))
  ·exact IsiPair.str_str (fin (by decide) I)
  ·exact IsiPair.str_list (fin (by decide) (I.tok _))
  ·exact IsiPair.str_tuple (fin (by decide) (I.tok _))
  ·exact IsiPair.str_dict (fin (by decide) (I.tok _))
 | ref p =>
  cases rx
  have ht':(t = "list"/\∃ xs,SqL X.K H p xs)\/(t = "tuple"/\∃ xs,SqT X.K H p xs):=ht
  rcases ht' with⟨rfl,ys,hy⟩|⟨rfl,ys,hy⟩
  ·obtain⟨its,rv,⟨o,n,e,hc,_,_⟩,hz⟩:=I.list hy
   rcases hT' with rfl|rfl|rfl|rfl|rfl|rfl
   ·exact IsiPair.list_int e hc (fin (by decide) (I.tok _))
   ·exact IsiPair.list_bool e hc (fin (by decide) (I.tok _))
   ·exact IsiPair.list_str e hc (fin (by decide) (I.tok _))
   ·exact IsiPair.list_list e hc (fin (by decide) I)
   ·exact IsiPair.list_tuple e hc (fin (by decide) (I.tok _))
   ·exact IsiPair.list_dict e hc (fin (by decide) (I.tok _))
  ·obtain⟨its,rv,⟨o,e,hc,n,_⟩,hz⟩:=I.tuple hy
   rcases hT' with rfl|rfl|rfl|rfl|rfl|rfl
   ·exact IsiPair.tuple_int e hc (fin (by decide) (I.tok _))
   ·exact IsiPair.tuple_bool e hc (fin (by decide) (I.tok _))
   ·exact IsiPair.tuple_str e hc (fin (by decide) (I.tok _))
   ·exact IsiPair.tuple_list e hc (fin (by decide) (I.tok _))
   ·exact IsiPair.tuple_tuple e hc (fin (by decide) I)
   ·exact IsiPair.tuple_dict e hc (fin (by decide) (I.tok _))
 | _=>exact (show False from ht).elim
end
section
variable {X:Cx} {pos:Pos}
theorem range_all_bools (bs:List Bool):(List.range bs.length).all (fun i=>bs.getD i false)=bs.all id:=by
 rw [Bool.eq_iff_iff]
 simp only [List.all_eq_true,List.mem_range,id]
 constructor
 ·intro h x hx
  obtain⟨i,hi,rfl⟩:=List.mem_iff_getElem.mp hx
  have:=h i hi
  simpa [List.getD_eq_getElem?_getD,List.getElem?_eq_getElem hi] using this
 ·intro h i hi
  have:=h bs[i] (List.getElem_mem hi)
  simpa [List.getD_eq_getElem?_getD,List.getElem?_eq_getElem hi] using this
theorem call_all (hc:X.calm=true):CallR X (.builtin "all") (fun xs H Q=>∃ (a:Addr) (bs:List Bool),xs=[.ref a]/\SqL X.K H a (bs.map V.bl)/\Q (.bl (bs.all id)) H):=by
 intro pins s σ H xs us Q I r h
 obtain⟨a,bs,rfl,ha,q⟩:=h
 obtain⟨u,rfl,rx⟩:=vals1 r
 cases rx
 obtain⟨its,rv,pl,hz⟩:=I.list ha
 have hlen:bs.length=its.length:=by have:=rv.length;simpa using this
 have hlt:a ≠ s.heap.objs.size:=by obtain⟨o,n,ho,_⟩:=pl;exact Nat.ne_of_lt (Heap.lt_size ho)
 refine call_all_walk (wpAny_pyIter_list pl.isList ?_)
 refine⟨s.heap.objs.size,_,_,_,_,_,fun i=>bs.getD i false,rfl,Walks.list (show X.A.in1.handled=none from I.ok.hd hc) _ a hlt its.toArray,⟨⟨_,Heap.get?_push_size _ rfl,rfl,rfl⟩,pl.isList.push _⟩,?_,fun h' tk hk=>?_⟩
 ·intro i v s' Q' E' hP hQ
  have hv:its[i]?=some v:=by simpa using hP
  obtain⟨x,hx,rxv⟩:=rv.getR hv
  rw [List.getElem?_map] at hx
  cases hb:bs[i]? with
  | none=>rw [hb] at hx;cases hx
  | some b =>
   rw [hb] at hx
   cases hx
   cases rxv
   have e:bs.getD i false=b:=by simp [List.getD_eq_getElem?_getD,hb]
   have hQ':Q' (bs.getD i false) s':=hQ
   rw [e] at hQ'
   exact wpAny_truthy_bool hQ'
 ·refine⟨.bl (bs.all id),H,I.kept fun b o e=>hk b o (by simp;exact Nat.ne_of_lt (Heap.lt_size e)) (Heap.get?_push_of_some _ e),?_,q⟩
  show Value.bool _=Value.bool _
  rw [← range_all_bools bs,hlen]
  simp
end
abbrev Cx.comp (X:Cx) (scope:Scope) (cl:List (Str × Addr)) (N:List Str) (s:Shared) (H:Hp) (fp:List Addr) (C:Addr):Cx where
 prog:=X.prog
 w:=X.w
 K:=X.K
 mg:=X.mg
 base:=X.base
 A:=X.A
 N:=N
 s₀:=s
 H₀:=H
 env:=compEnvC scope cl C X.env
 outer:=X.stack
 stack:=X.stack
 ex:=fp
 fn:=fun _=>false
 calm:=X.calm
 pn:=[]
 xe:=fun _ _=>False
def subCl (env:Env):List (Str × Addr)->Prop
 | []=>True
 | p::r=>env.cells.lookup p.1=some p.2/\subCl env r
theorem subCl.all {env:Env} : ∀ {cl:List (Str × Addr)},subCl env cl->∀ p ∈ cl,env.cells.lookup p.1=some p.2
 | [],_,p,hp=>by simp at hp
 | _::_,h,p,hp=>(List.mem_cons.mp hp).elim (fun e=>e ▸ h.1) (subCl.all h.2 p)
theorem subCl.at {env:Env} {cl:List (Str × Addr)} {x:Str} {c:Addr} (h:subCl env cl) (e:cl.lookup x=some c):env.cells.lookup x=some c :=
 h.all (x,c) (PySem.mem_of_lookup e)
def capt (X:Cx) (scope:Scope) (cl:List (Str × Addr)):List Str->List Nat->Prop
 | [],[]=>True
 | y::ys,j::js=>(X.N[j]?=some y/\X.env.kindOf y=some .cell/\(relabel scope X.env).names.lookup y=some .cell/\∃ c,cl.lookup y=some c)/\capt X scope cl ys js
 | _,_=>False
theorem capt.get {X:Cx} {scope:Scope} {cl:List (Str × Addr)} : ∀ {ys:List Str} {js:List Nat} {k:Nat} {y:Str},capt X scope cl ys js->ys[k]?=some y →
  ∃ j,js[k]?=some j/\X.N[j]?=some y/\X.env.kindOf y=some .cell/\(relabel scope X.env).names.lookup y=some .cell/\∃ c,cl.lookup y=some c
 | [],[],k,y,_,e=>by simp at e
 | y'::ys,j::js,0,y,h,e=>by
  simp at e
  subst e
  exact⟨j,rfl,h.1⟩
 | y'::ys,j::js,k + 1,y,h,e=>by
  obtain⟨j',e1,r⟩:=capt.get (k:=k) h.2 (by simpa using e)
  exact⟨j',by simpa using e1,r⟩
 | [],_::_,_,_,h,_=>h.elim
 | _::_,[],_,_,h,_=>h.elim
theorem capt.len {X:Cx} {scope:Scope} {cl:List (Str × Addr)} : ∀ {ys:List Str} {js:List Nat},capt X scope cl ys js->ys.length=js.length
 | [],[],_=>rfl
 | _::_,_::_,h=>by rw [List.length_cons,List.length_cons,capt.len h.2]
 | [],_::_,h=>h.elim
 | _::_,[],h=>h.elim
def capSt (k:Nat) (js:List Nat) (σ:St):St:=List.replicate k none++js.map fun j=>σ.getD j none
def PIf (X:Cx) (ifs:List Expr) (t:TT):Prop :=
 ∀ (pins:List (Addr × Obj)) (s:Shared) (σ:St) (H:Hp) (Q:Bool->Hp->Prop),Inv X pins σ H s->t σ H Q →
  wpAny (model X.prog X.w) X.A (forIn ifs true fun c r=>if r=true then do let ok ← isTrue c X.env (eval c X.env);pure (ForInStep.yield ok) else pure (ForInStep.yield r)) (TP X pins σ Q) X.xe s
def tYes:TT:=fun _ H Q=>Q true H
theorem pif_nil {X:Cx} : PIf X [] tYes:=fun _ _ _ H _ I h=>wpAny_tests_nil ⟨H,I,h⟩
theorem pif_one {X:Cx} {c:Expr} {t:TT} (h:PT X c t):PIf X [c] t:=fun pins s σ H Q I hq=>wpAny_tests_one (h pins s σ H Q I hq)
def CompR (J:It) (k:Nat) (js:List Nat) (g:TG) (tc:TT) (te:TE) (σ:St) (Q:VK) (H1:Hp):Prop :=
 ∃ W:Nat->Nat->St->List V->Hp->Prop,(∃ m,W 0 m (capSt k js σ) [] H1)/\∀ i m σ' xs H',W i m σ' xs H' →
  (J.stop i H'/\∀ p,H' p=none->Q (.ref p) (upd H' p (.lst xs))) ∨
  (J.go i H'/\xs.length < sizeLine/\∃ N:St->List V->Hp->Prop,(∀ σ' ys H',N σ' ys H'->∃ m',m' < m/\W (i + 1) m' σ' ys H') ∧
   ∀ x H2,J.yld i H' x H2->g x σ' H2 fun σ3 H3=>tc σ3 H3 fun b H4=>if b=true then te σ3 H4 fun v H5=>N σ3 (xs++[v]) H5 else N σ3 xs H4)
def tComp (wi:TI) (k:Nat) (js:List Nat) (g:TG) (tc:TT) (te:TE):TE:=fun σ H Q=>wi σ H fun J H1=>CompR J k js g tc te σ Q H1
section
variable {prog:Program} {w:World} {A:Around} {R:Result->Shared->Prop} {s:Shared}
theorem compLoop_gen {elt target iter:Expr} {ifs:List Expr} {scope:Scope} {pos:Pos} {it acc:Value} {env:Env} (I:Nat->Shared->Prop)
  (turn:∀ n s,I n s->wpAny (model prog w) A (pyNext it) (fun r s₁=>match r with
   | none=>R (.ok .next) s₁
   | some v=>wpAny (model prog w) A (letOwnedTupleGo target it v) (fun _ s₀=>wpAny (model prog w) A (assign target env v) (fun _ s₂ =>
     wpAny (model prog w) A (forIn ifs true fun c r=>if r=true then do let ok ← isTrue c env (eval c env);pure (ForInStep.yield ok) else pure (ForInStep.yield r)) (fun ok s₃ =>
      if ok=true then wpAny (model prog w) A (eval elt env) (fun x s₄ =>
       wpAny (model prog w) A (call (.builtin "list.append") [acc,x]) (fun _ s₅=>∃ m,m < n/\I m s₅) (fun _ _=>False) s₄) (fun _ _=>False) s₃
      else ∃ m,m < n/\I m s₃) (fun _ _=>False) s₂) (fun _ _=>False) s₀) (fun _ _=>False) s₁) (fun _ _=>False) s)
  (n:Nat) (h:I n s):codeAny (model prog w) A (.compLoop (.ListComp elt [⟨target,iter,ifs,0⟩] scope pos) 0 it acc env) R s:=by
 refine codeAny_loop rfl I (fun n s hI=>?_) n h
 show wpAny _ A ((compTurn (.ListComp elt [⟨target,iter,ifs,0⟩] scope pos) 0 it acc env).onRaise (fun x=>do noteFrame x env;theTreesLotGoes x)) _ _ s
 refine wpAny_noted ?_
 rw [compTurn_list]
 refine wpAny_bind (wpAny_standAt (wpAny_bind (wpAny_mono (turn n s hI) (fun r s₁ h₁=>?_) fun _ _ z=>False.elim z)))
 cases r with
 | none=>exact wpAny_pure h₁
 | some v =>
  refine wpAny_bind (wpAny_mono h₁ (fun _ s₀ h₀=>?_) fun _ _ z=>False.elim z)
  refine wpAny_bind (wpAny_mono h₀ (fun _ s₂ h₂=>wpAny_bind (wpAny_mono h₂ (fun ok s₃ h₃=>?_) fun _ _ z=>False.elim z)) fun _ _ z=>False.elim z)
  cases ok with
  | false=>exact wpAny_pure ⟨rfl,h₃⟩
  | true =>
   exact wpAny_bind (wpAny_bind (wpAny_mono h₃ (fun x s₄ h₄=>wpAny_bind (wpAny_mono h₄ (fun _ s₅ h₅=>wpAny_pure (wpAny_pure ⟨rfl,h₅⟩)) fun _ _ z=>False.elim z)) fun _ _ z=>False.elim z))
end
theorem HOk.but {P:Program} {w:World} {H:Hp} {h h':Heap} {C:Addr} (x:HOk P w H h) (hn:H C=none) (k:∀ b o,b ≠ C->h.get? b=some o->h'.get? b=some o):HOk P w H h':=fun b u e =>
 (x b u e).stay (fun c v hc q=>k c v (by
  rcases hc with z|z
  ·intro y;rw [← z,y,hn] at e;cases e
  ·intro y;rw [y,hn] at z;cases z) q) (fun _ q=>q) fun _ _ q=>q
theorem HOk.track {P:Program} {w:World} {H:Hp} {h:Heap} {a:Addr} {o:HO} (x:HOk P w H h) (hn:H a=none) (new:ObjOk P w (upd H a o) h a o):HOk P w (upd H a o) h:=fun b u e=>by
 by_cases hb:b=a
 ·subst hb;rw [upd_same] at e;cases e;exact new
 ·rw [upd_ne hb] at e
  exact (x b u e).stay (fun _ _ _ q=>q) (fun c q=>by rw [upd_ne (ne_of_none q hn)];exact q) fun c xs q=>by rw [upd_ne (ne_of_none q hn)];exact q
section
variable {X:Cx} {elt tg iter:Expr} {ifs:List Expr} {scope:Scope} {cl:List (Str × Addr)} {ts ys:List Str} {js:List Nat} {pos:Pos} {wi:TI} {g:TG} {tc:TT} {te:TE}
theorem capSt_get {k:Nat} {σ:St} {i:Nat} {v:V} (h:(capSt k js σ)[i]?=some (some v)):∃ n j,i=k + n/\js[n]?=some j/\σ[j]?=some (some v):=by
 unfold capSt at h
 by_cases hi:i < k
 ·rw [List.getElem?_append_left (by simpa using hi),List.getElem?_replicate] at h
  split at h <;> cases h
 ·rw [List.getElem?_append_right (by simpa using hi),List.getElem?_map,List.length_replicate] at h
  cases e:js[i - k]? with
  | none=>rw [e] at h;cases h
  | some j =>
   rw [e] at h
   have h' : σ.getD j none=some v:=Option.some.inj h
   refine⟨i - k,j,by omega,e,?_⟩
   rw [List.getD_eq_getElem?_getD] at h'
   cases q : σ[j]? with
   | none=>rw [q] at h';cases h'
   | some o=>rw [q] at h';exact congrArg some h'
theorem inv_comp {pins:List (Addr × Obj)} {σ:St} {H:Hp} {s:Shared} {fp:List Addr} {C:Addr} {h1:Heap} {m:Str->Option Value} {t':Nat} (I:Inv X pins σ H s) (hsub:subCl X.env cl) (hcap:capt X scope cl ys js)
  (hkind:scope.kind=.function) (hhas:∀ x,((relabel scope X.env).names.lookup x=some .cell\/(relabel scope X.env).names.lookup x=some .free)->∃ c,cl.lookup x=some c)
  (f2:∀ b ∈ fp,FpOk X pins H b) (fl:∀ b ∈ fp,b < s.heap.objs.size) (hC:s.heap.objs.size<=C) (hn:h1.Ns C m) (old:∀ b o,s.heap.get? b=some o->h1.get? b=some o) :
  Inv (X.comp scope cl (ts++ys) s H fp C) [] (capSt ts.length js σ) H { s with heap:=h1,toks:=t' }:=by
 obtain⟨mo,hno,hlo⟩:=id I.loc
 refine⟨⟨I.ok.mod,hkind,I.ok.glob,I.ok.blt,hC,fun x y c e1 e2=>I.ok.inj x y c (hsub.at e1) (hsub.at e2),fun x hx=>hhas x hx,fun x c z _=>(by cases z),I.ok.hd,I.ok.frames,.inl rfl,
   fun b hb=>⟨Nat.ne_of_lt (Nat.lt_of_lt_of_le (fl b hb) hC),fun x c e=>(f2 b hb).2.2.2.2.1 x c (hsub.at e)⟩,I.bs,Nat.le_trans I.ok.bsz I.sz,fun b o e hb=>?_,fun b hb z=>?_,I.stack,I.stkFree⟩,
  rfl,I.bare,Un.kept old,⟨m,hn,fun i x v e1 e2 e3=>?_⟩,fun x c e=>?_,I.hok.fresh hC,fun x c e=>I.freeC x c (hsub.at e),fun p hp=>absurd (show p ∈ ([]:List (Addr × Obj)) from hp) (by simp),I.hok.kept old,?_⟩
 ·-- an object of the base is none of the iterator's
  obtain⟨_,_,_,h3,_⟩:=f2 b hb
  rcases h3 with z|z
  ·exact I.ok.noex b o e z
  ·exact absurd (Nat.lt_of_lt_of_le (Heap.lt_size e) (Nat.le_trans I.ok.bsz z)) (Nat.lt_irrefl _)
 ·obtain⟨_,h1',h2',_⟩:=f2 b hb
  rcases List.mem_cons.mp (I.stkSub b z) with e|e
  ·exact h1' e
  ·exact h2' e
 ·obtain⟨n,j,rfl,ej,es⟩:=capSt_get e2
  have ey:ys[n]?=some x:=by
   have e1':(ts++ys)[ts.length + n]?=some x:=e1
   rw [List.getElem?_append_right (by omega)] at e1'
   simpa using e1'
  obtain⟨j',ej',hN,hk,hr,c,hc⟩:=hcap.get ey
  rw [ej] at ej'
  cases ej'
  obtain⟨u,ru,l⟩:=hlo j x v hN es (.inr (.inl hk))
  refine⟨u,ru,.inr ⟨.inl hr,c,hc,?_⟩⟩
  rcases l with⟨k1,_⟩|⟨_,c',hc',⟨o,ho,hd⟩⟩
  ·rw [hk] at k1;cases k1
  ·have:=hsub.at hc
   rw [hc'] at this
   cases this
   exact⟨o,old _ o ho,hd⟩
 ·obtain⟨v,o,ho,hd⟩:=I.cell x c (hsub.at e)
  exact⟨v,o,old _ o ho,hd⟩
 ·show (capSt ts.length js σ).length=(ts++ys).length
  unfold capSt
  rw [List.length_append,List.length_append,List.length_replicate,List.length_map,hcap.len]
theorem comp_end {pins pins':List (Addr × Obj)} {σ σ':St} {H2 H3:Hp} {s2 s4:Shared} {fp:List Addr} {C D:Addr} {N:List Str} {h':Heap} {its:List Value} {xs:List V} {n:Nat} (I2:Inv X pins σ H2 s2) (f2:∀ b ∈ fp,FpOk X pins H2 b)
  (I4:Inv (X.comp scope cl N s2 H2 fp C) pins' σ' H3 s4) (hC:s2.heap.objs.size<=C) (hD:s2.heap.objs.size<=D) (hDC:D ≠ C) (hs':Heap.SameBut C s4.heap h') (rv:Vals xs its) (hz:xs.length<=sizeLine) (e4:s4.heap.get? D=some { cls:=.type "list",data:=.seq its.toArray n }) (hn:H3 D=none) :
  Inv X pins σ (upd H3 D (.lst xs)) { s4 with heap:=h' }:=by
 have ext:=hs'.extBut
 have neC:∀ b o,s2.heap.get? b=some o->b ≠ C:=fun b o e=>Nat.ne_of_lt (Nat.lt_of_lt_of_le (Heap.lt_size e) hC)
 have neD:∀ b o,s2.heap.get? b=some o->b ≠ D:=fun b o e=>Nat.ne_of_lt (Nat.lt_of_lt_of_le (Heap.lt_size e) hD)
 have hok:HOk X.prog X.w (upd H3 D (.lst xs)) h':=by
  have h1:HOk X.prog X.w H3 h':=HOk.but (C:=C) I4.hok I4.free fun b o hb e=>ext b o hb e
  exact HOk.track h1 hn ⟨hz,its,n,rv,ext D _ hDC e4⟩
 have B:Un (frs X.stack) fp H2 H3 s2.heap s4.heap:=I4.base
 have u:Un (frs X.stack) fp H2 (upd H3 D (.lst xs)) s2.heap h':=by
  refine⟨fun b o e q hb hx=>ext b o (neC b o e) (B.keep b o e q hb hx),fun b o e q hb hx=>?_,fun b o e q hx=>?_,fun b o e hx=>?_,fun b ys q=>?_,fun b o ys q=>?_,fun b ps q=>?_⟩
  ·obtain⟨sl,e1⟩:=B.slot b o e q hb hx
   exact⟨sl,ext b _ (neC b o e) e1⟩
  ·rw [upd_ne (neD b o e)];exact B.free b o e q hx
  ·obtain⟨o',e1⟩:=B.there b o e hx
   exact⟨o',ext b _ (neC b o e) e1⟩
  ·have:=B.tups b ys q
   rw [upd_ne (ne_of_none this hn)];exact this
  ·have:=B.frzs b o ys q
   rw [upd_ne (ne_of_none this hn)];exact this
  ·obtain⟨m1,e1⟩:=B.tbls b ps q
   exact⟨m1,by rw [upd_ne (ne_of_none e1 hn)];exact e1⟩
 have os:s4.os=s2.os:=I4.os
 have gb:=I4.bare
 obtain⟨hh,gg,dd,tt,os'⟩:=s4
 obtain rfl:os'=s2.os:=os
 have fin:=I2.call (h':=h') (g':=gg) (d':=dd) (t':=tt) (ch:=fp) u hok gb fun b hb=>⟨(f2 b hb).2.2.2.1,(f2 b hb).2.1,(f2 b hb).2.2.2.2.1,(f2 b hb).2.2.2.2.2⟩
 exact fin
end
abbrev capV (js:List Nat) (σ:St):St:=js.map fun j=>σ.getD j none
def CompN (P:Nat->List V->Hp->Prop) (i:Nat) (js:List Nat) (σ:St):St->List V->Hp->Prop:=fun σ' ys H=>P (i + 1) ys H/\∃ o,σ'=o::capV js σ
theorem comp_list {K:Frag} {a:Addr} {xs:List V} {k:Nat} {js:List Nat} {tc:TT} {te:TE} {σ:St} {Q:VK} {H1:Hp} (P:Nat->List V->Hp->Prop) (h0:P 0 [] H1) (hl:∀ i ys H,i<=xs.length->P i ys H->SqL K H a xs/\ys.length<=i) (hz:xs.length < sizeLine)
  (hs:∀ i x ys H,xs[i]?=some x->P i ys H->tc (some x::capV js σ) H fun b H2=>if b=true then te (some x::capV js σ) H2 fun v H3=>CompN P i js σ (some x::capV js σ) (ys++[v]) H3 else CompN P i js σ (some x::capV js σ) ys H2)
  (hd:∀ ys H,P xs.length ys H->∀ p,H p=none->Q (.ref p) (upd H p (.lst ys))) (hk:k=1:=by rfl) :
  CompR (Itl K a) k js (gName 0) tc te σ Q H1:=by
 subst hk
 refine⟨fun i m σ' ys H=>m=xs.length - i/\i<=xs.length/\P i ys H/\∃ o,σ'=o::capV js σ,⟨xs.length,by simp,Nat.zero_le _,h0,none,rfl⟩,?_⟩
 rintro i m σ' ys H ⟨rfl,hi,p,o,rfl⟩
 obtain⟨q,hy⟩:=hl i ys H hi p
 by_cases hlt:i < xs.length
 ·refine .inr ⟨⟨xs,xs[i],q,by simp [hlt]⟩,by omega,CompN P i js σ,fun σ3 zs H3 z=>⟨xs.length - (i + 1),by omega,rfl,hlt,z.1,z.2⟩,fun x H' y=>?_⟩
  obtain⟨e,y⟩:=y
  subst e
  exact hs i x ys _ (y xs q) p
 ·have e:i=xs.length:=by omega
  subst e
  exact .inl ⟨⟨xs,q,Nat.le_refl _⟩,hd ys H p⟩
theorem comp_tup {K:Frag} {a:Addr} {xs:List V} {k:Nat} {js:List Nat} {tc:TT} {te:TE} {σ:St} {Q:VK} {H1:Hp} (P:Nat->List V->Hp->Prop) (h0:P 0 [] H1) (hl:∀ i ys H,i<=xs.length->P i ys H->SqT K H a xs/\ys.length<=i) (hz:xs.length < sizeLine)
  (hs:∀ i x ys H,xs[i]?=some x->P i ys H->tc (some x::capV js σ) H fun b H2=>if b=true then te (some x::capV js σ) H2 fun v H3=>CompN P i js σ (some x::capV js σ) (ys++[v]) H3 else CompN P i js σ (some x::capV js σ) ys H2)
  (hd:∀ ys H,P xs.length ys H->∀ p,H p=none->Q (.ref p) (upd H p (.lst ys))) (hk:k=1:=by rfl) :
  CompR (Itt K a) k js (gName 0) tc te σ Q H1:=by
 subst hk
 refine⟨fun i m σ' ys H=>m=xs.length - i/\i<=xs.length/\P i ys H/\∃ o,σ'=o::capV js σ,⟨xs.length,by simp,Nat.zero_le _,h0,none,rfl⟩,?_⟩
 rintro i m σ' ys H ⟨rfl,hi,p,o,rfl⟩
 obtain⟨q,hy⟩:=hl i ys H hi p
 by_cases hlt:i < xs.length
 ·refine .inr ⟨⟨xs,xs[i],q,by simp [hlt]⟩,by omega,CompN P i js σ,fun σ3 zs H3 z=>⟨xs.length - (i + 1),by omega,rfl,hlt,z.1,z.2⟩,fun x H' y=>?_⟩
  obtain⟨e,y⟩:=y
  subst e
  exact hs i x ys _ (y xs q) p
 ·have e:i=xs.length:=by omega
  subst e
  exact .inl ⟨⟨xs,q,Nat.le_refl _⟩,hd ys H p⟩
theorem comp_range {lo:Int} {n:Nat} {k:Nat} {js:List Nat} {tc:TT} {te:TE} {σ:St} {Q:VK} {H1:Hp} (P:Nat->List V->Hp->Prop) (h0:P 0 [] H1) (hl:∀ i ys H,i<=n->P i ys H->ys.length<=i) (hz:n < sizeLine)
  (hs:∀ i ys H,i < n->P i ys H->tc (some (.int (lo + i))::capV js σ) H fun b H2=>if b=true then te (some (.int (lo + i))::capV js σ) H2 fun v H3=>CompN P i js σ (some (.int (lo + i))::capV js σ) (ys++[v]) H3 else CompN P i js σ (some (.int (lo + i))::capV js σ) ys H2)
  (hd:∀ ys H,P n ys H->∀ p,H p=none->Q (.ref p) (upd H p (.lst ys))) (hk:k=1:=by rfl) :
  CompR (Itr lo n) k js (gName 0) tc te σ Q H1:=by
 subst hk
 refine⟨fun i m σ' ys H=>m=n - i/\i<=n/\P i ys H/\∃ o,σ'=o::capV js σ,⟨n,by simp,Nat.zero_le _,h0,none,rfl⟩,?_⟩
 rintro i m σ' ys H ⟨rfl,hi,p,o,rfl⟩
 have hy:=hl i ys H hi p
 by_cases hlt:i < n
 ·refine .inr ⟨hlt,by omega,CompN P i js σ,fun σ3 zs H3 z=>⟨n - (i + 1),by omega,rfl,hlt,z.1,z.2⟩,fun x H' y=>?_⟩
  obtain⟨e,y⟩:=y
  subst e
  subst y
  exact hs i ys _ hlt p
 ·have e:i=n:=by omega
  subst e
  exact .inl ⟨Nat.le_refl _,hd ys H p⟩
section
variable {X:Cx}
theorem ix_tupK (K:Frag) (h:X.K=K):IxR X (rIxT K):=h ▸ ix_tup
theorem ix_listK (K:Frag) (h:X.K=K):IxR X (rIxL K):=h ▸ ix_list
end
section
variable {κ : Type} [DecidableEq κ]
def valV (kvs:List (κ × V)) (k : κ):Option V:=(kvs.find? fun kv=>decide (kv.1=k)).map (·.2)
def putK (kvs:List (κ × V)) (k : κ) (v:V):List (κ × V) :=
 if (kvs.any fun kv=>decide (kv.1=k))=true then kvs.map (fun kv=>if kv.1=k then (kv.1,v) else kv) else kvs++[(k,v)]
def dropK (kvs:List (κ × V)) (k : κ):List (κ × V):=kvs.filter fun kv=>decide (kv.1 ≠ k)
theorem valV_pos {p : κ × V} {r:List (κ × V)} {k : κ} (e:p.1=k):valV (p::r) k=some p.2:=by simp [valV,List.find?_cons,e]
theorem valV_neg {p : κ × V} {r:List (κ × V)} {k : κ} (e:¬ p.1=k):valV (p::r) k=valV r k:=by simp [valV,List.find?_cons,e]
theorem valV_any (k : κ):∀ kvs:List (κ × V),(kvs.any fun kv=>decide (kv.1=k))=(valV kvs k).isSome
 | []=>rfl
 | p::r=>by
  rw [List.any_cons]
  by_cases e:p.1=k
  ·simp only [valV_pos e,decide_eq_true e,Bool.true_or,Option.isSome_some]
  ·rw [valV_neg e,decide_eq_false e,Bool.false_or];exact valV_any k r
theorem length_putK (kvs:List (κ × V)) (k : κ) (v:V):(putK kvs k v).length<=kvs.length + 1:=by
 unfold putK
 split
 ·rw [List.length_map];omega
 ·rw [List.length_append,List.length_cons,List.length_nil];omega
theorem RelO.isSome_eq {o:Option V} {u:Option Value} (r:RelO o u):o.isSome=u.isSome:=by
 cases o with
 | none=>cases u with
  | none=>rfl
  | some _=>exact (show False from r).elim
 | some _=>cases u with
  | none=>exact (show False from r).elim
  | some _=>rfl
theorem RelO.getD {o:Option V} {u:Option Value} {d:V} {d':Value} (r:RelO o u) (rd:RelV d d'):RelV (o.getD d) (u.getD d'):=by
 cases o with
 | none=>cases u with
  | none=>exact rd
  | some _=>exact (show False from r).elim
 | some _=>cases u with
  | none=>exact (show False from r).elim
  | some _=>exact r
theorem KV.val {kvs:List (κ × V)} {vs:List (κ × Value)} (r:KV kvs vs) (k : κ):RelO (valV kvs k) (valueAt vs k):=by
 unfold KV at r
 induction r with
 | nil=>exact True.intro
 | @cons p q ps qs h t ih =>
  obtain⟨h1,h2⟩:=h
  by_cases e:p.1=k
  ·have e':q.1=k:=h1.symm.trans e
   have b:valueAt (q::qs) k=some q.2:=by simp [valueAt,List.find?_cons,e']
   rw [valV_pos e,b];exact h2
  ·have e':¬ q.1=k:=fun z=>e (h1.trans z)
   have b:valueAt (q::qs) k=valueAt qs k:=by simp [valueAt,List.find?_cons,e']
   rw [valV_neg e,b];exact ih
theorem KV.any {kvs:List (κ × V)} {vs:List (κ × Value)} (r:KV kvs vs) (k : κ):(kvs.any fun kv=>decide (kv.1=k))=vs.any fun kv=>decide (kv.1=k):=by
 unfold KV at r
 induction r with
 | nil=>rfl
 | cons h t ih=>rw [List.any_cons,List.any_cons,ih,h.1]
theorem KV.repl {kvs:List (κ × V)} {vs:List (κ × Value)} (r:KV kvs vs) (k : κ) {y:V} {u:Value} (ry:RelV y u) :
  KV (kvs.map fun kv=>if kv.1=k then (kv.1,y) else kv) (vs.map fun kv=>if kv.1=k then (kv.1,u) else kv):=by
 unfold KV at r ⊢
 induction r with
 | nil=>exact .nil
 | @cons p q ps qs h t ih =>
  rw [List.map_cons,List.map_cons]
  refine .cons ?_ ih
  obtain⟨h1,h2⟩:=h
  by_cases e:p.1=k
  ·rw [if_pos e,if_pos (h1.symm.trans e)];exact⟨h1,ry⟩
  ·rw [if_neg e,if_neg (fun z=>e (h1.trans z))];exact⟨h1,h2⟩
theorem KV.put {kvs:List (κ × V)} {vs:List (κ × Value)} (r:KV kvs vs) (k : κ) {y:V} {u:Value} (ry:RelV y u):KV (putK kvs k y) (stored vs k u):=by
 unfold putK stored
 rw [r.any k]
 by_cases e:(vs.any fun kv=>decide (kv.1=k))=true
 ·rw [if_pos e,if_pos e];exact r.repl k ry
 ·rw [if_neg e,if_neg e];exact Paired.snoc r ⟨rfl,ry⟩
theorem KV.drop {kvs:List (κ × V)} {vs:List (κ × Value)} (r:KV kvs vs) (k : κ):KV (dropK kvs k) (without vs k):=by
 unfold KV at r ⊢
 unfold dropK without
 induction r with
 | nil=>exact .nil
 | @cons p q ps qs h t ih =>
  obtain⟨h1,h2⟩:=h
  rw [List.filter_cons,List.filter_cons]
  by_cases e:p.1=k
  ·have a:¬ decide (p.1 ≠ k)=true:=by simp [e]
   have b:¬ decide (q.1 ≠ k)=true:=by simp [h1.symm.trans e]
   rw [if_neg a,if_neg b];exact ih
  ·have e':¬ q.1=k:=fun z=>e (h1.trans z)
   have a:decide (p.1 ≠ k)=true:=by simp [e]
   have b:decide (q.1 ≠ k)=true:=by simp [e']
   rw [if_pos a,if_pos b];exact .cons ⟨h1,h2⟩ ih
theorem KV.keys {kvs:List (κ × V)} {vs:List (κ × Value)} (r:KV kvs vs):kvs.map (·.1)=vs.map (·.1):=by
 unfold KV at r
 induction r with
 | nil=>rfl
 | cons h t ih=>rw [List.map_cons,List.map_cons,ih,h.1]
theorem KV.length {kvs:List (κ × V)} {vs:List (κ × Value)} (r:KV kvs vs):kvs.length=vs.length:=Paired.length r
end
theorem kV_is {P:Program} {w:World} {k:Key} {u:Value} (r:RelV (kV k) u):(mixKind P w).is k u=true:=by
 cases k with
 | inl i=>obtain⟨t,e⟩:=(show ∃ t,u=Value.int i t from r);subst e;exact mixKind_int P w i t
 | inr x=>obtain⟨t,e⟩:=(show ∃ t,u=Value.str x t from r);subst e;exact mixKind_str P w x t
theorem items_are {P:Program} {w:World} : ∀ {ks:List Key} {us:List Value},Vals (ks.map kV) us->ItemsAre (mixKind P w) ks us
 | [],_,r=>by rw [List.map_nil] at r;cases r;exact .nil
 | k::ks,_,r=>by
  rw [List.map_cons] at r
  cases r with
  | cons h t=>exact .cons (kV_is h) (items_are t)
abbrev KT (H:Hp):List (List Key × V)->List (List Key × Addr × Value)->Prop:=Paired fun p q=>p.1=q.1/\H q.2.1=some (.tup (p.1.map kV))/\RelV p.2 q.2.2
theorem KT.val {H:Hp} {kvs:List (List Key × V)} {xs:List (List Key × Addr × Value)} (r:KT H kvs xs) (k:List Key):RelO (valV kvs k) ((atKey xs k).map (·.2)):=by
 induction r with
 | nil=>exact True.intro
 | @cons p q ps qs h t ih =>
  obtain⟨h1,_,h2⟩:=h
  by_cases e:p.1=k
  ·have e':q.1=k:=h1.symm.trans e
   have b:atKey (q::qs) k=some q.2:=by simp [atKey,List.find?_cons,e']
   rw [valV_pos e,b];exact h2
  ·have e':¬ q.1=k:=fun z=>e (h1.trans z)
   have b:atKey (q::qs) k=atKey qs k:=by simp [atKey,List.find?_cons,e']
   rw [valV_neg e,b];exact ih
theorem KT.repl {H:Hp} {kvs:List (List Key × V)} {xs:List (List Key × Addr × Value)} (r:KT H kvs xs) (k:List Key) {y:V} {u:Value} (ry:RelV y u) :
  KT H (kvs.map fun kv=>if kv.1=k then (kv.1,y) else kv) (xs.map (putAt k u)):=by
 induction r with
 | nil=>exact .nil
 | @cons p q ps qs h t ih =>
  rw [List.map_cons,List.map_cons]
  refine .cons ?_ ih
  obtain⟨h1,h2,h3⟩:=h
  unfold putAt
  by_cases e:p.1=k
  ·rw [if_pos e,if_pos (h1.symm.trans e)];exact⟨h1,h2,ry⟩
  ·rw [if_neg e,if_neg (fun z=>e (h1.trans z))];exact⟨h1,h2,h3⟩
theorem KT.put {H:Hp} {kvs:List (List Key × V)} {xs:List (List Key × Addr × Value)} (r:KT H kvs xs) (k:List Key) {b:Addr} {y:V} {u:Value} (hb:H b=some (.tup (k.map kV))) (ry:RelV y u) :
  KT H (putK kvs k y) (storedH xs k b u):=by
 have e:(kvs.any fun kv=>decide (kv.1=k))=(atKey xs k).isSome:=by
  rw [valV_any,(r.val k).isSome_eq,Option.isSome_map]
 unfold putK storedH
 rw [e]
 by_cases q:(atKey xs k).isSome=true
 ·rw [if_pos q,if_pos q];exact r.repl k ry
 ·rw [if_neg q,if_neg q];exact Paired.snoc r ⟨rfl,hb,ry⟩
theorem KT.keeps {H H':Hp} {kvs:List (List Key × V)} {xs:List (List Key × Addr × Value)} (r:KT H kvs xs) (ht:∀ b ys,H b=some (.tup ys)->H' b=some (.tup ys)):KT H' kvs xs :=
 Paired.mapP r fun _ _ z=>⟨z.1,ht _ _ z.2.1,z.2.2⟩
section
variable {P:Program} {w:World} {H:Hp} {h:Heap} {a:Addr}
theorem rd_of {u:HO} (ok:HOk P w H h) (e:Rd H a u):ObjOk P w H h a u:=e.ok ok
theorem dk_rd {kvs:List (Key × V)} (ok:HOk P w H h) (e:Rd H a (.dK kvs)):kvs.length<=sizeLine/\(a == sysModules)=false/\∃ vs,KV kvs vs/\h.DictOf (mixKind P w) a vs :=
 show ObjOk P w H h a (.dK kvs) from rd_of ok e
theorem dk_of {kvs:List (Key × V)} (ok:HOk P w H h) (e:H a=some (.dK kvs)):kvs.length<=sizeLine/\(a == sysModules)=false/\∃ vs,KV kvs vs/\h.DictOf (mixKind P w) a vs:=dk_rd ok (.inl e)
theorem key_of {ks:List Key} (ok:HOk P w H h) (e:H a=some (.tup (ks.map kV))):(tupleKind (mixKind P w)).is h ks a:=by
 obtain⟨_,its,r,o,h1,h2,n,h3⟩:=(show ObjOk P w H h a (.tup (ks.map kV)) from ok a _ e)
 exact⟨o,its.toArray,n,h1,h2,h3,by simpa using items_are r⟩
theorem dt_rd {kvs:List (List Key × V)} (ok:HOk P w H h) (e:Rd H a (.dT kvs)):kvs.length<=sizeLine/\(a == sysModules)=false ∧
  ∃ xs,KT H kvs xs/\h.DictOfH (tupleKind (mixKind P w)) a xs:=by
 obtain⟨z,y,xs,r,o,es,ep,h1,h2,h3,h4,h5⟩:=(show ObjOk P w H h a (.dT kvs) from rd_of ok e)
 refine⟨z,y,xs,r,o,es,ep,h1,h2,h3,h4,fun x hx=>?_,h5⟩
 have all:∀ {l:List (List Key × V)} {m:List (List Key × Addr × Value)},KT H l m->∀ x ∈ m,(tupleKind (mixKind P w)).is h x.1 x.2.1:=by
  intro l m q
  induction q with
  | nil=>intro x hx;exact nomatch hx
  | @cons p q ps qs hq t ih =>
   intro x hx
   rcases List.mem_cons.mp hx with e|hx
   ·subst e
    exact key_of ok (by rw [← hq.1];exact hq.2.1)
   ·exact ih x hx
 exact all r x hx
end
def DGet (H:Hp) (a:Addr) (y:V) (r:Option V):Prop :=
 (∃ kvs k,Rd H a (.dK kvs)/\y=kV k/\r=valV kvs k)\/∃ kvs k b,Rd H a (.dT kvs)/\y=.ref b/\H b=some (.tup (k.map kV))/\r=valV kvs k
theorem DGet.k {H:Hp} {a:Addr} {kvs:List (Key × V)} {k:Key} (e:H a=some (.dK kvs)):DGet H a (kV k) (valV kvs k):=.inl ⟨kvs,k,.inl e,rfl,rfl⟩
theorem DGet.t {H:Hp} {a b:Addr} {kvs:List (List Key × V)} {k:List Key} (e:H a=some (.dT kvs)) (eb:H b=some (.tup (k.map kV))):DGet H a (.ref b) (valV kvs k):=.inr ⟨kvs,k,b,.inl e,rfl,eb,rfl⟩
section
variable {X:Cx} {pins:List (Addr × Obj)} {σ:St} {H:Hp} {s:Shared} {a:Addr} {y v:V} {u r:Value} {o:Option V} {A:Around} {E:Value->Shared->Prop}
theorem Inv.big (I:Inv X pins σ H s):sysModules < s.heap.objs.size:=by
 have h:mainGlobals < s.heap.objs.size:=(I.mod.glob.keeps I.bk).lt
 exact Nat.lt_trans (by decide) h
theorem d_getItem {Q:Value->Shared->Prop} (hu:A.units + 1 < cLine) (I:Inv X pins σ H s) (g:DGet H a y (some v)) (ry:RelV y u) (h:∀ w' s',Inv X pins σ H s'->RelV v w'->Q w' s') :
  wpAny (model X.prog X.w) A (getItem (.ref a) u) Q E s:=by
 rcases g with⟨kvs,k,e,ey,l⟩|⟨kvs,k,b,e,ey,eb,l⟩
 ·subst ey
  obtain⟨z,hd,vs,rel,dd⟩:=dk_rd I.hok e
  obtain⟨w',hw,rw'⟩:=RelO.some_of (v:=v) (o:=valueAt vs k) (by rw [l];exact rel.val k)
  exact wpAny_getItem_of (kV_is ry) dd.mapOf hw (h w' _ (I.tok _) rw')
 ·subst ey
  cases (show u=Value.ref b from ry)
  obtain⟨z,hd,xs,rel,dd⟩:=dt_rd I.hok e
  obtain⟨w',hw,rw'⟩:=RelO.some_of (v:=v) (o:=(atKey xs k).map (·.2)) (by rw [l];exact rel.val k)
  obtain⟨p,hp,hp2⟩:=Option.map_eq_some_iff.mp hw
  refine wpAny_getItem_heap (tupleKind_room_in1 hu) (key_of I.hok eb) dd hp ?_
  rw [hp2]
  exact h w' _ (I.tok _) rw'
theorem d_notIn {Q:Value->Shared->Prop} (hu:A.units + 1 < cLine) (I:Inv X pins σ H s) (g:DGet H a y o) (ry:RelV y u) (h:∀ s',Inv X pins σ H s'->Q (.bool (!o.isSome)) s') :
  wpAny (model X.prog X.w) A (compareOp .NotIn u (.ref a)) Q E s:=by
 rcases g with⟨kvs,k,e,ey,l⟩|⟨kvs,k,b,e,ey,eb,l⟩
 ·subst ey
  obtain⟨z,hd,vs,rel,dd⟩:=dk_rd I.hok e
  refine wpAny_notIn_of (kV_is ry) hd dd.mapOf ?_
  rw [← (rel.val k).isSome_eq,← l]
  exact h _ (I.tok _)
 ·subst ey
  cases (show u=Value.ref b from ry)
  obtain⟨z,hd,xs,rel,dd⟩:=dt_rd I.hok e
  refine wpAny_notIn_heap (tupleKind_room_in1 hu) (key_of I.hok eb) hd dd ?_
  have q:=(rel.val k).isSome_eq
  rw [Option.isSome_map] at q
  rw [← q,← l]
  exact h _ (I.tok _)
theorem d_write {h':Heap} {t':Nat} {ob:HO} (I:Inv X pins σ H s) (mu:Mut (H a)) (hs:Heap.SameBut a s.heap h') (he:∃ q,h'.get? a=some q) (new:ObjOk X.prog X.w (upd H a ob) h' a ob) :
  Inv X pins σ (upd H a ob) { s with heap:=h',toks:=t' } :=
 I.write (x:=a) (e:=a) mu (.inl rfl) (fun b q hb z=>(hs.2 b hb).trans z) he new
theorem dk_new {P:Program} {w:World} {H':Hp} {h':Heap} {kvs:List (Key × V)} {vs:List (Key × Value)} (z:kvs.length<=sizeLine) (hd:(a == sysModules)=false) (rel:KV kvs vs) (dd:h'.DictOf (mixKind P w) a vs) :
  ObjOk P w H' h' a (.dK kvs):=⟨z,hd,vs,rel,dd⟩
end
def NoSl (i:Expr):Prop:=∀ ov iv,subscripted i false ov iv=operate [ov,iv] (getItem ov iv)
theorem subD_of {prog:Program} {w:World} {A:Around} {E:Value->Shared->Prop} {s:Shared} {env:Env} {value slice:Expr} {pos:Pos} {T id:String} {Q:Value->Shared->Prop}
  (hl:typeLookup (.type T) "__getitem__" = pure (some (.builtin id))) (hs:NoSl slice)
  (h:wpAny (model prog w) A (eval value env) (fun o s₁=>wpAny (model prog w) A (eval slice env) (fun i s₂=>s₂.TypeIs o T/\wpAny (model prog w) A (getItem o i) Q E s₂) E s₁) E s) :
  wpAny (model prog w) A (eval (.Subscript value slice pos) env) Q E s:=by
 refine Subscript_ (wpAny_mono h (fun o s₁ h₁=>wpAny_mono h₁ (fun i s₂ h₂=>?_) fun _ _ x=>x) fun _ _ x=>x)
 obtain⟨hT,h₂⟩:=h₂
 unfold subscriptTail
 refine wpAny_bind ?_
 rw [getitemInPython_of_ne hT.not_modules]
 refine wpAny_bind (wpAny_specialOf hT hl ?_)
 have fin:wpAny (model prog w) A (subscripted slice false o i) (fun r s₃=>wpAny (model prog w) A (letTemporaryGo value o r >>= fun _=>pure r) Q E s₃) E s₂:=by
  rw [hs o i]
  exact wpAny_operating (wpAny_mono h₂ (fun r s₃ h₃=>wpAny_bind (wpAny_letTemporaryGo (wpAny_pure h₃))) fun _ _ x=>x)
 first
  | exact wpAny_pure (wpAny_bind fin)
  | exact wpAny_bind (wpAny_pure (wpAny_bind fin))
  | exact wpAny_bind fin
theorem dict_typeIs {X:Cx} {pins:List (Addr × Obj)} {σ:St} {H:Hp} {s:Shared} {a:Addr} {y:V} {o:Option V} (I:Inv X pins σ H s) (g:DGet H a y o):s.TypeIs (.ref a) "dict":=by
 rcases g with⟨kvs,k,e,_,_⟩|⟨kvs,k,b,e,_,_,_⟩
 ·obtain⟨_,_,vs,_,dd⟩:=dk_rd I.hok e
  exact dd.typeIs
 ·obtain⟨_,_,xs,_,dd⟩:=dt_rd I.hok e
  exact dd.typeIs
def tDGet (td ty:TE):TE:=fun σ H Q=>td σ H fun x H1=>ty σ H1 fun y H2=>∃ a v,x=.ref a/\DGet H2 a y (some v)/\Q v H2
def tDNotIn (ty td:TE):TE:=fun σ H Q=>ty σ H fun y H1=>td σ H1 fun x H2=>∃ a o,x=.ref a/\DGet H2 a y o/\Q (.bl (!o.isSome)) H2
section
variable {X:Cx} {o i e value:Expr} {pos pos' tpos:Pos} {td ty tv:TE}
theorem pe_dget (hu:X.A.units + 1 < cLine) (ho:PE X o td) (hi:PE X i ty) (hs:NoSl i):PE X (.Subscript o i pos) (tDGet td ty):=by
 intro pins s σ H Q I h
 refine subD_of PySem.F.slot_dict_getitem.lookup hs (thn (ho pins s σ H _ I h) fun u s1 ⟨x,H1,I1,rx,q1⟩=>thn (hi pins s1 σ H1 _ I1 q1) fun iv s2 ⟨y,H2,I2,ry,a,v,ex,g,q2⟩=>?_)
 subst ex
 obtain rfl:u=Value.ref a:=rx
 exact⟨dict_typeIs I2 g,d_getItem hu I2 g ry fun w' s3 I3 rw'=>⟨v,H2,I3,rw',q2⟩⟩
theorem pc_dnotin (hu:X.A.units + 1 < cLine) (hi:PE X i ty) (ho:PE X o td):PC X .NotIn i o (tDNotIn ty td):=by
 intro pins s σ H Q I h
 refine thn (hi pins s σ H _ I h) fun iv s1 ⟨y,H1,I1,ry,q1⟩=>thn (ho pins s1 σ H1 _ I1 q1) fun u s2 ⟨x,H2,I2,rx,a,ov,ex,g,q2⟩=>?_
 subst ex
 obtain rfl:u=Value.ref a:=rx
 exact d_notIn hu I2 g ry fun s3 I3=>⟨.bl (!ov.isSome),H2,I3,rfl,q2⟩
end
theorem dk_empty {P:Program} {w:World} {H:Hp} (h:Heap) (hb:sysModules < h.objs.size):ObjOk P w H (h.push { cls:=.type "dict",data:=.dict #[] }) h.objs.size (.dK []) :=
 ⟨Nat.zero_le _,beq_eq_false_iff_ne.mpr (Ne.symm (Nat.ne_of_lt hb)),[],.nil,Heap.DictOf.new h⟩
def tDNewK:TE:=fun _ H Q=>∀ p,H p=none->Q (.ref p) (upd H p (.dK []))
section
variable {X:Cx} {pos:Pos}
theorem pe_dnewK:PE X (.Dict [] [] pos) tDNewK:=fun pins s σ H Q I h =>
 wpAny_Dict_empty ⟨.ref s.heap.objs.size,_,I.laid (a:=s.heap.objs.size) (o:=.dK []) (t':=s.toks) (fun _ _ q=>Heap.get?_push_of_some _ q) (Nat.le_refl _) (dk_empty s.heap I.big),rfl,h _ (I.hok.fresh (Nat.le_refl _))⟩
end
def tPairs:List (TE × TE)->St->Hp->(List (V × V)->Hp->Prop)->Prop
 | [],_,H,Q=>Q [] H
 | (tk,tv)::r,σ,H,Q=>tk σ H fun x H1=>tv σ H1 fun y H2=>tPairs r σ H2 fun ps H3=>Q ((x,y)::ps) H3
abbrev VV:List (V × V)->List (Value × Value)->Prop:=Paired fun p q=>RelV p.1 q.1/\RelV p.2 q.2
def PPs (X:Cx) (pos:Pos) (keys:List (Option Expr)) (values:List Expr) (trs:List (TE × TE)):Prop :=
 ∀ (pins:List (Addr × Obj)) (s:Shared) (σ:St) (H:Hp) (Q:List (V × V)->Hp->Prop),Inv X pins σ H s->tPairs trs σ H Q →
  wpAny (model X.prog X.w) X.A (evalPairs (pairTrees keys values X.env pos)) (fun vs s'=>∃ ps H',Inv X pins σ H' s'/\VV ps vs/\Q ps H') X.xe s
theorem pps_nil {X:Cx} {pos:Pos} : PPs X pos [] [] []:=fun pins s σ H Q I h=>pairTrees_nil_walk ⟨[],H,I,.nil,h⟩
theorem pps_cons {X:Cx} {pos:Pos} {k v:Expr} {ks:List (Option Expr)} {vs:List Expr} {tk tv:TE} {trs:List (TE × TE)} (hk:PE X k tk) (hv:PE X v tv) (hr:PPs X pos ks vs trs) :
  PPs X pos (some k::ks) (v::vs) ((tk,tv)::trs):=fun pins s σ H Q I h =>
 pairTrees_cons_walk (thn (hk pins s σ H _ I h) fun u s1 ⟨x,H1,I1,rx,q1⟩=>thn (hv pins s1 σ H1 _ I1 q1) fun w2 s2 ⟨y,H2,I2,ry,q2⟩ =>
  thn (hr pins s2 σ H2 _ I2 q2) fun ws s3 ⟨ps,H3,I3,rel,q3⟩=>⟨(x,y)::ps,H3,I3,.cons ⟨rx,ry⟩ rel,q3⟩)
def mergeK (kvs more:List (Key × V)):List (Key × V):=more.foldl (fun acc kv=>putK acc kv.1 kv.2) kvs
theorem KV.merge:∀ {more:List (Key × V)} {rs:List (Key × Value)} {kvs:List (Key × V)} {vs:List (Key × Value)},KV more rs->KV kvs vs->KV (mergeK kvs more) (merged vs rs):=by
 intro more rs kvs vs r
 unfold KV at r
 induction r generalizing kvs vs with
 | nil=>intro q;exact q
 | @cons p q ps qs h t ih =>
  intro r0
  have e:KV (putK kvs p.1 p.2) (stored vs q.1 q.2):=by
   have:=r0.put p.1 h.2
   rw [← h.1];exact this
  exact ih e
theorem length_mergeK:∀ (more kvs:List (Key × V)),(mergeK kvs more).length<=kvs.length + more.length
 | [],kvs=>by show kvs.length<=kvs.length + 0;omega
 | p::r,kvs=>by
  have h1:=length_mergeK r (putK kvs p.1 p.2)
  have h2:=length_putK kvs p.1 p.2
  show (mergeK (putK kvs p.1 p.2) r).length<=_
  rw [List.length_cons];omega
theorem carries_of {P:Program} {w:World} : ∀ {kvs:List (Key × V)} {ws:List (Value × Value)},VV (kvs.map fun kv=>(kV kv.1,kv.2)) ws->∃ rs,Carries (mixKind P w) ws rs/\KV kvs rs
 | [],_,r=>by rw [List.map_nil] at r;cases r;exact⟨[],True.intro,.nil⟩
 | p::kvs,_,r=>by
  rw [List.map_cons] at r
  cases r with
  | @cons a b as bs h t =>
   obtain⟨rs,c,q⟩:=carries_of (P:=P) (w:=w) t
   obtain⟨b1,b2⟩:=b
   exact⟨(p.1,b2)::rs,⟨kV_is h.1,rfl,c⟩,.cons ⟨rfl,h.2⟩ q⟩
def tDisp (trs:List (TE × TE)):TE:=fun σ H Q=>∀ p,H p=none->tPairs trs σ (upd H p (.dK [])) fun ps H2=>H2 p=some (.dK [])/\∃ kvs:List (Key × V),ps=kvs.map (fun kv=>(kV kv.1,kv.2))/\kvs.length<=15/\Q (.ref p) (upd H2 p (.dK (mergeK [] kvs)))
theorem pe_disp {X:Cx} {pos:Pos} {keys:List (Option Expr)} {values:List Expr} {trs:List (TE × TE)} (h:PPs X pos keys values trs) (hall:keys.all (·.isSome)=true) (hl:keys.length=values.length) (h0:keys ≠ [])
  (h15:keys.length<=15):PE X (.Dict keys values pos) (tDisp trs):=by
 intro pins s σ H Q I q
 have hn:=I.hok.fresh (Nat.le_refl s.heap.objs.size)
 have I1:=I.laid (a:=s.heap.objs.size) (o:=.dK []) (h':=s.heap.push { cls:=.type "dict",data:=.dict #[] }) (t':=s.toks) (fun _ _ q=>Heap.get?_push_of_some _ q) (Nat.le_refl _) (dk_empty s.heap I.big)
 refine wpAny_Dict_walk (knd:=mixKind X.prog X.w) hall hl h0 h15 (thn (h pins _ σ _ _ I1 (q _ hn)) fun ws s2 ⟨ps,H2,I2,rel,e,kvs,ep,lk,q2⟩=>?_)
 subst ep
 obtain⟨rs,c,rk⟩:=carries_of (P:=X.prog) (w:=X.w) rel
 obtain⟨z,hd,vs0,r0,dd⟩:=dk_of I2.hok e
 cases r0
 refine⟨rs,c,dd,fun h' dd' hs=>⟨.ref s.heap.objs.size,_,?_,rfl,q2⟩⟩
 have hz:(mergeK [] kvs).length<=sizeLine:=by
  have h1:=length_mergeK kvs []
  rw [List.length_nil] at h1
  rw [sizeLine_eq];omega
 have he:∃ q,h'.get? s.heap.objs.size=some q:=let ⟨q,_,_,hq,_⟩:=dd'; ⟨q,hq⟩
 exact d_write I2 (by rw [e];exact True.intro) hs he (dk_new hz hd (rk.merge .nil) dd')
section
variable {X:Cx}
theorem call_isiD:CallR X (.builtin "isinstance") (fun xs H Q=>∃ p T kvs,xs=[.ref p,.ty T]/\T ∈ isiTs/\H p=some (.dK kvs)/\Q (.bl (isa "dict" T)) H):=by
 intro pins s σ H xs us Q I r h
 obtain⟨p,T,kvs,rfl,hT,ht,q⟩:=h
 obtain⟨u,w',rfl,rx,rT⟩:=vals2 r
 cases rT
 cases rx
 have hT':T = "int" ∨ T = "bool" ∨ T = "str" ∨ T = "list" ∨ T = "tuple" ∨ T = "dict":=by simpa [isiTs] using hT
 have fin:∀ {k:Bool} {s':Shared},isa "dict" T=k->Inv X pins σ H s'->EP X pins σ Q (.bool k) s':=fun {k s'} e I'=>by subst e;exact⟨.bl _,H,I',rfl,q⟩
 obtain⟨_,_,vs,_,o,es,ep,e,hx,_⟩:=I.hok p _ ht
 have hc:o.cls=.type "dict":=hx.1
 rcases hT' with rfl|rfl|rfl|rfl|rfl|rfl
 ·exact IsiPair.dict_int e hc (fin (by decide) (I.tok _))
 ·exact IsiPair.dict_bool e hc (fin (by decide) (I.tok _))
 ·exact IsiPair.dict_str e hc (fin (by decide) (I.tok _))
 ·exact IsiPair.dict_list e hc (fin (by decide) (I.tok _))
 ·exact IsiPair.dict_tuple e hc (fin (by decide) (I.tok _))
 ·exact IsiPair.dict_dict e hc (fin (by decide) I)
def Itx (x:Str):It:=⟨fun i _=>i < x.cps.size,fun i H v H'=>H'=H/\∃ c,x.cps[i]?=some c/\v=.str ⟨#[c]⟩,fun i _=>x.cps.size<=i⟩
theorem turn_str {P:Program} {w:World} {K:Frag} {tg:Expr} (it:Addr) (x:Str) (t:Tok) (ty:String)
  (hty : ["enumerate","zip","dict_itemiterator","dict_reverseitemiterator","odict_iterator","itertools.zip_longest","itertools.pairwise"].contains ty=false)
  (W:∀ A:Around,A.handled=none->Walks P w A it [it] [it] x.cps.size (SignAt x) (fun i h=>h.IsStrIter it ty x t i))
  (hself:∀ (A:Around) (i:Nat) (s:Shared) (Q:Value->Shared->Prop) (E:Value->Shared->Prop),s.heap.IsStrIter it ty x t i->Q (.ref it) s->wpAny (model P w) A (pyIter (.ref it)) Q E s):Turn P w K tg (Itx x) [it] it (fun i h=>h.IsStrIter it ty x t i/\i<=x.cps.size) where
 mem:=by simp
 obj:=fun i h st b hb=>by
  have e:b=it:=by simpa using hb
  subst e
  obtain⟨⟨o,e,c,d⟩,_⟩:=st
  exact⟨o,e,fun v z=>by rw [d] at z;cases z⟩
 keep:=fun i h h' st k=>⟨let ⟨o,ho,r⟩:=st.1; ⟨o,k it (by simp) o ho,r⟩,st.2⟩
 item:=by
  intro X hP hw hK hc i pins s σ H E I hf st hg
  subst hP hw hK
  obtain⟨f0,f1,f2,f3,f4,f5⟩:=hf it (by simp)
  refine (W X.A (I.ok.hd hc)).item i s _ _ hg st.1 fun v h' tk hv st' kk=>?_
  obtain⟨c,u,hcc,rfl⟩:=hv
  have I1:Inv X pins σ H { s with heap:=h',toks:=tk }:=I.turned (fun b o hb e=>kk b o (by simpa using hb) e) f0 f1 f3 f4 f5
  obtain⟨o,e,cc,d⟩:=id st'
  exact⟨_,rfl,go_of (s:={ s with heap:=h',toks:=tk }) e cc d hty ⟨.str ⟨#[c]⟩,H,I1,⟨u,rfl⟩,⟨rfl,c,hcc,rfl⟩,⟨st',hg⟩,fun b hb=>(hf b hb).1⟩⟩
 done:=by
  intro X hP hw hK hc i pins s σ H E I hf st hg
  subst hP hw hK
  obtain⟨f0,f1,f2,f3,f4,f5⟩:=hf it (by simp)
  have hi:i=x.cps.size:=Nat.le_antisymm st.2 hg
  subst hi
  exact (W X.A (I.ok.hd hc)).done s _ _ st.1 fun h' tk eb=>⟨rfl,I.turned (fun b o hb e=>eb b o (by simpa using hb) e) f0 f1 f3 f4 f5⟩
 self:=fun A i s Q E st h=>hself A i s Q E st.1 h
def iStr (tl:TE):TI:=fun σ H R=>tl σ H fun v H1=>∃ x,v=.str x/\R (Itx x) H1
theorem pi_str {tg l:Expr} {tl:TE} (hl:PE X l tl):PI X tg l (iStr tl):=by
 intro pins s σ H R I h
 refine thn (hl pins s σ H _ I h) fun v s1 ⟨y,H1,I1,r1,q1⟩=>?_
 obtain⟨x,e,q⟩:=q1
 subst e
 obtain⟨t,rfl⟩:=r1
 have fin:∀ (ty:String) (o:Obj),["enumerate","zip","dict_itemiterator","dict_reverseitemiterator","odict_iterator","itertools.zip_longest","itertools.pairwise"].contains ty=false →
   (∀ A:Around,A.handled=none->Walks X.prog X.w A s1.heap.objs.size [s1.heap.objs.size] [s1.heap.objs.size] x.cps.size (SignAt x) (fun i h=>h.IsStrIter s1.heap.objs.size ty x t i)) →
   (∀ (A:Around) (i:Nat) (s:Shared) (Q:Value->Shared->Prop) (E:Value->Shared->Prop),s.heap.IsStrIter s1.heap.objs.size ty x t i->Q (.ref s1.heap.objs.size) s->wpAny (model X.prog X.w) A (pyIter (.ref s1.heap.objs.size)) Q E s) →
   (s1.heap.push o).IsStrIter s1.heap.objs.size ty x t 0->PIE X pins σ tg R (.ref s1.heap.objs.size) { s1 with heap:=s1.heap.push o }:=fun ty o hty W hs st=>by
  refine⟨s1.heap.objs.size,[s1.heap.objs.size],_,_,H1,rfl,I1.kept (t':=s1.toks) fun b o e=>Heap.get?_push_of_some _ e,turn_str _ x t ty hty W hs,⟨st,Nat.zero_le _⟩,fun b hb=>?_,q⟩
  have e:b=s1.heap.objs.size:=by simpa using hb
  subst e
  exact I1.fpOk (Nat.le_refl _) (I1.hok.fresh (Nat.le_refl _))
 cases ha:x.cps.all (· < 128)
 ·exact wpAny_pyIter_wide ha (fin "str_iterator" _ (by decide) (fun A hA=>Walks.strWide hA _ x t) (fun A i s Q E st h=>wpAny_pyIter_striter_wide st h) ⟨_,Heap.get?_push_size _ rfl,rfl,rfl⟩)
 ·exact wpAny_pyIter_ascii ha (fin "str_ascii_iterator" _ (by decide) (fun A hA=>Walks.strAscii hA _ x t) (fun A i s Q E st h=>wpAny_pyIter_striter_ascii st h) ⟨_,Heap.get?_push_size _ rfl,rfl,rfl⟩)
theorem comp_str {x:Str} {k:Nat} {js:List Nat} {tc:TT} {te:TE} {σ:St} {Q:VK} {H1:Hp} (P:Nat->List V->Hp->Prop) (h0:P 0 [] H1) (hl:∀ i ys H,i<=x.length->P i ys H->ys.length<=i) (hz:x.length < sizeLine)
  (hs:∀ i c ys H,x.cps.toList[i]?=some c->P i ys H->tc (some (.str ⟨#[c]⟩)::capV js σ) H fun b H2=>if b=true then te (some (.str ⟨#[c]⟩)::capV js σ) H2 fun v H3=>CompN P i js σ (some (.str ⟨#[c]⟩)::capV js σ) (ys++[v]) H3 else CompN P i js σ (some (.str ⟨#[c]⟩)::capV js σ) ys H2)
  (hd:∀ ys H,P x.length ys H->∀ p,H p=none->Q (.ref p) (upd H p (.lst ys))) (hk:k=1:=by rfl) :
  CompR (Itx x) k js (gName 0) tc te σ Q H1:=by
 subst hk
 refine⟨fun i m σ' ys H=>m=x.cps.size - i/\i<=x.cps.size/\P i ys H/\∃ o,σ'=o::capV js σ,⟨x.cps.size,by simp,Nat.zero_le _,h0,none,rfl⟩,?_⟩
 rintro i m σ' ys H ⟨rfl,hi,p,o,rfl⟩
 have hy:=hl i ys H hi p
 have hz':x.cps.size < sizeLine:=hz
 by_cases hlt:i < x.cps.size
 ·refine .inr ⟨hlt,by omega,CompN P i js σ,fun σ3 zs H3 z=>⟨x.cps.size - (i + 1),by omega,rfl,hlt,z.1,z.2⟩,fun v H' y=>?_⟩
  obtain⟨e,c,hc,y⟩:=y
  subst e
  subst y
  exact hs i c ys _ (by simpa using hc) p
 ·have e:i=x.cps.size:=by omega
  subst e
  exact .inl ⟨Nat.le_refl _,hd ys H p⟩
theorem in_one (x:Str) (c:Nat):(!(Builtin.Str.occurrences x ⟨#[c]⟩ 0 x.length 1).isEmpty)=decide (c ∈ x.cps.toList):=by
 rw [PyProof.Rows.empty_one,Bool.not_not]
theorem strsAre_of {ys:List Str} : ∀ {us:List Value},Vals (ys.map V.str) us->StrsAre us ys:=by
 induction ys with
 | nil=>intro us r;cases r;exact .nil
 | cons y ys ih =>
  intro us r
  cases r with
  | cons a b=>obtain⟨t,rfl⟩:=a;exact .cons _ _ (ih b)
theorem vals_strs:∀ (tk:Nat) (ps:List Str),Vals (ps.map V.str) (strsFrom tk ps)
 | _,[]=>.nil
 | tk,p::ps=>.cons ⟨_,rfl⟩ (vals_strs (tk + 1) ps)
theorem call_int_txt:CallR X (.type "int") (fun xs H Q=>∃ (x:Str) (n:Int),xs=[.str x]/\PySem.intText? x=some n/\x.length<=640/\Q (.int n) H):=by
 intro pins s σ H xs us Q I r h
 obtain⟨x,n,rfl,h1,h2,q⟩:=h
 obtain⟨u,rfl,t,rfl⟩:=vals1 r
 exact PySem.W.KIN.call_text h1 h2 ⟨.int n,H,I.tok _,⟨_,rfl⟩,q⟩
theorem eq_strs_same {s:Shared} {A:Around} {E:Value->Shared->Prop} {prog:Program} {w:World} {a b:Addr} {us ws:List Value} {ys:List Str} {Q:Value->Shared->Prop} (ha:s.heap.IsList a us.toArray) (hb:s.heap.IsList b ws.toArray) (ra:Vals (ys.map V.str) us) (rb:Vals (ys.map V.str) ws) (hu:A.units < cLine)
  (q:Q (.bool true) s):wpAny (model prog w) A (compareOp .Eq (.ref a) (.ref b)) Q E s:=by
 have l1:=ra.length
 have l2:=rb.length
 refine SeqAt.eq_listAt (e:=fun _=>true) ha hb (by simp only [List.size_toArray];omega) hu (fun j h1 h2=>?_) (by rw [show (List.range us.toArray.size).all (fun _=>true)=true by simp];exact q)
 have e1:us[j]?=some us.toArray[j]:=by simp
 have e2:ws[j]?=some ws.toArray[j]:=by simp
 obtain⟨x,hx,rx⟩:=ra.getR e1
 obtain⟨y,hy,ry⟩:=rb.getR e2
 rw [hx] at hy
 cases hy
 rw [List.getElem?_map] at hx
 cases hz:ys[j]? with
 | none=>rw [hz] at hx;cases hx
 | some z =>
  rw [hz] at hx
  cases hx
  have:=eqAt_V (A:=A.in1) (s:=s) rx ry rfl rfl
  rwa [show eqV (.str z) (.str z)=true by simp [eqV]] at this
theorem op_eqS (hu:X.A.units < cLine):OpR X (compareOp .Eq) (fun x y H Q=>∃ (a b:Addr) (ys:List Str),x=.ref a/\y=.ref b/\SqL X.K H a (ys.map V.str)/\SqL X.K H b (ys.map V.str)/\Q (.bl true) H):=by
 intro pins s σ H x y v u Q I rx ry h
 obtain⟨a,b,ys,rfl,rfl,ha,hb,q⟩:=h
 cases rx
 cases ry
 obtain⟨i1,r1,p1,_⟩:=I.list ha
 obtain⟨i2,r2,p2,_⟩:=I.list hb
 exact eq_strs_same p1.isList p2.isList r1 r2 hu ⟨.bl _,H,I,rfl,q⟩
end
end L2
namespace L2
open PySem
theorem se_const {c k p} {es:List Expr} {env:Env} : starEach (.Constant c k p::es) env=(false,eval (.Constant c k p) env)::starEach es env:=rfl
theorem se_list {xs p} {es:List Expr} {env:Env} : starEach (.List xs p::es) env=(false,eval (.List xs p) env)::starEach es env:=rfl
theorem se_tuple {xs k p} {es:List Expr} {env:Env} : starEach (.Tuple xs k p::es) env=(false,eval (.Tuple xs k p) env)::starEach es env:=rfl
theorem se_dict {ks vs p} {es:List Expr} {env:Env} : starEach (.Dict ks vs p::es) env=(false,eval (.Dict ks vs p) env)::starEach es env:=rfl
end L2
namespace L2
open PySem PySem.Spec PyProof.Rows
structure PEx (X:Cx) (e:Expr) (t:TE):Prop where
 h:PE X e t
structure PAx (X:Cx) (es:List Expr) (t:TA):Prop where
 h:PA X es t
structure PStx (X:Cx) (st:Stmt) (t:TS):Prop where
 h:PS X st t
structure PSx (X:Cx) (sts:List Stmt) (t:TS):Prop where
 h:PSs X sts t
section
variable {X:Cx} {e:Expr} {es:List Expr} {te:TE} {t:TA} {st:Stmt} {rest:List Stmt} {ts us:TS}
theorem pax_nil:PAx X [] tNil:=⟨pa_nil⟩
theorem pax_cons (ha:PEx X e te) (hr:PAx X es t) (hs:starEach (e::es) X.env=(false,eval e X.env)::starEach es X.env):PAx X (e::es) (tCons te t):=⟨pa_cons ha.h hr.h hs⟩
theorem pex_of (h:PE X e te):PEx X e te:=⟨h⟩
theorem pstx_of (h:PS X st ts):PStx X st ts:=⟨h⟩
theorem psx_cons (h1:PStx X st ts) (h2:PSx X rest us):PSx X (st::rest) (tSeq ts us):=⟨pss_cons h1.h h2.h⟩
theorem psx_one (h1:PStx X st ts):PSx X [st] ts:=⟨pss_one h1.h⟩
end
section
variable {X:Cx}
mutual
inductive Dat (K:Frag) (H:Hp):V->PyData->Prop
 | non:Dat K H .non .none
 | bl (b:Bool):Dat K H (.bl b) (.bool b)
 | int (i:Int):Dat K H (.int i) (.int i)
 | str (x:Str):Dat K H (.str x) (.str x)
 | lst {a:Addr} {xs:List V} {ds:List PyData} : SqL K H a xs->DatAll K H xs ds->Dat K H (.ref a) (.list ds)
 | tup {a:Addr} {xs:List V} {ds:List PyData} : SqT K H a xs->DatAll K H xs ds->Dat K H (.ref a) (.tuple ds)
inductive DatAll (K:Frag) (H:Hp):List V->List PyData->Prop
 | nil:DatAll K H [] []
 | cons {x:V} {xs:List V} {d:PyData} {ds:List PyData} : Dat K H x d->DatAll K H xs ds->DatAll K H (x::xs) (d::ds)
end
end
mutual
theorem Dat.same {K:Frag} {H H':Hp} (g:Same H H'):∀ {x:V} {d:PyData},Dat K H x d->Dat K H' x d
 | _,_,.non=>.non
 | _,_,.bl b=>.bl b
 | _,_,.int i=>.int i
 | _,_,.str x=>.str x
 | _,_,.lst h t=>.lst (g.seq h) (DatAll.same g t)
 | _,_,.tup h t=>.tup (by
   rcases h with (h|⟨o,h⟩)|h
   ·exact .inl (.inl (g _ _ h))
   ·exact .inl (.inr ⟨o,g _ _ h⟩)
   ·exact .inr h) (DatAll.same g t)
theorem DatAll.same {K:Frag} {H H':Hp} (g:Same H H'):∀ {xs:List V} {ds:List PyData},DatAll K H xs ds->DatAll K H' xs ds
 | _,_,.nil=>.nil
 | _,_,.cons h t=>.cons (Dat.same g h) (DatAll.same g t)
end
section
variable {X:Cx}
theorem call_sum (hc:X.calm=true):CallR X (.builtin "sum") (fun xs H Q=>∃ (a:Addr) (ns:List Int),xs=[.ref a]/\SqL X.K H a (ns.map V.int)/\Q (.int ns.sum) H):=by
 intro pins s σ H xs us Q I r h
 obtain⟨a,ns,rfl,ha,q⟩:=h
 obtain⟨u,rfl,rx⟩:=vals1 r
 cases rx
 obtain⟨its,rv,pl,_⟩:=I.list ha
 have hi:=intsAre_of rv
 obtain⟨ys,hy⟩:=hi.allInts.items
 refine sum_intListG (I.ok.hd hc) (hy ▸ pl.isList) fun h' tk t' hk=>?_
 have e1:ns=ys.toList.map (·.1):=by
  rw [← nums_intItems,← hy]
  exact (show numsOf its.toArray.toList=ns from hi.numsOf).symm
 rw [preSum_eq,List.take_of_length_le (by simp),← e1]
 exact⟨.int ns.sum,H,I.kept hk,⟨_,rfl⟩,q⟩
end
section
variable {X:Cx} {elt tg iter:Expr} {ifs:List Expr} {scope:Scope} {cl:List (Str × Addr)} {ts ys:List Str} {js:List Nat} {pos:Pos} {wi:TI} {g:TG} {tc:TT} {te:TE}
theorem comp_mid (ts ys:List Str) (js:List Nat) (hc:X.calm=true) (hi:PI X tg iter wi) (hclos:closureFor scope X.env=pure cl) (hsub:subCl X.env cl) (hcap:capt X scope cl ys js)
  (hg:∀ s H fp C,PG (X.comp scope cl (ts++ys) s H fp C) tg g) (ht:∀ s H fp C,PIf (X.comp scope cl (ts++ys) s H fp C) ifs tc) (he:∀ s H fp C,PE (X.comp scope cl (ts++ys) s H fp C) elt te)
  (hkind:scope.kind=.function) (hcell:(scope.names.all fun y=>y.2 != .cell)=true)
  (hnames:(scope.names.all fun y=>y.2 != .local || scope.names.lookup y.1 == some .local)=true)
  (hhas:((relabel scope X.env).names.all fun p=>(p.2 != .cell && p.2 != .free) || (cl.lookup p.1).isSome)=true)
  (hs:∀ x,foldedSetIterable iter X.env x=pure x) {use:Option (Value->Sem Unit)} {QV:Value->Shared->Prop} {pins:List (Addr × Obj)} {s:Shared} {σ:St} {H:Hp} {Q:VK} {p0:Pos} (I:Inv X pins σ H s) (h:tComp wi ts.length js g tc te σ H Q)
  (hfin:∀ {H2 H3:Hp} {s2 s4:Shared} {fp:List Addr} {C:Addr} {pins':List (Addr × Obj)} {σ':St} {its:List Value} {xs:List V} {n:Nat},Inv X pins σ H2 s2->(∀ b ∈ fp,FpOk X pins H2 b)->Inv (X.comp scope cl (ts++ys) s2 H2 fp C) pins' σ' H3 s4->s2.heap.objs.size<=C->s2.heap.objs.size ≠ C->Vals xs its->xs.length<=sizeLine →
   s4.heap.get? s2.heap.objs.size=some { cls:=.type "list",data:=.seq its.toArray n }->H3 s2.heap.objs.size=none->(∀ p,H3 p=none->Q (.ref p) (upd H3 p (.lst xs)))->compPost (model X.prog X.w) X.A X.xe use QV (.ref s2.heap.objs.size) C (.ok .next) s4) :
  wpAny (model X.prog X.w) X.A (comprehension (.ListComp elt [⟨tg,iter,ifs,0⟩] scope pos) scope X.env p0 (newList []) false (eval iter X.env) use) QV X.xe s:=by
 have hcell':∀ y ∈ scope.names,y.2 ≠ .cell:=fun y hy z=>by
  have:=List.all_eq_true.mp hcell y hy
  rw [z] at this
  exact absurd this (by decide)
 have hnames':∀ y ∈ scope.names,y.2=.local->scope.names.lookup y.1=some .local:=fun y hy z=>by
  have:=List.all_eq_true.mp hnames y hy
  rw [z] at this
  simpa using this
 have hhas':∀ x,((relabel scope X.env).names.lookup x=some .cell\/(relabel scope X.env).names.lookup x=some .free)->∃ c,cl.lookup x=some c:=fun x hx=>by
  rcases hx with hx|hx
  ·have:=List.all_eq_true.mp hhas _ (PySem.mem_of_lookup hx)
   exact Option.isSome_iff_exists.mp (by simpa using this)
  ·have:=List.all_eq_true.mp hhas _ (PySem.mem_of_lookup hx)
   exact Option.isSome_iff_exists.mp (by simpa using this)
 refine wpAny_comprehension_free (use:=use) rfl hs hclos hkind hnames' (thn (hi pins s σ H _ I h) fun v s1 h1=>thn h1 fun itv s2 h2=>?_)
 obtain⟨it,fp,tn,J,H2,e,I2,T,st2,f2,W,⟨m0,w0⟩,turn⟩:=h2
 subst e
 have fl:∀ b ∈ fp,b < s2.heap.objs.size:=fun b hb=>by
  obtain⟨o,e,_⟩:=T.obj _ _ st2 b hb
  exact Heap.lt_size e
 refine wpAny_newObj_type (wpAny_newFunctionEnv hcell' (by intro y hy;simp at hy) (fun h₁ hns₁ hsb₁=>?_) hkind)
 dsimp only at hns₁ hsb₁ ⊢
 generalize hHH:s2.heap.push { cls:=.type "list",dict:=none,data:=.seq ([]:List Value).toArray }=HH at hns₁ hsb₁ ⊢
 have hC:HH.objs.size=s2.heap.objs.size + 1:=by rw [← hHH,Heap.size_push]
 have hDC:s2.heap.objs.size ≠ HH.objs.size:=by rw [hC];exact Nat.ne_of_lt (Nat.lt_succ_self _)
 have hCle:s2.heap.objs.size<=HH.objs.size:=by rw [hC];exact Nat.le_succ _
 have old:∀ b o,s2.heap.get? b=some o->h₁.get? b=some o:=fun b o e =>
  hsb₁.extBut b o (Nat.ne_of_lt (Nat.lt_of_lt_of_le (Heap.lt_size e) hCle)) (Heap.get?_push_of_some _ (hHH ▸ Heap.get?_push_of_some _ e))
 have hacc:h₁.get? s2.heap.objs.size=some { cls:=.type "list",data:=.seq ([]:List Value).toArray }:=hsb₁.extBut _ _ hDC (Heap.get?_push_of_some _ (hHH ▸ Heap.get?_push_size _ rfl))
 have nofs:∀ b,s2.heap.objs.size<=b->b ∉ frs X.stack:=fun b hb z=>by
  rcases List.mem_cons.mp (I2.stkSub b z) with e|e
  ·exact absurd (Nat.lt_of_lt_of_le I2.lt (e ▸ hb)) (Nat.lt_irrefl _)
  ·exact I2.nofs hb e
 have nocell:∀ b,s2.heap.objs.size<=b->∀ x c,cl.lookup x=some c->c ≠ b:=fun b hb x c e z=>by
  obtain⟨v,q⟩:=I2.cell x c (hsub.at e)
  exact absurd (Nat.lt_of_lt_of_le q.lt (z ▸ hb)) (Nat.lt_irrefl _)
 have I':Inv (X.comp scope cl (ts++ys) s2 H2 fp HH.objs.size) [] (capSt ts.length js σ) H2 { s2 with heap:=h₁,toks:=s2.toks + ([]:List (Str × Value)).length } :=
  inv_comp I2 hsub hcap hkind hhas' f2 fl hCle hns₁ old
 have addPin:∀ {σ':St} {H':Hp} {s':Shared} {o:Obj},Inv (X.comp scope cl (ts++ys) s2 H2 fp HH.objs.size) [] σ' H' s'->s'.heap.get? s2.heap.objs.size=some o->H' s2.heap.objs.size=none->(∀ v,o.data ≠ .cell v) →
   Inv (X.comp scope cl (ts++ys) s2 H2 fp HH.objs.size) [(s2.heap.objs.size,o)] σ' H' s':=fun {σ' H' s' o} J e n d=>J.pins_of fun p hp=>by
  have e':p=(s2.heap.objs.size,o):=by simpa using hp
  subst e'
  exact⟨e,n,hDC,nofs _ (Nat.le_refl _),d⟩
 have stat:∀ {pins':List (Addr × Obj)} {H':Hp},(∀ p ∈ pins',p.1=s2.heap.objs.size)->(∀ b ∈ fp,H' b=none)->∀ b ∈ fp,FpOk (X.comp scope cl (ts++ys) s2 H2 fp HH.objs.size) pins' H' b:=fun {pins' H'} hp hn b hb =>
  ⟨hn b hb,Nat.ne_of_lt (Nat.lt_of_lt_of_le (fl b hb) hCle),I'.ok.exfs b hb,.inl hb,(I'.ok.exf b hb).2,fun p hq z=>by
   have hq':p ∈ pins':=by simpa using hq
   exact absurd (fl b hb) (by rw [← z,hp p hq'];exact Nat.lt_irrefl _)⟩
 have tn1:tn 0 h₁:=T.keep _ _ _ st2 fun b _ o e=>old b o e
 have loop:∀ s₃ : Shared,s₃ = { s2 with heap:=h₁,toks:=s2.toks + ([]:List (Str × Value)).length } →
   codeAny (model X.prog X.w) X.A (.compLoop (.ListComp elt [⟨tg,iter,ifs,0⟩] scope pos) 0 (.ref it) (.ref s2.heap.objs.size) (compEnvC scope cl HH.objs.size X.env))
    (compPost (model X.prog X.w) X.A X.xe use QV (.ref s2.heap.objs.size) HH.objs.size) s₃:=by
  rintro s₃ rfl
  refine compLoop_gen (fun n s'=>∃ i σ' xs H' its nn,Inv (X.comp scope cl (ts++ys) s2 H2 fp HH.objs.size) [] σ' H' s'/\Vals xs its/\xs.length<=sizeLine/\s'.heap.get? s2.heap.objs.size=some { cls:=.type "list",data:=.seq its.toArray nn }/\H' s2.heap.objs.size=none ∧
   tn i s'.heap/\(∀ b ∈ fp,H' b=none)/\W i n σ' xs H') ?_ m0 ⟨0,_,[],H2,[],0,I',.nil,Nat.zero_le _,hacc,I2.hok.fresh (Nat.le_refl _),tn1,fun b hb=>(f2 b hb).1,w0⟩
  rintro n s3 ⟨i,σ3,xs,H3,its,nn,I3,rv,hz3,ac3,nD3,st3,fr3,w3⟩
  have nd:∀ v,({ cls:=.type "list",data:=.seq its.toArray nn } : Obj).data ≠ .cell v:=fun v z=>by
   have z':Data.seq its.toArray nn=Data.cell v:=z
   cases z'
  have I3p:=addPin I3 ac3 nD3 nd
  have pinD:∀ p ∈ [(s2.heap.objs.size,({ cls:=.type "list",data:=.seq its.toArray nn } : Obj))],p.1=s2.heap.objs.size:=fun p hp=>by
   rw [List.mem_singleton] at hp
   rw [hp]
  rcases turn i n σ3 xs H3 w3 with⟨stop,qn⟩|⟨go,hz,N,hN,step⟩
  ·refine thn (T.done (X.comp scope cl (ts++ys) s2 H2 fp HH.objs.size) rfl rfl rfl hc i _ s3 σ3 H3 (fun _ _=>False) I3p (stat pinD fr3) st3 stop) fun r s4 ⟨hr,I4⟩=>?_
   subst hr
   have ac4:=(I4.pin _ (List.mem_append_right _ (List.mem_singleton.mpr rfl))).1
   exact hfin I2 f2 I4 hCle hDC rv hz3 ac4 nD3 qn
  ·refine thn (T.item (X.comp scope cl (ts++ys) s2 H2 fp HH.objs.size) rfl rfl rfl hc i _ s3 σ3 H3 (fun _ _=>False) I3p (stat pinD fr3) st3 go) fun r s4 ⟨u,hr,h4⟩=>?_
   subst hr
   refine thn h4 fun _ s5 ⟨x,H5,I5,r5,y5,st5,fr5⟩=>?_
   have I5':=I5.pinned (stat pinD fr5) (T.obj _ _ st5)
   refine thn (hg _ _ _ _ _ s5 σ3 H5 x u _ I5' r5 (step x H5 y5)) fun _ s6 ⟨σ6,H6,I6,q6⟩=>?_
   refine thn (ht _ _ _ _ _ s6 σ6 H6 _ I6 q6) fun b s7 ⟨H7,I7,q7⟩=>?_
   have facts:∀ {σ':St} {H':Hp} {s':Shared},Inv (X.comp scope cl (ts++ys) s2 H2 fp HH.objs.size) ([(s2.heap.objs.size,({ cls:=.type "list",data:=.seq its.toArray nn } : Obj))]++pinsAt fp s5.heap) σ' H' s' →
     s'.heap.get? s2.heap.objs.size=some { cls:=.type "list",data:=.seq its.toArray nn }/\H' s2.heap.objs.size=none/\tn (i + 1) s'.heap/\(∀ b ∈ fp,H' b=none):=fun {σ' H' s'} J=>by
    have p1:=J.pin (s2.heap.objs.size,({ cls:=.type "list",data:=.seq its.toArray nn } : Obj)) (by simp)
    refine⟨p1.1,p1.2.1,T.keep _ _ _ st5 fun b hb o e=>(J.pin (b,o) (List.mem_append_right _ (List.mem_append_right _ (mem_pinsAt hb e)))).1,fun b hb=>?_⟩
    obtain⟨o,e,d⟩:=T.obj _ _ st5 b hb
    exact (J.pin (b,o) (List.mem_append_right _ (List.mem_append_right _ (mem_pinsAt hb e)))).2.1
   have bare:∀ {σ':St} {H':Hp} {s':Shared},Inv (X.comp scope cl (ts++ys) s2 H2 fp HH.objs.size) ([(s2.heap.objs.size,({ cls:=.type "list",data:=.seq its.toArray nn } : Obj))]++pinsAt fp s5.heap) σ' H' s' →
     Inv (X.comp scope cl (ts++ys) s2 H2 fp HH.objs.size) [] σ' H' s':=fun J=>J.pins_of fun p hp=>absurd hp (by simp)
   cases b with
   | false =>
    have q7':N σ6 xs H7:=by simpa using q7
    obtain⟨m',hm,w7⟩:=hN _ _ _ q7'
    obtain⟨a1,a2,a3,a4⟩:=facts I7
    show ∃ m,m < n/\_
    exact⟨m',hm,i + 1,σ6,xs,H7,its,nn,bare I7,rv,hz3,a1,a2,a3,a4,w7⟩
   | true =>
    have q7':te σ6 H7 fun v H5=>N σ6 (xs++[v]) H5:=by
     rw [if_pos rfl] at q7
     exact q7
    show wpAny _ _ (eval elt _) _ _ s7
    refine thn (he _ _ _ _ _ s7 σ6 H7 _ I7 q7') fun xv s8 ⟨v,H8,I8,r8,n8⟩=>?_
    obtain⟨m',hm,w8⟩:=hN _ _ _ n8
    obtain⟨a1,a2,a3,a4⟩:=facts I8
    have hl:=rv.length
    refine call_meets F.slot_list_append ⟨_,a1,rfl⟩ F.entry_list_append (F.args_list_append_2 _ _) (PySem.list_append s2.heap.objs.size its.toArray nn xv (by rw [List.size_toArray];omega)) ⟨a1,?_⟩
    obtain⟨n9,q9⟩ : ∃ n9,(s8.heap.update s2.heap.objs.size (Obj.mapSeq fun a=>a.push xv)).get? s2.heap.objs.size=some { cls:=.type "list",data:=.seq (its++[xv]).toArray n9 } :=
     ⟨_,by rw [show (its++[xv]).toArray=its.toArray.push xv by simp];exact PySem.IsL.update a1 (fun a=>a.push xv)⟩
    have I9:Inv (X.comp scope cl (ts++ys) s2 H2 fp HH.objs.size) [] σ6 H8 { s8 with heap:=s8.heap.update s2.heap.objs.size (Obj.mapSeq fun a=>a.push xv),toks:=s8.toks } :=
     (bare I8).turned (it:=s2.heap.objs.size) (fun b o hb e=>(Heap.get?_update_other s8.heap _ (Ne.symm hb)).trans e) a2 hDC (.inr (Nat.le_refl _)) (nocell _ (Nat.le_refl _)) fun p hp=>absurd (show p ∈ ([]:List (Addr × Obj)) from hp) (by simp)
    refine⟨m',hm,i + 1,σ6,xs++[v],H8,its++[xv],n9,I9,rv.append (.cons r8 .nil),?_,q9,a2,?_,a4,w8⟩
    ·rw [List.length_append,List.length_singleton];omega
    ·exact T.keep _ _ _ a3 fun b hb o e=>(Heap.get?_update_other s8.heap _ (Ne.symm (Nat.ne_of_lt (fl b hb)))).trans e
 exact codeAny_compStart_list (loop _ rfl) (T.self _ 0 _ _ _ tn1 (loop _ rfl))
theorem pe_comp (ts ys:List Str) (js:List Nat) (hc:X.calm=true) (hi:PI X tg iter wi) (hclos:closureFor scope X.env=pure cl) (hsub:subCl X.env cl) (hcap:capt X scope cl ys js)
    (hg:∀ s H fp C,PG (X.comp scope cl (ts++ys) s H fp C) tg g) (ht:∀ s H fp C,PIf (X.comp scope cl (ts++ys) s H fp C) ifs tc) (he:∀ s H fp C,PE (X.comp scope cl (ts++ys) s H fp C) elt te)
    (hkind:scope.kind=.function:=by rfl) (hcell:(scope.names.all fun y=>y.2 != .cell)=true:=by rfl)
    (hnames:(scope.names.all fun y=>y.2 != .local || scope.names.lookup y.1 == some .local)=true:=by rfl)
    (hhas:((relabel scope X.env).names.all fun p=>(p.2 != .cell && p.2 != .free) || (cl.lookup p.1).isSome)=true:=by rfl)
    (hs:∀ x,foldedSetIterable iter X.env x=pure x:=by intro _;rfl):PE X (.ListComp elt [⟨tg,iter,ifs,0⟩] scope pos) (tComp wi ts.length js g tc te):=by
  intro pins s σ H Q I h
  rw [eval_ListComp]
  refine comp_mid (use:=none) (QV:=EP X pins σ Q) ts ys js hc hi hclos hsub hcap hg ht he hkind hcell hnames hhas hs I h ?_
  intro H2 H3 s2 s4 fp C pins' σ' its xs n I2 f2 I4 hC hDC rv hz e4 nD q
  obtain⟨m,hm,_⟩:=I4.loc
  exact⟨m,hm,fun h' hs'=>⟨.ref _,_,comp_end I2 f2 I4 hC (Nat.le_refl _) hDC hs' rv hz e4 nD,rfl,q _ nD⟩⟩
theorem ps_setC {i:Nat} {y:Str} {py spos:Pos} (ts ys:List Str) (js:List Nat) (hN:X.N.Nodup) (hiN:X.N[i]?=some y) (hy:X.env.scope.names.lookup y=some .local) (hc:X.calm=true) (hi:PI X tg iter wi) (hclos:closureFor scope X.env=pure cl) (hsub:subCl X.env cl) (hcap:capt X scope cl ys js)
  (hg:∀ s H fp C,PG (X.comp scope cl (ts++ys) s H fp C) tg g) (ht:∀ s H fp C,PIf (X.comp scope cl (ts++ys) s H fp C) ifs tc) (he:∀ s H fp C,PE (X.comp scope cl (ts++ys) s H fp C) elt te)
  (hkind:scope.kind=.function:=by rfl) (hcell:(scope.names.all fun y=>y.2 != .cell)=true:=by rfl)
  (hnames:(scope.names.all fun y=>y.2 != .local || scope.names.lookup y.1 == some .local)=true:=by rfl)
  (hhas:((relabel scope X.env).names.all fun p=>(p.2 != .cell && p.2 != .free) || (cl.lookup p.1).isSome)=true:=by rfl)
  (hs:∀ x,foldedSetIterable iter X.env x=pure x:=by intro _;rfl)
  (hsw:swapsWith (.ListComp elt [⟨tg,iter,ifs,0⟩] scope pos) (some (.Name y py)) spos.line X.env=pure true:=by rfl) :
  PS X (.Assign [.Name y py] (.ListComp elt [⟨tg,iter,ifs,0⟩] scope pos) spos) (tAsg (tComp wi ts.length js g tc te) (gName i)):=by
 intro pins s σ H D I h
 rw [exec_Assign_Name_used _ _ _ _ hsw];refine wpAny_bind (wpAny_standAt (wpAny_bind ?_))
 show wpAny _ _ (do let _ ← comprehension (.ListComp elt [⟨tg,iter,ifs,0⟩] scope pos) scope X.env _ (newList []) false (eval iter X.env) (some (assign (.Name y py) X.env))) _ _ s
 refine wpAny_bind (wpAny_mono (comp_mid (QV:=fun _ s'=>SP X pins D .next s') ts ys js hc hi hclos hsub hcap hg ht he hkind hcell hnames hhas hs I h ?_) (fun _ s' q=>wpAny_pure (wpAny_pure q)) fun _ _ z=>z)
 intro H2 H3 s2 s4 fp C pins' σ' its xs n I2 f2 I4 hC hDC rv hz e4 nD q
 have J:Inv X pins σ (upd H3 s2.heap.objs.size (.lst xs)) { s4 with heap:=s4.heap }:=comp_end I2 f2 I4 hC (Nat.le_refl _) hDC (Heap.SameBut.refl _ _) rv hz e4 nD
 obtain⟨m,hm,_⟩:=I4.loc
 have hm':s4.heap.Ns C m:=hm
 have hL:C ≠ X.env.locals:=fun z=>absurd (Nat.lt_of_lt_of_le I2.lt (z ▸ hC)) (Nat.lt_irrefl _)
 have hn:upd H3 s2.heap.objs.size (.lst xs) C=none:=by
  rw [upd_ne (Ne.symm hDC)];exact I4.free
 have hcl:∀ x c,X.env.cells.lookup x=some c->c ≠ C:=fun x c e z=>by
  obtain⟨v,q⟩:=I2.cell x c e
  exact absurd (Nat.lt_of_lt_of_le q.lt (z ▸ hC)) (Nat.lt_irrefl _)
 have hpin:∀ p ∈ X.pn++pins,p.1 ≠ C:=fun p hp z=>absurd (Nat.lt_of_lt_of_le (Heap.lt_size (I2.pin p hp).1) (z ▸ hC)) (Nat.lt_irrefl _)
 show wpAny _ _ (assign (.Name y py) X.env _) _ _ _
 refine wpAny_assign_Name (store_ok2 J hN hiN (.inl hy) (v:=.ref s2.heap.objs.size) rfl (fun s5 J5 ⟨a,sb,ha⟩=>?_) (.inr hy))
 have hCa:C ≠ a:=by
  rcases ha with z|z
  ·rw [z];exact hL
  ·exact Ne.symm (hcl _ _ z)
 refine⟨m,hm'.sameBut sb hCa,fun h' hs'=>?_⟩
 exact⟨_,_,J5.turned (h':=h') (t':=s5.toks) (fun b o hb e=>hs'.extBut b o hb e) hn hL (.inr (Nat.le_trans I2.sz hC)) hcl hpin,q _ nD⟩
end
section
variable {X:Cx}
theorem pg_tupK {K:Frag} {es:List Expr} {k:Nat} {t:TGs} {n:Nat} {pos:Pos} (hK:X.K=K) (hc:X.calm=true) (h:PGs X es t)
  (hn:(assignEach es X.env).length=n:=by rfl) (hst:(assignEach es X.env).findIdx? (·.1)=none:=by rfl):PG X (.Tuple es k pos) (gTup K n t):=hK ▸ pg_tup hc h hn hst
end
def CompM (P:Nat->List V->Hp->Prop) (i k:Nat) (js:List Nat) (σ:St):St->List V->Hp->Prop:=fun σ' ys H=>P (i + 1) ys H/\∃ os:St,os.length=k/\σ'=os++capV js σ
theorem comp_listM {K:Frag} {a:Addr} {xs:List V} {k:Nat} {js:List Nat} {g:TG} {tc:TT} {te:TE} {σ:St} {Q:VK} {H1:Hp} (P:Nat->List V->Hp->Prop) (h0:P 0 [] H1) (hl:∀ i ys H,i<=xs.length->P i ys H->SqL K H a xs/\ys.length<=i) (hz:xs.length < sizeLine)
  (hs:∀ i x ys H (os:St),os.length=k->xs[i]?=some x->P i ys H->g x (os++capV js σ) H fun σ3 H3=>tc σ3 H3 fun b H2=>if b=true then te σ3 H2 fun v H3=>CompM P i k js σ σ3 (ys++[v]) H3 else CompM P i k js σ σ3 ys H2)
  (hd:∀ ys H,P xs.length ys H->∀ p,H p=none->Q (.ref p) (upd H p (.lst ys))) :
  CompR (Itl K a) k js g tc te σ Q H1:=by
 refine⟨fun i m σ' ys H=>m=xs.length - i/\i<=xs.length/\P i ys H/\∃ os:St,os.length=k/\σ'=os++capV js σ,⟨xs.length,by simp,Nat.zero_le _,h0,List.replicate k none,List.length_replicate,rfl⟩,?_⟩
 rintro i m σ' ys H ⟨rfl,hi,p,os,ho,rfl⟩
 obtain⟨q,hy⟩:=hl i ys H hi p
 by_cases hlt:i < xs.length
 ·refine .inr ⟨⟨xs,xs[i],q,by simp [hlt]⟩,by omega,CompM P i k js σ,fun σ3 zs H3 z=>⟨xs.length - (i + 1),by omega,rfl,hlt,z.1,z.2⟩,fun x H' y=>?_⟩
  obtain⟨e,y⟩:=y
  subst e
  exact hs i x ys _ os ho (y xs q) p
 ·have e:i=xs.length:=by omega
  subst e
  exact .inl ⟨⟨xs,q,Nat.le_refl _⟩,hd ys H p⟩
def But (l:Addr) (H H':Hp):Prop:=∀ b o,b ≠ l->H b=some o->H' b=some o
theorem But.trans {l:Addr} {H H1 H2:Hp} (a:But l H H1) (b:But l H1 H2):But l H H2:=fun x o n q=>b x o n (a x o n q)
theorem But.refl {l:Addr} {H:Hp} : But l H H:=fun _ _ _ q=>q
theorem But.of {l:Addr} {H H':Hp} (g:Same H H'):But l H H':=fun x o _ q=>g x o q
theorem But.same {l:Addr} {H H':Hp} (a:But l H H') (h:H l=none):Same H H':=fun x o q=>a x o (ne_of_none q h) q
theorem But.upd {l:Addr} {H:Hp} {o:HO} : But l H (upd H l o):=fun x u n q=>by rw [upd_ne n];exact q
theorem But.tup {K:Frag} {l:Addr} {H H':Hp} {zs:List V} (e:But l H H') (hl:H l=some (.lst zs)) {a:Addr} {xs:List V} (h:SqT K H a xs):SqT K H' a xs:=by
 rcases h with (h|⟨o,h⟩)|h
 ·exact .inl (.inl (e _ _ (ne_of h hl (by intro z;cases z)) h))
 ·exact .inl (.inr ⟨o,e _ _ (ne_of h hl (by intro z;cases z)) h⟩)
 ·exact .inr h
end L2
namespace L2
open PySem
def Xc (h:Heap) (e C:Addr) (dx:Option Addr) (T:Addr) (fl:Option Value):Prop :=
 ∃ oe vs,h.get? e=some oe/\oe.cls=.ref C/\oe.dict=dx/\oe.data=.fields vs/\1 < vs.size ∧
  ((fl=none/\T=e/\vs[1]?=some .none)\/∃ oT ts v,fl=some v/\T ≠ e/\vs[1]?=some (.ref T)/\h.get? T=some oT/\oT.data=.fields ts/\ts[3]?=some v)
def Mv (S:List Addr) (e T:Addr) (h h':Heap):Prop :=
 ∀ b o,h.get? b=some o->b ≠ e->b ≠ T->(b ∉ S->h'.get? b=some o)/\∃ sl,h'.get? b=some { o with slots:=sl }
theorem Mv.refl (S:List Addr) (e T:Addr) (h:Heap):Mv S e T h h:=fun b o q _ _=>⟨fun _=>q,o.slots,q⟩
theorem Mv.ff {S:List Addr} {e T:Addr} {h h' base:Heap} {l:List Env} (m:Mv S e T h h') (ff:h.FunFrames base l) (he:∀ o,h.get? e=some o->∃ vs,o.data=.fields vs) (hT:∀ o,h.get? T=some o->∃ vs,o.data=.fields vs):h'.FunFrames base l :=
 ff.of_keeps fun b o q nf=>by
  obtain⟨_,sl,q'⟩:=m b o q (fun z=>by subst z;obtain⟨vs,z⟩:=he o q;exact nf vs z) (fun z=>by subst z;obtain⟨vs,z⟩:=hT o q;exact nf vs z)
  exact⟨_,q',rfl⟩
theorem Xc.fe {h:Heap} {e C:Addr} {dx:Option Addr} {T:Addr} {fl:Option Value} (x:Xc h e C dx T fl):∀ o,h.get? e=some o->∃ vs,o.data=.fields vs:=fun o q=>by
 obtain⟨oe,vs,he,_,_,hd,_⟩:=x
 rw [he] at q;cases q;exact⟨vs,hd⟩
theorem Xc.fT {h:Heap} {e C:Addr} {dx:Option Addr} {T:Addr} {fl:Option Value} (x:Xc h e C dx T fl):∀ o,h.get? T=some o->∃ vs,o.data=.fields vs:=fun o q=>by
 have fe:=x.fe
 obtain⟨oe,vs,he,_,_,hd,_,⟨_,rfl,_⟩|⟨oT,ts,v,_,_,_,hT,hd',_⟩⟩:=x
 ·exact fe o q
 ·rw [hT] at q;cases q;exact⟨ts,hd'⟩
theorem dict_mapFields (o:Obj) (f:Array Value->Array Value):(o.mapFields f).dict=o.dict:=by
 obtain⟨c,d,dt,sl⟩:=o
 cases dt <;> rfl
section
variable {M:Model} {A:Around} {E:Value->Shared->Prop} {s:Shared} {base:Heap} {env:Env} {outer:List Env} {L e C:Addr} {dx:Option Addr} {T:Addr} {fl:Option Value} {Q:Unit->Shared->Prop}
theorem entry_ok {s1:Shared} {oe:Obj} {vs:Array Value} {head:Value} {had:Bool} (hA:A.frames=some (env::outer)) (hL:env.frame=some L) (ff:s1.heap.FunFrames base (env::outer))
  (he:s1.heap.get? e=some oe) (hc:oe.cls=.ref C) (hx:oe.dict=dx) (hd:oe.data=.fields vs) (h1 : 1 < vs.size)
  (hQ:∀ h' T',s1.heap.get? T'=none->s1.heap.objs.size<=T'->Xc h' e C dx T' (some (rawInt L))->Mv ((env::outer).filterMap (·.frame)) e e s1.heap h'->Q () { s1 with heap:=h' }) :
  wpAny M A (do let a ← frameOf env;let pl ← entryPlaceOf L had;let b ← EntryCells.newEntry head a .none (rawInt L) .none pl;setField (.ref e) 1 b) Q E s1:=by
 have nfr:e ∉ (env::outer).filterMap (·.frame):=fun z=>by
  obtain⟨_,o,q,nf⟩:=ff.mem z
  rw [he] at q;cases q;exact nf vs hd
 refine wpAny_bind (wpAny_frameOf_fun hA ff hL fun g so=>wpAny_bind (wpAny_entryPlaceOf fun pl isp=>?_))
 unfold EntryCells.newEntry newFields
 refine wpAny_bind (wpAny_newObj_type ?_ (isp.sizeOk5 _ _ _ _ _))
 have e1:g.get? e=some oe:=(so.2.1 e nfr).trans he
 generalize hob:({ cls:=.type "traceback",dict:=none,data:=.fields ([head,.ref L,.none,rawInt L,.none]++(if pl.isEmpty then List.replicate 6 Value.none else pl)).toArray } : Obj)=ob
 have e2:=Heap.get?_push_of_some ob e1
 refine wpAny_setField e2 hd h1 ?_
 have nT:g.objs.size ≠ e:=Nat.ne_of_gt (Heap.lt_size e1)
 have d3:=Obj.data_mapFields hd (·.setIfInBounds 1 (Value.ref g.objs.size))
 have e3:=Heap.get?_update_self (Obj.mapFields (·.setIfInBounds 1 (Value.ref g.objs.size))) e2 (Obj.isFreed_of_fields d3)
 have t3:((g.push ob).update e (Obj.mapFields (·.setIfInBounds 1 (Value.ref g.objs.size)))).get? g.objs.size=some ob :=
  (Heap.get?_update_other _ _ (Ne.symm nT)).trans (Heap.get?_push_size g (by rw [← hob];rfl))
 refine hQ _ g.objs.size (Heap.get?_none_of_le (by rw [so.1];exact Nat.le_refl _)) (by rw [so.1];exact Nat.le_refl _) ⟨_,_,e3,(Obj.cls_mapFields _ _).trans hc,(dict_mapFields _ _).trans hx,d3,by simpa using h1,.inr ⟨ob,_,rawInt L,rfl,nT,by simp [h1],t3,by rw [← hob],?_⟩⟩ fun b o q ne _=>?_
 ·first
   | (simp;done)
   | (rcases isp with rfl|⟨_,_,_,_,_,_,_,rfl⟩ <;> simp)
 ·have keep:∀ u,g.get? b=some u->((g.push ob).update e (Obj.mapFields (·.setIfInBounds 1 (Value.ref g.objs.size)))).get? b=some u:=fun u z=>by
   rw [Heap.get?_update_other _ _ (Ne.symm ne)]
   exact Heap.get?_push_of_some _ z
  exact⟨fun nb=>keep _ ((so.2.1 b nb).trans q),let ⟨sl,z⟩:=so.2.2 b o q; ⟨sl,keep _ z⟩⟩
theorem note_ok (hA:A.frames=some (env::outer)) (hL:env.frame=some L) (ff:s.heap.FunFrames base (env::outer)) (x:Xc s.heap e C dx T fl) (hf:fl=none\/fl=some .none\/fl=some (rawInt L))
  (hQ:∀ h' T',(T'=T\/s.heap.objs.size<=T')->Xc h' e C dx T' (some (rawInt L))->Mv ((env::outer).filterMap (·.frame)) e T s.heap h'->Q () { s with heap:=h' }) :
  wpAny M A (noteFrame (.ref e) env) Q E s:=by
 have x0:=x
 obtain⟨oe,vs,he,hc,hx,hd,h1,ht⟩:=x
 unfold noteFrame
 simp only [hL]
 rcases ht with⟨rfl,rfl,hv⟩|⟨oT,ts,v,rfl,nT,hv,hT,hdT,h3⟩
 ·refine wpAny_bind (wpAny_field he hd hv ?_)
  rw [if_neg (by decide)]
  exact entry_ok hA hL ff he hc hx hd h1 fun h' T' _ q2 q3 q4=>hQ h' T' (.inr q2) q3 q4
 ·refine wpAny_bind (wpAny_field he hd hv ?_)
  rw [if_pos (show (Value.ref T != Value.none)=true from by simp)]
  refine wpAny_bind (wpAny_field hT hdT h3 ?_)
  by_cases hvL:v=rawInt L
  ·subst hvL
   rw [if_pos (show (rawInt L == rawInt L)=true from by simp)]
   exact wpAny_pure (hQ s.heap T (.inl rfl) x0 (Mv.refl _ _ _ _))
  ·have hv0:v=.none:=by
    rcases hf with z|z|z
    ·cases z
    ·exact Option.some.inj z
    ·exact absurd (Option.some.inj z) hvL
   subst hv0
   rw [if_neg (show ¬ ((Value.none == rawInt L)=true) from by simp [rawInt])]
   refine wpAny_bind (wpAny_setField hT hdT (Array.getElem?_eq_some_iff.mp h3).1 ?_)
   have oth:∀ b,b ≠ T->(s.heap.update T (Obj.mapFields (·.setIfInBounds 3 Value.none))).get? b=s.heap.get? b:=fun b hb=>Heap.get?_update_other _ _ (Ne.symm hb)
   have mv:Mv ((env::outer).filterMap (·.frame)) e T s.heap (s.heap.update T (Obj.mapFields (·.setIfInBounds 3 Value.none))):=fun b o q _ nb=>⟨fun _=>(oth b nb).trans q,o.slots,(oth b nb).trans q⟩
   refine entry_ok (s1:={ s with heap:=s.heap.update T (Obj.mapFields (·.setIfInBounds 3 Value.none)) }) hA hL (mv.ff ff x0.fe x0.fT) ((oth e (Ne.symm nT)).trans he) hc hx hd h1 fun h' T' q1 q2 q3 q4=>hQ h' T' (.inr ?_) q3 fun b o q ne nb=>?_
   ·have:(s.heap.update T (Obj.mapFields (·.setIfInBounds 3 Value.none))).objs.size=s.heap.objs.size:=Heap.size_after_update ..
    rw [← this];exact q2
   ·exact q4 b o ((oth b nb).trans q) ne ne
theorem flight_ok {v:Value} {fr:Option Addr} (x:Xc s.heap e C dx T (some v))
  (hQ:∀ h',Xc h' e C dx T (some (fr.elim .none fun f=>rawInt f))->Mv [] e T s.heap h'->Q () { s with heap:=h' }):wpAny M A (setFlight (.ref e) fr) Q E s:=by
 obtain⟨oe,vs,he,hc,hx,hd,h1,⟨z,_⟩|⟨oT,ts,v',_,nT,hv,hT,hdT,h3⟩⟩:=x
 ·cases z
 have hsz:=(Array.getElem?_eq_some_iff.mp h3).1
 unfold setFlight
 refine wpAny_bind (wpAny_field he hd hv ?_)
 rw [if_pos (show (Value.ref T != Value.none)=true from by simp)]
 refine wpAny_setField hT hdT hsz (hQ _ ?_ fun b o q _ nb=>?_)
 ·exact⟨oe,vs,(Heap.get?_update_other _ _ nT).trans he,hc,hx,hd,h1,.inr ⟨_,_,_,rfl,nT,hv,Heap.get?_update_self _ hT (Obj.isFreed_of_fields (Obj.data_mapFields hdT _)),Obj.data_mapFields hdT _,by simp [hsz]⟩⟩
 ·have:=(Heap.get?_update_other s.heap (Obj.mapFields (·.setIfInBounds 3 (fr.elim Value.none fun f=>rawInt f))) (Ne.symm nb)).trans q
  exact⟨fun _=>this,o.slots,this⟩
theorem Mv.trans {S S':List Addr} {e T T':Addr} {h h1 h2:Heap} (a:Mv S e T h h1) (b:Mv S' e T' h1 h2) (hT:T'=T\/h.get? T'=none) (hS:∀ x ∈ S',x ∈ S):Mv S e T h h2:=fun c o q ne nT=>by
 obtain⟨k1,sl,k2⟩:=a c o q ne nT
 have nT':c ≠ T':=fun z=>by
  rcases hT with y|y
  ·exact nT (z.trans y)
  ·rw [← z,q] at y;cases y
 refine⟨fun nS=>(b c o (k1 nS) ne nT').1 fun z=>nS (hS c z),?_⟩
 obtain⟨_,sl',k3⟩:=b c _ k2 ne nT'
 exact⟨sl',k3⟩
theorem leave_ok (hA:A.frames=some (env::outer)) (hL:env.frame=some L) (ff:s.heap.FunFrames base (env::outer)) (x:Xc s.heap e C dx T fl) (hf:fl=none\/fl=some .none\/fl=some (rawInt L))
  (hQ:∀ h' T',(T'=T\/s.heap.objs.size<=T')->Xc h' e C dx T' (some .none)->Mv ((env::outer).filterMap (·.frame)) e T s.heap h'->Q () { s with heap:=h' }) :
  wpAny M A (leaving env (.ref e)) Q E s:=by
 unfold leaving
 refine wpAny_bind (note_ok hA hL ff x hf fun h1 T1 q1 x1 m1=>flight_ok x1 fun h2 x2 m2=>hQ h2 T1 q1 x2 (m1.trans m2 ?_ (by simp)))
 exact q1.imp id fun z=>Heap.get?_none_of_le z
end
structure XTail (bm:List Value):Prop where
 v:bm.contains (.type "ValueError")=true
 b:bm.contains (.type "BaseException")=true
 a:bm.contains (.type "AttributeError")=false
 n:bm.contains (.type "NameError")=false
section
variable {prog:Program} {w:World} {M:Model} {A:Around} {E:Value->Shared->Prop} {h:Heap} {g:Array GenState} {d:Drawn} {t:Nat} {os:OsState}
 {nm qn:Str} {C N:Addr} {bs bm:List Value} {hdct:Bool} {sn:List Str} {sub:List Value} {ab:Bool} {col:Option Bool} {dd:Option Addr} {k0 k1 k2 k3 k5:Option Value}
abbrev xcls (nm qn:Str) (C N:Addr) (bs bm:List Value) (hdct:Bool) (sn:List Str) (sub:List Value) (ab:Bool) (col:Option Bool) (dd:Option Addr) (k0 k1 k2 k3 k5:Option Value):Obj :=
 excClassObj nm qn C N bs bm hdct sn sub ab col dd k0 k1 k2 k3 k5 "ValueError.__new__"
theorem XTail.cv (x:XTail bm):(Value.ref C::bm).contains (.type "ValueError")=true:=by rw [List.contains_cons,x.v,Bool.or_true]
theorem XTail.cb (x:XTail bm):(Value.ref C::bm).contains (.type "BaseException")=true:=by rw [List.contains_cons,x.b,Bool.or_true]
theorem XTail.ca (x:XTail bm):(Value.ref C::bm).contains (.type "AttributeError")=false:=by rw [List.contains_cons,x.a];rfl
theorem XTail.cn (x:XTail bm):(Value.ref C::bm).contains (.type "NameError")=false:=by rw [List.contains_cons,x.n];rfl
theorem xnew_check (x:XTail bm) {rest:List Value} {Q:Unit->Shared->Prop} (hC:h.get? C=some (xcls nm qn C N bs bm hdct sn sub ab col dd k0 k1 k2 k3 k5)) (hq:Q () ⟨h,g,d,t,os⟩) :
  wpAny M A (checkBuiltinCall "ValueError.__new__" ⟨.ref C::rest,[]⟩) Q E ⟨h,g,d,t,os⟩:=by
 have c1:=x.cv (C:=C)
 have B:=PySem.F.excBase_ValueError
 have c2:=B.noStar
 simp only [checkBuiltinCall,B.newSplit,B.newKind,B.newRow]
 repeat (first
  | refine wpAny_loadPart_at hC ?_
  | (refine wpAny_isSubtype_exc hC ?_;rw [c1])
  | refine wpAny_madeBy_exc hC ?_
  | refine wpAny_staticBase_exc hC ?_
  | simp only [bne_self_eq_false,if_false,Bool.false_eq_true]
  | wp_step)
 exact hq
theorem xnew_run (x:XTail bm) {rest:List Value} {R:Result->Shared->Prop} (hC:h.get? C=some (xcls nm qn C N bs bm hdct sn sub ab col dd k0 k1 k2 k3 k5)) (hz:rest.length<=sizeLine)
  (hq:R (.ok (.ret (.ref (h.objs.size + 1)))) ⟨(h.push { cls:=.type "tuple",data:=.seq rest.toArray }).push { cls:=.ref C,data:=.fields #[.ref h.objs.size,.none,.none,.none,.bool false,.none] },g,d,t,os⟩) :
  codeAny (model prog w) A (.builtin "ValueError.__new__" ⟨.ref C::rest,[]⟩) R ⟨h,g,d,t,os⟩:=by
 have B:=PySem.F.excBase_ValueError
 have c0:=B.ends
 have c1:=x.cv (C:=C)
 have c2:=x.ca (C:=C)
 have c3:=x.cn (C:=C)
 refine codeAny_builtinAt B.entry ?_
 unfold Builtin.«BaseException.__new__»
 refine wpAt_bind ?_
 show wpAt _ _ _ (stack >>= _) _ _ _
 refine wpAt_bind (wpAt_stack fun p below=>wpAt_of_wpAny ?_)
 wp_walk
 refine wpAt_of_wpAny ?_
 rw [B.owner]
 repeat (first
  | with_reducible refine wpAny_loadPart_at hC ?_
  | with_reducible refine wpAny_madeHere_exc B.canon hC ?_
  | (with_reducible refine wpAny_isSubtype_exc hC ?_;first|rw [c1]|rw [c2]|rw [c3])
  | wp_step)
 show R _ _
 rw [Heap.size_push]
 exact hq
theorem xtype_call (x:XTail bm) {mN:Str->Option Value} {rest:List Value} {fI:Addr} {oI:Obj} {Q:Fin->Shared->Prop} (hC:h.get? C=some (xcls nm qn C N bs bm hdct sn sub ab col dd k0 k1 k2 k3 k5))
  (hn:h.Ns N mN) (hi:mN "__init__" = some (.ref fI)) (hf:h.get? fI=some oI) (hfc:oI.cls=.type "function") (hz:rest.length<=sizeLine)
  (hq:∀ h' e,Heap.MadeExcOf h h' e (.ref C) rest->h.objs.size<=e->wpAny (model prog w) A (call (.ref fI) (.ref e::rest)) (fun r s'=>r=.none/\Q (.done (.ret (.ref e))) s') E ⟨h',g,d,t,os⟩) :
  wpAny (model prog w) A (Builtin.«type.__call__» ⟨.ref C::rest,[]⟩) Q E ⟨h,g,d,t,os⟩:=by
 repeat (first
  | with_reducible refine wpAny_madeBy_exc hC ?_
  | with_reducible refine wpAny_loadPart_at hC ?_
  | wp_step)
 have B:=PySem.F.excBase_ValueError
 refine codeAny_call_builtin_code (Code.quiet_builtin _ B.quiet) (xnew_check x hC (xnew_run x hC hz ?_))
 show wpAny _ _ _ _ _ _
 generalize htu:({ cls:=.type "tuple",data:=.seq rest.toArray } : Obj)=otu
 generalize hex:({ cls:=.ref C,data:=.fields #[.ref h.objs.size,.none,.none,.none,.bool false,.none] } : Obj)=oex
 have kp:∀ b o,h.get? b=some o->((h.push otu).push oex).get? b=some o:=fun b o z=>Heap.get?_push_of_some _ (Heap.get?_push_of_some _ z)
 have ge:((h.push otu).push oex).get? (h.objs.size + 1)=some oex:=by
  have:=Heap.get?_push_size (h.push otu) (o:=oex) (by rw [← hex];rfl)
  rwa [Heap.size_push] at this
 have gt:((h.push otu).push oex).get? h.objs.size=some otu:=Heap.get?_push_of_some _ (Heap.get?_push_size h (by rw [← htu];rfl))
 have oc:oex.cls=.ref C:=by rw [← hex]
 have hC1:=kp _ _ hC
 have hn1:((h.push otu).push oex).Ns N mN:=let ⟨o,es,ep,z,r⟩:=hn; ⟨o,es,ep,kp _ _ z,r⟩
 have c0:(Value.ref C::bm).contains (.ref C)=true:=by simp
 unfold isInstance
 repeat (first
  | (with_reducible refine wpAny_loadPart_at ge ?_;rw [oc])
  | (with_reducible refine wpAny_isSubtype_exc hC1 ?_;rw [c0])
  | wp_step)
 show wpAny _ _ (typeLookup (.ref C) _) _ _ _
 rw [typeLookup_eq]
 refine wpAny_bind (wpAny_mroOf_exc hC1 ?_)
 rw [lookupAlong_cons]
 refine wpAny_bind (wpAny_classOwn_exc hC1 hn1 ?_)
 rw [hi]
 refine wpAny_pure (wpAny_holding (wpAny_bind ?_))
 unfold bindSpecial
 refine wpAny_bind (wpAny_typeOf (T:="function") ⟨_,kp _ _ hf,hfc⟩ ?_)
 rw [if_pos (by decide)]
 refine wpAny_pure (wpAny_bind (wpAny_mono (hq _ (h.objs.size + 1) ⟨kp,Heap.get?_none_of_le (Nat.le_succ _),h.objs.size,by rw [ge,← hex],Heap.get?_none_of_le (Nat.le_refl _),by rw [gt,← htu]⟩ (Nat.le_succ _)) (fun r s' z=>?_) fun _ _ y=>y))
 obtain⟨rfl,z⟩:=z
 wp_walk
 exact z
theorem xmake (x:XTail bm) {mN:Str->Option Value} {rest:List Value} {fI:Addr} {oI:Obj} {Q:Value->Shared->Prop} (hC:h.get? C=some (xcls nm qn C N bs bm hdct sn sub ab col dd k0 k1 k2 k3 k5))
  (hn:h.Ns N mN) (hi:mN "__init__" = some (.ref fI)) (hf:h.get? fI=some oI) (hfc:oI.cls=.type "function") (hz:rest.length<=sizeLine)
  (hq:∀ h' e,Heap.MadeExcOf h h' e (.ref C) rest->h.objs.size<=e->wpAny (model prog w) (A.under (.builtin "type.__call__" ⟨.ref C::rest,[]⟩)) (call (.ref fI) (.ref e::rest)) (fun r s'=>r=.none/\Q (.ref e) s') E ⟨h',g,d,t,os⟩) :
  wpAny (model prog w) A (call (.ref C) rest) Q E ⟨h,g,d,t,os⟩:=by
 have b1:=tc_lookup
 have b2:=tc_bind (.ref C)
 have b3:(⟨h,g,d,t,os⟩ : Shared).TypeIs (.ref C) "type":=⟨_,hC,rfl⟩
 refine wpAny_call (codeAny_of_tree ?_)
 show wpAny _ _ (callAny (.ref C) _) _ _ _
 repeat (any_goals (first|assumption|with_reducible refine wpAny_loadPart_at hC ?_|wp_step))
 refine⟨rfl,codeAny_call_builtin_at (Code.quiet_builtin _ (by decide +kernel)) entry_typeCall (wpAny_check_type_call_sub hC (xtype_call x hC hn hi hf hfc hz hq))⟩
theorem xraise {s:Shared} {env:Env} {x:Sem Value} {Q:Flow->Shared->Prop} (hh:A.handled=none)
  (hx:wpAny M A x (fun v s1=>∃ (e C N:Addr) (nm qn:Str) (bs bm:List Value) (hdct:Bool) (sn:List Str) (sub:List Value) (ab:Bool) (col:Option Bool) (dd:Option Addr) (k0 k1 k2 k3 k5:Option Value) (dx:Option Addr) (vs:Array Value) (sl:Array (Option Value)),
   v=.ref e/\XTail bm/\s1.heap.get? C=some (xcls nm qn C N bs bm hdct sn sub ab col dd k0 k1 k2 k3 k5)/\s1.heap.get? e=some ⟨.ref C,dx,.fields vs,sl⟩/\vs[1]?=some .none/\E (.ref e) s1) E s) :
  wpAny M A (raiseStmt env (some x) none) Q E s:=by
 unfold raiseStmt
 refine wpAny_bind (wpAny_mono hx (fun v s1 z=>?_) fun _ _ y=>y)
 obtain⟨e,C,N,nm,qn,bs,bm,hdct,sn,sub,ab,col,dd,k0,k1,k2,k3,k5,dx,vs,sl,rfl,xt,hC,he,hv,hE⟩:=z
 have c1:=xt.cb (C:=C)
 obtain⟨hp,g,d,tk,os⟩:=s1
 repeat (first
  | with_reducible refine wpAny_loadPart_at he ?_
  | with_reducible refine wpAny_loadPart_at hC ?_
  | with_reducible refine wpAny_field he rfl hv ?_
  | (with_reducible refine wpAny_isSubtype_exc hC ?_;rw [c1])
  | wp_step)
 exact wpAny_raiseNew_none hh hE
theorem xRaise {s:Shared} {env:Env} {x:Expr} {pos:Pos} {Q:Flow->Shared->Prop} (hh:A.handled=none)
  (hx:wpAny M A (eval x env) (fun v s1=>∃ (e C N:Addr) (nm qn:Str) (bs bm:List Value) (hdct:Bool) (sn:List Str) (sub:List Value) (ab:Bool) (col:Option Bool) (dd:Option Addr) (k0 k1 k2 k3 k5:Option Value) (dx:Option Addr) (vs:Array Value) (sl:Array (Option Value)),
   v=.ref e/\XTail bm/\s1.heap.get? C=some (xcls nm qn C N bs bm hdct sn sub ab col dd k0 k1 k2 k3 k5)/\s1.heap.get? e=some ⟨.ref C,dx,.fields vs,sl⟩/\vs[1]?=some .none/\E (.ref e) s1) E s) :
  wpAny M A (exec (.Raise (some x) none pos) env) Q E s:=by
 rw [arm_exec_Raise]
 have key:=xraise (Q:=Q) (env:=env) (x:=do let v ← eval x env;standAt pos;pure v) hh (wpAny_bind (wpAny_mono hx (fun v s1 z=>wpAny_bind (wpAny_standAt (wpAny_pure z))) fun _ _ y=>y))
 first
  | exact wpAny_bind (wpAny_standAt key)
  | (simp only [evalOpt,Option.map];exact wpAny_bind (wpAny_standAt key))
theorem xinit_check (x:XTail bm) {e:Addr} {oe:Obj} {rest:List Value} {Q:Unit->Shared->Prop} (hC:h.get? C=some (xcls nm qn C N bs bm hdct sn sub ab col dd k0 k1 k2 k3 k5)) (he:h.get? e=some oe) (oc:oe.cls=.ref C)
  (hq:Q () ⟨h,g,d,t,os⟩):wpAny M A (checkBuiltinCall "ValueError.__init__" ⟨.ref e::rest,[]⟩) Q E ⟨h,g,d,t,os⟩:=by
 have c1:=x.cv (C:=C)
 have B:=PySem.F.excBase_ValueError
 have c2:=B.noStar
 simp only [checkBuiltinCall,B.initSplit,B.initKind,B.initRow]
 repeat (first
  | with_reducible refine wpAny_loadPart_at hC ?_
  | (with_reducible refine wpAny_loadPart_at he ?_;rw [oc])
  | (with_reducible refine wpAny_isSubtype_exc hC ?_;rw [c1])
  | wp_step)
 refine wpAny_onRaise ?_
 rw [show ∀ (a b:String) (n:Nat),Bind.check ⟨.positional,"*","ValueError",.self,[⟨"args",.varPos,false⟩]⟩ a b n (List.map (fun y=>y.fst) ({ pos:=Value.ref e::rest } : Args).kw)=pure () from fun a b n=>check_star_args _ _ _ _ _ _]
 exact wpAny_pure hq
theorem xinit (x:XTail bm) {e:Addr} {oe:Obj} {vs:Array Value} {v:Value} {Q:Value->Shared->Prop} (hC:h.get? C=some (xcls nm qn C N bs bm hdct sn sub ab col dd k0 k1 k2 k3 k5)) (he:h.get? e=some oe) (oc:oe.cls=.ref C)
  (hd:oe.data=.fields vs) (h1 : 1 < vs.size)
  (hq:∀ h' oe' vs',(∀ b o,b ≠ e->h.get? b=some o->h'.get? b=some o)->h'.get? e=some oe'->oe'.cls=oe.cls->oe'.dict=oe.dict->oe'.data=.fields vs'->vs'.size=vs.size->vs'[1]?=vs[1]?->Q .none ⟨h',g,d,t,os⟩) :
  wpAny (model prog w) A (call (.builtin "ValueError.__init__") [.ref e,v]) Q E ⟨h,g,d,t,os⟩:=by
 have B:=PySem.F.excBase_ValueError
 refine wpAny_call (codeAny_call_builtin B.init.plain B.initEntry (xinit_check x hC he oc ?_))
 obtain⟨c,dx,dt,sl⟩:=oe
 cases hd
 wp_walk
 have h0:vs[0]?=some vs[0]:=by simp
 rw [h0]
 refine wpAny_pure (wpAny_bind (wpAny_setField (Heap.get?_push_of_some _ he) rfl (by omega) ?_))
 have e2:=Heap.get?_push_of_some { cls:=Value.type "tuple",data:=Data.seq #[v] } he
 have fin:=hq _ _ _ (fun b o nb z=>(Heap.get?_update_other (h.push { cls:=Value.type "tuple",data:=Data.seq #[v] }) (Obj.mapFields (·.setIfInBounds 0 (Value.ref h.objs.size))) (Ne.symm nb)).trans (Heap.get?_push_of_some _ z))
  (Heap.get?_update_self (Obj.mapFields (·.setIfInBounds 0 (Value.ref h.objs.size))) e2 rfl) rfl rfl rfl (by simp) (by simp)
 generalize vs[0]=a0
 cases a0 <;> first
  | exact wpAny_pure (wpAny_pure fin)
  | exact wpAny_letGo (wpAny_pure fin)
theorem xmatch {e Cn:Addr} {oe:Obj} {b:Bool} {Q:Bool->Shared->Prop} {nm1 q1 nm2 q2:Str} {N1 N2:Addr} {bs1 bm1 bs2 bm2:List Value} {hd1 hd2:Bool} {sn1 sn2:List Str} {sub1 sub2:List Value} {ab1 ab2:Bool} {co1 co2:Option Bool} {dd1 dd2:Option Addr}
  {j0 j1 j2 j3 j5 l0 l1 l2 l3 l5:Option Value} {ni1 ni2:String} (hC:h.get? C=some (excClassObj nm1 q1 C N1 bs1 bm1 hd1 sn1 sub1 ab1 co1 dd1 j0 j1 j2 j3 j5 ni1)) (hD:h.get? Cn=some (excClassObj nm2 q2 Cn N2 bs2 bm2 hd2 sn2 sub2 ab2 co2 dd2 l0 l1 l2 l3 l5 ni2))
  (hb:bm2.contains (.type "BaseException")=true) (he:h.get? e=some oe) (oc:oe.cls=.ref C) (hs:(Value.ref C::bm1).contains (.ref Cn)=b) (hq:Q b ⟨h,g,d,t,os⟩):wpAny M A (excMatches (.ref e) (.ref Cn)) Q E ⟨h,g,d,t,os⟩:=by
 have c1:(Value.ref Cn::bm2).contains (.type "BaseException")=true:=by rw [List.contains_cons,hb,Bool.or_true]
 have c2:=tc_notTuple
 unfold excMatches
 repeat (first
  | with_reducible refine wpAny_loadPart_at hD ?_
  | (with_reducible refine wpAny_loadPart_at he ?_;rw [oc])
  | (with_reducible refine wpAny_isSubtype_exc hD ?_;rw [c1])
  | (with_reducible refine wpAny_isSubtype_exc hC ?_;rw [hs])
  | wp_step)
 cases b <;> (wp_walk;exact hq)
end
end L2
namespace L2
open PySem PyProof.Rows
abbrev VB:List Value:=[.type "ValueError",.type "Exception",.type "BaseException",.type "object"]
structure ExCl (K:Frag) (C R fI:Addr):Prop where
 obj:∃ (nm qn:Str) (N:Addr) (bs:List Value) (sn:List Str) (sub:List Value) (ab:Bool) (col:Option Bool) (dd:Option Addr) (k0 k1 k2 k3 k5:Option Value),
  K.lookup C=some (xcls nm qn C N bs (.ref R::VB) true sn sub ab col dd k0 k1 k2 k3 k5)/\PySem.W.nsOkIn K N=true/\nsIn K N "__init__" = some (some (.ref fI))
 fn:isFn K (.ref fI)=true
 kp:keepIn K (.ref C)=true
 sa:findIn K (.ref C) "__setattr__" = some (some (.builtin "object.__setattr__"))
 ga:findIn K (.ref C) "__getattribute__" = some (some (.builtin "BaseException.__getattribute__"))
 gh:findIn K (.ref C) "__getattr__" = some none
theorem xtail (R:Addr):XTail (.ref R::VB):=⟨rfl,rfl,rfl,rfl⟩
theorem ns_some_of {K:Frag} {h:Heap} {N:Addr} {m:Str->Option Value} {n:Str} {v:Value} (X:K.In h) (G:h.Ns N m) (e:nsIn K N n=some (some v)):m n=some v:=by
 obtain⟨o,es,ep,ho,hd,_,hf⟩:=G
 unfold nsIn at e
 cases q:K.lookup N with
 | none=>rw [q] at e;cases e
 | some o' =>
  have z:=X _ _ q
  rw [ho] at z;cases z
  rw [q] at e
  obtain⟨c,d,dt,sl⟩:=o
  cases hd
  rw [← hf]
  unfold nsFind findBy
  rw [← Array.find?_toList]
  dsimp only at e
  cases q2:es.toList.find? (fun x=>x.key.isStr n) with
  | some y =>
   rw [q2] at e
   exact congrArg (fun z:Option (Option Value)=>z.getD none) e
  | none =>
   rw [q2] at e
   dsimp only at e
   split at e <;> cases e
theorem ExCl.cls {K:Frag} {C R fI:Addr} (c:ExCl K C R fI) {h:Heap} (X:K.In h) :
  ∃ (nm qn:Str) (N:Addr) (bs:List Value) (sn:List Str) (sub:List Value) (ab:Bool) (col:Option Bool) (dd:Option Addr) (k0 k1 k2 k3 k5:Option Value) (mN:Str->Option Value) (oI:Obj),
   h.get? C=some (xcls nm qn C N bs (.ref R::VB) true sn sub ab col dd k0 k1 k2 k3 k5)/\h.Ns N mN/\mN "__init__" = some (.ref fI)/\h.get? fI=some oI/\oI.cls=.type "function":=by
 obtain⟨nm,qn,N,bs,sn,sub,ab,col,dd,k0,k1,k2,k3,k5,lk,nsok,nsi⟩:=c.obj
 have hN:=Heap.Ns.of_isNs (PySem.W.isNs_of_in X nsok)
 have hf:=c.fn
 unfold isFn PySem.W.typeIn at hf
 have hf':=beq_iff_eq.mp hf
 obtain⟨oI,q,r⟩:=Option.map_eq_some_iff.mp hf'
 exact⟨nm,qn,N,bs,sn,sub,ab,col,dd,k0,k1,k2,k3,k5,_,oI,X _ _ lk,hN,ns_some_of X hN nsi,X _ _ q,r⟩
section
variable {prog:Program} {w:World} {A:Around} {E:Value->Shared->Prop} {s:Shared} {K:Frag} {e C R fI:Addr} {oe:Obj} {vs:Array Value} {name:Str} {v:Value}
theorem inst_of {od:Option Obj} (he:s.heap.get? e=some oe) (oc:oe.cls=.ref C) (hd:oe.data=.fields vs) (hx:match oe.dict,od with|some dx,some o=>s.heap.get? dx=some o|none,none=>True|_,_=>False):PySem.W.InstAt s.heap e oe C od :=
 ⟨he,oc,by unfold PySem.W.notCls;rw [hd],hx⟩
theorem ExCl.clsIn (c:ExCl K C R fI):∃ cd,PySem.W.clsIn K C=some cd/\cd.mro=.ref C :: .ref R::VB/\cd.hasDict=true:=by
 obtain⟨nm,qn,N,bs,sn,sub,ab,col,dd,k0,k1,k2,k3,k5,lk,_⟩:=c.obj
 exact⟨_,by unfold PySem.W.clsIn;rw [lk],rfl,rfl⟩
theorem xset_open {od:Option Obj} {Q:Unit->Shared->Prop} (X:K.In s.heap) (c:ExCl K C R fI) (I:PySem.W.InstAt s.heap e oe C od) (hf:findIn K (.ref C) name=some none)
  (h:wpAny (model prog w) A.in1 (Builtin.ObjectAttr.storeInOwnDict (.ref e) (.ref C) (.str name s.toks) name v false)
   (fun fin s'=>match fin with | .done (.ret _)=>Q () s'|_=>False) (fun _ _=>False) { s with toks:=s.toks + 1 }) :
  wpAny (model prog w) A (setAttr (.ref e) name v) Q E s:=by
 have SF:=PySem.F.store_ValueError
 obtain⟨cd,hcd,hm,hh⟩:=c.clsIn
 refine PySem.W.set_plain X I c.sa ?_
 have mro:PySem.W.Looks (model prog w) s.heap (mroOf (.ref C)) (.ref C :: .ref R::VB):=hm ▸ (PySem.W.looks_clsIn X hcd).andThen .now
 have isO:PySem.W.Looks (model prog w) s.heap (isInstance (.ref e) (.type "object")) true:=I.type.andThen (PySem.W.looks_mroIn X (by
  unfold PySem.W.mroIn
  rw [hcd,Option.bind_some,hm,if_neg (by intro z;cases z)]
  rfl))
 refine codeAny_call_builtin SF.slot.plain SF.entry (@PySem.W.check_slot (model prog w) _ _ { s with toks:=s.toks + 1 } "object.__setattr__" "object" "__setattr__" (.ref e) [.str name s.toks,v] [] _ SF.kind SF.split isO (SF.args (.ref e) (.str name s.toks) v) ?_)
 rw [PySem.W.osa_eq,refuse_eq]
 refine wpAny_bind (wpAny_bind (PySem.W.Looks.here (s:={ s with toks:=s.toks + 1 }) I.type (wpAny_bind (PySem.W.Looks.here (s:={ s with toks:=s.toks + 1 }) mro ?_))))
 rw [refuseLoop_ref,refuseLoop_ref,SF.passes]
 refine wpAny_pure (wpAny_bind (PySem.W.Looks.here (s:={ s with toks:=s.toks + 1 }) I.type (wpAny_bind (PySem.W.Looks.here (s:={ s with toks:=s.toks + 1 }) (PySem.W.looks_findIn X hf) (wpAny_bind (wpAny_pure ?_))))))
 refine wpAny_mono h (fun fin s' z=>?_) fun _ _ z=>z.elim
 rcases fin with (_|_|_|_)|_ <;> first|exact z|exact z.elim
theorem xset_first {Q:Unit->Shared->Prop} (X:K.In s.heap) (c:ExCl K C R fI) (he:s.heap.get? e=some oe) (oc:oe.cls=.ref C) (hd:oe.data=.fields vs) (hx:oe.dict=none) (hf:findIn K (.ref C) name=some none)
  (h:∀ h' dx tk,s.heap.objs.size<=dx->dx ≠ e->h'.get? e=some { oe with dict:=some dx }->h'.Ns1 dx (fun y=>if y=name then some v else none)->(∀ b o,b ≠ e->s.heap.get? b=some o->h'.get? b=some o)->Q () { s with heap:=h',toks:=tk }) :
  wpAny (model prog w) A (setAttr (.ref e) name v) Q E s:=by
 obtain⟨cd,hcd,hm,hh⟩:=c.clsIn
 refine xset_open X c (inst_of (od:=none) he oc hd (by rw [hx];trivial)) hf ?_
 obtain⟨cc,dd,dt,sl⟩:=oe
 cases oc;cases hd;cases hx
 have ne:s.heap.objs.size ≠ e:=Nat.ne_of_gt (Heap.lt_size he)
 unfold Builtin.ObjectAttr.storeInOwnDict Builtin.ObjectAttr.ownDictForStores instanceDict
 refine wpAny_bind (wpAny_pure ?_)
 refine wpAny_bind (wpAny_bind (wpAny_loadPart he (wpAny_bind (PySem.W.Looks.here (s:={ s with toks:=s.toks + 1 }) (PySem.W.looks_clsIn X hcd) ?_))))
 rw [hh]
 refine wpAny_bind (wpAny_alloc ?_)
 have he1:=Heap.get?_push_of_some ({ cls:=.type "dict",data:=.dict #[] } : Obj) he
 refine wpAny_bind (wpAny_update he1 ?_)
 refine wpAny_pure (a:=some s.heap.objs.size) ?_
 have hg:((s.heap.push ({ cls:=.type "dict",data:=.dict #[] } : Obj)).update e fun o=>{ o with dict:=some s.heap.objs.size }).get? s.heap.objs.size=some ({ cls:=.type "dict",data:=.dict #[] } : Obj):=(Heap.get?_update_ne _ _ _ _ ne).trans (Heap.get?_push_at rfl rfl)
 have hE:((s.heap.push ({ cls:=.type "dict",data:=.dict #[] } : Obj)).update e fun o=>{ o with dict:=some s.heap.objs.size }).Ns s.heap.objs.size (fun _=>none):=⟨_,#[],_,hg,rfl,fun y hy=>absurd hy (by simp),fun _=>rfl⟩
 refine wpAny_bind (wpAny_pure (wpAny_bind (wpAny_nsSet1 (Heap.Ns1.of_empty hE) fun h' hn hs=>?_)))
 obtain⟨oD,esD,epD,hoD,hdD,hcD⟩:=hn.count (PySem.Within.cons name v PySem.Within.nil)
 refine wpAny_bind (wpAny_lookBehind hoD (by rw [hdD];exact pastItsLine_dict (Nat.le_trans hcD (by rw [List.length_cons,List.length_nil];omega))) ?_)
 refine wpAny_pure (h h' s.heap.objs.size _ (Nat.le_refl _) ne ((hs.2 _ (Ne.symm ne)).trans (Heap.get?_update_self _ he1 rfl)) hn fun b o hb q=>?_)
 exact (hs.2 b (Nat.ne_of_lt (Heap.lt_size q))).trans ((Heap.get?_update_ne _ _ _ _ hb).trans (Heap.get?_push_of_some _ q))
theorem xset_next {dx:Addr} {mA:Str->Option Value} {ns:List Str} {Q:Unit->Shared->Prop} (X:K.In s.heap) (c:ExCl K C R fI) (he:s.heap.get? e=some oe) (oc:oe.cls=.ref C) (hd:oe.data=.fields vs) (hx:oe.dict=some dx) (hN:s.heap.Ns1 dx mA) (hw:PySem.Within mA ns) (hz:ns.length<=sizeLine) (hf:findIn K (.ref C) name=some none)
  (h:∀ h',h'.Ns1 dx (fun y=>if y=name then some v else mA y)->Heap.SameBut dx s.heap h'->Q () { s with heap:=h',toks:=s.toks + 2 }) :
  wpAny (model prog w) A (setAttr (.ref e) name v) Q E s:=by
 obtain⟨cd,hcd,hm,hh⟩:=c.clsIn
 obtain⟨o1,es1,ep1,ho1,_⟩:=id hN
 refine xset_open X c (inst_of (od:=some o1) he oc hd (by rw [hx];exact ho1)) hf ?_
 obtain⟨cc,dd,dt,sl⟩:=oe
 cases oc;cases hd;cases hx
 unfold Builtin.ObjectAttr.storeInOwnDict Builtin.ObjectAttr.ownDictForStores instanceDict
 refine wpAny_bind (wpAny_pure ?_)
 refine wpAny_bind (wpAny_bind (wpAny_loadPart he (wpAny_bind (PySem.W.Looks.here (s:={ s with toks:=s.toks + 1 }) (PySem.W.looks_clsIn X hcd) ?_))))
 rw [hh]
 refine wpAny_pure (a:=some dx) (wpAny_bind (wpAny_pure (wpAny_bind (wpAny_nsSet1 (s:={ s with toks:=s.toks + 1 }) hN fun h' hn hs=>?_))))
 obtain⟨oD,esD,epD,hoD,hdD,hcD⟩:=hn.count (PySem.Within.cons name v hw)
 refine wpAny_bind (wpAny_lookBehind hoD (by rw [hdD];exact pastItsLine_dict (Nat.le_trans hcD (by rw [List.length_cons];omega))) ?_)
 exact wpAny_pure (h _ hn hs)
end
section
variable {prog:Program} {w:World} {A:Around} {E:Value->Shared->Prop} {s:Shared} {K:Frag} {e C R fI:Addr} {oe:Obj} {vs:Array Value} {name:Str} {v:Value}
theorem xget {expr:Bool} {od:Option Obj} {Q:Value->Shared->Prop} (X:K.In s.heap) (c:ExCl K C R fI) (I:PySem.W.InstAt s.heap e oe C od) (hf:PySem.W.findObj K C od name=some (.value v)) (hh:PySem.W.handedIn v=true) (h:Q v { s with toks:=s.toks + 1 }) :
  wpAny (model prog w) A (getAttr (.ref e) name expr) Q E s:=by
 obtain⟨cd,hcd,hm,_⟩:=c.clsIn
 have isB:PySem.W.Looks (model prog w) s.heap (isInstance (.ref e) (.type "BaseException")) true:=I.type.andThen (PySem.W.looks_mroIn X (by
  unfold PySem.W.mroIn
  rw [hcd,Option.bind_some,hm,if_neg (by intro z;cases z)]
  rfl))
 have L0:=I.type (M:=model prog w)
 have L1:=PySem.W.looks_findIn (M:=model prog w) X c.ga
 have L2:=PySem.W.looks_findIn (M:=model prog w) X c.gh
 have L3:=PySem.W.looks_find (M:=model prog w) X I hf
 have hx0:(expr && onTheHeap (Value.builtin "BaseException.__getattribute__"))=false:=by cases expr <;> rfl
 obtain⟨hp,g,d,t,os⟩:=s
 unfold getAttr getAttrBy
 refine wpAny_bind (wpAny_mkText (wpAny_holding (wpAny_bind (L0.at (wpAny_bind (L1.at ?_))))))
 show wpAny _ _ (getAttrByItsOwn _ _ _ _ _ _) _ _ _
 unfold getAttrByItsOwn
 refine wpAny_bind (show wpAny _ _ (typeLookup (.ref C) "__getattr__") _ _ _ from L2.at ?_)
 have FB:=PySem.F.attr_ValueError.ga
 have hk:builtinKind "BaseException.__getattribute__" = some .slot:=by decide +kernel
 have hs:splitId "BaseException.__getattribute__" = some ("BaseException","__getattribute__"):=by decide +kernel
 refine wpAny_bind (wpAny_attempt (wpAny_holding ?_))
 unfold callGetattribute
 rw [hx0,if_neg Bool.false_ne_true]
 unfold boundAndCalled
 rw [FB.bind]
 refine wpAny_bind (wpAny_pure (wpAny_call ?_))
 show codeAny _ _ (.call (.builtin "BaseException.__getattribute__") ⟨[.ref e,.str name t],[]⟩) _ _
 refine codeAny_call_builtin FB.plain PySem.F.entry_bexc_ga ?_
 refine @PySem.W.check_slot (model prog w) _ _ _ "BaseException.__getattribute__" "BaseException" "__getattribute__" (.ref e) [.str name t] [] _ hk hs isB (PySem.F.args_bexc_ga _ _) ?_
 unfold Builtin.«object.__getattribute__» slotArgs
 refine wpAny_bind (wpAny_pure ?_)
 refine wpAny_bind (wpAny_pure ?_)
 refine wpAny_bind (L0.at ?_)
 refine wpAny_bind (L3.at ?_)
 refine wpAny_pure ?_
 show wpAny _ _ (handedOut v) _ _ _
 rw [PySem.W.handedOut_of hh]
 exact wpAny_pure h
end
end L2
namespace L2
open PySem PySem.Spec PyProof.Rows
def Ex0 (e C:Addr) (dx:Option Addr):HO:=.ext fun h=>∃ oe vs,h.get? e=some oe/\oe.cls=.ref C/\oe.dict=dx/\oe.data=.fields vs/\1 < vs.size/\vs[1]?=some .none
def ExF (e C:Addr) (dx:Option Addr):HO:=.ext fun h=>∃ oe vs,h.get? e=some oe/\oe.cls=.ref C/\oe.dict=dx/\oe.data=.fields vs
theorem Ex0.ok {P:Program} {w:World} {H:Hp} {h:Heap} {e C:Addr} {dx:Option Addr} {oe:Obj} {vs:Array Value} (he:h.get? e=some oe) (hc:oe.cls=.ref C) (hx:oe.dict=dx) (hd:oe.data=.fields vs) (h1 : 1 < vs.size) (hv:vs[1]?=some .none):ObjOk P w H h e (Ex0 e C dx) :=
 ⟨⟨oe,vs,he,hc,hx,hd,h1,hv⟩,⟨oe,he⟩,fun _ _ ⟨oe,vs,a,b⟩ k=>⟨oe,vs,k _ a,b⟩⟩
theorem ExF.ok {P:Program} {w:World} {H:Hp} {h:Heap} {e C:Addr} {dx:Option Addr} {oe:Obj} {vs:Array Value} (he:h.get? e=some oe) (hc:oe.cls=.ref C) (hx:oe.dict=dx) (hd:oe.data=.fields vs):ObjOk P w H h e (ExF e C dx) :=
 ⟨⟨oe,vs,he,hc,hx,hd⟩,⟨oe,he⟩,fun _ _ ⟨oe,vs,a,b⟩ k=>⟨oe,vs,k _ a,b⟩⟩
theorem Xc.ok {P:Program} {w:World} {H:Hp} {h:Heap} {e C:Addr} {dx:Option Addr} {T:Addr} {fl:Option Value} (x:Xc h e C dx T fl):ObjOk P w H h e (ExF e C dx):=by
 obtain⟨oe,vs,he,hc,hx,hd,_⟩:=x
 exact ExF.ok he hc hx hd
structure Fly (X:Cx) (pins:List (Addr × Obj)) (σ:St) (H:Hp) (s:Shared) (e C:Addr) (dx:Option Addr) (T:Addr) (fl:Option Value):Prop where
 inv:Inv X pins σ H s
 at_:H e=some (ExF e C dx)
 xc:Xc s.heap e C dx T fl
 ye:X.s₀.heap.objs.size<=e
 fp:T=e\/FpOk X pins H T
section
variable {X:Cx} {pins:List (Addr × Obj)} {σ:St} {H H':Hp} {s s':Shared} {e C:Addr} {dx:Option Addr} {T:Addr} {fl:Option Value}
theorem Fly.moved (f:Fly X pins σ H s e C dx T fl) {h':Heap} {T':Addr} {fl':Option Value} (m:Mv (frs X.stack) e T s.heap h') (hT:T'=T\/s.heap.objs.size<=T') (x':Xc h' e C dx T' fl') :
  Fly X pins σ H { s with heap:=h' } e C dx T' fl':=by
 have I:=f.inv
 have nT:∀ b u,H b=some u->b ≠ e->b ≠ T:=fun b u q ne z=>by
  rcases f.fp with y|y
  ·exact ne (z.trans y)
  ·rw [z,y.1] at q;cases q
 have hok:HOk X.prog X.w H h':=fun b u q=>by
  by_cases hb:b=e
  ·subst hb;rw [f.at_] at q;cases q;exact x'.ok
  ·refine (I.hok b u q).stay (fun c v hc z=>?_) (fun _ z=>z) fun _ _ z=>z
   have hc':∃ u',H c=some u'/\c ≠ e:=by
    rcases hc with rfl|hc
    ·exact⟨u,q,hb⟩
    ·exact⟨_,hc,fun y=>by rw [y,f.at_] at hc;cases hc⟩
   obtain⟨u',qc,nc⟩:=hc'
   exact (m c v z nc (nT c u' qc nc)).1 fun y=>by rw [I.stkFree c y] at qc;cases qc
 obtain⟨oe,vs,he,_⟩:=id x'
 have un:Un (frs X.stack) [T] H H s.heap h':=by
  have nn:∀ b,H b=none->b ≠ e:=fun b n z=>by rw [z,f.at_] at n;cases n
  refine⟨fun b o q n hb hx=>(m b o q (nn b n) (fun z=>hx (by simp [z]))).1 hb,fun b o q n _ hx=>(m b o q (nn b n) (fun z=>hx (by simp [z]))).2,fun _ _ _ n _=>n,fun b o q hx=>?_,fun _ _ q=>q,fun _ _ _ q=>q,fun _ ps q=>⟨#[],by rw [q];simp⟩⟩
  by_cases hb:b=e
  ·exact⟨oe,hb ▸ he⟩
  ·obtain⟨_,sl,z⟩:=m b o q hb (fun z=>hx (by simp [z]))
   exact⟨_,z⟩
 have hch:∀ b ∈ [T],(b ∈ X.ex\/X.s₀.heap.objs.size<=b)/\b ≠ X.env.locals/\(∀ x c,X.env.cells.lookup x=some c->c ≠ b)/\∀ p ∈ X.pn++pins,p.1 ≠ b:=fun b hb=>by
  obtain rfl:b=T:=by simpa using hb
  rcases f.fp with y|y
  ·subst y
   refine⟨.inr f.ye,fun z=>?_,fun x c q z=>?_,fun p hp z=>?_⟩
   ·have:=I.free;rw [← z,f.at_] at this;cases this
   ·have:=I.freeC x c q;rw [z,f.at_] at this;cases this
   ·have:=(I.pin p hp).2.1;rw [z,f.at_] at this;cases this
  ·exact⟨y.2.2.2.1,y.2.1,y.2.2.2.2.1,y.2.2.2.2.2⟩
 refine⟨I.call (g':=s.gens) (t':=s.toks) (d':=s.drawn) un hok I.bare hch,f.at_,x',f.ye,?_⟩
 rcases hT with z|z
 ·rw [z];exact f.fp
 ·exact .inr (I.fpOk z (I.hok.fresh z))
theorem Xc.neT {h:Heap} {v:Value} (x:Xc h e C dx T (some v)):T ≠ e:=by
 obtain⟨oe,vs,_,_,_,_,_,⟨z,_⟩|⟨_,_,_,_,n,_⟩⟩:=x
 ·cases z
 ·exact n
def CXE (P:Program) (w:World):CXT:=fun outer H s E ev s'=>∃ (e C:Addr) (dx:Option Addr) (T:Addr) (H':Hp),ev=.ref e/\s'.os=s.os/\AllBare s'.gens/\Un (frs outer) [] H H' s.heap s'.heap/\HOk P w H' s'.heap ∧
 H' e=some (ExF e C dx)/\Xc s'.heap e C dx T (some .none)/\s.heap.objs.size<=e/\s.heap.objs.size<=T/\H' T=none/\E ev none H'
theorem Fly.of_call {E:XK} {ev:Value} (I:Inv X pins σ H s) (h:CXE X.prog X.w X.stack H s E ev s'):∃ e C dx T H',ev=.ref e/\Fly X pins σ H' s' e C dx T (some .none)/\E ev none H':=by
 obtain⟨e,C,dx,T,H',rfl,os,ba,un,hok,at_,xc,ye,yT,hT,hE⟩:=h
 have I':=I.call' (ch:=[]) os un hok ba (fun b hb=>absurd hb (by simp))
 exact⟨e,C,dx,T,H',rfl,⟨I',at_,xc,Nat.le_trans I.sz ye,.inr (I.fpOk yT hT)⟩,hE⟩
end
section
variable {P:Program} {w:World} {K:Frag} {mg:Str->Option Value} {base:Heap} {N:List Str} {qual:Str} {scope:Scope} {f:Addr} {cd:Value} {A:Around} {outer:List Env} {s₀ : Shared} {H₀ : Hp} {E E':XK}
theorem leave_cx {pins:List (Addr × Obj)} {σ:St} {H:Hp} {s:Shared} {e C:Addr} {dx:Option Addr} {T:Addr} {fl:Option Value} (y:Fly (cxOf (CXE P w) P w K mg base N qual scope f cd A outer s₀ H₀ E) pins σ H s e C dx T fl)
  (hf:fl=none\/fl=some .none\/fl=some (rawInt s₀.heap.objs.size)) (hE:E (.ref e) none H):(cxOf (CXE P w) P w K mg base N qual scope f cd A outer s₀ H₀ E).xe (.ref e) s:=by
 have I:=y.inv
 refine leave_ok (base:=base) (env:=envOfC qual scope s₀.heap.objs.size f cd) (outer:=outer) I.ok.frames rfl I.stack y.xc hf fun h' T' hT x' m=>?_
 have y':=y.moved m hT x'
 have I':=y'.inv
 rcases y'.fp with z|z
 ·exact absurd z x'.neT
 refine⟨e,C,dx,T',H,rfl,I'.os,I'.bare,I'.base,I'.hok,y.at_,x',y.ye,?_,z.1,hE⟩
 rcases z.2.2.2.1 with q|q
 ·exact absurd (show T' ∈ ([]:List Addr) from q) (by simp)
 ·exact q
theorem passX {P:Program} {w:World} {X:Cx} : Passes (CXE P w) X E0:=fun _ _ _ _ _ _ _ h=>by
 obtain⟨_,_,_,_,_,_,_,_,_,_,_,_,_,_,_,q⟩:=h
 exact q.elim
def Raises (X:Cx) (S:St->Prop) (E:XK):Prop:=∀ (pins:List (Addr × Obj)) (σ:St) (H:Hp) (s:Shared) (e C:Addr) (dx:Option Addr),S σ->Inv X pins σ H s->H e=some (Ex0 e C dx)->X.s₀.heap.objs.size<=e->E (.ref e) none (upd H e (ExF e C dx))->X.xe (.ref e) s
theorem Fly.start {X:Cx} {pins:List (Addr × Obj)} {σ:St} {H:Hp} {s:Shared} {e C:Addr} {dx:Option Addr} (I:Inv X pins σ H s) (he:H e=some (Ex0 e C dx)) (ye:X.s₀.heap.objs.size<=e) :
  Fly X pins σ (upd H e (ExF e C dx)) s e C dx e none:=by
 obtain⟨⟨oe,vs,q,hc,hx,hd,h1,hv⟩,_⟩:=I.hok e _ he
 have I':Inv X pins σ (upd H e (ExF e C dx)) s:=by
  have:=I.write (x:=e) (e:=e) (o:=ExF e C dx) (t':=s.toks) (h':=s.heap) (by rw [he];exact True.intro) (.inl rfl) (fun _ _ _ z=>z) ⟨_,q⟩ (ExF.ok q hc hx hd)
  exact this
 exact⟨I',upd_same,⟨oe,vs,q,hc,hx,hd,h1,.inl ⟨rfl,rfl,hv⟩⟩,ye,.inl rfl⟩
theorem raisesE:Raises (cxOf (CXE P w) P w K mg base N qual scope f cd A outer s₀ H₀ E) (fun _=>True) E:=fun pins σ H s e C dx _ I he ye hE=>leave_cx (Fly.start I he ye) (.inl rfl) hE
theorem ownE:PassesOwn (model P w) (A.deeper (envOfC qual scope s₀.heap.objs.size f cd)) (envOfC qual scope s₀.heap.objs.size f cd) (cxOf (CXE P w) P w K mg base N qual scope f cd A outer s₀ H₀ E).xe:=PassesOwn.leaving
end
theorem Fun.okE {P:Program} {w:World} {K:Frag} {mg:Str->Option Value} {base:Heap} {x qual:Str} {st:Stmt} {f:Addr} {fd:FuncData} {N ps:List Str} {k:Nat} {sp:Sp} (F:Fun K x qual st f fd) (S:FnScope N ps (defScope st)) (len:∀ vs H Q E,sp vs H Q E->vs.length=ps.length)
  (hbody:∀ (cdv:Value) (A:Around) (outer:List Env) (s:Shared) (H:Hp) (vs:List V) (Q:VK) (E:XK),Room k (A.deeper (envOfC qual (defScope st) s.heap.objs.size f cdv))->sp vs H Q E →
   ∃ t,PSs (cxOf (CXE P w) P w K mg base N qual (defScope st) f cdv A outer s H E) (defBody st) t/\t { nx:=fun _ H'=>Q .non H',rt:=Q } (start N vs) H):FnOk P w K mg base (CXE P w) (k + 1) f fd ps sp:=by
 obtain⟨oc,od,kV,doc,pm,an,cdv,ct,osl,rfl,lk,hcd⟩:=F.ex
 exact fn_of lk hcd S len fun A outer s H vs Q E hr hsp=>hbody cdv A outer s H vs Q E hr hsp
theorem Cx.Ok.re {X:Cx} (ok:X.Ok) (pn:List (Addr × Obj)) (E:Value->Shared->Prop):Cx.Ok { X with pn:=pn,xe:=E } :=
 ⟨ok.mod,ok.kind,ok.glob,ok.blt,ok.above,ok.inj,ok.has,ok.cab,ok.hd,ok.frames,ok.stk,ok.exf,ok.bs,ok.bsz,ok.noex,ok.exfs,ok.funs,ok.frf⟩
theorem Cx.Ok.back {X:Cx} {pn:List (Addr × Obj)} {E:Value->Shared->Prop} (ok:Cx.Ok { X with pn:=pn,xe:=E }):X.Ok :=
 ⟨ok.mod,ok.kind,ok.glob,ok.blt,ok.above,ok.inj,ok.has,ok.cab,ok.hd,ok.frames,ok.stk,ok.exf,ok.bs,ok.bsz,ok.noex,ok.exfs,ok.funs,ok.frf⟩
section
variable {X:Cx} {pins:List (Addr × Obj)} {σ:St} {H:Hp} {s:Shared}
theorem Inv.re (I:Inv X pins σ H s) (pn pins':List (Addr × Obj)) (E:Value->Shared->Prop) (h:∀ p ∈ pn++pins',p ∈ X.pn++pins):Inv { X with pn:=pn,xe:=E } pins' σ H s :=
 ⟨I.ok.re pn E,I.os,I.bare,I.base,I.loc,I.cell,I.free,I.freeC,fun p hp=>I.pin p (h p hp),I.hok,I.len⟩
theorem Inv.back {pn:List (Addr × Obj)} {E:Value->Shared->Prop} {pins':List (Addr × Obj)} (I:Inv { X with pn:=pn,xe:=E } pins' σ H s) (h:∀ p ∈ X.pn++pins,p ∈ pn++pins'):Inv X pins σ H s :=
 ⟨I.ok.back,I.os,I.bare,I.base,I.loc,I.cell,I.free,I.freeC,fun p hp=>I.pin p (h p hp),I.hok,I.len⟩
def XT (X:Cx) (pn:List (Addr × Obj)) (S:St->Prop) (W:XK):Value->Shared->Prop:=fun ev s=>∃ (e C:Addr) (dx:Option Addr) (T:Addr) (fl:Option Value) (σ:St) (H:Hp),
 ev=.ref e/\Fly { X with pn:=pn,xe:=fun _ _=>False } [] σ H s e C dx T fl/\(fl=none\/fl=some .none)/\S σ/\W ev none H
abbrev XB (X:Cx) (pn:List (Addr × Obj)) (S:St->Prop) (W:XK):Cx:={ X with pn:=pn,xe:=XT X pn S W }
theorem Fly.re {pn:List (Addr × Obj)} {E E':Value->Shared->Prop} {e C:Addr} {dx:Option Addr} {T:Addr} {fl:Option Value} (f:Fly { X with pn:=pn,xe:=E } pins σ H s e C dx T fl):Fly { X with pn:=pn,xe:=E' } [] σ H s e C dx T fl:=by
 refine⟨?_,f.at_,f.xc,f.ye,?_⟩
 ·exact Inv.re (X:={ X with pn:=pn,xe:=E }) f.inv pn [] E' (fun p hp=>by
   rw [List.append_nil] at hp
   exact List.mem_append_left _ hp)
 ·rcases f.fp with z|⟨a1,a2,a3,a4,a5,a6⟩
  ·exact .inl z
  ·exact .inr ⟨a1,a2,a3,a4,a5,fun p hp=>a6 p (by
    have hp':p ∈ pn++[]:=hp
    rw [List.append_nil] at hp'
    exact List.mem_append_left _ hp')⟩
def PassesS (CX:CXT) (X:Cx) (S:St->Prop) (E:XK):Prop:=∀ (pins:List (Addr × Obj)) (σ:St) (H:Hp) (s:Shared) (e:Value) (s':Shared),S σ->Inv X pins σ H s->CX X.stack H s E e s'->X.xe e s'
theorem passT {pn:List (Addr × Obj)} {S:St->Prop} {W:XK} : PassesS (CXE X.prog X.w) (XB X pn S W) S W:=by
 intro pins σ H s ev s' hS I h
 obtain⟨e,C,dx,T,H',rfl,y,q⟩:=Fly.of_call (X:=XB X pn S W) I h
 exact⟨e,C,dx,T,_,σ,H',rfl,y.re,.inr rfl,hS,q⟩
end
section
variable {X:Cx} {CX:CXT} {k:Nat} {f C:Addr} {fd:FuncData} {ps:List Str} {sp:Sp} {dvs:List V} {ds:List Value} {E:XK} {S:St->Prop} {x m:Str} {p pos apos:Pos} {e o:Expr} {es:List Expr} {ta:TE} {t:TA}
theorem run_fnS {pins:List (Addr × Obj)} {σ:St} {H:Hp} {s:Shared} {Q:VK} {us:List Value} {vs:List V} (F:FnOk X.prog X.w X.K X.mg X.base CX k f fd ps sp) (hr:Room k X.A) (hb:Binds X.K fd ps ds) (hd:Vals dvs ds) (hx:PassesS CX X S E) (hS:S σ)
  (I:Inv X pins σ H s) (r:Vals vs us) (h:sp (vs++dvs) H Q E):wpAny (model X.prog X.w) X.A (call (.ref f) us) (EP X pins σ Q) X.xe s:=by
 have r2:Vals (vs++dvs) (us++ds):=r.append hd
 have hl:(us++ds).length=ps.length:=by rw [← r2.length];exact F.len _ _ _ _ h
 refine wpAny_call (codeAny_mono (F.run X.A X.stack s H ⟨us,[]⟩ (us++ds) (vs++dvs) Q E hr I.env0 (hb s us I.kIn hl) r2 h) fun r s' hq=>?_)
 cases r with
 | error e=>exact hx pins σ H s e s' hS I hq
 | ok fl =>
  cases fl with
  | ret u=>exact I.after hq
  | next=>exact False.elim hq
  | brk=>exact False.elim hq
  | cont=>exact False.elim hq
def tMethS (S:St->Prop) (C:Addr) (m:Str) (sp:Sp) (dvs:List V) (E:XK) (ta:TE) (t:TA):TE:=fun σ H Q=>ta σ H fun x H1=>∃ a dx fs,x=.ref a/\H1 a=some (.ins C dx fs)/\fs.lookup m=none ∧
 t σ H1 fun vs H2=>S σ/\sp (x::(vs++dvs)) H2 Q E
theorem pe_methS {pl:Sem Bool} (he:PE X o ta) (c:Cls X.K C) (hm:Meth X.K C m f) (F:FnOk X.prog X.w X.K X.mg X.base CX k f fd ps sp) (hr:Room k X.A) (hb:Binds X.K fd ps ds) (hd:Vals dvs ds) (hx:PassesS CX X S E) (ha:PA X (e::es) t)
  (hst:starEach (e::es) X.env=(false,eval e X.env)::starEach es X.env:=by rfl) (hpl:(backTo pos (starEach es X.env)).any (·.1)=false:=by rfl)
  (ht:eval (.Call (.Attribute o m apos) (e::es) [] pos) X.env=(do
   let ov ← eval o X.env
   standAt apos.atName
   let (f,first) ← holding [ov] (getMethod ov m pl)
   callWith pos f first (backTo pos (starEach (e::es) X.env)) (backToKw pos (keywordEach [] X.env))):=by rfl) :
  PE X (.Call (.Attribute o m apos) (e::es) [] pos) (tMethS S C m sp dvs E ta t):=by
 intro pins s σ H Q I h
 refine PySem.W.methodCall_KW (pl:=pl) (thn (he pins s σ H _ I h) fun u s1 ⟨x,H1,I1,rx,a,dx,fs,ex,ea,l,q⟩=>?_) ht
 subst ex
 obtain rfl:u=Value.ref a:=rx
 refine getmeth_ok I1 ea c hm l ?_
 refine PySem.W.callWith_K (first:=[.ref a]) (h₀:=X.base) I.ok.mod.kin hm.kp (thn (ha pos pins s1 σ H1 _ I1 q) fun us s2 ⟨vs,H2,I2,r,hS,q2⟩=>⟨I2.kIn,?_⟩) hst hpl
 exact run_fnS (us:=.ref a::us) (vs:=.ref a::vs) F hr hb hd hx hS I2 (.cons rfl r) q2
end
structure XCls (K:Frag) (C:Addr) (bm:List Value):Prop where
 obj:∃ (nm q:Str) (N:Addr) (bs:List Value) (hd:Bool) (sn:List Str) (sub:List Value) (ab:Bool) (col:Option Bool) (dd:Option Addr) (k0 k1 k2 k3 k5:Option Value) (ni:String),K.lookup C=some (excClassObj nm q C N bs bm hd sn sub ab col dd k0 k1 k2 k3 k5 ni)
 b:bm.contains (.type "BaseException")=true
abbrev XH (X:Cx) (e:Addr):Cx:={ X with A:=X.A.mark (some (.ref e)),calm:=false,xe:=fun _ _=>False }
section
variable {X:Cx} {pins:List (Addr × Obj)} {σ:St} {H:Hp} {s:Shared}
theorem Inv.toH (I:Inv X pins σ H s) (e:Addr):Inv (XH X e) pins σ H s :=
 ⟨⟨I.ok.mod,I.ok.kind,I.ok.glob,I.ok.blt,I.ok.above,I.ok.inj,I.ok.has,I.ok.cab,(fun z=>by cases z),I.ok.frames,I.ok.stk,I.ok.exf,I.ok.bs,I.ok.bsz,I.ok.noex,I.ok.exfs,I.ok.funs,I.ok.frf⟩,I.os,I.bare,I.base,I.loc,I.cell,I.free,I.freeC,I.pin,I.hok,I.len⟩
theorem Inv.ofH {e:Addr} (hd:X.calm=true->X.A.handled=none) (I:Inv (XH X e) pins σ H s):Inv X pins σ H s :=
 ⟨⟨I.ok.mod,I.ok.kind,I.ok.glob,I.ok.blt,I.ok.above,I.ok.inj,I.ok.has,I.ok.cab,hd,I.ok.frames,I.ok.stk,I.ok.exf,I.ok.bs,I.ok.bsz,I.ok.noex,I.ok.exfs,I.ok.funs,I.ok.frf⟩,I.os,I.bare,I.base,I.loc,I.cell,I.free,I.freeC,I.pin,I.hok,I.len⟩
theorem Inv.unbound {h':Heap} {m:Str->Option Value} {u:Option Value} {i:Nat} {n:Str} (I:Inv X pins σ H s) (hN:X.N.Nodup) (hi:X.N[i]?=some n) (hn:s.heap.Ns X.env.locals m)
  (hm:∀ (j:Nat) (x:Str) (v:V),X.N[j]?=some x->σ[j]?=some (some v)->Vis X.env.scope x->∃ u,RelV v u/\Look X.env s.heap m x u)
  (hn':h'.Ns X.env.locals (fun x=>if x=n then u else m x)) (sb:Heap.SameBut X.env.locals s.heap h'):Inv X pins (σ.set i none) H { s with heap:=h' }:=by
 have kp:∀ b o,b ≠ X.env.locals->s.heap.get? b=some o->h'.get? b=some o:=fun b o nb q=>(sb.2 b nb).trans q
 have neL:∀ b o,X.s₀.heap.get? b=some o->b ≠ X.env.locals:=fun b o e=>Nat.ne_of_lt (Nat.lt_of_lt_of_le (Heap.lt_size e) I.ok.above)
 have B:=I.base
 refine⟨I.ok,I.os,I.bare,⟨fun b o q n1 hb hx=>kp b o (neL b o q) (B.keep b o q n1 hb hx),fun b o q n1 hb hx=>?_,B.free,fun b o q hx=>?_,B.tups,B.frzs,B.tbls⟩,⟨_,hn',fun j x v e1 e2 e3=>?_⟩,fun x c e=>?_,I.free,I.freeC,fun p hp=>?_,?_,?_⟩
 ·obtain⟨sl,z⟩:=B.slot b o q n1 hb hx
  exact⟨sl,kp b _ (neL b o q) z⟩
 ·obtain⟨o',z⟩:=B.there b o q hx
  exact⟨o',kp b _ (neL b o q) z⟩
 ·have hj:j ≠ i:=fun z=>by
   subst z
   rw [List.getElem?_set_self' ] at e2
   cases hz : σ[j]? with
   | none=>rw [hz] at e2;cases e2
   | some _=>rw [hz] at e2;cases e2
  rw [List.getElem?_set_ne (Ne.symm hj)] at e2
  obtain⟨u',ru,l⟩:=hm j x v e1 e2 e3
  have xn:x ≠ n:=fun z=>hj (nodup_ix hN e1 (z ▸ hi))
  refine⟨u',ru,?_⟩
  rcases l with⟨k1,k2⟩|⟨k1,c,k2,o,ho,hd⟩
  ·exact .inl ⟨k1,by show (if x=n then u else m x)=some u';rw [if_neg xn];exact k2⟩
  ·exact .inr ⟨k1,c,k2,o,kp c o (I.cne x c k2) ho,hd⟩
 ·obtain⟨v,o,ho,hd⟩:=I.cell x c e
  exact⟨v,o,kp c o (I.cne x c e) ho,hd⟩
 ·obtain⟨a1,a2,a3,a4,a5⟩:=I.pin p hp
  exact⟨kp _ _ a3 a1,a2,a3,a4,a5⟩
 ·intro b o q
  refine (I.hok b o q).stay (fun c v hc z=>kp c v ?_ z) (fun _ z=>z) fun _ _ z=>z
  rintro rfl
  rcases hc with z|z
  ·rw [← z,I.free] at q;cases q
  ·rw [I.free] at z;cases z
 ·rw [List.length_set];exact I.len
def tTry (tb:(St->Prop)->XK->TS) (K:Frag) (Cn:Addr) (i:Nat) (ts:TS):TS:=fun D σ H=>∃ (S:St->Prop) (W:XK),tb S W D σ H ∧
 ∀ (σ':St) (e:Addr) (H':Hp),S σ'->W (.ref e) none H'->∃ C dx bm,H' e=some (ExF e C dx)/\XCls K C bm/\(Value.ref C::bm).contains (.ref Cn)=true ∧
  ts { nx:=fun σ2 H2=>D.nx (σ2.set i none) H2,rt:=D.rt,bk:=fun σ2 H2=>D.bk (σ2.set i none) H2,ct:=fun σ2 H2=>D.ct (σ2.set i none) H2 } (σ'.set i (some (.ref e))) H'
theorem ps_try {body:List Stmt} {b0:Stmt} {suite:List Stmt} {rest:List ExceptHandler} {cn n:Str} {Cn:Addr} {i:Nat} {tb:(St->Prop)->XK->TS} {ts:TS} {p hp pos:Pos} (hcalm:X.calm=true) (hst:X.stack=X.env::X.outer) (hfr:X.env.frame=some X.env.locals)
  (hg:Gl X cn) (hm:X.mg cn=some (.ref Cn)) {bmn:List Value} (hcl:XCls X.K Cn bmn)
  (hN:X.N.Nodup) (hi:X.N[i]?=some n) (hn:X.env.scope.names.lookup n=some .local)
  (hb:∀ pn S W,PSs (XB X pn S W) body (tb S W)) (hs:∀ e,PSs (XH X e) (b0::suite) ts) (hdb:(cn == ("__debug__" : Str))=false:=by decide) :
  PS X (.Try body (.ExceptHandler (some (.Name cn p)) (some n) (b0::suite) hp::rest) [] [] pos) (tTry tb X.K Cn i ts):=by
 intro pins s σ H D I h
 obtain⟨S,W,hbody,hh⟩:=h
 refine wpAny_Try_except (wpAny_mono (hb (X.pn++pins) S W [] s σ H D (I.re (X.pn++pins) [] _ (fun q hq=>by rwa [List.append_nil] at hq)) hbody) (fun f s1 hf=>?_) fun ev s1 hx=>?_)
 ·have bk:∀ {σ':St} {H':Hp},Inv (XB X (X.pn++pins) S W) [] σ' H' s1->Inv X pins σ' H' s1:=fun {σ' H'} J=>J.back (fun q hq=>by rw [List.append_nil];exact hq)
  cases f with
  | next =>
   obtain⟨σ',H',J,q⟩:=hf
   exact wpAny_execs_nil ⟨σ',H',bk J,q⟩
  | brk=>obtain⟨σ',H',J,q⟩:=hf;exact⟨σ',H',bk J,q⟩
  | cont=>obtain⟨σ',H',J,q⟩:=hf;exact⟨σ',H',bk J,q⟩
  | ret u=>obtain⟨v,σ',H',J,r,q⟩:=hf;exact⟨v,σ',H',bk J,r,q⟩
 ·obtain⟨e,C,dx,T,fl,σ',H',rfl,y,hfl,hS,hW⟩:=hx
  have hA:X.A.frames=some (X.env::X.outer):=hst ▸ I.ok.frames
  have ff:s1.heap.FunFrames X.base (X.env::X.outer):=hst ▸ y.inv.stack
  refine note_ok hA hfr ff y.xc (hfl.imp id .inl) fun h1 T1 q1 x1 m1=>?_
  have y1:=y.moved (by show Mv (frs X.stack) _ _ _ _;rw [hst];exact m1) q1 x1
  refine flight_ok x1 fun h2 x2 m2=>?_
  have y2:=y1.moved (h':=h2) (fun b o q ne nT=>⟨fun _=>(m2 b o q ne nT).1 (by simp),(m2 b o q ne nT).2⟩) (.inl rfl) x2
  obtain⟨C',dx',bm,hat,hxc,hmro,hsu⟩:=hh σ' e H' hS hW
  have eqs:C'=C/\dx'=dx:=by
   have z:=y.at_.symm.trans hat
   obtain⟨⟨oe,vs,a1,a2,a3,_⟩,_⟩:=y.inv.hok e _ y.at_
   obtain⟨⟨oe',vs',b1,b2,b3,_⟩,_⟩:=y.inv.hok e _ hat
   rw [a1] at b1
   cases b1
   exact⟨by rw [a2] at b2;exact (Value.ref.inj b2).symm,b3.symm.trans a3⟩
  obtain⟨rfl,rfl⟩:=eqs
  have I2:Inv X pins σ' H' { s1 with heap:=h2 }:=y2.inv.back (fun q hq=>by rw [List.append_nil];exact hq)
  refine wpAny_handleBy_cons (codeAny_handlers_test ?_) (by intro z;cases z)
  refine ld_glob (X:=XH X e) (I2.toH e) hg hm ?_ hdb
  obtain⟨oe,vs,he,oc,_⟩:=id x2
  have match_:∀ {Q:Bool->Shared->Prop} {E:Value->Shared->Prop},Q true { s1 with heap:=h2 }->wpAny (model X.prog X.w) (X.A.mark (some (.ref e))) (excMatches (.ref e) (.ref Cn)) Q E { s1 with heap:=h2 }:=fun {Q E} q=>by
   obtain⟨nm1,q1,N1,bs1,hd1,sn1,su1,ab1,co1,dd1,j0,j1,j2,j3,j5,ni1,lk1⟩:=hxc.obj
   obtain⟨nm2,q2,N2,bs2,hd2,sn2,su2,ab2,co2,dd2,l0,l1,l2,l3,l5,ni2,lk2⟩:=hcl.obj
   exact xmatch (I2.kIn _ _ lk1) (I2.kIn _ _ lk2) hcl.b he oc hmro q
  refine match_ ?_
  refine codeAny_handlers_suite_as ?_
  refine flight_ok x2 fun h3 x3 m3=>?_
  have y3:=y2.moved (h':=h3) (fun b o q ne nT=>⟨fun _=>(m3 b o q ne nT).1 (by simp),(m3 b o q ne nT).2⟩) (.inl rfl) x3
  have I3:Inv X pins σ' H' { s1 with heap:=h3 }:=y3.inv.back (fun q hq=>by rw [List.append_nil];exact hq)
  refine store_ok2 (X:=XH X e) (I3.toH e) hN hi (.inl hn) (v:=.ref e) rfl (fun s4 I4 _=>?_) (.inr hn)
  refine wpAny_mono (hs e pins s4 _ H' _ I4 hsu) (fun fl5 s5 hf=>?_) fun _ _ z=>z.elim
  have fin:∀ {σ5:St} {H5:Hp} {P5:Shared->Prop},Inv (XH X e) pins σ5 H5 s5->(∀ s6,Inv X pins (σ5.set i none) H5 s6->P5 s6) →
    wpAny (model X.prog X.w) X.A (do bindName X.env n .none;unbindBehindTheSuite X.env n hp) (fun _ s6=>P5 s6) X.xe s5:=fun {σ5 H5 P5} J q=>by
   have J':Inv X pins σ5 H5 s5:=J.ofH I.ok.hd
   refine wpAny_bind (wpAny_bindName (store_ok2 (X:=X) J' hN hi (.inl hn) (v:=.non) rfl (fun s6 J6 _=>?_) (.inr hn)))
   obtain⟨m,hm6,hl6⟩:=id J6.loc
   have hv:∃ v,m n=some v:=by
    have hiσ:i < σ5.length:=by rw [J'.len];exact (List.getElem?_eq_some_iff.mp hi).1
    obtain⟨u,_,l⟩:=hl6 i n .non hi (by rw [List.getElem?_set_self hiσ]) (.inl hn)
    rcases l with⟨_,z⟩|⟨z,_⟩
    ·exact⟨u,z⟩
    ·have hn':X.env.kindOf n=some .local:=hn
     rcases z with z|z <;> (rw [hn'] at z;cases z)
   obtain⟨v,hv⟩:=hv
   unfold unbindBehindTheSuite
   refine wpAny_onRaise (wpAny_unbindName_local hn hm6 hv (by rw [J'.ok.kind];rfl) fun h7 u7 hn7 sb7=>?_)
   have:=J6.unbound hN hi hm6 hl6 hn7 sb7
   rw [List.set_set] at this
   exact q _ this
  cases fl5 with
  | next=>obtain⟨σ5,H5,J,q⟩:=hf;exact fin J fun s6 J6=>⟨_,H5,J6,q⟩
  | brk=>obtain⟨σ5,H5,J,q⟩:=hf;exact fin J fun s6 J6=>⟨_,H5,J6,q⟩
  | cont=>obtain⟨σ5,H5,J,q⟩:=hf;exact fin J fun s6 J6=>⟨_,H5,J6,q⟩
  | ret u=>obtain⟨v,σ5,H5,J,r,q⟩:=hf;exact fin J fun s6 J6=>⟨v,_,H5,J6,r,q⟩
end
def XD (dx:Addr) (fs:List (Str × V)):HO:=.ext fun h=>∃ mA,h.Ns1 dx mA/\(∀ f,RelO (fs.lookup f) (mA f))/\PySem.Within mA (fs.map (·.1))
theorem XD.ok {P:Program} {w:World} {H:Hp} {h:Heap} {dx:Addr} {fs:List (Str × V)} (a:∃ mA,h.Ns1 dx mA/\(∀ f,RelO (fs.lookup f) (mA f))/\PySem.Within mA (fs.map (·.1))):ObjOk P w H h dx (XD dx fs):=by
 obtain⟨mA,⟨o,es,ep,ho,z⟩,r⟩:=id a
 exact⟨a,⟨o,ho⟩,fun h1 h2 ⟨mA,⟨o,es,ep,ho,z⟩,r⟩ k=>⟨mA,⟨o,es,ep,k _ ho,z⟩,r⟩⟩
theorem upd_id {H:Hp} {a:Addr} {o:HO} (e:H a=some o):upd H a o=H:=by
 funext b
 unfold upd
 split
 ·rename_i q;rw [q,e]
 ·rfl
section
variable {X:Cx} {pins:List (Addr × Obj)} {σ:St} {H:Hp} {s:Shared} {e C R fI dx:Addr}
theorem Inv.xfirst {h':Heap} {t':Nat} {oe:Obj} {vs:Array Value} {fs:List (Str × V)} (I:Inv X pins σ H s) (he:H e=some (Ex0 e C none)) (hx:s.heap.objs.size<=dx) (ne:dx ≠ e) (g:h'.get? e=some oe) (oc:oe.cls=.ref C) (od:oe.dict=some dx) (hd:oe.data=.fields vs) (h1 : 1 < vs.size) (hv:vs[1]?=some .none)
  (hn:∃ mA,h'.Ns1 dx mA/\(∀ f,RelO (fs.lookup f) (mA f))/\PySem.Within mA (fs.map (·.1))) (k:∀ b o,b ≠ e->s.heap.get? b=some o->h'.get? b=some o) :
  Inv X pins σ (upd (upd H dx (XD dx fs)) e (Ex0 e C (some dx))) { s with heap:=h',toks:=t' }:=by
 have nx:H dx=none:=I.hok.fresh hx
 have eqs:∀ b u,H b=some u->b ≠ e->upd (upd H dx (XD dx fs)) e (Ex0 e C (some dx)) b=some u:=fun b u q nb=>by
  rw [upd_ne nb,upd_ne (ne_of_none q nx)];exact q
 refine I.un ⟨fun b o q n _ _=>k b o (ne_of_none he n).symm q,fun b o q n _ _=>⟨o.slots,k b o (ne_of_none he n).symm q⟩,fun b o q n _=>?_,fun b o q _=>?_,fun b xs q=>?_,fun b o u q=>?_,fun b ps q=>⟨#[],?_⟩⟩ fun b u q=>?_
 ·rw [upd_ne (ne_of_none he n).symm,upd_ne (Nat.ne_of_lt (Nat.lt_of_lt_of_le (Heap.lt_size q) hx))];exact n
 ·by_cases hb:b=e
  ·exact⟨oe,hb ▸ g⟩
  ·exact⟨o,k b o hb q⟩
 ·exact eqs b _ q fun z=>by rw [z,he] at q;cases q
 ·exact eqs b _ q fun z=>by rw [z,he] at q;cases q
 ·rw [eqs b _ q fun z=>by rw [z,he] at q;cases q];simp
 ·by_cases hb:b=e
  ·subst hb;rw [upd_same] at q;cases q;exact Ex0.ok g oc od hd h1 hv
  ·rw [upd_ne hb] at q
   by_cases hb2:b=dx
   ·subst hb2;rw [upd_same] at q;cases q;exact XD.ok hn
   ·rw [upd_ne hb2] at q
    refine (I.hok b u q).stay (fun c v hc z=>k c v ?_ z) (fun c z=>eqs c _ z fun y=>by rw [y,he] at z;cases z) fun c xs z=>eqs c _ z fun y=>by rw [y,he] at z;cases z
    rcases hc with y|y
    ·rw [y];exact hb
    ·intro z;rw [z,he] at y;cases y
def sXfld (K:Frag) (ta tv:TE) (f:Str):TS:=fun D σ H=>tv σ H fun y H1=>ta σ H1 fun x H2=>∃ e C R fI,x=.ref e/\ExCl K C R fI/\findIn K (.ref C) f=some none ∧
 ((H2 e=some (Ex0 e C none)/\∀ dx,H2 dx=none->D.nx σ (upd (upd H2 dx (XD dx [(f,y)])) e (Ex0 e C (some dx)))) ∨
   ∃ dx fs,H2 e=some (Ex0 e C (some dx))/\H2 dx=some (XD dx fs)/\fs.length < 1000/\D.nx σ (upd H2 dx (XD dx (putF f y fs))))
theorem xstore {y:V} {u:Value} {f:Str} {A:Around} {E:Value->Shared->Prop} {Q:Unit->Shared->Prop} (I:Inv X pins σ H s) (c:ExCl X.K C R fI) (hf:findIn X.K (.ref C) f=some none) (ry:RelV y u) {N:Hp->Prop}
  (h:(H e=some (Ex0 e C none)/\∀ dx,H dx=none->N (upd (upd H dx (XD dx [(f,y)])) e (Ex0 e C (some dx))))\/∃ dx fs,H e=some (Ex0 e C (some dx))/\H dx=some (XD dx fs)/\fs.length < 1000/\N (upd H dx (XD dx (putF f y fs))))
  (q:∀ s' H',Inv X pins σ H' s'->N H'->Q () s'):wpAny (model X.prog X.w) A (setAttr (.ref e) f u) Q E s:=by
 rcases h with⟨he,hN⟩|⟨dx,fs,he,hd,hl,hN⟩
 ·obtain⟨⟨oe,vs,g,oc,ox,od,h1,hv⟩,_⟩:=I.hok e _ he
  refine xset_first I.kIn c g oc od ox hf fun h' dx tk hx ne g' hn k=>?_
  refine q _ _ (I.xfirst he hx ne g' oc rfl od h1 hv ⟨_,hn,fun z=>?_,fun z hz=>?_⟩ k) (hN dx (I.hok.fresh hx))
  ·show RelO (List.lookup z [(f,y)]) (if z=f then some u else none)
   by_cases hz:z=f
   ·rw [if_pos hz,hz];simp only [List.lookup,beq_self_eq_true];exact ry
   ·have hb:(z == f)=false:=beq_eq_false_iff_ne.mpr hz
    rw [if_neg hz];simp only [List.lookup,hb];exact True.intro
  ·by_cases hz':z=f
   ·rw [hz'];exact List.mem_singleton.mpr rfl
   ·exact absurd (if_neg hz') hz
 ·obtain⟨⟨oe,vs,g,oc,ox,od,h1,hv⟩,_⟩:=I.hok e _ he
  obtain⟨⟨mA,hn,r,wi⟩,_⟩:=I.hok dx _ hd
  refine xset_next I.kIn c g oc od ox hn wi (by rw [List.length_map,sizeLine_eq];omega) hf fun h' hn' sb=>?_
  have ho:∃ o,h'.get? dx=some o:=let ⟨o,_,_,e',_⟩:=hn'; ⟨o,e'⟩
  refine q _ _ (I.write (x:=dx) (e:=dx) (o:=XD dx (putF f y fs)) (by rw [hd];exact True.intro) (.inl rfl) (fun b o hb z=>(sb.2 b hb).trans z) ho (XD.ok ⟨_,hn',fun z=>?_,fun z hz=>?_⟩)) hN
  ·show RelO ((putF f y fs).lookup z) (if z=f then some u else mA z)
   rw [lookup_putF]
   by_cases q:z=f
   ·rw [if_pos q,if_pos q];exact ry
   ·rw [if_neg q,if_neg q];exact r z
  ·by_cases q:z=f
   ·rw [q];exact (keys_putF f y fs).1
   ·refine (keys_putF f y fs).2 z (wi z fun y'=>hz ?_)
    show (if z=f then some u else mA z)=none
    rw [if_neg q];exact y'
theorem ps_xfld {o value:Expr} {f:Str} {pos pos':Pos} {ta tv:TE} (ha:PE X o ta) (hv:PE X value tv) (hs:swapsWith value (some (.Attribute o f pos')) pos.line X.env=pure false:=by rfl):PS X (.Assign [.Attribute o f pos'] value pos) (sXfld X.K ta tv f):=by
 intro pins s σ H D I h
 refine plainObj_wpAny_Assign_Attribute (thn (hv pins s σ H _ I h) fun u s1 ⟨y,H1,I1,ry,h1⟩=>thn (ha pins s1 σ H1 _ I1 h1) fun ov s2 ⟨x,H2,I2,rx,e,C,R,fI,ex,c,hf,h2⟩=>?_) hs
 subst ex
 obtain rfl:ov=Value.ref e:=rx
 exact xstore I2 c hf ry h2 fun s' H' I' q=>⟨σ,H',I',q⟩
def tXfld (K:Frag) (ta:TE) (f:Str):TE:=fun σ H Q=>ta σ H fun x H1=>∃ e C R fI dx fs v,x=.ref e/\(H1 e=some (ExF e C (some dx))\/H1 e=some (Ex0 e C (some dx)))/\H1 dx=some (XD dx fs)/\ExCl K C R fI/\findIn K (.ref C) f=some none/\fs.lookup f=some v/\Q v H1
theorem pe_xfld {o:Expr} {f:Str} {pos:Pos} {ta:TE} (he:PE X o ta) (hb:attributeBase o f X.env (eval o X.env)=eval o X.env):PE X (.Attribute o f pos) (tXfld X.K ta f):=by
 intro pins s σ H Q I h
 refine attr_of hb (thn (he pins s σ H _ I h) fun u s1 ⟨x,H1,I1,rx,e,C,R,fI,dx,fs,v,ex,ea,ed,c,hf,l,q⟩=>?_)
 subst ex
 obtain rfl:u=Value.ref e:=rx
 obtain⟨⟨mA,hn,r,wi⟩,_⟩:=I1.hok dx _ ed
 obtain⟨u',hu,ru⟩:=RelO.some_of (v:=v) (o:=mA f) (by rw [← l];exact r f)
 obtain⟨oe,vs,g,oc,ox,od⟩ : ∃ oe vs,s1.heap.get? e=some oe/\oe.cls=.ref C/\oe.dict=some dx/\oe.data=.fields vs:=by
  rcases ea with ea|ea
  ·obtain⟨⟨oe,vs,g,oc,ox,od⟩,_⟩:=I1.hok e _ ea;exact⟨oe,vs,g,oc,ox,od⟩
  ·obtain⟨⟨oe,vs,g,oc,ox,od,_⟩,_⟩:=I1.hok e _ ea;exact⟨oe,vs,g,oc,ox,od⟩
 obtain⟨o1,ho,hl⟩:=lookIn_ns hn
 obtain⟨cd,hcd,hm,hh⟩:=c.clsIn
 have hh':PySem.W.hasDictIn X.K C=true:=by unfold PySem.W.hasDictIn;rw [hcd];exact hh
 exact xget I1.kIn c (inst_of (od:=some o1) g oc od (by rw [ox];exact ho)) (PySem.W.findObj_own hh' hf rfl (by rw [hl,hu])) (handed_of ru) ⟨v,H1,I1.tok _,ru,q⟩
end
structure CInit (K:Frag) (B f:Addr):Prop where
 r:PySem.W.readsIn K B (.type "type")=true
 fd:PySem.W.findCls K (.ref B) (.type "type") "__init__" = some (.val (.ref f))
 g:PySem.W.specialIn K (.ref B) "__getattribute__" = some (some (.builtin "type.__getattribute__"))
 k:keepIn K (.ref f)=true
structure VInit (K:Frag):Prop where
 ga:findIn K (.type "type") "__getattribute__" = some (some (.builtin "type.__getattribute__"))
 sub:PySem.W.subIn K (.type "type") (.type "type")=some true
 f:PySem.W.findCls K (.type "ValueError") (.type "type") "__init__" = some (.val (.builtin "ValueError.__init__"))
theorem tov_VE:typeOf (.type "ValueError")=pure (.type "type"):=by kernel_rfl
theorem oca_VE:opaqueClassAbove (.type "ValueError")=pure none:=by kernel_rfl
theorem hkb_type:hookBefore (.type "type")=pure none:=by kernel_rfl
theorem tga_type:typeLookup (.type "type") "__getattribute__" = pure (some (.builtin "type.__getattribute__")):=by rw [typeLookup_type,builtinLookup_eq_fast];kernel_rfl
theorem spv_VE:specialOf (.type "ValueError") "__getattribute__" = pure (some (.builtin "type.__getattribute__")):=by
 unfold specialOf
 rw [tov_VE]
 show typeLookup (.type "type") "__getattribute__" = _
 exact tga_type
section
variable {X:Cx} {CX:CXT} {k:Nat} {f B C R:Addr} {fd:FuncData} {ps:List Str} {sp:Sp} {dvs:List V} {ds:List Value} {E:XK} {x:Str} {p pos apos:Pos} {e o:Expr} {es:List Expr} {t:TA}
theorem pe_cinit {pl:Sem Bool} (c:CInit X.K B f) (ho:PE X o (tC (.ref B))) (F:FnOk X.prog X.w X.K X.mg X.base CX k f fd ps sp) (hr:Room k X.A) (hb:Binds X.K fd ps ds) (hd:Vals dvs ds) (hx:Passes CX X E) (ha:PA X (e::es) t)
  (hst:starEach (e::es) X.env=(false,eval e X.env)::starEach es X.env:=by rfl) (hpl:(backTo pos (starEach es X.env)).any (·.1)=false:=by rfl)
  (ht:eval (.Call (.Attribute o "__init__" apos) (e::es) [] pos) X.env=(do
   let ov ← eval o X.env
   standAt apos.atName
   let (f,first) ← holding [ov] (getMethod ov "__init__" pl)
   callWith pos f first (backTo pos (starEach (e::es) X.env)) (backToKw pos (keywordEach [] X.env))):=by rfl) :
  PE X (.Call (.Attribute o "__init__" apos) (e::es) [] pos) (tCall sp dvs E t):=by
 intro pins s σ H Q I h
 refine PySem.W.methodCall_KW (pl:=pl) (thn (ho pins s σ H (fun v H1=>v=.ref B/\tCall sp dvs E t σ H1 Q) I ⟨rfl,h⟩) fun u s1 ⟨x,H1,I1,rx,ex,q⟩=>?_) ht
 subst ex
 obtain rfl:u=Value.ref B:=rx
 refine PySem.W.method_cls I1.kIn c.g (PySem.W.cls_value I1.kIn c.r c.fd rfl ?_)
 refine PySem.W.callWith_K (first:=[]) (h₀:=X.base) I.ok.mod.kin c.k (thn (ha pos pins _ σ H1 _ (I1.tok _) q) fun us s2 ⟨vs,H2,I2,r,q2⟩=>⟨I2.kIn,?_⟩) hst hpl
 exact run_fn F hr hb hd hx I2 r q2
def tVinit (K:Frag) (t:TA):TE:=fun σ H Q=>t σ H fun vs H1=>∃ e v C R fI dx,vs=[.ref e,v]/\H1 e=some (Ex0 e C dx)/\ExCl K C R fI/\Q .non H1
theorem pe_vinit {pl:Sem Bool} (c:VInit X.K) (ho:PE X o (tC (.ty "ValueError"))) (ha:PA X (e::es) t)
  (hst:starEach (e::es) X.env=(false,eval e X.env)::starEach es X.env:=by rfl) (hpl:(backTo pos (starEach es X.env)).any (·.1)=false:=by rfl)
  (ht:eval (.Call (.Attribute o "__init__" apos) (e::es) [] pos) X.env=(do
   let ov ← eval o X.env
   standAt apos.atName
   let (f,first) ← holding [ov] (getMethod ov "__init__" pl)
   callWith pos f first (backTo pos (starEach (e::es) X.env)) (backToKw pos (keywordEach [] X.env))):=by rfl) :
  PE X (.Call (.Attribute o "__init__" apos) (e::es) [] pos) (tVinit X.K t):=by
 intro pins s σ H Q I h
 refine PySem.W.methodCall_KW (pl:=pl) (thn (ho pins s σ H (fun v H1=>v=.ty "ValueError"/\tVinit X.K t σ H1 Q) I ⟨rfl,h⟩) fun u s1 ⟨x,H1,I1,rx,ex,q⟩=>?_) ht
 subst ex
 obtain rfl:u=Value.type "ValueError":=rx
 have key:∀ {Q':Value × List Value->Shared->Prop},Q' (.builtin "ValueError.__init__",[]) { s1 with toks:=s1.toks + 1 }->wpAny (model X.prog X.w) X.A (getMethod (.type "ValueError") "__init__" pl) Q' X.xe s1:=fun {Q'} q'=>by
  unfold getMethod
  refine wpAny_bind ((PySem.W.Looks.of_pure spv_VE).here ?_)
  dsimp only
  rw [if_pos PySem.W.canon_tga]
  refine wpAny_bind (PySem.W.cls_open (hook:=none) I1.kIn (PySem.W.Looks.of_pure oca_VE) (PySem.W.Looks.of_pure tov_VE) c.ga (PySem.W.Looks.of_pure hkb_type) c.sub c.f (wpAny_pure ?_))
  show wpAny _ _ (handedOut (.builtin "ValueError.__init__")) _ _ _
  rw [PySem.W.handedOut_of (v:=.builtin "ValueError.__init__") rfl]
  exact wpAny_pure (wpAny_pure q')
 refine key ?_
 refine PyProof.Rows.callWith_builtin1 (thn (ha pos pins _ σ H1 _ (I1.tok _) q) fun us s2 ⟨vs,H2,I2,r,e',v,C,R,fI,dx,ev,he,cx,q2⟩=>?_) hst hpl
 subst ev
 cases r with
 | cons r1 r2 =>
  cases r2 with
  | cons r3 r4 =>
   cases r4
   cases r1
   obtain⟨⟨oe,vs,g,oc,ox,od,h1,hv⟩,_⟩:=I2.hok e' _ he
   obtain⟨nm,qn,N,bs,sn,sub,ab,col,dd,k0,k1,k2,k3,k5,mN,oI,hC,_⟩:=cx.cls I2.kIn
   obtain⟨hh,gg,d,tk,os⟩:=s2
   refine xinit (xtail R) hC g oc od h1 fun h' oe' vs' kp g' oc' ox' od' sz hv'=>?_
   have I3:=I2.write (x:=e') (e:=e') (o:=Ex0 e' C dx) (t':=tk) (h':=h') (by rw [he];exact True.intro) (.inl rfl) (fun b o nb z=>kp b o nb z) ⟨_,g'⟩ (Ex0.ok g' (oc'.trans oc) (ox'.trans ox) od' (by rw [sz];exact h1) (hv'.trans hv))
   rw [upd_id he] at I3
   exact⟨.non,H2,I3,rfl,q2⟩
theorem run_makeX {pins:List (Addr × Obj)} {σ:St} {H:Hp} {s:Shared} {Q:VK} {us:List Value} {vs:List V} (c:ExCl X.K C R f) (F:FnOk X.prog X.w X.K X.mg X.base CX k f fd ps sp) (hr:Room (k + 1) X.A) (hb:Binds X.K fd ps ds) (hd:Vals dvs ds)
  (hx:Passes CX X E) (I:Inv X pins σ H s) (r:Vals vs us) (hz:vs.length<=sizeLine) (h:∀ e,H e=none->sp (.ref e::(vs++dvs)) (upd H e (Ex0 e C none)) (fun v H2=>v=.non/\Q (.ref e) H2) E) :
  wpAny (model X.prog X.w) X.A (call (.ref C) us) (fun u s'=>∃ e H',u=.ref e/\X.s₀.heap.objs.size<=e/\Inv X pins σ H' s'/\Q (.ref e) H') X.xe s:=by
 obtain⟨nm,qn,N,bs,sn,sub,ab,col,dd,k0,k1,k2,k3,k5,mN,oI,hC,hN,hi,hf,hfc⟩:=c.cls I.kIn
 obtain⟨hh,g,d,t,os⟩:=s
 refine xmake (xtail R) hC hN hi hf hfc (by rw [← r.length];exact hz) fun h' e mk ye=>?_
 obtain⟨kp,en,t0,e1,tn,e2⟩:=mk
 have hE:H e=none:=I.hok.fresh ye
 have I2:Inv X pins σ (upd H e (Ex0 e C none)) ⟨h',g,d,t,os⟩:=I.laid (a:=e) (o:=Ex0 e C none) (t':=t) kp ye (Ex0.ok e1 rfl rfl rfl (by show 1 < 6;decide) rfl)
 have hq:=h e hE
 have r2:Vals (V.ref e::(vs++dvs)) (Value.ref e::(us++ds)):=.cons rfl (r.append hd)
 have hl:(Value.ref e::us++ds).length=ps.length:=by
  have e':=r2.length
  rw [F.len _ _ _ _ hq] at e'
  exact e'.symm
 refine wpAny_call (codeAny_mono (F.run _ X.stack _ _ ⟨Value.ref e::us,[]⟩ (Value.ref e::(us++ds)) _ _ E (hr.make C us []) (I2.env0.make C us []) (hb _ (Value.ref e::us) I2.kIn hl) r2 hq) fun rr s' hq'=>?_)
 cases rr with
 | error ev=>exact hx pins σ _ _ ev s' I2 hq'
 | ok fl =>
  cases fl with
  | ret u =>
   obtain⟨v,H',I3,rv,ev,q3⟩:=I2.after hq'
   subst ev
   exact⟨rv,e,H',rfl,Nat.le_trans I.sz ye,I3,q3⟩
  | next=>exact False.elim hq'
  | brk=>exact False.elim hq'
  | cont=>exact False.elim hq'
def tRaise (S:St->Prop) (C:Addr) (sp:Sp) (dvs:List V) (E:XK) (t:TA):TS:=fun _ σ H=>S σ/\t σ H fun vs H1=>vs.length<=1000/\∀ e,H1 e=none →
 sp (.ref e::(vs++dvs)) (upd H1 e (Ex0 e C none)) (fun v H2=>v=.non/\∃ e' dx,V.ref e=.ref e'/\H2 e'=some (Ex0 e' C dx)/\E (.ref e') none (upd H2 e' (ExF e' C dx))) E0
theorem ps_raise {S:St->Prop} {rpos:Pos} (c:ExCl X.K C R f) (F:FnOk X.prog X.w X.K X.mg X.base (CXE X.prog X.w) k f fd ps sp) (hr:Room (k + 1) X.A) (hg:Gl X x) (hm:X.mg x=some (.ref C)) (hb:Binds X.K fd ps ds) (hd:Vals dvs ds) (hra:Raises X S E) (ha:PA X (e::es) t)
  (hdb:(x == ("__debug__" : Str))=false:=by decide) (he:starEach (e::es) X.env=(false,eval e X.env)::starEach es X.env:=by rfl) (hpl:(backTo pos (starEach es X.env)).any (·.1)=false:=by rfl) :
  PS X (.Raise (some (.Call (.Name x p) (e::es) [] pos)) none rpos) (tRaise S C sp dvs E t):=by
 intro pins s σ H D I h
 obtain⟨hS,h⟩:=h
 refine xRaise hr.hd ?_
 refine wpAny_Call_Name_kw (ld_glob I hg hm ?_ hdb)
 refine PySem.W.callWith_K (h₀:=X.base) I.ok.mod.kin c.kp (thn (ha pos pins s σ H _ I h) fun us s1 ⟨vs,H1,I1,r,hz,q⟩=>⟨I1.kIn,?_⟩) he hpl
 refine thn (run_makeX (E:=E0) (Q:=fun v H2=>∃ e' dx,v=.ref e'/\H2 e'=some (Ex0 e' C dx)/\E (.ref e') none (upd H2 e' (ExF e' C dx))) c F hr hb hd passX I1 r (by rw [sizeLine_eq];omega) q) fun u s2 ⟨e',H2,eu,ye,I2,e'',dx,e3,h2,hE⟩=>?_
 ·cases e3
  obtain⟨⟨oe,vs',g,oc,ox,od,h1,hv⟩,_⟩:=I2.hok e' _ h2
  obtain⟨nm,qn,N,bs,sn,sub,ab,col,dd,k0,k1,k2,k3,k5,mN,oI,hC,_⟩:=c.cls I2.kIn
  obtain⟨c1,d1,dt1,sl1⟩:=oe
  cases oc;cases ox;cases od
  exact⟨e',C,N,nm,qn,bs,_,true,sn,sub,ab,col,dd,k0,k1,k2,k3,k5,_,vs',sl1,eu,xtail R,hC,g,hv,hra pins σ H2 s2 e' C _ hS I2 h2 ye hE⟩
end
theorem se_bin {l o r p} {es:List Expr} {env:Env} : starEach (.BinOp l o r p::es) env=(false,eval (.BinOp l o r p) env)::starEach es env:=rfl
section
variable {X:Cx}
theorem pstx_if {c:Expr} {a b:List Stmt} {tc:TT} {t u:TS} {pos:Pos} (hc:PT X c tc) (ha:PSx X a t) (hb:PSs X b u):PStx X (.If c a b pos) (tIfS tc t u):=⟨ps_if hc ha.h hb⟩
end
section
variable {X:Cx}
def tyM (K:Frag) (x:V) (H:Hp) (t:String):Prop:=tyN K x H t\/(t = "dict"/\∃ p kvs,x=.ref p/\H p=some (.dK kvs))
theorem call_isiM:CallR X (.builtin "isinstance") (fun xs H Q=>∃ x T t,xs=[x,.ty T]/\T ∈ isiTs/\tyM X.K x H t/\Q (.bl (isa t T)) H):=by
 intro pins s σ H xs us Q I r h
 obtain⟨x,T,t,rfl,hT,ht|⟨rfl,p,kvs,rfl,hp⟩,q⟩:=h
 ·exact call_isi pins s σ H _ us Q I r ⟨x,T,t,rfl,hT,ht,q⟩
 ·exact call_isiD pins s σ H _ us Q I r ⟨p,T,kvs,rfl,hT,hp,q⟩
end
def SelfV (v:V):Prop:=flatV v=true\/∃ r,v=.ref r
theorem eqV_self:∀ {v:V},flatV v=true->eqV v v=true
 | .non,_=>rfl
 | .bl b,_=>by cases b <;> rfl
 | .int i,_=>by simp [eqV]
 | .str x,_=>by simp [eqV]
theorem eqAt_self {A:Around} {s:Shared} {v:V} {u u':Value} (h:SelfV v) (r:RelV v u) (r':RelV v u'):SeqAt.EqAt A s u u' true:=by
 rcases h with h|⟨a,rfl⟩
 ·have:=eqAt_V (A:=A) (s:=s) r r' h h
  rw [eqV_self h] at this
  exact this
 ·cases r
  cases r'
  exact SeqAt.EqAt.same _
def rEqSame (K:Frag):R2:=fun x y H Q=>∃ a b xs,x=.ref a/\y=.ref b/\SqL K H a xs/\SqL K H b xs/\(∀ v ∈ xs,SelfV v)/\Q (.bl true) H
section
variable {X:Cx}
theorem op_eqSame (hu:X.A.units + 64 < cLine):OpR X (compareOp .Eq) (rEqSame X.K):=by
 intro pins s σ H x y v u Q I rx ry h
 obtain⟨a,b,xs,rfl,rfl,ha,hb,hs,q⟩:=h
 cases rx
 cases ry
 obtain⟨i1,r1,p1,_⟩:=I.list ha
 obtain⟨i2,r2,p2,_⟩:=I.list hb
 have l1:=r1.length
 have l2:=r2.length
 refine SeqAt.eq_listAt (e:=fun _=>true) p1.isList p2.isList (by rw [List.size_toArray,List.size_toArray];omega) (by omega) (fun j h1 h2=>?_) ?_
 ·have hj:j < xs.length:=by rw [List.size_toArray] at h1;omega
  obtain⟨u1,e1,q1⟩:=r1.get (List.getElem?_eq_getElem hj)
  obtain⟨u2,e2,q2⟩:=r2.get (List.getElem?_eq_getElem hj)
  have f1:i1.toArray[j]=u1:=by
   have:=(List.getElem?_eq_some_iff.mp e1).2
   simpa using this
  have f2:i2.toArray[j]=u2:=by
   have:=(List.getElem?_eq_some_iff.mp e2).2
   simpa using this
  rw [f1,f2]
  exact eqAt_self (hs _ (List.getElem_mem hj)) q1 q2
 ·rw [show ((List.range i1.toArray.size).all fun _=>true)=true by simp]
  exact⟨.bl true,H,I,rfl,q⟩
end
section
variable {X:Cx} {pins:List (Addr × Obj)} {σ:St} {H:Hp} {s:Shared} {h':Heap}
theorem Inv.turned2 {t':Nat} {e it p:Addr} {o:HO} (I:Inv X pins σ H s) (k:∀ b u,b ≠ e->b ≠ it->s.heap.get? b=some u->h'.get? b=some u) (fe:FpOk X pins H e) (fi:FpOk X pins H it)
  (hp:s.heap.objs.size<=p) (new:ObjOk X.prog X.w (upd H p o) h' p o):Inv X pins σ (upd H p o) { s with heap:=h',toks:=t' }:=by
 have hn:=I.hok.fresh hp
 have ne:∀ b u,H b=some u->b ≠ e:=fun b u q=>ne_of_none q fe.1
 have ni:∀ b u,H b=some u->b ≠ it:=fun b u q=>ne_of_none q fi.1
 have nx:∀ b,b ∉ [e,it]->b ≠ e/\b ≠ it:=fun b hb=>⟨fun z=>hb (by simp [z]),fun z=>hb (by simp [z])⟩
 have np:∀ b u,s.heap.get? b=some u->b ≠ p:=fun b u q=>Nat.ne_of_lt (Nat.lt_of_lt_of_le (Heap.lt_size q) hp)
 have u:Un (frs X.stack) [e,it] H (upd H p o) s.heap h':=by
  refine⟨fun b u q _ _ hx=>k b u (nx b hx).1 (nx b hx).2 q,fun b u q _ _ hx=>⟨u.slots,k b u (nx b hx).1 (nx b hx).2 q⟩,fun b u q n _=>?_,fun b u q hx=>⟨u,k b u (nx b hx).1 (nx b hx).2 q⟩,fun b xs q=>?_,fun b o' u q=>?_,fun b ps q=>⟨#[],?_⟩⟩
  ·rw [upd_ne (np b u q)];exact n
  ·rw [upd_ne (ne_of_none q hn)];exact q
  ·rw [upd_ne (ne_of_none q hn)];exact q
  ·rw [upd_ne (ne_of_none q hn),q];simp
 have hok:HOk X.prog X.w (upd H p o) h':=fun b v eb=>by
  by_cases hb:b=p
  ·subst hb;rw [upd_same] at eb;cases eb;exact new
  ·rw [upd_ne hb] at eb
   refine (I.hok b v eb).stay (fun c w hc q=>k c w ?_ ?_ q) (fun c q=>by rw [upd_ne (ne_of_none q hn)];exact q) fun c xs q=>by rw [upd_ne (ne_of_none q hn)];exact q
   ·rcases hc with z|z
    ·rw [z];exact ne b v eb
    ·exact ne c _ z
   ·rcases hc with z|z
    ·rw [z];exact ni b v eb
    ·exact ni c _ z
 refine I.call (g':=s.gens) (d':=s.drawn) (t':=t') (ch:=[e,it]) u hok I.bare fun b hb=>?_
 have:b=e\/b=it:=by simpa using hb
 rcases this with rfl|rfl
 ·exact⟨fe.2.2.2.1,fe.2.1,fe.2.2.2.2.1,fe.2.2.2.2.2⟩
 ·exact⟨fi.2.2.2.1,fi.2.1,fi.2.2.2.2.1,fi.2.2.2.2.2⟩
end
def Ite (K:Frag) (a:Addr):It :=
 ⟨fun i H=>∃ xs x,SqL K H a xs/\xs[i]?=some x,fun i H x H'=>∃ y p,x=.ref p/\H p=none/\H'=upd H p (.tup [.int (i:Int),y])/\∀ xs,SqL K H a xs->xs[i]?=some y,fun i H=>∃ xs,SqL K H a xs/\xs.length<=i⟩
theorem turn_enum {P:Program} {w:World} {K:Frag} {elts:List Expr} {x1:Nat} {pos:Pos} (a e it:Addr) (hne:e ≠ it):Turn P w K (.Tuple elts x1 pos) (Ite K a) [e,it] e (fun i h=>(∃ old,IsEnum h e it (i:Int) old)/\h.IsListIter it a i) where
 mem:=by simp
 obj:=fun i h st b hb=>by
  have:b=e\/b=it:=by simpa using hb
  obtain⟨⟨old,he⟩,o,ho,hc,hd⟩:=st
  rcases this with rfl|rfl
  ·exact⟨_,he,fun v z=>by cases z⟩
  ·exact⟨o,ho,fun v z=>by rw [hd] at z;cases z⟩
 keep:=fun i h h' st k=>by
  obtain⟨⟨old,he⟩,o,ho,r⟩:=st
  exact⟨⟨old,k e (by simp) _ he⟩,o,k it (by simp) _ ho,r⟩
 item:=by
  intro X hP hw hK hc i pins s σ H E I hf st hg
  subst hP hw hK
  obtain⟨xs,x,hq,hx⟩:=hg
  obtain⟨its,rv,p,hz⟩:=I.list hq
  obtain⟨u,hu,ru⟩:=rv.get hx
  have fe:=hf e (by simp)
  have fi:=hf it (by simp)
  obtain⟨⟨old,he⟩,hit⟩:=st
  refine wpAny_pyNext_enum_item he hit p.isList (x:=u) (by simpa using hu) hne fun h1 heo hit1 ht1 hz1 hk1=>⟨_,rfl,?_⟩
  refine wpAny_letOwnedTupleGo_enum heo fun h2 he2 hs2=>?_
  replace hs2:Heap.SameBut e h1 h2:=hs2
  have ne:s.heap.objs.size ≠ e:=Nat.ne_of_gt (Heap.lt_size he)
  have ht2:h2.get? s.heap.objs.size=some { cls:=.type "tuple",data:=.seq #[.int i s.toks,u] }:=(hs2.2 _ ne).trans ht1
  have k2:∀ b v,b ≠ e->b ≠ it->s.heap.get? b=some v->h2.get? b=some v:=fun b v n1 n2 q=>(hs2.2 b n1).trans (hk1 b v n1 n2 q)
  refine⟨.ref s.heap.objs.size,upd H s.heap.objs.size (.tup [.int (i:Int),x]),I.turned2 (t':=s.toks + 1) k2 fe fi (Nat.le_refl _) ⟨(by show 2<=sizeLine;decide),[.int i s.toks,u],.cons ⟨_,rfl⟩ (.cons ru .nil),_,ht2,rfl,_,rfl⟩,rfl,⟨x,_,rfl,I.hok.fresh (Nat.le_refl _),rfl,fun ys hy=>by rw [I.list_inj hy hq];exact hx⟩,⟨⟨_,he2⟩,?_⟩,fun b hb=>?_⟩
  ·obtain⟨o,ho,r⟩:=hit1
   exact⟨o,(hs2.2 it (Ne.symm hne)).trans ho,r⟩
  ·have:b=e\/b=it:=by simpa using hb
   obtain⟨oi,hoi,_⟩:=hit
   rcases this with rfl|rfl
   ·rw [upd_ne (Ne.symm ne)];exact fe.1
   ·rw [upd_ne (Nat.ne_of_lt (Heap.lt_size hoi))];exact fi.1
 done:=by
  intro X hP hw hK hc i pins s σ H E I hf st hg
  subst hP hw hK
  obtain⟨xs,hq,hl⟩:=hg
  obtain⟨its,rv,p,hz⟩:=I.list hq
  have hlen:=rv.length
  obtain⟨f0,f1,f2,f3,f4,f5⟩:=hf it (by simp)
  obtain⟨⟨old,he⟩,hit⟩:=st
  exact wpAny_pyNext_enum_end (I.ok.hd hc) he hit p.isList (by simp;omega) fun h' eb=>⟨rfl,I.turned (t':=s.toks) (fun b o hb e=>eb b o hb e) f0 f1 f3 f4 f5⟩
 self:=fun _ _ _ _ _ st h=>by
  obtain⟨⟨old,he⟩,_⟩:=st
  exact wpAny_pyIter_enum he h
def iEnum (K:Frag) (ta:TA):TI:=fun σ H R=>ta σ H fun vs H1=>∃ a xs,vs=[.ref a]/\SqL K H1 a xs/\R (Ite K a) H1
theorem pi_enum {X:Cx} {elts:List Expr} {x1:Nat} {tpos:Pos} {a:Expr} {ta:TA} {p pos:Pos} (hg:Gl X "enumerate") (hm:X.mg "enumerate" = none) (ha:PA X [a] ta) (hs:starEach [a] X.env=[(false,eval a X.env)]:=by rfl):PI X (.Tuple elts x1 tpos) (.Call (.Name "enumerate" p) [a] [] pos) (iEnum X.K ta):=by
 intro pins s σ H R I h
 refine Call_ (ld_blt I hg hm boot_enumerate (PyProof.Rows.callWith_type1 (thn (ha pos pins s σ H _ I h) fun us s1 ⟨vs,H1,I1,r1,q1⟩=>?_) hs rfl))
 obtain⟨l,xs,e,hl,q⟩:=q1
 subst e
 obtain⟨u,rfl,rx⟩:=vals1 r1
 cases rx
 obtain⟨its,rv,pl,hz⟩:=I1.list hl
 refine call_enumerate_list pl.isList fun h' he hit hsz hk=>wpAny_pyIter_enum he ?_
 refine⟨s1.heap.objs.size + 1,[s1.heap.objs.size + 1,s1.heap.objs.size],_,_,H1,rfl,I1.kept (t':=s1.toks) hk,turn_enum l _ _ (Nat.succ_ne_self _),⟨⟨_,he⟩,hit⟩,fun b hb=>?_,q⟩
 have:b=s1.heap.objs.size + 1\/b=s1.heap.objs.size:=by simpa using hb
 rcases this with rfl|rfl
 ·exact I1.fpOk (Nat.le_succ _) (I1.hok.fresh (Nat.le_succ _))
 ·exact I1.fpOk (Nat.le_refl _) (I1.hok.fresh (Nat.le_refl _))
theorem for_enum {K:Frag} {a:Addr} {xs:List V} {g:TG} {tb:TS} {D:Ends} {σ:St} {H:Hp} (Pv:Nat->St->Hp->Prop) (h0:Pv 0 σ H) (hl:∀ i σ H,i<=xs.length->Pv i σ H->SqL K H a xs)
  (hs:∀ i x σ H p,xs[i]?=some x->Pv i σ H->H p=none->g (.ref p) σ (upd H p (.tup [.int (i:Int),x])) fun σ2 H2=>tb { D with nx:=Pv (i + 1),ct:=Pv (i + 1),bk:=D.nx } σ2 H2) (hd:∀ σ H,Pv xs.length σ H->D.nx σ H) :
  ∃ W:Nat->Nat->St->Hp->Prop,(∃ m,W 0 m σ H)/\∀ i m σ H,W i m σ H →
   ((Ite K a).stop i H/\D.nx σ H)\/((Ite K a).go i H/\∃ N:St->Hp->Prop,(∀ σ' H',N σ' H'->∃ m',m' < m/\W (i + 1) m' σ' H')/\∀ x H',(Ite K a).yld i H x H'->g x σ H' fun σ2 H2=>tb { D with nx:=N,ct:=N,bk:=D.nx } σ2 H2):=by
 refine⟨fun i m σ H=>m=xs.length - i/\i<=xs.length/\Pv i σ H,⟨xs.length,by simp,Nat.zero_le _,h0⟩,?_⟩
 rintro i m σ H ⟨rfl,hi,p⟩
 have q:=hl i σ H hi p
 by_cases hlt:i < xs.length
 ·refine .inr ⟨⟨xs,xs[i],q,by simp [hlt]⟩,Pv (i + 1),fun σ' H' p'=>⟨xs.length - (i + 1),by omega,rfl,hlt,p'⟩,fun x H' y=>?_⟩
  obtain⟨y',pa,rfl,hn,rfl,hy⟩:=y
  exact hs i y' σ H pa (hy xs q) p hn
 ·have e:i=xs.length:=by omega
  subst e
  exact .inl ⟨⟨xs,q,Nat.le_refl _⟩,hd σ H p⟩
structure CK (h:Heap) (lo:Nat) (cl acc:List (Str × Addr)):Prop where
 mem:∀ n c,acc.lookup n=some c->cl.lookup n=some c\/(lo<=c/\h.IsCell c none)
 inj:∀ x y c,acc.lookup x=some c->acc.lookup y=some c->lo<=c->x=y
end L2
namespace L2
open PySem
theorem Room.units1 {k:Nat} {A:Around} (r:Room k A):A.units + 1 < cLine:=by
 have:=r.units
 omega
end L2
namespace L2
open PySem PySem.Spec PyProof.Rows
def Sq2 (K:Frag):Bool->Hp->Addr->List V->Prop
 | false,H,a,xs=>SqL K H a xs
 | true,H,a,xs=>SqT K H a xs
def IsIt2:Bool->Heap->Addr->Addr->Nat->Prop
 | false,h,j,a,i=>h.IsListIter j a i
 | true,h,j,a,i=>h.IsTupleIter j a i
def IsSq2:Bool->Heap->Addr->Array Value->Prop
 | false,h,a,xs=>h.IsList a xs
 | true,h,a,xs=>h.IsTuple a xs
theorem IsIt2.keep {b:Bool} {h g:Heap} {j a:Addr} {i:Nat} (x:IsIt2 b h j a i) (k:∀ o,h.get? j=some o->g.get? j=some o):IsIt2 b g j a i:=by
 cases b <;> (obtain⟨o,e,r⟩:=x;exact⟨o,k o e,r⟩)
theorem IsSq2.keep {b:Bool} {h g:Heap} {a:Addr} {xs:Array Value} (x:IsSq2 b h a xs) (k:∀ o,h.get? a=some o->g.get? a=some o):IsSq2 b g a xs:=by
 cases b <;> (obtain⟨o,e,r⟩:=x;exact⟨o,k o e,r⟩)
theorem IsIt2.obj {b:Bool} {h:Heap} {j a:Addr} {i:Nat} (x:IsIt2 b h j a i):∃ o,h.get? j=some o/\∀ v,o.data ≠ .cell v:=by
 cases b <;> (obtain⟨o,e,c,d⟩:=x;exact⟨o,e,fun v z=>by rw [d] at z;cases z⟩)
theorem IsSq2.lt {b:Bool} {h:Heap} {a:Addr} {xs:Array Value} (x:IsSq2 b h a xs):a < h.objs.size:=by
 cases b <;> (obtain⟨o,e,_⟩:=x;exact Heap.lt_size e)
section
variable {P:Program} {w:World} {A:Around} {E:Value->Shared->Prop} {s:Shared}
theorem tupNext {j a:Addr} {n:Nat} {vs:Array Value} {v:Value} {Q:Value->Shared->Prop} (hj:s.heap.IsTupleIter j a n) (ha:s.heap.IsTuple a vs) (hv:vs[n]?=some v)
  (q:∀ g,g.IsTupleIter j a (n + 1)->Heap.SameBut j s.heap g->Q v { s with heap:=g }):wpAny (model P w) A (Builtin.SmallTypes.nextOf (.ref j)) Q E s:=by
 obtain⟨oj,ej,cj,dj⟩:=id hj
 obtain⟨oa,ea,ca,na,da⟩:=ha
 unfold Builtin.SmallTypes.nextOf
 refine wpAny_bind (wpAny_callSpecial?_slot (name:=Str.ofString "__next__") hj.typeIs F.slot_tuple_iterator_next (wpAny_call_entry F.slot_tuple_iterator_next hj.typeIs F.entry_tuple_iterator_next ?_ (F.args_tuple_iterator_next_1 _)))
 show wpAny _ _ (field (.ref j) 0 >>= _) _ _ s
 refine wpAny_bind (wpAny_field ej dj (x:=.ref a) rfl ?_)
 show wpAny _ _ (if (Value.ref a == Value.none)=true then _ else _) _ _ s
 rw [if_neg (show ¬ ((Value.ref a == Value.none)=true) from Bool.false_ne_true)]
 show wpAny _ _ (field (.ref j) 1 >>= _) _ _ s
 refine wpAny_bind (wpAny_field ej dj (x:=.int n 0) rfl ?_)
 show wpAny _ _ (seqItems? (.ref a) >>= _) _ _ s
 refine wpAny_bind (wpAny_seqItems ea da ?_)
 simp only [Int.toNat_natCast,hv]
 refine wpAny_bind (wpAny_setField ej dj (by simp) (wpAny_pure ⟨v,rfl,wpAny_pure (q _ ?_ (Heap.SameBut.update ..))⟩))
 exact⟨_,Heap.get?_update_self _ ej (Obj.isFreed_of_fields (Obj.data_mapFields dj _)),(Obj.cls_mapFields ..).trans cj,by rw [Obj.data_mapFields dj];simp [rawInt]⟩
theorem tupEnd {j a:Addr} {n:Nat} {vs:Array Value} {Q:Value->Shared->Prop} (hh:A.handled=none) (hj:s.heap.IsTupleIter j a n) (ha:s.heap.IsTuple a vs) (hv:vs[n]?=none)
  (hE:∀ g x,Heap.ExtBut j s.heap g->(∃ o,g.get? x=some o/\o.cls=.type "StopIteration")->E (.ref x) { s with heap:=g }):wpAny (model P w) A (Builtin.SmallTypes.nextOf (.ref j)) Q E s:=by
 obtain⟨oj,ej,cj,dj⟩:=id hj
 obtain⟨oa,ea,ca,na,da⟩:=ha
 unfold Builtin.SmallTypes.nextOf
 refine wpAny_bind (wpAny_callSpecial?_slot (name:=Str.ofString "__next__") hj.typeIs F.slot_tuple_iterator_next (wpAny_call_entry F.slot_tuple_iterator_next hj.typeIs F.entry_tuple_iterator_next ?_ (F.args_tuple_iterator_next_1 _)))
 show wpAny _ _ (field (.ref j) 0 >>= _) _ _ s
 refine wpAny_bind (wpAny_field ej dj (x:=.ref a) rfl ?_)
 show wpAny _ _ (if (Value.ref a == Value.none)=true then _ else _) _ _ s
 rw [if_neg (show ¬ ((Value.ref a == Value.none)=true) from Bool.false_ne_true)]
 show wpAny _ _ (field (.ref j) 1 >>= _) _ _ s
 refine wpAny_bind (wpAny_field ej dj (x:=.int n 0) rfl ?_)
 show wpAny _ _ (seqItems? (.ref a) >>= _) _ _ s
 refine wpAny_bind (wpAny_seqItems ea da ?_)
 simp only [Int.toNat_natCast,hv]
 refine wpAny_bind (wpAny_rule (wpAny_bind (wpAny_setField ej dj (by simp) ?_)))
 show wpAny _ _ (newExc (.type "StopIteration") [] >>= fun x=>raiseNew x) _ _ _
 refine wpAny_bind ?_
 simp only [newExc,newTuple]
 refine wpAny_bind (wpAny_newObj_type ?_ (by size_fits))
 refine wpAny_bind (m:=firstArgMember _ _) (wpAny_of_eq (a:=Value.none) (by first|rfl|(simp only [firstArgMember];rfl)) ?_)
 refine wpAny_newObj_type ?_ (by size_fits)
 simp only [raiseNew]
 refine wpAny_bind (wpAny_handled ?_)
 first|rw [show A.in1.handled=none from hh]|rw [hh]
 exact wpAny_bind (wpAny_pure (wpAny_throw (hE _ _ (((Heap.SameBut.update ..).extBut.push _).push _) ⟨_,Heap.get?_push_size _ rfl,rfl⟩)))
theorem sqNext {b:Bool} {j a:Addr} {n:Nat} {vs:Array Value} {v:Value} {Q:Value->Shared->Prop} (hj:IsIt2 b s.heap j a n) (ha:IsSq2 b s.heap a vs) (hv:vs[n]?=some v)
  (q:∀ g,IsIt2 b g j a (n + 1)->Heap.SameBut j s.heap g->Q v { s with heap:=g }):wpAny (model P w) A (Builtin.SmallTypes.nextOf (.ref j)) Q E s:=by
 cases b
 ·exact wpAny_nextOf_list_item hj ha hv q
 ·exact tupNext hj ha hv q
theorem sqEnd {b:Bool} {j a:Addr} {n:Nat} {vs:Array Value} {Q:Value->Shared->Prop} (hh:A.handled=none) (hj:IsIt2 b s.heap j a n) (ha:IsSq2 b s.heap a vs) (hv:vs[n]?=none)
  (hE:∀ g x,Heap.ExtBut j s.heap g->(∃ o,g.get? x=some o/\o.cls=.type "StopIteration")->E (.ref x) { s with heap:=g }):wpAny (model P w) A (Builtin.SmallTypes.nextOf (.ref j)) Q E s:=by
 cases b
 ·exact wpAny_nextOf_list_end hh hj ha hv hE
 ·exact tupEnd hh hj ha hv hE
end
abbrev itN (b:Bool):String:=if b then "tuple_iterator" else "list_iterator"
abbrev zp1 (b:Bool) (h:Heap) (a:Addr):Heap:=h.push { cls:=.type (itN b),data:=.fields #[.ref a,.int 0 0] }
section
variable {X:Cx} {pins:List (Addr × Obj)} {σ:St} {H:Hp} {s:Shared} {h':Heap}
theorem Inv.turnedL {t':Nat} {ch:List Addr} {p:Addr} {o:HO} (I:Inv X pins σ H s) (k:∀ b u,b ∉ ch->s.heap.get? b=some u->h'.get? b=some u) (f:∀ b ∈ ch,FpOk X pins H b)
  (hp:s.heap.objs.size<=p) (new:ObjOk X.prog X.w (upd H p o) h' p o):Inv X pins σ (upd H p o) { s with heap:=h',toks:=t' }:=by
 have hn:=I.hok.fresh hp
 have nx:∀ b u,H b=some u->b ∉ ch:=fun b u q z=>ne_of_none q (f b z).1 rfl
 have np:∀ b u,s.heap.get? b=some u->b ≠ p:=fun b u q=>Nat.ne_of_lt (Nat.lt_of_lt_of_le (Heap.lt_size q) hp)
 have u:Un (frs X.stack) ch H (upd H p o) s.heap h':=by
  refine⟨fun b u q _ _ hx=>k b u hx q,fun b u q _ _ hx=>⟨u.slots,k b u hx q⟩,fun b u q n _=>?_,fun b u q hx=>⟨u,k b u hx q⟩,fun b xs q=>?_,fun b o' u q=>?_,fun b ps q=>⟨#[],?_⟩⟩
  ·rw [upd_ne (np b u q)];exact n
  ·rw [upd_ne (ne_of_none q hn)];exact q
  ·rw [upd_ne (ne_of_none q hn)];exact q
  ·rw [upd_ne (ne_of_none q hn),q];simp
 have hok:HOk X.prog X.w (upd H p o) h':=fun b v eb=>by
  by_cases hb:b=p
  ·subst hb;rw [upd_same] at eb;cases eb;exact new
  ·rw [upd_ne hb] at eb
   refine (I.hok b v eb).stay (fun c w hc q=>k c w ?_ q) (fun c q=>by rw [upd_ne (ne_of_none q hn)];exact q) fun c xs q=>by rw [upd_ne (ne_of_none q hn)];exact q
   rcases hc with z|z
   ·rw [z];exact nx b v eb
   ·exact nx c _ z
 exact I.call (g':=s.gens) (d':=s.drawn) (t':=t') (ch:=ch) u hok I.bare fun b hb=>⟨(f b hb).2.2.2.1,(f b hb).2.1,(f b hb).2.2.2.2.1,(f b hb).2.2.2.2.2⟩
theorem Inv.turnedL0 {t':Nat} {ch:List Addr} (I:Inv X pins σ H s) (k:∀ b u,b ∉ ch->s.heap.get? b=some u->h'.get? b=some u) (f:∀ b ∈ ch,FpOk X pins H b):Inv X pins σ H { s with heap:=h',toks:=t' }:=by
 have nx:∀ b u,H b=some u->b ∉ ch:=fun b u q z=>ne_of_none q (f b z).1 rfl
 have u:Un (frs X.stack) ch H H s.heap h':=by
  refine⟨fun b u q _ _ hx=>k b u hx q,fun b u q _ _ hx=>⟨u.slots,k b u hx q⟩,fun b u q n _=>n,fun b u q hx=>⟨u,k b u hx q⟩,fun b xs q=>q,fun b o' u q=>q,fun b ps q=>⟨#[],?_⟩⟩
  rw [q];simp
 have hok:HOk X.prog X.w H h':=fun b v eb=>by
  refine (I.hok b v eb).stay (fun c w hc q=>k c w ?_ q) (fun c q=>q) fun c xs q=>q
  rcases hc with z|z
  ·rw [z];exact nx b v eb
  ·exact nx c _ z
 exact I.call (g':=s.gens) (d':=s.drawn) (t':=t') (ch:=ch) u hok I.bare fun b hb=>⟨(f b hb).2.2.2.1,(f b hb).2.1,(f b hb).2.2.2.2.1,(f b hb).2.2.2.2.2⟩
theorem Inv.seq2 {b:Bool} {a:Addr} {xs:List V} (I:Inv X pins σ H s) (h:Sq2 X.K b H a xs):∃ its:List Value,Vals xs its/\IsSq2 b s.heap a its.toArray:=by
 cases b
 ·obtain⟨its,r,p,_⟩:=I.list h
  exact⟨its,r,p.isList⟩
 ·obtain⟨its,r,p,_⟩:=I.tuple h
  exact⟨its,r,p⟩
theorem Inv.seq2_inj {b:Bool} {a:Addr} {xs ys:List V} (I:Inv X pins σ H s) (h:Sq2 X.K b H a xs) (h':Sq2 X.K b H a ys):xs=ys:=by
 cases b
 ·exact I.list_inj h h'
 ·exact I.tuple_inj h h'
end
section
variable {X:Cx}
theorem call_int_bl:CallR X (.type "int") (fun xs H Q=>∃ b:Bool,xs=[.bl b]/\Q (.int (if b then 1 else 0)) H):=by
 intro pins s σ H xs us Q I r h
 obtain⟨b,rfl,q⟩:=h
 obtain⟨u,rfl,r1⟩:=vals1 r
 cases r1
 exact call_int_bool ⟨.int _,H,I.tok _,⟨_,rfl⟩,q⟩
end
def DatT (K:Frag) (H:Hp) (x:V) (d:PyData):Prop:=Dat K H x d\/(∃ a kvs,x=.ref a/\H a=some (.dK kvs))/\d=.dict []
def tyD:PyData->String
 | .none=>"NoneType"
 | .bool _=>"bool"
 | .int _=>"int"
 | .str _=>"str"
 | .list _=>"list"
 | .tuple _=>"tuple"
 | .dict _=>"dict"
theorem Dat.ty {K:Frag} {H:Hp} {x:V} {d:PyData} (h:Dat K H x d):tyN K x H (tyD d):=by
 cases h with
 | lst h _=>exact .inl ⟨rfl,_,h⟩
 | tup h _=>exact .inr ⟨rfl,_,h⟩
 | _=>rfl
theorem DatT.ty {K:Frag} {H:Hp} {x:V} {d:PyData} (h:DatT K H x d):tyM K x H (tyD d):=by
 rcases h with h|⟨⟨a,kvs,rfl,h⟩,rfl⟩
 ·exact .inl h.ty
 ·exact .inr ⟨rfl,a,kvs,rfl,h⟩
theorem DatT.same {K:Frag} {H H':Hp} {x:V} {d:PyData} (h:DatT K H x d) (g:Same H H'):DatT K H' x d:=by
 rcases h with h|⟨⟨a,kvs,rfl,h⟩,rfl⟩
 ·exact .inl (h.same g)
 ·exact .inr ⟨⟨a,kvs,rfl,g _ _ h⟩,rfl⟩
theorem DatAll.length {K:Frag} {H:Hp} : ∀ {xs:List V} {ds:List PyData},DatAll K H xs ds->xs.length=ds.length
 | _,_,.nil=>rfl
 | _,_,.cons _ t=>congrArg (· + 1) (DatAll.length t)
theorem DatAll.get {K:Frag} {H:Hp} : ∀ {xs:List V} {ds:List PyData} {i:Nat} {x:V},DatAll K H xs ds->xs[i]?=some x->∃ d,ds[i]?=some d/\Dat K H x d
 | _,_,_,_,.nil,e=>by simp at e
 | _,_,0,_,.cons h _,e=>by simp at e;subst e;exact⟨_,rfl,h⟩
 | _,_,i + 1,x,.cons _ t,e=>by
  obtain⟨d,h1,h2⟩:=DatAll.get (i:=i) (x:=x) t (by simpa using e)
  exact⟨d,by simpa using h1,h2⟩
theorem DatAll.app {K:Frag} {H:Hp} : ∀ {xs ys:List V} {ds es:List PyData},DatAll K H xs ds->DatAll K H ys es->DatAll K H (xs++ys) (ds++es)
 | _,_,_,_,.nil,s=>s
 | _,_,_,_,.cons h t,s=>.cons h (DatAll.app t s)
theorem DatAll.take {K:Frag} {H:Hp} : ∀ {xs:List V} {ds:List PyData} (n:Nat),DatAll K H xs ds->DatAll K H (xs.take n) (ds.take n)
 | _,_,0,_=>.nil
 | _,_,_ + 1,.nil=>.nil
 | _,_,n + 1,.cons h t=>.cons h (DatAll.take n t)
theorem DatAll.drop {K:Frag} {H:Hp} : ∀ {xs:List V} {ds:List PyData} (n:Nat),DatAll K H xs ds->DatAll K H (xs.drop n) (ds.drop n)
 | _,_,0,h=>h
 | _,_,_ + 1,.nil=>.nil
 | _,_,n + 1,.cons _ t=>DatAll.drop n t
end L2
namespace L2
open PySem
theorem new_facts {H H1:Hp} {p:Addr} {o:HO} (e:upd H p o=H1) (hp:H p=none):Same H H1/\H1 p=some o:=by
 subst e
 exact⟨fun b u q=>by rw [upd_ne (ne_of_none q hp)];exact q,upd_same⟩
theorem chg_facts {H H1:Hp} {p:Addr} {o:HO} (e:upd H p o=H1):But p H H1/\H1 p=some o:=by
 subst e
 exact⟨But.upd,upd_same⟩
theorem Same.at {H H1:Hp} {a:Addr} {o:HO} (g:Same H H1) (h:H a=some o):H1 a=some o:=g _ _ h
theorem Same.tp {K:Frag} {H H':Hp} {a:Addr} {xs:List V} (e:Same H H') (h:SqT K H a xs):SqT K H' a xs:=by
 rcases h with (h|⟨o,h⟩)|h
 ·exact .inl (.inl (e _ _ h))
 ·exact .inl (.inr ⟨o,e _ _ h⟩)
 ·exact .inr h
theorem Same.dt {K:Frag} {H H':Hp} {x:V} {d:PyData} (g:Same H H') (h:Dat K H x d):Dat K H' x d:=h.same g
theorem Same.dts {K:Frag} {H H':Hp} {xs:List V} {ds:List PyData} (g:Same H H') (h:DatAll K H xs ds):DatAll K H' xs ds:=h.same g
theorem Same.dtt {K:Frag} {H H':Hp} {x:V} {d:PyData} (g:Same H H') (h:DatT K H x d):DatT K H' x d:=h.same g
theorem join {v:V} {H':Hp} {R:VK} {t:TT} {ta tb:TE} {σ:St} {H:Hp} (hk:R v H') (h:∀ Q:VK,Q v H'->tIf t ta tb σ H Q):tIf t ta tb σ H R:=h R hk
theorem joinQ (P:St->Hp->Prop) {D:Ends} {rest:TS} {c:TT} {t u:TS} {σ:St} {H:Hp} (hk:∀ σ' H',P σ' H'->rest D σ' H') (h:∀ nx:St->Hp->Prop,(∀ σ' H',P σ' H'->nx σ' H')->tIfS c t u { D with nx:=nx } σ H):tSeq (tIfS c t u) rest D σ H:=h (rest D) hk
end L2
local macro_rules | `(tactic| walk_at "hp") => `(tactic| first
 | assumption
 | exact L2.upd_same
 | exact L2.Same.refl _
 | (refine' L2.Same.at ?k1 ?_; (case k1=>assumption);walk_at "hp";done)
 | (refine L2.SqL.of ?_;walk_at "hp";done)
 | (refine L2.SqT.of ?_;walk_at "hp";done)
 | (refine' L2.Same.seq ?k1 ?_; (case k1=>assumption);walk_at "hp";done)
 | (refine' L2.Same.tp ?k1 ?_; (case k1=>assumption);walk_at "hp";done)
 | (refine' L2.Same.dt ?k1 ?_; (case k1=>assumption);walk_at "hp";done)
 | (refine' L2.Same.dts ?k1 ?_; (case k1=>assumption);walk_at "hp";done)
 | (refine' L2.Same.dtt ?k1 ?_; (case k1=>assumption);walk_at "hp";done)
 | (refine' L2.Same.trans ?_ ?k1; (case k1=>assumption);walk_at "hp";done))
local macro_rules | `(tactic| walk_at "al") => `(tactic| (intro pX hX; generalize eX : L2.upd _ pX _ = HX; obtain ⟨gX,kX⟩ := L2.new_facts eX hX; clear eX))
local macro_rules | `(tactic| o_unpack $r:ident) => `(tactic| (intro $r:ident hX; generalize eX : L2.upd _ $r:ident _ = HX; obtain ⟨gX,kX⟩ := L2.new_facts eX hX; clear eX))
local macro_rules | `(tactic| walk_at "ch") => `(tactic| (generalize eX : L2.upd _ _ _ = HX; obtain ⟨gX,kX⟩ := L2.chg_facts eX; clear eX))
local macro_rules | `(tactic| walk_at "rd") => `(tactic| repeat first
 | (refine⟨_,rfl,?_⟩)
 | (refine⟨_,_,rfl,rfl,?_⟩)
 | (refine⟨_,_,rfl,rfl,⟨by decide,by decide⟩,?_⟩)
 | (refine' ⟨_,_,rfl,.inl ?k1,?_⟩; (case k1=>walk_at "hp"))
 | (refine' ⟨_,_,_,_,rfl,rfl,?k1,?k2,?_⟩; (case k1=>walk_at "hp"); (case k2=>rfl)))
namespace L2
open PySem PySem.Spec PyProof.Rows
inductive EqS (K:Frag) (H:Hp):Nat->V->V->Prop
 | same {n:Nat} {v:V} : SelfV v->EqS K H n v v
 | lst {n:Nat} {a b:Addr} {xs ys:List V} : SqL K H a xs->SqL K H b ys->xs.length=ys.length->(∀ (i:Nat) x y,xs[i]?=some x->ys[i]?=some y->EqS K H n x y)->EqS K H (n + 1) (.ref a) (.ref b)
 | tup {n:Nat} {a b:Addr} {xs ys:List V} : SqT K H a xs->SqT K H b ys->xs.length=ys.length->(∀ (i:Nat) x y,xs[i]?=some x->ys[i]?=some y->EqS K H n x y)->EqS K H (n + 1) (.ref a) (.ref b)
section
variable {X:Cx}
theorem all_true {n:Nat} : ((List.range n).all fun _=>true)=true:=by simp
theorem arr_get {us:List Value} {j:Nat} {u:Value} (h:us[j]?=some u) (hj:j < us.toArray.size):us.toArray[j]=u:=by
 have:=(List.getElem?_eq_some_iff.mp h).2
 simpa using this
theorem Inv.eqs {pins:List (Addr × Obj)} {σ:St} {H:Hp} {s:Shared} (I:Inv X pins σ H s):∀ {n:Nat} {x y:V},EqS X.K H n x y->∀ {A:Around} {u v:Value},RelV x u->RelV y v->A.units + n < cLine->SeqAt.EqAt A s u v true:=by
 intro n x y h
 induction h with
 | same hs=>intro A u v ru rv _;exact eqAt_self hs ru rv
 | @lst n a b xs ys ha hb hl _ ih =>
  intro A u v ru rv hu
  cases ru
  cases rv
  by_cases hab:a=b
  ·subst hab;exact SeqAt.EqAt.same _
  obtain⟨i1,r1,p1,_⟩:=I.list ha
  obtain⟨i2,r2,p2,_⟩:=I.list hb
  have l1:=r1.length
  have l2:=r2.length
  refine SeqAt.EqAt.of_refs hab ?_
  have:=SeqAt.RcAt.lists (A:=A) (e:=fun _=>true) p1.isList p2.isList (by rw [List.size_toArray,List.size_toArray];omega) (by omega) (fun j h1 h2=>by
   have hj:j < xs.length:=by rw [List.size_toArray] at h1;omega
   have hj2:j < ys.length:=by omega
   obtain⟨u1,e1,q1⟩:=r1.get (List.getElem?_eq_getElem hj)
   obtain⟨u2,e2,q2⟩:=r2.get (List.getElem?_eq_getElem hj2)
   rw [arr_get e1,arr_get e2]
   exact ih j _ _ (List.getElem?_eq_getElem hj) (List.getElem?_eq_getElem hj2) q1 q2 (by show A.units + 1 + n < cLine;omega))
  rw [all_true] at this
  exact this
 | @tup n a b xs ys ha hb hl _ ih =>
  intro A u v ru rv hu
  cases ru
  cases rv
  by_cases hab:a=b
  ·subst hab;exact SeqAt.EqAt.same _
  obtain⟨i1,r1,p1,_⟩:=I.tuple ha
  obtain⟨i2,r2,p2,_⟩:=I.tuple hb
  have l1:=r1.length
  have l2:=r2.length
  refine SeqAt.EqAt.of_refs hab ?_
  have:=SeqAt.RcAt.tuples (A:=A) (e:=fun _=>true) (show s.heap.IsTuple a i1.toArray from p1) (show s.heap.IsTuple b i2.toArray from p2) (by omega) (fun j h1 h2=>by
   have hj:j < xs.length:=by rw [List.size_toArray] at h1;omega
   have hj2:j < ys.length:=by omega
   obtain⟨u1,e1,q1⟩:=r1.get (List.getElem?_eq_getElem hj)
   obtain⟨u2,e2,q2⟩:=r2.get (List.getElem?_eq_getElem hj2)
   rw [arr_get e1,arr_get e2]
   exact ih j _ _ (List.getElem?_eq_getElem hj) (List.getElem?_eq_getElem hj2) q1 q2 (by show A.units + 1 + n < cLine;omega))
  rw [all_true,show (i1.toArray.size == i2.toArray.size)=true by rw [List.size_toArray,List.size_toArray,show i1.length=i2.length by omega];simp] at this
  exact this
theorem op_neE (hu:X.A.units + 64 < cLine):OpR X (compareOp .NotEq) (fun x y H Q=>∃ (a b:Addr) (xs ys:List V),x=.ref a/\y=.ref b/\SqL X.K H a xs/\SqL X.K H b ys/\xs.length=ys.length/\(∀ (i:Nat) x y,xs[i]?=some x->ys[i]?=some y->EqS X.K H 8 x y)/\Q (.bl false) H):=by
 intro pins s σ H x y v u Q I rx ry h
 obtain⟨a,b,xs,ys,rfl,rfl,ha,hb,hl,he,q⟩:=h
 cases rx
 cases ry
 obtain⟨i1,r1,p1,_⟩:=I.list ha
 obtain⟨i2,r2,p2,_⟩:=I.list hb
 have l1:=r1.length
 have l2:=r2.length
 show wpAny _ _ (richCompare .NotEq (.ref a) (.ref b)) _ _ _
 refine SeqAt.RcNeAt.lists (e:=fun _=>true) p1.isList p2.isList (by rw [List.size_toArray,List.size_toArray];omega) (by omega) (fun j h1 h2=>?_) _ _ _ _ ?_
 ·have hj:j < xs.length:=by rw [List.size_toArray] at h1;omega
  have hj2:j < ys.length:=by omega
  obtain⟨u1,e1,q1⟩:=r1.get (List.getElem?_eq_getElem hj)
  obtain⟨u2,e2,q2⟩:=r2.get (List.getElem?_eq_getElem hj2)
  rw [arr_get e1,arr_get e2]
  exact I.eqs (he j _ _ (List.getElem?_eq_getElem hj) (List.getElem?_eq_getElem hj2)) q1 q2 (by show X.A.units + 1 + 8 < cLine;omega)
 ·rw [all_true]
  exact⟨.bl false,H,I,rfl,q⟩
end
end L2
namespace L2
open PySem
theorem log2_lt100 {n:Nat} (h:n < 2 ^ 100):n.log2 < 100:=by
 by_cases h0:n=0
 ·subst h0;decide
 ·exact (Nat.log2_lt h0).mpr h
end L2
namespace L2
open PySem PySem.Spec PyProof.Rows
section
variable {X:Cx} {e:Expr} {es:List Expr} {te:TE} {t:TA}
theorem pex_lst {pos:Pos} (h:PAx X es t):PEx X (.List es pos) (tLst t):=⟨pe_lst h.h⟩
theorem pstx_ret {pos:Pos} (h:PEx X e te):PStx X (.Return (some e) pos) (tRet te):=⟨ps_ret h.h⟩
end
structure RoomH (k:Nat) (A:Around):Prop where
 dp:A.depth + 3 * k + 5 < recursionLimit
 un:A.units + 16 * k + 200 < cLine
 gd:A.guards=some []
theorem RoomH.mono {j k:Nat} {A:Around} (r:RoomH k A) (h:j<=k):RoomH j A:=⟨by have:=r.dp;omega,by have:=r.un;omega,r.gd⟩
theorem RoomH.deeper {k:Nat} {A:Around} (r:RoomH (k + 1) A) (env:Env):RoomH k (A.deeper env) :=
 ⟨by have:=r.dp;show A.depth + 1 + 3 * k + 5 < _;omega,by have:=r.un;show A.units + 3 + 16 * k + 200 < _;omega,r.gd⟩
theorem RoomH.depth {k:Nat} {A:Around} (r:RoomH k A):A.depth < recursionLimit:=by have:=r.dp;omega
theorem RoomH.units {k:Nat} {A:Around} (r:RoomH k A):A.units + 64 < cLine:=by have:=r.un;omega
theorem Room.toH {k:Nat} {A:Around} (r:Room k A):RoomH k A:=⟨r.dp,r.un,r.gd⟩
theorem Room.mark {k:Nat} {A:Around} (r:Room k A) (v:Option Value):RoomH k (A.mark v):=⟨r.dp,r.un,r.gd⟩
structure VRow (P:Program) (w:World) (K:Frag) (mg:Str->Option Value) (base:Heap) (CX:CXT) (k:Nat) (m:Str) (C:Addr) (sp:Sp):Prop where
 cl:Cls K C
 ex:∃ f fd ps,Meth K C m f/\FnOk P w K mg base CX k f fd ps sp/\Binds K fd ps []
section
variable {X:Cx} {CX:CXT} {k:Nat} {E:XK} {m:Str} {pos apos:Pos} {e o:Expr} {es:List Expr} {ta:TE} {t:TA} {T:Addr->Sp->Prop}
def tMethV (T:Addr->Sp->Prop) (m:Str) (E:XK) (ta:TE) (t:TA):TE:=fun σ H Q=>ta σ H fun x H1=>∃ a C dx fs sp,x=.ref a/\H1 a=some (.ins C dx fs)/\fs.lookup m=none/\T C sp/\t σ H1 fun vs H2=>sp (x::vs) H2 Q E
theorem pe_methV {pl:Sem Bool} (he:PE X o ta) (hT:∀ C sp,T C sp->VRow X.prog X.w X.K X.mg X.base CX k m C sp) (hr:Room k X.A) (hx:Passes CX X E) (ha:PA X (e::es) t)
  (hst:starEach (e::es) X.env=(false,eval e X.env)::starEach es X.env:=by rfl) (hpl:(backTo pos (starEach es X.env)).any (·.1)=false:=by rfl)
  (ht:eval (.Call (.Attribute o m apos) (e::es) [] pos) X.env=(do
   let ov ← eval o X.env
   standAt apos.atName
   let (f,first) ← holding [ov] (getMethod ov m pl)
   callWith pos f first (backTo pos (starEach (e::es) X.env)) (backToKw pos (keywordEach [] X.env))):=by rfl) :
  PE X (.Call (.Attribute o m apos) (e::es) [] pos) (tMethV T m E ta t):=by
 intro pins s σ H Q I h
 refine PySem.W.methodCall_KW (pl:=pl) (thn (he pins s σ H _ I h) fun u s1 ⟨x,H1,I1,rx,a,C,dx,fs,sp,ex,ea,l,hC,q⟩=>?_) ht
 subst ex
 obtain rfl:u=Value.ref a:=rx
 obtain⟨c,f,fd,ps,hm,F,hb⟩:=hT C sp hC
 refine getmeth_ok I1 ea c hm l ?_
 refine PySem.W.callWith_K (first:=[.ref a]) (h₀:=X.base) I.ok.mod.kin hm.kp (thn (ha pos pins s1 σ H1 _ I1 q) fun us s2 ⟨vs,H2,I2,r,q2⟩=>⟨I2.kIn,?_⟩) hst hpl
 exact run_fn (us:=.ref a::us) (vs:=.ref a::vs) (dvs:=[]) F hr hb .nil hx I2 (.cons rfl r) (by rw [List.append_nil];exact q2)
theorem pe_methV0 {pl:Sem Bool} (he:PE X o ta) (hT:∀ C sp,T C sp->VRow X.prog X.w X.K X.mg X.base CX k m C sp) (hr:Room k X.A) (hx:Passes CX X E)
  (ht:eval (.Call (.Attribute o m apos) [] [] pos) X.env=(do
   let ov ← eval o X.env
   standAt apos.atName
   let (f,first) ← holding [ov] (getMethod ov m pl)
   callWith pos f first (backTo pos (starEach [] X.env)) (backToKw pos (keywordEach [] X.env))):=by rfl) :
  PE X (.Call (.Attribute o m apos) [] [] pos) (tMethV T m E ta tNil):=by
 intro pins s σ H Q I h
 refine PySem.W.methodCall_KW (pl:=pl) (thn (he pins s σ H _ I h) fun u s1 ⟨x,H1,I1,rx,a,C,dx,fs,sp,ex,ea,l,hC,q⟩=>?_) ht
 subst ex
 obtain rfl:u=Value.ref a:=rx
 obtain⟨c,f,fd,ps,hm,F,hb⟩:=hT C sp hC
 refine getmeth_ok I1 ea c hm l ?_
 exact PySem.W.callWith_K0 (first:=[.ref a]) I1.kIn hm.kp (run_fn (us:=[.ref a]) (vs:=[.ref a]) (dvs:=[]) F hr hb .nil hx I1 (.cons rfl .nil) q)
end
def txtV:V->Option Str
 | .str x=>some x
 | .int i=>if i.natAbs < 2 ^ 100 then some (toString i) else none
 | _=>none
def TJ:=St->Hp->Str->(Str->Hp->Prop)->Prop
def PJ (X:Cx) (es:List Expr) (t:TJ):Prop:=∀ (pins:List (Addr × Obj)) (s:Shared) (σ:St) (H:Hp) (acc:Str) (Q:Str->Hp->Prop),Inv X pins σ H s->t σ H acc Q →
 wpAny (model X.prog X.w) X.A (joinParts acc (evalEach es X.env)) (EP X pins σ fun v H'=>∃ z,v=.str z/\Q z H') X.xe s
section
variable {X:Cx} {e e1 e2:Expr} {es:List Expr} {te:TE} {t:TJ} {pos p:Pos} {x:Str}
def jNil:TJ:=fun _ H acc Q=>acc.length<=sizeLine/\Q acc H
theorem pj_nil:PJ X [] jNil:=fun _ s _ H acc Q I h=>joinParts_nil ⟨.str acc,H,I.tok _,⟨_,rfl⟩,acc,rfl,h.2⟩ h.1
def jStr (x:Str) (t:TJ):TJ:=fun σ H acc Q=>(acc++x).length<=sizeLine/\t σ H (acc++x) Q
theorem pj_str {j} (ht:PJ X es t):PJ X (.Constant (.str x) j p::es) (jStr x t):=by
 intro pins s σ H acc Q I h
 refine joinParts_cons (Calls.Constant_str ⟨h.1,ht pins _ σ H _ Q (I.tok _) h.2⟩)
theorem fmt_ok {pins:List (Addr × Obj)} {s:Shared} {σ:St} {H:Hp} {v:V} {u:Value} {y:Str} {E:Value->Shared->Prop} {R:Value->Shared->Prop} (I:Inv X pins σ H s) (r:RelV v u) (hy:txtV v=some y) (hl:y.length<=sizeLine)
  (h:∀ t' tk,Inv X pins σ H { s with toks:=tk }->R (.str y t') { s with toks:=tk }):wpAny (model X.prog X.w) X.A (formatField u Str.empty) R E s:=by
 cases v with
 | str x =>
  obtain⟨t,rfl⟩:=r
  cases hy
  exact formatField_str (fun t' tk=>h t' tk (I.kept fun _ _ q=>q)) hl
 | int i =>
  obtain⟨t,rfl⟩:=r
  have hy':(if i.natAbs < 2 ^ 100 then some (Str.ofString (toString i)) else none)=some y:=hy
  by_cases hi:i.natAbs < 2 ^ 100
  ·rw [if_pos hi] at hy'
   cases hy'
   refine formatField_int_small ?_ (h _ _ (I.kept fun _ _ q=>q))
   have:=log2_lt100 hi
   omega
  ·rw [if_neg hi] at hy'
   cases hy'
 | _=>cases hy
def jVal (te:TE) (t:TJ):TJ:=fun σ H acc Q=>te σ H fun v H1=>∃ y,txtV v=some y/\y.length<=sizeLine/\(acc++y).length<=sizeLine/\t σ H1 (acc++y) Q
theorem pj_val (he:PE X e te) (ht:PJ X es t):PJ X (.FormattedValue e (-1) none p::es) (jVal te t):=by
 intro pins s σ H acc Q I h
 refine joinParts_cons (FormattedValue_plain (thn (he pins s σ H _ I h) fun u s1 ⟨v,H1,I1,r,y,hy,hl,ha,q⟩=>?_))
 exact fmt_ok I1 r hy hl fun t' tk I2=>⟨ha,ht pins _ σ H1 _ Q I2 q⟩
def tJoin (t:TJ):TE:=fun σ H Q=>t σ H Str.empty fun z H1=>Q (.str z) H1
theorem pe_join (h:PJ X (e1::e2::es) t):PE X (.JoinedStr (e1::e2::es) pos) (tJoin t):=by
 intro pins s σ H Q I hq
 exact JoinedStr_many (thn (h pins s σ H Str.empty _ I hq) fun u s1 ⟨v,H1,I1,r,z,ez,q⟩=>⟨v,H1,I1,r,by rw [ez];exact q⟩)
def tJoin1 (te:TE):TE:=fun σ H Q=>te σ H fun v H1=>∃ y,txtV v=some y/\y.length<=sizeLine/\Q (.str y) H1
theorem pe_join1 (he:PE X e te):PE X (.JoinedStr [.FormattedValue e (-1) none p] pos) (tJoin1 te):=by
 intro pins s σ H Q I h
 refine JoinedStr_one (FormattedValue_plain (thn (he pins s σ H _ I h) fun u s1 ⟨v,H1,I1,r,y,hy,hl,q⟩=>?_))
 exact fmt_ok I1 r hy hl fun t' tk I2=>⟨.str y,H1,I2,⟨_,rfl⟩,q⟩
end
end L2
namespace L2
open PySem
def jn (c:Nat):List (List Nat)->List Nat
 | []=>[]
 | [p]=>p
 | p::q::r=>p++c::jn c (q::r)
theorem jn_head {c:Nat} : ∀ {p1 p2 t1 t2:List Nat},c ∉ p1->c ∉ p2->p1++c::t1=p2++c::t2->p1=p2/\t1=t2
 | [],[],t1,t2,_,_,h=>⟨rfl,(List.cons.inj h).2⟩
 | [],b::p2,t1,t2,_,h2,h=>absurd (List.mem_cons.mpr (.inl (List.cons.inj h).1)) h2
 | a::p1,[],t1,t2,h1,_,h=>absurd (List.mem_cons.mpr (.inl (List.cons.inj h).1.symm)) h1
 | a::p1,b::p2,t1,t2,h1,h2,h=>by
  obtain⟨e1,e2⟩:=List.cons.inj h
  obtain⟨e3,e4⟩:=jn_head (fun z=>h1 (List.mem_cons_of_mem _ z)) (fun z=>h2 (List.mem_cons_of_mem _ z)) e2
  exact⟨by rw [e1,e3],e4⟩
theorem jn_inj {c:Nat} : ∀ {ps qs:List (List Nat)},ps ≠ []->qs ≠ []->(∀ p ∈ ps,c ∉ p)->(∀ q ∈ qs,c ∉ q)->jn c ps=jn c qs->ps=qs
 | [],_,h,_,_,_,_=>absurd rfl h
 | _,[],_,h,_,_,_=>absurd rfl h
 | [p],[q],_,_,_,_,h=>by rw [show p=q from h]
 | [p],q::q2::qs,_,_,hp,_,h=>by
  have e:p=q++c::jn c (q2::qs):=h
  exact absurd (by rw [e];simp) (hp p (List.mem_cons_self ..))
 | p::p2::ps,[q],_,_,_,hq,h=>by
  have e:p++c::jn c (p2::ps)=q:=h
  exact absurd (by rw [← e];simp) (hq q (List.mem_cons_self ..))
 | p::p2::ps,q::q2::qs,_,_,hp,hq,h=>by
  obtain⟨e1,e2⟩:=jn_head (hp p (List.mem_cons_self ..)) (hq q (List.mem_cons_self ..)) h
  have ih:=jn_inj (by simp) (by simp) (fun z hz=>hp z (List.mem_cons_of_mem _ hz)) (fun z hz=>hq z (List.mem_cons_of_mem _ hz)) e2
  rw [e1,ih]
theorem join_jn (c:Nat):∀ ys:List Str,(Str.join ⟨#[c]⟩ ys).cps.toList=jn c (ys.map fun y=>y.cps.toList)
 | []=>rfl
 | [y]=>rfl
 | y::z::ys=>by
  show (y++⟨#[c]⟩++Str.join ⟨#[c]⟩ (z::ys)).cps.toList=_
  rw [Str.cps_append,Str.cps_append,Array.toList_append,Array.toList_append,join_jn c (z::ys),List.append_assoc]
  rfl
theorem split_ne (x y:Str):Txt.split x y ≠ []:=fun h=>by
 unfold Txt.split at h
 split at h
 ·cases h
 ·split at h
  ·cases h
  ·rw [StrLaws.partsBetween_eq] at h
   obtain⟨p,r,e⟩:=StrLaws.partsFrom_ne x y.length 0 (Builtin.Str.occurrences x y 0 x.length (x.length + 1))
   rw [e] at h
   cases h
theorem split_join {c:Nat} {ys:List Str} (hne:ys ≠ []) (hf:∀ y ∈ ys,c ∉ y.cps.toList):Txt.split (Str.join ⟨#[c]⟩ ys) ⟨#[c]⟩=ys:=by
 have h1:=StrLaws.join_split (Str.join ⟨#[c]⟩ ys) ⟨#[c]⟩
 have h2:=congrArg (fun z:Str=>z.cps.toList) h1
 simp only [join_jn] at h2
 have h3:=jn_inj (by simpa using split_ne _ _) (by simpa using hne) (fun p hp=>by
  obtain⟨y,hy,rfl⟩:=List.mem_map.mp hp
  exact StrLaws.split_free _ c y hy) (fun p hp=>by
  obtain⟨y,hy,rfl⟩:=List.mem_map.mp hp
  exact hf y hy) h2
 have hi:∀ {as bs:List Str},(as.map fun y=>y.cps.toList)=(bs.map fun y=>y.cps.toList)->as=bs:=by
  intro as
  induction as with
  | nil=>intro bs h;cases bs with
   | nil=>rfl
   | cons b bs=>cases h
  | cons a as ih=>intro bs h;cases bs with
   | nil=>cases h
   | cons b bs =>
    obtain⟨e1,e2⟩:=List.cons.inj h
    rw [ih e2,Str.ext' (Array.toList_inj.mp e1)]
 exact hi h3
end L2
namespace L2
open PySem PySem.Spec PyProof.Rows
section
variable {X:Cx}
theorem mt_splitT:MtR X "str.split" (fun x vs H Q=>∃ z y:Str,x=.str z/\vs=[.str y]/\(y.length == 0)=false/\z.length + 2<=sizeLine/\∀ p,H p=none->Q (.ref p) (upd H p (.lst ((Txt.split z y).map V.str)))):=by
 intro pins s σ H x vs v us Q I rx rv h
 obtain⟨z,y,rfl,rfl,h2,h4,q⟩:=h
 have hn:(Builtin.Str.partsBetween z (Builtin.Str.occurrences z y 0 z.length (z.length + 1)) y.length).length<=sizeLine:=by
  have e1:=StrLaws.occ_length_le z y 0 z.length (z.length + 1)
  rw [length_partsBetween];omega
 obtain⟨t,rfl⟩:=rx
 obtain⟨u,rfl,ru⟩:=vals1 rv
 obtain⟨t',rfl⟩:=ru
 have fin:∀ (tk:Nat) (ws:List Value),Vals ((Txt.split z y).map V.str) ws->(Txt.split z y).length<=sizeLine →
   EP X pins σ Q (.ref s.heap.objs.size) { s with toks:=tk,heap:=s.heap.push { cls:=.type "list",data:=.seq ws.toArray } }:=fun tk ws rw' hl=>by
  refine⟨.ref s.heap.objs.size,_,I.laid (o:=.lst ((Txt.split z y).map V.str)) (fun b o e=>Heap.get?_push_of_some _ e) (Nat.le_refl _) ?_,rfl,q _ (I.hok.fresh (Nat.le_refl _))⟩
  exact⟨by rw [List.length_map];exact hl,_,0,rw',Heap.get?_push_size _ rfl⟩
 cases h1:(decide (z.length < y.length) || decide (Builtin.Str.strKind z < Builtin.Str.strKind y))
 ·cases hf:(Builtin.Str.occurrences z y 0 z.length (z.length + 1)).isEmpty
  ·refine call_meets F.slot_str_split (typeIs_str _ _ _) F.entry_str_split (F.args_str_split_2 _ _) (meets_str_split_sep z y t t' h1 h2 hf (by omega) hn) ?_
   have e:Txt.split z y=Builtin.Str.partsBetween z (Builtin.Str.occurrences z y 0 z.length (z.length + 1)) y.length:=(if_neg (ne_true_of_eq_false h1)).trans (if_neg (ne_true_of_eq_false hf))
   exact fin _ _ (by rw [e];exact vals_strs _ _) (by rw [e];exact hn)
  ·have e:Txt.split z y=[z]:=(if_neg (ne_true_of_eq_false h1)).trans (if_pos hf)
   exact call_meets F.slot_str_split (typeIs_str _ _ _) F.entry_str_split (F.args_str_split_2 _ _) (meets_str_split_not_found z y t t' h1 h2 hf) (fin s.toks [.str z t] (by rw [e];exact .cons ⟨_,rfl⟩ .nil) (by rw [e];show 1<=sizeLine;decide))
 ·have e:Txt.split z y=[z]:=if_pos h1
  exact call_meets F.slot_str_split (typeIs_str _ _ _) F.entry_str_split (F.args_str_split_2 _ _) (meets_str_split_cannot_occur z y t t' h1) (fin s.toks [.str z t] (by rw [e];exact .cons ⟨_,rfl⟩ .nil) (by rw [e];show 1<=sizeLine;decide))
theorem mt_joinT:MtR X "str.join" (fun x vs H Q=>∃ (sep:Str) (a:Addr) (ys:List Str),x=.str sep/\vs=[.ref a]/\SqL X.K H a (ys.map V.str)/\(ys.map (·.length)).sum + ys.length * sep.length<=16777216/\Q (.str (Str.join sep ys)) H):=by
 intro pins s σ H x vs v us Q I rx rv h
 obtain⟨sep,a,ys,rfl,rfl,ha,hz,q⟩:=h
 obtain⟨t,rfl⟩:=rx
 obtain⟨u,rfl,ru⟩:=vals1 rv
 cases ru
 obtain⟨its,r,pl,_⟩:=I.list ha
 refine PyProof.Rows.join_list pl.isList (strsAre_of (by simpa using r)) hz fun t' k=>⟨.str _,H,I.tok _,⟨_,rfl⟩,?_⟩
 rw [show Txt.join sep ys=Str.join sep ys from StrLaws.glued_eq_join sep ys]
 exact q
end
section
variable {X:Cx}
theorem argBest_max (f:Nat->Int):∀ k,argBest (fun i j=>decide (f i > f j)) k<=k/\∀ j,j<=k->f j<=f (argBest (fun i j=>decide (f i > f j)) k)
 | 0=>⟨Nat.le_refl _,fun j hj=>by rw [show j=0 by omega];exact Int.le_refl _⟩
 | k + 1=>by
  obtain⟨h1,h2⟩:=argBest_max f k
  unfold argBest
  by_cases h:f (k + 1) > f (argBest (fun i j=>decide (f i > f j)) k)
  ·rw [if_pos (decide_eq_true h)]
   refine⟨Nat.le_refl _,fun j hj=>?_⟩
   by_cases e:j=k + 1
   ·rw [e];exact Int.le_refl _
   ·have:=h2 j (by omega);omega
  ·rw [if_neg (by rw [decide_eq_false h];exact Bool.false_ne_true)]
   refine⟨by omega,fun j hj=>?_⟩
   by_cases e:j=k + 1
   ·rw [e];omega
   ·exact h2 j (by omega)
theorem call_maxL (hc:X.calm=true):CallR X (.builtin "max") (fun xs H Q=>∃ (a:Addr) (ns:List Int),xs=[.ref a]/\SqL X.K H a (ns.map V.int)/\ns ≠ []/\∀ m:Int,m ∈ ns->(∀ n ∈ ns,n<=m)->Q (.int m) H):=by
 intro pins s σ H xs us Q I r h
 obtain⟨a,ns,rfl,ha,hne,q⟩:=h
 obtain⟨u,rfl,rx⟩:=vals1 r
 cases rx
 obtain⟨its,rv,pl,_⟩:=I.list ha
 have hi:=intsAre_of rv
 obtain⟨ys,hy⟩:=hi.allInts.items
 have e1:ns=ys.toList.map (·.1):=by
  rw [← nums_intItems,← hy]
  exact (show numsOf its.toArray.toList=ns from hi.numsOf).symm
 have hsz:ys.size=ns.length:=by rw [e1,List.length_map,Array.length_toList]
 have hpos : 0 < ns.length:=List.length_pos_iff.mpr hne
 have hat:∀ j,ns[j]?=ys[j]?.map (fun x:Int × Tok=>x.1):=fun j=>by rw [e1,List.getElem?_map,Array.getElem?_toList]
 have hnum:∀ j,j < ns.length->ns[j]?=some (numAt ys j):=fun j hj=>by
  have hj2:j < ys.size:=by omega
  rw [hat,Array.getElem?_eq_getElem hj2]
  unfold numAt
  rw [Array.getElem?_eq_getElem hj2]
  rfl
 refine max_intList (I.ok.hd hc) (hy ▸ pl.isList) (by omega) fun v h' tk hv hk=>?_
 obtain⟨t,rfl⟩:=intItems_at hv
 obtain⟨b1,b2⟩:=argBest_max (numAt ys) (ys.size - 1)
 refine⟨.int _,H,I.kept hk,⟨_,rfl⟩,q _ (List.mem_of_getElem? (hnum _ (by omega))) fun n hn=>?_⟩
 obtain⟨j,hj⟩:=List.mem_iff_getElem?.mp hn
 have hjl:j < ns.length:=(List.getElem?_eq_some_iff.mp hj).1
 rw [hnum j hjl] at hj
 cases hj
 exact b2 j (by omega)
theorem op_repB:OpR X (binaryOp .Mult) (fun x y H Q=>∃ (z:Str) (n:Int),x=.str z/\y=.int n/\(n=0\/n=1)/\z.length<=sizeLine/\Q (.str (if n=1 then z else Str.empty)) H):=by
 intro pins s σ H x y v u Q I rx ry h
 obtain⟨z,n,rfl,rfl,hn,hl,q⟩:=h
 obtain⟨t,rfl⟩:=rx
 obtain⟨t',rfl⟩:=ry
 rcases hn with rfl|rfl
 ·refine P.mul_str_none (by decide) (by decide) ⟨.str _,H,I.tok _,⟨_,rfl⟩,q⟩
 ·refine P.mul_str (by decide) (fun _ h=>by simp at h) (fun _ h=>by simp at h) ?_
  exact⟨.str _,H,I,⟨_,rfl⟩,q⟩
theorem op_eqNil (hu:X.A.units + 64 < cLine):OpR X (compareOp .Eq) (fun x y H Q=>∃ (a b:Addr) (xs:List V),x=.ref a/\y=.ref b/\SqL X.K H a xs/\SqL X.K H b []/\Q (.bl xs.isEmpty) H):=by
 intro pins s σ H x y v u Q I rx ry h
 obtain⟨a,b,xs,rfl,rfl,ha,hb,q⟩:=h
 cases rx
 cases ry
 obtain⟨i1,r1,p1,_⟩:=I.list ha
 obtain⟨i2,r2,p2,_⟩:=I.list hb
 cases r2
 cases xs with
 | nil =>
  cases r1
  refine SeqAt.eq_listAt (e:=fun _=>true) p1.isList p2.isList rfl (by omega) (fun j h1 _=>absurd h1 (Nat.not_lt_zero _)) ?_
  exact⟨.bl true,H,I,rfl,q⟩
 | cons z zs =>
  cases r1 with
  | cons rz rt =>
   refine SeqAt.eq_list_lengthsAt p1.isList p2.isList (by simp) (by omega) ?_
   exact⟨.bl false,H,I,rfl,q⟩
end
def DCompR (J:It) (k:Nat) (js:List Nat) (g:TG) (tc:TT) (tk tv:TE) (σ:St) (Q:VK) (H1:Hp):Prop:=∀ D,H1 D=none →
 ∃ W:Nat->Nat->St->List (Key × V)->Hp->Prop,(∃ m,W 0 m (capSt k js σ) [] (upd H1 D (.dK [])))/\∀ i m σ' kvs H',W i m σ' kvs H' →
  (J.stop i H'/\Q (.ref D) H') ∨
  (J.go i H'/\∃ N:St->List (Key × V)->Hp->Prop,(∀ σ' ys H',N σ' ys H'->∃ m',m' < m/\W (i + 1) m' σ' ys H') ∧
   ∀ x H2,J.yld i H' x H2->g x σ' H2 fun σ3 H3=>tc σ3 H3 fun b H4=>if b=true then tk σ3 H4 fun y H5=>tv σ3 H5 fun v H6=>∃ key,y=kV key/\H6 D=some (.dK kvs)/\kvs.length < sizeLine/\N σ3 (putK kvs key v) (upd H6 D (.dK (putK kvs key v))) else N σ3 kvs H4)
def tDComp (wi:TI) (k:Nat) (js:List Nat) (g:TG) (tc:TT) (tk tv:TE):TE:=fun σ H Q=>wi σ H fun J H1=>DCompR J k js g tc tk tv σ Q H1
section
variable {prog:Program} {w:World} {A:Around} {R:Result->Shared->Prop} {s:Shared}
theorem compLoop_genD {kx vx target iter:Expr} {ifs:List Expr} {scope:Scope} {pos:Pos} {it:Value} {D:Addr} {env:Env} (I:Nat->Shared->Prop)
  (turn:∀ n s,I n s->wpAny (model prog w) A (pyNext it) (fun r s₁=>match r with
   | none=>R (.ok .next) s₁
   | some v=>wpAny (model prog w) A (letOwnedTupleGo target it v) (fun _ s₀=>wpAny (model prog w) A (assign target env v) (fun _ s₂ =>
     wpAny (model prog w) A (forIn ifs true fun c r=>if r=true then do let ok ← isTrue c env (eval c env);pure (ForInStep.yield ok) else pure (ForInStep.yield r)) (fun ok s₃ =>
      if ok=true then wpAny (model prog w) A (eval kx env) (fun kv s₄=>wpAny (model prog w) A (eval vx env) (fun vv s₅ =>
       wpAny (model prog w) A (dictSet D kv vv) (fun _ s₆=>∃ m,m < n/\I m s₆) (fun _ _=>False) s₅) (fun _ _=>False) s₄) (fun _ _=>False) s₃
      else ∃ m,m < n/\I m s₃) (fun _ _=>False) s₂) (fun _ _=>False) s₀) (fun _ _=>False) s₁) (fun _ _=>False) s)
  (n:Nat) (h:I n s):codeAny (model prog w) A (.compLoop (.DictComp kx vx [⟨target,iter,ifs,0⟩] scope pos) 0 it (.ref D) env) R s:=by
 refine codeAny_loop rfl I (fun n s hI=>?_) n h
 show wpAny _ A ((compTurn (.DictComp kx vx [⟨target,iter,ifs,0⟩] scope pos) 0 it (.ref D) env).onRaise (fun x=>do noteFrame x env;theTreesLotGoes x)) _ _ s
 refine wpAny_noted ?_
 rw [compTurn_dict]
 refine wpAny_bind (wpAny_standAt (wpAny_bind (wpAny_mono (turn n s hI) (fun r s₁ h₁=>?_) fun _ _ z=>False.elim z)))
 cases r with
 | none=>exact wpAny_pure h₁
 | some v =>
  refine wpAny_bind (wpAny_mono h₁ (fun _ s₀ h₀=>?_) fun _ _ z=>False.elim z)
  refine wpAny_bind (wpAny_mono h₀ (fun _ s₂ h₂=>wpAny_bind (wpAny_mono h₂ (fun ok s₃ h₃=>?_) fun _ _ z=>False.elim z)) fun _ _ z=>False.elim z)
  cases ok with
  | false=>exact wpAny_pure ⟨rfl,h₃⟩
  | true =>
   exact wpAny_bind (wpAny_bind (wpAny_mono h₃ (fun kv s₄ h₄=>wpAny_bind (wpAny_holding (wpAny_mono h₄ (fun vv s₅ h₅=>wpAny_bind (wpAny_standAt (wpAny_holding (wpAny_mono h₅ (fun _ s₆ h₆=>wpAny_pure ⟨rfl,h₆⟩) fun _ _ z=>False.elim z)))) fun _ _ z=>False.elim z))) fun _ _ z=>False.elim z))
end
section
variable {X:Cx} {elt tg iter:Expr} {ifs:List Expr} {scope:Scope} {cl:List (Str × Addr)} {ts ys:List Str} {js:List Nat} {pos:Pos} {wi:TI} {g:TG} {tc:TT} {te:TE}
theorem comp_endD {pins pins':List (Addr × Obj)} {σ σ':St} {H2 H3:Hp} {s2 s4:Shared} {fp:List Addr} {C:Addr} {N:List Str} {h':Heap} (I2:Inv X pins σ H2 s2) (f2:∀ b ∈ fp,FpOk X pins H2 b)
  (I4:Inv (X.comp scope cl N s2 H2 fp C) pins' σ' H3 s4) (hC:s2.heap.objs.size<=C) (hs':Heap.SameBut C s4.heap h'):Inv X pins σ H3 { s4 with heap:=h' }:=by
 have ext:=hs'.extBut
 have neC:∀ b o,s2.heap.get? b=some o->b ≠ C:=fun b o e=>Nat.ne_of_lt (Nat.lt_of_lt_of_le (Heap.lt_size e) hC)
 have hok:HOk X.prog X.w H3 h':=HOk.but (C:=C) I4.hok I4.free fun b o hb e=>ext b o hb e
 have B:Un (frs X.stack) fp H2 H3 s2.heap s4.heap:=I4.base
 have u:Un (frs X.stack) fp H2 H3 s2.heap h':=by
  refine⟨fun b o e q hb hx=>ext b o (neC b o e) (B.keep b o e q hb hx),fun b o e q hb hx=>?_,B.free,fun b o e hx=>?_,B.tups,B.frzs,B.tbls⟩
  ·obtain⟨sl,e1⟩:=B.slot b o e q hb hx
   exact⟨sl,ext b _ (neC b o e) e1⟩
  ·obtain⟨o',e1⟩:=B.there b o e hx
   exact⟨o',ext b _ (neC b o e) e1⟩
 have os:s4.os=s2.os:=I4.os
 have gb:=I4.bare
 obtain⟨hh,gg,dd,tt,os'⟩:=s4
 obtain rfl:os'=s2.os:=os
 have fin:=I2.call (h':=h') (g':=gg) (d':=dd) (t':=tt) (ch:=fp) u hok gb fun b hb=>⟨(f2 b hb).2.2.2.1,(f2 b hb).2.1,(f2 b hb).2.2.2.2.1,(f2 b hb).2.2.2.2.2⟩
 exact fin
theorem pe_dcomp {kx vx:Expr} {tk tv:TE} (ts ys:List Str) (js:List Nat) (hc:X.calm=true) (hi:PI X tg iter wi) (hclos:closureFor scope X.env=pure cl) (hsub:subCl X.env cl) (hcap:capt X scope cl ys js)
  (hg:∀ s H fp C,PG (X.comp scope cl (ts++ys) s H fp C) tg g) (ht:∀ s H fp C,PIf (X.comp scope cl (ts++ys) s H fp C) ifs tc) (hek:∀ s H fp C,PE (X.comp scope cl (ts++ys) s H fp C) kx tk) (hev:∀ s H fp C,PE (X.comp scope cl (ts++ys) s H fp C) vx tv)
  (hkind:scope.kind=.function:=by rfl) (hcell:(scope.names.all fun y=>y.2 != .cell)=true:=by rfl)
  (hnames:(scope.names.all fun y=>y.2 != .local || scope.names.lookup y.1 == some .local)=true:=by rfl)
  (hhas:((relabel scope X.env).names.all fun p=>(p.2 != .cell && p.2 != .free) || (cl.lookup p.1).isSome)=true:=by rfl)
  (hs:∀ x,foldedSetIterable iter X.env x=pure x:=by intro _;rfl):PE X (.DictComp kx vx [⟨tg,iter,ifs,0⟩] scope pos) (tDComp wi ts.length js g tc tk tv):=by
 intro pins s σ H Q I h
 have hcell':∀ y ∈ scope.names,y.2 ≠ .cell:=fun y hy z=>by
  have:=List.all_eq_true.mp hcell y hy
  rw [z] at this
  exact absurd this (by decide)
 have hnames':∀ y ∈ scope.names,y.2=.local->scope.names.lookup y.1=some .local:=fun y hy z=>by
  have:=List.all_eq_true.mp hnames y hy
  rw [z] at this
  simpa using this
 have hhas':∀ x,((relabel scope X.env).names.lookup x=some .cell\/(relabel scope X.env).names.lookup x=some .free)->∃ c,cl.lookup x=some c:=fun x hx=>by
  rcases hx with hx|hx
  ·have:=List.all_eq_true.mp hhas _ (PySem.mem_of_lookup hx)
   exact Option.isSome_iff_exists.mp (by simpa using this)
  ·have:=List.all_eq_true.mp hhas _ (PySem.mem_of_lookup hx)
   exact Option.isSome_iff_exists.mp (by simpa using this)
 rw [arm_eval_DictComp]
 refine wpAny_comprehension_free (use:=none) rfl hs hclos hkind hnames' (thn (hi pins s σ H _ I h) fun v s1 h1=>thn h1 fun itv s2 h2=>?_)
 obtain⟨it,fp,tn,J,H2,e,I2,T,st2,f2,hD⟩:=h2
 subst e
 have fl:∀ b ∈ fp,b < s2.heap.objs.size:=fun b hb=>by
  obtain⟨o,e,_⟩:=T.obj _ _ st2 b hb
  exact Heap.lt_size e
 refine wpAny_newObj_type (wpAny_newFunctionEnv hcell' (by intro y hy;simp at hy) (fun h₁ hns₁ hsb₁=>?_) hkind)
 dsimp only at hns₁ hsb₁ ⊢
 have hn2:H2 s2.heap.objs.size=none:=I2.hok.fresh (Nat.le_refl _)
 obtain⟨W,⟨m0,w0⟩,turn⟩:=hD _ hn2
 have I2d:Inv X pins σ (upd H2 s2.heap.objs.size (.dK [])) { s2 with heap:=s2.heap.push { cls:=.type "dict",data:=.dict #[] } } :=
  I2.laid (a:=s2.heap.objs.size) (o:=.dK []) (h':=s2.heap.push { cls:=.type "dict",data:=.dict #[] }) (t':=s2.toks) (fun _ _ q=>Heap.get?_push_of_some _ q) (Nat.le_refl _) (dk_empty s2.heap I2.big)
 generalize hHH:s2.heap.push { cls:=.type "dict",dict:=none,data:=.dict #[] }=HH at hns₁ hsb₁ I2d ⊢
 have hC:HH.objs.size=s2.heap.objs.size + 1:=by rw [← hHH,Heap.size_push]
 have hlt:s2.heap.objs.size < HH.objs.size:=by rw [hC];exact Nat.lt_succ_self _
 have f2d:∀ b ∈ fp,FpOk X pins (upd H2 s2.heap.objs.size (.dK [])) b:=fun b hb=>⟨by rw [upd_ne (Nat.ne_of_lt (fl b hb))];exact (f2 b hb).1,(f2 b hb).2⟩
 have fld:∀ b ∈ fp,b < HH.objs.size:=fun b hb=>Nat.lt_trans (fl b hb) hlt
 have old:∀ b o,HH.get? b=some o->h₁.get? b=some o:=fun b o e=>hsb₁.extBut b o (Nat.ne_of_lt (Heap.lt_size e)) (Heap.get?_push_of_some _ e)
 have I':Inv (X.comp scope cl (ts++ys) { s2 with heap:=HH } (upd H2 s2.heap.objs.size (.dK [])) fp HH.objs.size) [] (capSt ts.length js σ) (upd H2 s2.heap.objs.size (.dK [])) { s2 with heap:=h₁,toks:=s2.toks + ([]:List (Str × Value)).length } :=
  inv_comp (s:={ s2 with heap:=HH }) I2d hsub hcap hkind hhas' f2d fld (Nat.le_refl _) hns₁ old
 have stat:∀ {H':Hp},(∀ b ∈ fp,H' b=none)->∀ b ∈ fp,FpOk (X.comp scope cl (ts++ys) { s2 with heap:=HH } (upd H2 s2.heap.objs.size (.dK [])) fp HH.objs.size) [] H' b:=fun {H'} hn b hb =>
  ⟨hn b hb,Nat.ne_of_lt (fld b hb),I'.ok.exfs b hb,.inl hb,(I'.ok.exf b hb).2,fun p hq=>absurd (show p ∈ ([]:List (Addr × Obj)) from by simpa using hq) (by simp)⟩
 have tn1:tn 0 h₁:=T.keep _ _ _ st2 fun b _ o e=>old b o (hHH ▸ Heap.get?_push_of_some _ e)
 have loop:∀ s₃ : Shared,s₃ = { s2 with heap:=h₁,toks:=s2.toks + ([]:List (Str × Value)).length } →
   codeAny (model X.prog X.w) X.A (.compLoop (.DictComp kx vx [⟨tg,iter,ifs,0⟩] scope pos) 0 (.ref it) (.ref s2.heap.objs.size) (compEnvC scope cl HH.objs.size X.env))
    (compPost (model X.prog X.w) X.A X.xe none (EP X pins σ Q) (.ref s2.heap.objs.size) HH.objs.size) s₃:=by
  rintro s₃ rfl
  refine compLoop_genD (fun n s'=>∃ i σ' kvs H',Inv (X.comp scope cl (ts++ys) { s2 with heap:=HH } (upd H2 s2.heap.objs.size (.dK [])) fp HH.objs.size) [] σ' H' s'/\tn i s'.heap/\(∀ b ∈ fp,H' b=none)/\W i n σ' kvs H') ?_ m0 ⟨0,_,[],_,I',tn1,fun b hb=>(f2d b hb).1,w0⟩
  rintro n s3 ⟨i,σ3,kvs,H3,I3,st3,fr3,w3⟩
  rcases turn i n σ3 kvs H3 w3 with⟨stop,qn⟩|⟨go,N,hN,step⟩
  ·refine thn (T.done (X.comp scope cl (ts++ys) { s2 with heap:=HH } (upd H2 s2.heap.objs.size (.dK [])) fp HH.objs.size) rfl rfl rfl hc i _ s3 σ3 H3 (fun _ _=>False) I3 (stat fr3) st3 stop) fun r s4 ⟨hr,I4⟩=>?_
   subst hr
   obtain⟨m,hn,_⟩:=I4.loc
   exact⟨m,hn,fun h' hs'=>⟨.ref s2.heap.objs.size,_,comp_endD (s2:={ s2 with heap:=HH }) I2d f2d I4 (Nat.le_refl _) hs',rfl,qn⟩⟩
  ·refine thn (T.item (X.comp scope cl (ts++ys) { s2 with heap:=HH } (upd H2 s2.heap.objs.size (.dK [])) fp HH.objs.size) rfl rfl rfl hc i _ s3 σ3 H3 (fun _ _=>False) I3 (stat fr3) st3 go) fun r s4 ⟨u,hr,h4⟩=>?_
   subst hr
   refine thn h4 fun _ s5 ⟨x,H5,I5,r5,y5,st5,fr5⟩=>?_
   have I5':=I5.pinned (stat fr5) (T.obj _ _ st5)
   refine thn (hg _ _ _ _ _ s5 σ3 H5 x u _ I5' r5 (step x H5 y5)) fun _ s6 ⟨σ6,H6,I6,q6⟩=>?_
   refine thn (ht _ _ _ _ _ s6 σ6 H6 _ I6 q6) fun b s7 ⟨H7,I7,q7⟩=>?_
   have facts:∀ {σ':St} {H':Hp} {s':Shared},Inv (X.comp scope cl (ts++ys) { s2 with heap:=HH } (upd H2 s2.heap.objs.size (.dK [])) fp HH.objs.size) ([]++pinsAt fp s5.heap) σ' H' s'->tn (i + 1) s'.heap/\(∀ b ∈ fp,H' b=none):=fun {σ' H' s'} J=>by
    refine⟨T.keep _ _ _ st5 fun b hb o e=>(J.pin (b,o) (List.mem_append_right _ (List.mem_append_right _ (mem_pinsAt hb e)))).1,fun b hb=>?_⟩
    obtain⟨o,e,d⟩:=T.obj _ _ st5 b hb
    exact (J.pin (b,o) (List.mem_append_right _ (List.mem_append_right _ (mem_pinsAt hb e)))).2.1
   have bare:∀ {σ':St} {H':Hp} {s':Shared},Inv (X.comp scope cl (ts++ys) { s2 with heap:=HH } (upd H2 s2.heap.objs.size (.dK [])) fp HH.objs.size) ([]++pinsAt fp s5.heap) σ' H' s'->Inv (X.comp scope cl (ts++ys) { s2 with heap:=HH } (upd H2 s2.heap.objs.size (.dK [])) fp HH.objs.size) [] σ' H' s':=fun J=>J.pins_of fun p hp=>absurd hp (by simp)
   cases b with
   | false =>
    have q7':N σ6 kvs H7:=by simpa using q7
    obtain⟨m',hm,w7⟩:=hN _ _ _ q7'
    obtain⟨a3,a4⟩:=facts I7
    show ∃ m,m < n/\_
    exact⟨m',hm,i + 1,σ6,kvs,H7,bare I7,a3,a4,w7⟩
   | true =>
    rw [if_pos rfl] at q7
    show wpAny _ _ (eval kx _) _ _ s7
    refine thn (hek _ _ _ _ _ s7 σ6 H7 _ I7 q7) fun kv s8 ⟨y,H8,I8,r8,q8⟩=>?_
    refine thn (hev _ _ _ _ _ s8 σ6 H8 _ I8 q8) fun vv s9 ⟨v,H9,I9,r9,key,ek,eD,hl,n9⟩=>?_
    subst ek
    obtain⟨m',hm,w9⟩:=hN _ _ _ n9
    obtain⟨a3,a4⟩:=facts I9
    have I9':=bare I9
    obtain⟨z,hd,vs,rel,dd⟩:=dk_of I9'.hok eD
    have hz:vs.length<=sizeLine:=by rw [← rel.length];exact z
    have hlp:(putK kvs key v).length<=sizeLine:=by have:=length_putK kvs key v;omega
    refine wpAny_dictSet_pairs (hsz:=hz) (kV_is r8) dd fun h' dd' hs=>?_
    have he:∃ q,h'.get? s2.heap.objs.size=some q:=let ⟨q,_,_,hq,_⟩:=dd'; ⟨q,hq⟩
    exact⟨m',hm,i + 1,σ6,putK kvs key v,_,d_write I9' (by rw [eD];exact True.intro) hs he (dk_new hlp hd (rel.put key r9) dd'),T.keep _ _ _ a3 fun b hb o e=>(hs.2 b (Nat.ne_of_lt (fl b hb))).trans e,fun b hb=>by rw [upd_ne (Nat.ne_of_lt (fl b hb))];exact a4 b hb,w9⟩
 exact codeAny_compStart_dict (loop _ rfl) (T.self _ 0 _ _ _ tn1 (loop _ rfl))
end
def DCompN (P:Nat->List (Key × V)->Hp->Prop) (i:Nat) (js:List Nat) (σ:St):St->List (Key × V)->Hp->Prop:=fun σ' ys H=>P (i + 1) ys H/\∃ o,σ'=o::capV js σ
theorem dcomp_list {K:Frag} {a:Addr} {xs:List V} {k:Nat} {js:List Nat} {tc:TT} {tk tv:TE} {σ:St} {Q:VK} {H1:Hp} (P:Addr->Nat->List (Key × V)->Hp->Prop) (h0:∀ D,H1 D=none->P D 0 [] (upd H1 D (.dK []))) (hl:∀ D i ys H,i<=xs.length->P D i ys H->SqL K H a xs)
  (hs:∀ D i x ys H,xs[i]?=some x->P D i ys H->tc (some x::capV js σ) H fun b H2=>if b=true then tk (some x::capV js σ) H2 fun y H3=>tv (some x::capV js σ) H3 fun v H4=>∃ key,y=kV key/\H4 D=some (.dK ys)/\ys.length < sizeLine/\DCompN (P D) i js σ (some x::capV js σ) (putK ys key v) (upd H4 D (.dK (putK ys key v))) else DCompN (P D) i js σ (some x::capV js σ) ys H2)
  (hd:∀ D ys H,P D xs.length ys H->Q (.ref D) H) (hk:k=1:=by rfl) :
  DCompR (Itl K a) k js (gName 0) tc tk tv σ Q H1:=by
 subst hk
 intro D hD
 refine⟨fun i m σ' ys H=>m=xs.length - i/\i<=xs.length/\P D i ys H/\∃ o,σ'=o::capV js σ,⟨xs.length,by simp,Nat.zero_le _,h0 D hD,none,rfl⟩,?_⟩
 rintro i m σ' ys H ⟨rfl,hi,p,o,rfl⟩
 have q:=hl D i ys H hi p
 by_cases hlt:i < xs.length
 ·refine .inr ⟨⟨xs,xs[i],q,by simp [hlt]⟩,DCompN (P D) i js σ,fun σ3 zs H3 z=>⟨xs.length - (i + 1),by omega,rfl,hlt,z.1,z.2⟩,fun x H' y=>?_⟩
  obtain⟨e,y⟩:=y
  subst e
  exact hs D i x ys _ (y xs q) p
 ·have e:i=xs.length:=by omega
  subst e
  exact .inl ⟨⟨xs,q,Nat.le_refl _⟩,hd D ys H p⟩
section
variable {X:Cx} {tg:Expr}
def iSeq (K:Frag) (tl:TE):TI:=fun σ H R=>tl σ H fun x H1=>∃ a,x=.ref a/\(((∃ xs,SqL K H1 a xs)/\R (Itl K a) H1)\/((∃ xs,SqT K H1 a xs)/\R (Itt K a) H1))
theorem pi_seq {l:Expr} {tl:TE} (hl:PE X l tl):PI X tg l (iSeq X.K tl):=by
 intro pins s σ H R I h
 refine thn (hl pins s σ H _ I h) fun v s1 ⟨x,H1,I1,r1,q1⟩=>?_
 obtain⟨a,e,q1⟩:=q1
 subst e
 cases r1
 rcases q1 with⟨⟨xs,hq⟩,q⟩|⟨⟨xs,hq⟩,q⟩
 ·obtain⟨its,rv,p,hz⟩:=I1.list hq
  refine wpAny_pyIter_list p.isList ?_
  refine⟨s1.heap.objs.size,[s1.heap.objs.size],_,_,H1,rfl,I1.kept (t':=s1.toks) fun b o e=>Heap.get?_push_of_some _ e,turn_list a _,⟨_,Heap.get?_push_size _ rfl,rfl,rfl⟩,fun b hb=>?_,q⟩
  have e:b=s1.heap.objs.size:=by simpa using hb
  subst e
  exact I1.fpOk (Nat.le_refl _) (I1.hok.fresh (Nat.le_refl _))
 ·obtain⟨its,rv,p,hz⟩:=I1.tuple hq
  refine wpAny_pyIter_tuple (show s1.heap.IsTuple a its.toArray from p) ?_
  refine⟨s1.heap.objs.size,[s1.heap.objs.size],_,_,H1,rfl,I1.kept (t':=s1.toks) fun b o e=>Heap.get?_push_of_some _ e,turn_tuple a _,⟨_,Heap.get?_push_size _ rfl,rfl,rfl⟩,fun b hb=>?_,q⟩
  have e:b=s1.heap.objs.size:=by simpa using hb
  subst e
  exact I1.fpOk (Nat.le_refl _) (I1.hok.fresh (Nat.le_refl _))
theorem pe_fldK {K:Frag} {e:Expr} {ta:TE} {f:Str} {pos:Pos} (hK:X.K=K) (he:PE X e ta) (hb:attributeBase e f X.env (eval e X.env)=eval e X.env):PE X (.Attribute e f pos) (tFld K ta f):=hK ▸ pe_fld he hb
theorem op_catT1:OpR X (binaryOp .Add) (fun x y H Q=>∃ a b xs ys,x=.ref a/\y=.ref b/\SqT X.K H a xs/\SqT X.K H b ys/\ys ≠ []/\xs.length + ys.length<=sizeLine ∧
  (xs=[]->Q (.ref b) H)/\(xs ≠ []->∀ p,H p=none->Q (.ref p) (upd H p (.tup (xs++ys))))):=by
 intro pins s σ H x y v u Q I rx ry h
 obtain⟨a,b,xs,ys,rfl,rfl,ha,hb,hx,hz,q1,q2⟩:=h
 by_cases hxs:xs=[]
 ·cases rx
  cases ry
  obtain⟨its,r1,p1,_⟩:=I.tuple ha
  obtain⟨its2,r2,p2,_⟩:=I.tuple hb
  have e1:its=[]:=r1.nil_iff.mpr hxs
  subst e1
  obtain⟨⟨cls,dd,data,sl⟩,ho,hc,n,hd⟩:=id p1
  obtain⟨⟨cls2,dd2,data2,sl2⟩,ho2,hc2,n2,hd2⟩:=id p2
  simp only at hc hd hc2 hd2
  subst hc hd hc2 hd2
  exact concat_meets ⟨_,ho,rfl⟩ ⟨_,ho2,rfl⟩ noFill_tuple_add seq_tuple_add PySem.F.slot_tuple_add PySem.F.entry_tuple_add (PySem.F.args_tuple_add_2 _ _)
   (tuple_addW0 a b _ _ n n2 dd dd2 sl sl2 rfl) ⟨ho,ho2,.ref b,H,I,rfl,q1 hxs⟩
 ·exact op_catT pins s σ H _ _ v u Q I rx ry ⟨a,b,xs,ys,rfl,rfl,ha,hb,hxs,hz,fun z=>absurd z hx,fun _=>q2 hxs⟩
end
theorem pstx_lstC {X:Cx} {es:List Expr} {te:TE} {i:Nat} {x:Str} {pos' pos p1:Pos} (hN:X.N.Nodup) (hi:X.N[i]?=some x) (hx:Loc X.env.scope x) (he:PEx X (.List es p1) te) (hf:X.fn x=true:=by rfl) :
  PStx X (.Assign [.Name x pos'] (.List es p1) pos) (tAsg te (gName i)):=⟨ps_set hN hi hx he.h rfl (.inl hf)⟩
theorem joinC (b:Bool) {H':Hp} {D:Ends} {rest:TS} {c:TT} {t u:TS} {σ:St} {H:Hp} (hk:if b=true then t { D with nx:=rest D } σ H' else u { D with nx:=rest D } σ H') (h:∀ Q:Bool->Hp->Prop,Q b H'->c σ H Q):tSeq (tIfS c t u) rest D σ H:=h _ hk
theorem sl_strE {X:Cx} : SlR X (fun x lo hi H Q=>∃ z,x=.str z/\z.length<=sizeLine/\Q (.str (Txt.slice z lo hi)) H):=by
 intro pins s σ H x v vl vu lo hi sl Q I rx hs pl pu h
 obtain⟨z,rfl,hz,q⟩:=h
 obtain⟨t,rfl⟩:=rx
 refine⟨"str",_,F.slot_str_getitem.lookup,typeIs_str _ _ _,?_⟩
 have fin:∀ (a b:Option Int),Q (.str (Txt.slice z a b)) H->∀ t' k,EP X pins σ Q (.str (Txt.slice z a b) t') { s with toks:=k }:=fun a b q t' k=>⟨.str _,H,I.tok _,⟨_,rfl⟩,q⟩
 cases pl with
 | none =>
  cases pu with
  | none=>exact wpAny_getItem_str_slice (l:=none) (u:=none) (st:=none) hs rfl (post_val_or_str ⟨Nat.le_trans (Txt.slice_le z none none) hz,fin none none q⟩)
  | int j tj=>exact wpAny_getItem_str_slice (l:=none) (u:=some (j,tj)) (st:=none) hs rfl (post_val_or_str ⟨Nat.le_trans (Txt.slice_le z none (some j)) hz,fin none (some j) q⟩)
 | int i ti =>
  cases pu with
  | none=>exact wpAny_getItem_str_slice (l:=some (i,ti)) (u:=none) (st:=none) hs rfl (post_val_or_str ⟨Nat.le_trans (Txt.slice_le z (some i) none) hz,fin (some i) none q⟩)
  | int j tj=>exact wpAny_getItem_str_slice (l:=some (i,ti)) (u:=some (j,tj)) (st:=none) hs rfl (post_val_or_str ⟨Nat.le_trans (Txt.slice_le z (some i) (some j)) hz,fin (some i) (some j) q⟩)
theorem op_catT2 {X:Cx} : OpR X (binaryOp .Add) (fun x y H Q=>∃ a b xs ys,x=.ref a/\y=.ref b/\SqT X.K H a xs/\SqT X.K H b ys/\ys ≠ []/\xs.length + ys.length<=sizeLine/\∀ p H',Same H H'->SqT X.K H' p (xs++ys)->Q (.ref p) H'):=by
 intro pins s σ H x y v u Q I rx ry h
 obtain⟨a,b,xs,ys,rfl,rfl,ha,hb,hx,hz,q⟩:=h
 refine op_catT1 pins s σ H _ _ v u Q I rx ry ⟨a,b,xs,ys,rfl,rfl,ha,hb,hx,hz,fun e=>?_,fun _ p hp=>?_⟩
 ·subst e;exact q b H (fun _ _ z=>z) hb
 ·exact q p _ (fun b o z=>by rw [upd_ne (ne_of_none z hp)];exact z) (SqT.of upd_same)
theorem comp_tupM {K:Frag} {a:Addr} {xs:List V} {k:Nat} {js:List Nat} {g:TG} {tc:TT} {te:TE} {σ:St} {Q:VK} {H1:Hp} (P:Nat->List V->Hp->Prop) (h0:P 0 [] H1) (hl:∀ i ys H,i<=xs.length->P i ys H->SqT K H a xs/\ys.length<=i) (hz:xs.length < sizeLine)
  (hs:∀ i x ys H (os:St),os.length=k->xs[i]?=some x->P i ys H->g x (os++capV js σ) H fun σ3 H3=>tc σ3 H3 fun b H2=>if b=true then te σ3 H2 fun v H3=>CompM P i k js σ σ3 (ys++[v]) H3 else CompM P i k js σ σ3 ys H2)
  (hd:∀ ys H,P xs.length ys H->∀ p,H p=none->Q (.ref p) (upd H p (.lst ys))) :
  CompR (Itt K a) k js g tc te σ Q H1:=by
 refine⟨fun i m σ' ys H=>m=xs.length - i/\i<=xs.length/\P i ys H/\∃ os:St,os.length=k/\σ'=os++capV js σ,⟨xs.length,by simp,Nat.zero_le _,h0,List.replicate k none,List.length_replicate,rfl⟩,?_⟩
 rintro i m σ' ys H ⟨rfl,hi,p,os,ho,rfl⟩
 obtain⟨q,hy⟩:=hl i ys H hi p
 by_cases hlt:i < xs.length
 ·refine .inr ⟨⟨xs,xs[i],q,by simp [hlt]⟩,by omega,CompM P i k js σ,fun σ3 zs H3 z=>⟨xs.length - (i + 1),by omega,rfl,hlt,z.1,z.2⟩,fun x H' y=>?_⟩
  obtain⟨e,y⟩:=y
  subst e
  exact hs i x ys _ os ho (y xs q) p
 ·have e:i=xs.length:=by omega
  subst e
  exact .inl ⟨⟨xs,q,Nat.le_refl _⟩,hd ys H p⟩
end L2
namespace L2
open PySem
inductive Kd where
 | num (w:Nat)
 | nest (i:Nat)
 | many (n:Nat) (k:Kd)
 | pick (is:List Nat)
abbrev Shp:=Str × List (Str × Kd)
abbrev Un3:=Str × Nat × Str
def maxL:List Nat->Nat
 | []=>0
 | x::xs=>max x (maxL xs)
theorem maxL_le {n:Nat} : ∀ {xs:List Nat},n ∈ xs->n<=maxL xs
 | x::xs,h=>by
  rcases List.mem_cons.mp h with rfl|h
  ·exact Nat.le_max_left _ _
  ·exact Nat.le_trans (maxL_le h) (Nat.le_max_right _ _)
theorem maxL_mem:∀ {xs:List Nat},xs ≠ []->maxL xs ∈ xs
 | [],h=>absurd rfl h
 | [x],_=>by show max x 0 ∈ [x];rw [Nat.max_zero];exact List.mem_singleton.mpr rfl
 | x::y::xs,_=>by
  have ih:=maxL_mem (xs:=y::xs) (by simp)
  show max x (maxL (y::xs)) ∈ _
  by_cases h:x<=maxL (y::xs)
  ·rw [Nat.max_eq_right h];exact List.mem_cons_of_mem _ ih
  ·rw [Nat.max_eq_left (by omega)];exact List.mem_cons_self ..
theorem maxL_eq {m:Nat} {xs:List Nat} (h1:m ∈ xs) (h2:∀ n ∈ xs,n<=m):m=maxL xs :=
 Nat.le_antisymm (maxL_le h1) (h2 _ (maxL_mem fun z=>by rw [z] at h1;cases h1))
def Kd.size (sz:List Nat):Kd->Nat
 | .num w=>w
 | .nest i=>sz.getD i 0
 | .many n k=>n * k.size sz
 | .pick is=>1 + maxL (is.map fun i=>sz.getD i 0)
def Kd.depth (dp:List Nat):Kd->Nat
 | .num _=>0
 | .nest i=>dp.getD i 0
 | .many _ k=>k.depth dp
 | .pick is=>maxL (is.map fun i=>dp.getD i 0)
def pj (p x:Str):Str:=if p.length=0 then x else p++Str.ofString "." ++ x
def Kd.units (sz:List Nat) (ut:List (Str->List Un3)):Kd->Str->List Un3
 | .num w,p=>[(p,w,Str.ofString "num")]
 | .nest i,p=>(ut.getD i fun _=>[]) p
 | .many n k,p=>(List.range n).flatMap fun j=>k.units sz ut (pj p (Str.ofString (toString j)))
 | .pick is,p=>[(pj p (Str.ofString "tag"),1,Str.ofString "tag"),(p,maxL (is.map fun i=>sz.getD i 0),Str.ofString "pick")]
structure Tab where
 sz:List Nat
 dp:List Nat
 ut:List (Str->List Un3)
def Tab.more (t:Tab) (s:Shp):Tab:=⟨t.sz++[(s.2.map fun f=>f.2.size t.sz).sum],t.dp++[1 + maxL (s.2.map fun f=>f.2.depth t.dp)],t.ut++[fun p=>s.2.flatMap fun f=>f.2.units t.sz t.ut (pj p f.1)]⟩
def tabs (S:List Shp):Tab:=S.foldl Tab.more ⟨[],[],[]⟩
theorem tabs_snoc (S:List Shp) (s:Shp):tabs (S++[s])=(tabs S).more s:=by unfold tabs;rw [List.foldl_append];rfl
def Tab.Ok (t:Tab):Prop:=t.ut.length=t.sz.length/\∀ i p,(((t.ut.getD i fun _=>[]) p).map (·.2.1)).sum=t.sz.getD i 0
theorem sum_flat (f:Nat->List Un3) (m:Nat) (h:∀ j,((f j).map (·.2.1)).sum=m):∀ n,((((List.range n).flatMap f)).map (·.2.1)).sum=n * m
 | 0=>by simp
 | n + 1=>by
  rw [List.range_succ,List.flatMap_append,List.map_append,List.sum_append,sum_flat f m h n,List.flatMap_singleton,h n,Nat.succ_mul]
theorem Kd.units_sum {t:Tab} (h:t.Ok):∀ (k:Kd) (p:Str),((k.units t.sz t.ut p).map (·.2.1)).sum=k.size t.sz
 | .num w,p=>by simp [Kd.units,Kd.size]
 | .nest i,p=>h.2 i p
 | .many n k,p=>sum_flat _ _ (fun j=>Kd.units_sum h k _) n
 | .pick is,p=>by simp [Kd.units,Kd.size]
theorem fields_sum {t:Tab} (h:t.Ok) (p:Str):∀ fs:List (Str × Kd),((fs.flatMap fun f=>f.2.units t.sz t.ut (pj p f.1)).map (·.2.1)).sum=(fs.map fun f=>f.2.size t.sz).sum
 | []=>rfl
 | f::fs=>by
  rw [List.flatMap_cons,List.map_append,List.sum_append,Kd.units_sum h,fields_sum h p fs,List.map_cons,List.sum_cons]
theorem Tab.Ok.more {t:Tab} (h:t.Ok) (s:Shp):(t.more s).Ok:=by
 refine⟨by show (t.ut++[_]).length=(t.sz++[_]).length;rw [List.length_append,List.length_append,h.1];rfl,fun i p=>?_⟩
 show ((((t.ut++[_]).getD i fun _=>[]) p).map (fun u:Un3=>u.2.1)).sum=(t.sz++[_]).getD i 0
 rw [List.getD_eq_getElem?_getD,List.getD_eq_getElem?_getD]
 by_cases hi:i < t.ut.length
 ·rw [List.getElem?_append_left hi,List.getElem?_append_left (by rw [← h.1];exact hi)]
  have:=h.2 i p
  rw [List.getD_eq_getElem?_getD,List.getD_eq_getElem?_getD] at this
  exact this
 ·rw [List.getElem?_append_right (by omega),List.getElem?_append_right (by rw [← h.1];omega),← h.1]
  by_cases e:i - t.ut.length=0
  ·rw [e]
   exact fields_sum h p s.2
  ·obtain⟨n,hn⟩ : ∃ n,i - t.ut.length=n + 1:=⟨i - t.ut.length - 1,by omega⟩
   rw [hn]
   rfl
def Kd.Below (n:Nat):Kd->Prop
 | .num _=>True
 | .nest i=>i < n
 | .many _ k=>k.Below n
 | .pick is=>∀ i ∈ is,i < n
theorem getD_app {α : Type} {xs ys:List α} {d : α} {i:Nat} (h:i < xs.length):(xs++ys).getD i d=xs.getD i d:=by
 rw [List.getD_eq_getElem?_getD,List.getD_eq_getElem?_getD,List.getElem?_append_left h]
theorem Kd.Below.mono {n m:Nat} (h:n<=m):∀ {k:Kd},k.Below n->k.Below m
 | .num _,_=>True.intro
 | .nest i,q=>Nat.lt_of_lt_of_le (show i < n from q) h
 | .many _ k,q=>Kd.Below.mono (k:=k) h q
 | .pick is,q=>fun i hi=>Nat.lt_of_lt_of_le (q i hi) h
theorem map_app {xs ys is:List Nat} (h:∀ i ∈ is,i < xs.length):(is.map fun i=>(xs++ys).getD i 0)=is.map fun i=>xs.getD i 0 :=
 List.map_congr_left fun i hi=>getD_app (h i hi)
theorem Kd.size_app {sz more:List Nat} : ∀ {k:Kd},k.Below sz.length->k.size (sz++more)=k.size sz
 | .num _,_=>rfl
 | .nest i,q=>getD_app q
 | .many n k,q=>by show n * _=n * _;rw [Kd.size_app (k:=k) q]
 | .pick is,q=>by show 1 + maxL _=1 + maxL _;rw [map_app q]
theorem Kd.depth_app {dp more:List Nat} : ∀ {k:Kd},k.Below dp.length->k.depth (dp++more)=k.depth dp
 | .num _,_=>rfl
 | .nest i,q=>getD_app q
 | .many n k,q=>Kd.depth_app (k:=k) q
 | .pick is,q=>by show maxL _=maxL _;rw [map_app q]
theorem Kd.units_app {sz more:List Nat} {ut um:List (Str->List Un3)} (e:ut.length=sz.length):∀ {k:Kd},k.Below sz.length->∀ p,k.units (sz++more) (ut++um) p=k.units sz ut p
 | .num _,_,_=>rfl
 | .nest i,q,p=>by show ((ut++um).getD i _) p=(ut.getD i _) p;rw [getD_app (by rw [e];exact q)]
 | .many n k,q,p=>by
  show (List.range n).flatMap _=(List.range n).flatMap _
  congr 1
  funext j
  exact Kd.units_app e (k:=k) q _
 | .pick is,q,p=>by
  show [_,(p,maxL _,_)]=[_,(p,maxL _,_)]
  rw [map_app q]
theorem tabs_len:∀ S:List Shp,(tabs S).sz.length=S.length/\(tabs S).dp.length=S.length/\(tabs S).ut.length=S.length:=fun S=>by
 have:∀ (S:List Shp) (t:Tab) (n:Nat),(t.sz.length=n/\t.dp.length=n/\t.ut.length=n)->((S.foldl Tab.more t).sz.length=n + S.length/\(S.foldl Tab.more t).dp.length=n + S.length/\(S.foldl Tab.more t).ut.length=n + S.length):=by
  intro S
  induction S with
  | nil=>intro t n h;exact h
  | cons s S ih =>
   intro t n h
   have:=ih (t.more s) (n + 1) ⟨by show (t.sz++[_]).length=_;rw [List.length_append,h.1];rfl,by show (t.dp++[_]).length=_;rw [List.length_append,h.2.1];rfl,by show (t.ut++[_]).length=_;rw [List.length_append,h.2.2];rfl⟩
   rw [List.length_cons,show n + (S.length + 1)=n + 1 + S.length by omega]
   exact this
 have h:=this S ⟨[],[],[]⟩ 0 ⟨rfl,rfl,rfl⟩
 rw [Nat.zero_add] at h
 exact h
theorem tabs_app (S:List Shp):∀ R:List Shp,∃ a b c,(tabs (S++R)).sz=(tabs S).sz++a/\(tabs (S++R)).dp=(tabs S).dp++b/\(tabs (S++R)).ut=(tabs S).ut++c:=fun R=>by
 have:∀ (R:List Shp) (t:Tab),∃ a b c,(R.foldl Tab.more t).sz=t.sz++a/\(R.foldl Tab.more t).dp=t.dp++b/\(R.foldl Tab.more t).ut=t.ut++c:=by
  intro R
  induction R with
  | nil=>intro t;exact⟨[],[],[],by simp,by simp,by simp⟩
  | cons s R ih =>
   intro t
   obtain⟨a,b,c,h1,h2,h3⟩:=ih (t.more s)
   exact⟨[_]++a,[_]++b,[_]++c,h1.trans (List.append_assoc _ _ _),h2.trans (List.append_assoc _ _ _),h3.trans (List.append_assoc _ _ _)⟩
 unfold tabs
 rw [List.foldl_append]
 exact this R _
structure Cl5 where
 num:Addr
 nest:Addr
 many:Addr
 pick:Addr
 shape:Addr
inductive KO (c:Cl5) (K:Frag) (H:Hp) (sa:List Addr):Addr->Kd->Prop
 | num {a dx:Addr} {w:Nat} : H a=some (.ins c.num dx [("width",.int w)])->KO c K H sa a (.num w)
 | nest {a dx s:Addr} {i:Nat} : sa[i]?=some s->H a=some (.ins c.nest dx [("shape",.ref s)])->KO c K H sa a (.nest i)
 | many {a dx b:Addr} {n:Nat} {k:Kd} : H a=some (.ins c.many dx [("count",.int n),("kind",.ref b)])->KO c K H sa b k->KO c K H sa a (.many n k)
 | pick {a dx t:Addr} {is:List Nat} {ss:List Addr} : H a=some (.ins c.pick dx [("shapes",.ref t)])->SqT K H t (ss.map V.ref)->ss.length=is.length->(∀ (j i:Nat) (s:Addr),is[j]?=some i->ss[j]?=some s->sa[i]?=some s)->KO c K H sa a (.pick is)
theorem KO.same {c:Cl5} {K:Frag} {H H':Hp} {sa:List Addr} {a:Addr} {k:Kd} (h:KO c K H sa a k) (g:Same H H'):KO c K H' sa a k:=by
 induction h with
 | num h=>exact .num (g _ _ h)
 | nest e h=>exact .nest e (g _ _ h)
 | many h _ ih=>exact .many (g _ _ h) ih
 | pick h t l e=>exact .pick (g _ _ h) (g.tp t) l e
theorem get_app {sa more:List Addr} {i:Nat} {s:Addr} (h:sa[i]?=some s):(sa++more)[i]?=some s:=by
 rw [List.getElem?_append_left (List.getElem?_eq_some_iff.mp h).1];exact h
theorem KO.more {c:Cl5} {K:Frag} {H:Hp} {sa:List Addr} {a:Addr} {k:Kd} (h:KO c K H sa a k) (more:List Addr):KO c K H (sa++more) a k:=by
 induction h with
 | num h=>exact .num h
 | nest e h=>exact .nest (get_app e) h
 | many h _ ih=>exact .many h ih
 | pick h t l e=>exact .pick h t l fun j i s h1 h2=>get_app (e j i s h1 h2)
theorem KO.ahead {c:Cl5} {K:Frag} {H:Hp} {sa:List Addr} {a:Addr} {k:Kd} (h:KO c K H sa a k):k.Below sa.length:=by
 induction h with
 | num h=>exact True.intro
 | nest e h=>exact (List.getElem?_eq_some_iff.mp e).1
 | many h _ ih=>exact ih
 | @pick a dx t is ss h t' l e =>
  intro i hi
  obtain⟨j,hj⟩:=List.mem_iff_getElem?.mp hi
  have hj1:j < is.length:=(List.getElem?_eq_some_iff.mp hj).1
  exact (List.getElem?_eq_some_iff.mp (e j i _ hj (List.getElem?_eq_getElem (by omega)))).1
inductive FO (c:Cl5) (K:Frag) (H:Hp) (sa:List Addr):List Addr->List (Str × Kd)->Prop
 | nil:FO c K H sa [] []
 | cons {p k:Addr} {ps:List Addr} {nm:Str} {kd:Kd} {fs:List (Str × Kd)} : SqT K H p [.str nm,.ref k]->KO c K H sa k kd->FO c K H sa ps fs->FO c K H sa (p::ps) ((nm,kd)::fs)
theorem FO.same {c:Cl5} {K:Frag} {H H':Hp} {sa ps:List Addr} {fs:List (Str × Kd)} (h:FO c K H sa ps fs) (g:Same H H'):FO c K H' sa ps fs:=by
 induction h with
 | nil=>exact .nil
 | cons t k _ ih=>exact .cons (g.tp t) (k.same g) ih
theorem FO.len {c:Cl5} {K:Frag} {H:Hp} {sa ps:List Addr} {fs:List (Str × Kd)} (h:FO c K H sa ps fs):ps.length=fs.length:=by
 induction h with
 | nil=>rfl
 | cons _ _ _ ih=>rw [List.length_cons,List.length_cons,ih]
theorem FO.snoc {c:Cl5} {K:Frag} {H:Hp} {sa ps:List Addr} {fs:List (Str × Kd)} {p k:Addr} {nm:Str} {kd:Kd} (h:FO c K H sa ps fs) (t:SqT K H p [.str nm,.ref k]) (hk:KO c K H sa k kd):FO c K H sa (ps++[p]) (fs++[(nm,kd)]):=by
 induction h with
 | nil=>exact .cons t hk .nil
 | cons t' k' _ ih=>exact .cons t' k' ih
theorem FO.get {c:Cl5} {K:Frag} {H:Hp} {sa ps:List Addr} {fs:List (Str × Kd)} (h:FO c K H sa ps fs):∀ {i:Nat} {p:Addr},ps[i]?=some p->∃ nm kd k,fs[i]?=some (nm,kd)/\SqT K H p [.str nm,.ref k]/\KO c K H sa k kd:=by
 induction h with
 | nil=>intro i p e;simp at e
 | cons t k _ ih =>
  intro i p e
  cases i with
  | zero=>cases e;exact⟨_,_,_,rfl,t,k⟩
  | succ i=>exact ih e
def SO (c:Cl5) (K:Frag) (H:Hp) (sa:List Addr) (a:Addr) (s:Shp):Prop:=∃ dx t ps,H a=some (.ins c.shape dx [("name",.str s.1),("fields",.ref t)])/\SqT K H t (ps.map V.ref)/\FO c K H sa ps s.2
theorem SO.same {c:Cl5} {K:Frag} {H H':Hp} {sa:List Addr} {a:Addr} {s:Shp} (h:SO c K H sa a s) (g:Same H H'):SO c K H' sa a s:=by
 obtain⟨dx,t,ps,h1,h2,h3⟩:=h
 exact⟨dx,t,ps,g _ _ h1,g.tp h2,h3.same g⟩
def SW (c:Cl5) (K:Frag) (H:Hp) (sa:List Addr) (S:List Shp):Prop:=sa.length=S.length/\∀ (i:Nat) (a:Addr) (s:Shp),sa[i]?=some a->S[i]?=some s->SO c K H (sa.take i) a s
theorem SW.same {c:Cl5} {K:Frag} {H H':Hp} {sa:List Addr} {S:List Shp} (h:SW c K H sa S) (g:Same H H'):SW c K H' sa S:=⟨h.1,fun i a s h1 h2=>(h.2 i a s h1 h2).same g⟩
theorem SW.nil {c:Cl5} {K:Frag} {H:Hp} : SW c K H [] []:=⟨rfl,fun i a s h _=>by simp at h⟩
theorem SW.snoc {c:Cl5} {K:Frag} {H:Hp} {sa:List Addr} {S:List Shp} {a:Addr} {s:Shp} (h:SW c K H sa S) (x:SO c K H sa a s):SW c K H (sa++[a]) (S++[s]):=by
 have hl:sa.length=S.length:=h.1
 refine⟨by rw [List.length_append,List.length_append,h.1];rfl,fun i b u h1 h2=>?_⟩
 by_cases hi:i < sa.length
 ·rw [List.getElem?_append_left hi] at h1
  rw [List.getElem?_append_left (by rw [← h.1];exact hi)] at h2
  rw [List.take_append_of_le_length (by omega)]
  exact h.2 i b u h1 h2
 ·have hi2:i < (sa++[a]).length:=(List.getElem?_eq_some_iff.mp h1).1
  have e:i=sa.length:=by rw [List.length_append,List.length_singleton] at hi2;omega
  subst e
  rw [List.getElem?_append_right (Nat.le_refl _),Nat.sub_self] at h1
  rw [List.getElem?_append_right (by omega),show sa.length - S.length=0 by omega] at h2
  cases h1
  cases h2
  rw [List.take_left' rfl]
  exact x
inductive LK (K:Frag) (H:Hp):Addr->Kd->Prop
 | num {a:Addr} {w:Nat} : SqT K H a [.str (Str.ofString "num"),.int w]->LK K H a (.num w)
 | nest {a:Addr} {i:Nat} : SqT K H a [.str (Str.ofString "shape"),.int i]->LK K H a (.nest i)
 | many {a b:Addr} {n:Nat} {k:Kd} : SqT K H a [.str (Str.ofString "row"),.int n,.ref b]->LK K H b k->LK K H a (.many n k)
 | pick {a l:Addr} {is:List Nat} : SqT K H a [.str (Str.ofString "pick"),.ref l]->SqL K H l (is.map fun (i:Nat)=>V.int i)->LK K H a (.pick is)
theorem LK.same {K:Frag} {H H':Hp} {a:Addr} {k:Kd} (h:LK K H a k) (g:Same H H'):LK K H' a k:=by
 induction h with
 | num h=>exact .num (g.tp h)
 | nest h=>exact .nest (g.tp h)
 | many h _ ih=>exact .many (g.tp h) ih
 | pick h l=>exact .pick (g.tp h) (g.seq l)
inductive LF (K:Frag) (H:Hp):List Addr->List (Str × Kd)->Prop
 | nil:LF K H [] []
 | cons {p k:Addr} {ps:List Addr} {nm:Str} {kd:Kd} {fs:List (Str × Kd)} : SqT K H p [.str nm,.ref k]->LK K H k kd->LF K H ps fs->LF K H (p::ps) ((nm,kd)::fs)
theorem LF.same {K:Frag} {H H':Hp} {ps:List Addr} {fs:List (Str × Kd)} (h:LF K H ps fs) (g:Same H H'):LF K H' ps fs:=by
 induction h with
 | nil=>exact .nil
 | cons t k _ ih=>exact .cons (g.tp t) (k.same g) ih
theorem LF.len {K:Frag} {H:Hp} {ps:List Addr} {fs:List (Str × Kd)} (h:LF K H ps fs):ps.length=fs.length:=by
 induction h with
 | nil=>rfl
 | cons _ _ _ ih=>rw [List.length_cons,List.length_cons,ih]
theorem LF.snoc {K:Frag} {H:Hp} {ps:List Addr} {fs:List (Str × Kd)} {p k:Addr} {nm:Str} {kd:Kd} (h:LF K H ps fs) (t:SqT K H p [.str nm,.ref k]) (hk:LK K H k kd):LF K H (ps++[p]) (fs++[(nm,kd)]):=by
 induction h with
 | nil=>exact .cons t hk .nil
 | cons t' k' _ ih=>exact .cons t' k' ih
theorem LF.get {K:Frag} {H:Hp} {ps:List Addr} {fs:List (Str × Kd)} (h:LF K H ps fs):∀ {i:Nat} {p:Addr},ps[i]?=some p->∃ nm kd k,fs[i]?=some (nm,kd)/\SqT K H p [.str nm,.ref k]/\LK K H k kd:=by
 induction h with
 | nil=>intro i p e;simp at e
 | cons t k _ ih =>
  intro i p e
  cases i with
  | zero=>cases e;exact⟨_,_,_,rfl,t,k⟩
  | succ i=>exact ih e
def LS (K:Frag) (H:Hp) (a:Addr) (s:Shp):Prop:=∃ l ps,SqT K H a [.str s.1,.ref l]/\SqL K H l (ps.map V.ref)/\LF K H ps s.2
theorem LS.same {K:Frag} {H H':Hp} {a:Addr} {s:Shp} (h:LS K H a s) (g:Same H H'):LS K H' a s:=by
 obtain⟨l,ps,h1,h2,h3⟩:=h
 exact⟨l,ps,g.tp h1,g.seq h2,h3.same g⟩
inductive LW (K:Frag) (H:Hp):List Addr->List Shp->Prop
 | nil:LW K H [] []
 | cons {a:Addr} {as:List Addr} {s:Shp} {S:List Shp} : LS K H a s->LW K H as S->LW K H (a::as) (s::S)
theorem LW.same {K:Frag} {H H':Hp} {as:List Addr} {S:List Shp} (h:LW K H as S) (g:Same H H'):LW K H' as S:=by
 induction h with
 | nil=>exact .nil
 | cons t _ ih=>exact .cons (t.same g) ih
theorem LW.len {K:Frag} {H:Hp} {as:List Addr} {S:List Shp} (h:LW K H as S):as.length=S.length:=by
 induction h with
 | nil=>rfl
 | cons _ _ ih=>rw [List.length_cons,List.length_cons,ih]
theorem LW.snoc {K:Frag} {H:Hp} {as:List Addr} {S:List Shp} {a:Addr} {s:Shp} (h:LW K H as S) (x:LS K H a s):LW K H (as++[a]) (S++[s]):=by
 induction h with
 | nil=>exact .cons x .nil
 | cons t _ ih=>exact .cons t ih
theorem LW.get {K:Frag} {H:Hp} {as:List Addr} {S:List Shp} (h:LW K H as S):∀ {i:Nat} {a:Addr},as[i]?=some a->∃ s,S[i]?=some s/\LS K H a s:=by
 induction h with
 | nil=>intro i a e;simp at e
 | cons t _ ih =>
  intro i a e
  cases i with
  | zero=>cases e;exact⟨_,rfl,t⟩
  | succ i=>exact ih e
abbrev spS:Str:=⟨#[32]⟩
abbrev nlS:Str:=⟨#[10]⟩
def Kd.words (nm:Nat->Str):Kd->List Str
 | .num w=>[Str.ofString "num",Str.ofString (toString (w:Int))]
 | .nest i=>[nm i]
 | .many n k=>Str.ofString "row" :: Str.ofString (toString (n:Int))::k.words nm
 | .pick is=>Str.ofString "pick" :: is.map nm
theorem Kd.words_ne (nm:Nat->Str):∀ k:Kd,k.words nm ≠ []
 | .num _=>by simp [Kd.words]
 | .nest _=>by simp [Kd.words]
 | .many _ _=>by simp [Kd.words]
 | .pick _=>by simp [Kd.words]
def nmOf (S:List Shp) (i:Nat):Str:=(S.getD i (Str.empty,[])).1
def shLines (nm:Nat->Str) (s:Shp):List (List Str):=[Str.ofString "shape",s.1]::s.2.map fun f=>f.1::f.2.words nm
def txLines (S:List Shp):List (List Str):=S.flatMap (shLines (nmOf S))
def Pln (w:Str):Prop:=32 ∉ w.cps.toList/\10 ∉ w.cps.toList
theorem jn_free {c d:Nat} (ne:d ≠ c):∀ {ps:List (List Nat)},(∀ p ∈ ps,d ∉ p)->d ∉ jn c ps
 | [],_=>by simp [jn]
 | [p],h=>h p (List.mem_singleton.mpr rfl)
 | p::q::r,h=>by
  have ih:=jn_free ne (ps:=q::r) fun x hx=>h x (List.mem_cons_of_mem _ hx)
  have hp:=h p (List.mem_cons_self ..)
  show d ∉ p++c::jn c (q::r)
  simp only [List.mem_append,List.mem_cons,not_or]
  exact⟨hp,ne,ih⟩
theorem split_line {ws:List Str} (hne:ws ≠ []) (h:∀ w ∈ ws,Pln w):Txt.split (Str.join spS ws) spS=ws:=split_join hne fun w hw=>(h w hw).1
theorem split_lines {ls:List (List Str)} (hne:ls ≠ []) (h:∀ l ∈ ls,∀ w ∈ l,Pln w):Txt.split (Str.join nlS (ls.map (Str.join spS))) nlS=ls.map (Str.join spS):=by
 refine split_join (by simpa using hne) fun y hy=>?_
 obtain⟨l,hl,rfl⟩:=List.mem_map.mp hy
 rw [join_jn]
 refine jn_free (by decide) fun p hp=>?_
 obtain⟨w,hw,rfl⟩:=List.mem_map.mp hp
 exact (h l hl w hw).2
theorem join_cons {sep y:Str} {ys:List Str} (h:ys ≠ []):Str.join sep (y::ys)=y++sep++Str.join sep ys:=by
 cases ys with
 | nil=>exact absurd rfl h
 | cons z zs=>rfl
theorem pln_num {n:Nat} (h:n<=9):Pln (Str.ofString (toString (n:Int))):=by
 have:∀ m:Fin 10,Pln (Str.ofString (toString ((m.val:Nat):Int))):=by
  intro m
  unfold Pln
  revert m
  decide +kernel
 exact this ⟨n,by omega⟩
def Kd.Fit (n:Nat):Kd->Prop
 | .num w=>1<=w/\w<=4
 | .nest i=>i < n
 | .many m k=>1<=m/\m<=6/\((∃ w,k=.num w/\1<=w/\w<=4)\/∃ i,k=.nest i/\i < n)
 | .pick is=>2<=is.length/\is.length<=4/\is.Nodup/\∀ i ∈ is,i < n
theorem Kd.Fit.below {n:Nat} : ∀ {k:Kd},k.Fit n->k.Below n
 | .num _,_=>True.intro
 | .nest _,h=>h
 | .many _ k,h=>by
  rcases h.2.2 with⟨w,rfl,_⟩|⟨i,rfl,hi⟩
  ·exact True.intro
  ·exact hi
 | .pick _,h=>h.2.2.2
theorem Kd.Fit.plain {n:Nat} {nm:Nat->Str} (hnm:∀ i,i < n->Pln (nm i)):∀ {k:Kd},k.Fit n->∀ w ∈ k.words nm,Pln w:=by
 have hnum:∀ w:Nat,1<=w/\w<=4->∀ x ∈ (Kd.num w).words nm,Pln x:=fun w hw x hx=>by
  simp only [Kd.words,List.mem_cons,List.not_mem_nil,or_false] at hx
  rcases hx with rfl|rfl
  ·unfold Pln;decide +kernel
  ·exact pln_num (by omega)
 intro k h
 cases k with
 | num w=>exact hnum w h
 | nest i =>
  intro x hx
  rw [List.mem_singleton.mp (show x ∈ [nm i] from hx)]
  exact hnm i h
 | many m k =>
  intro x hx
  simp only [Kd.words,List.mem_cons] at hx
  rcases hx with rfl|rfl|hx
  ·unfold Pln;decide +kernel
  ·exact pln_num (by have:=h.2.1;omega)
  ·rcases h.2.2 with⟨w,rfl,hw⟩|⟨i,rfl,hi⟩
   ·exact hnum w hw x hx
   ·rw [List.mem_singleton.mp (show x ∈ [nm i] from hx)]
    exact hnm i hi
 | pick is =>
  intro x hx
  simp only [Kd.words,List.mem_cons,List.mem_map] at hx
  rcases hx with rfl|⟨i,hi,rfl⟩
  ·unfold Pln;decide +kernel
  ·exact hnm i (h.2.2.2 i hi)
def Kd.Rk (r:Nat):Kd->Prop
 | .num _=>True
 | .nest i=>2 * i + 2<=r
 | .many _ k=>(∃ w,k=.num w/\1<=r)\/∃ i,k=.nest i/\2 * i + 3<=r
 | .pick is=>∀ i ∈ is,2 * i + 3<=r
theorem Kd.Fit.rk {n:Nat} : ∀ {k:Kd},k.Fit n->k.Rk (2 * n + 1)
 | .num _,_=>True.intro
 | .nest i,h=>by have:i < n:=h;show 2 * i + 2<=2 * n + 1;omega
 | .many m k,h=>by
  rcases h.2.2 with⟨w,e,_⟩|⟨i,e,hi⟩
  ·exact .inl ⟨w,e,by omega⟩
  ·exact .inr ⟨i,e,by omega⟩
 | .pick is,h=>fun i hi=>by have:=h.2.2.2 i hi;omega
theorem Kd.Rk.mono {r q:Nat} (h:r<=q):∀ {k:Kd},k.Rk r->k.Rk q
 | .num _,_=>True.intro
 | .nest i,g=>Nat.le_trans (show 2 * i + 2<=r from g) h
 | .many m k,g=>by
  rcases g with⟨w,e,hw⟩|⟨i,e,hi⟩
  ·exact .inl ⟨w,e,by omega⟩
  ·exact .inr ⟨i,e,by omega⟩
 | .pick is,g=>fun i hi=>Nat.le_trans (g i hi) h
theorem Kd.Fit.mono {n m:Nat} (h:n<=m):∀ {k:Kd},k.Fit n->k.Fit m
 | .num _,g=>g
 | .nest i,g=>Nat.lt_of_lt_of_le (show i < n from g) h
 | .many _ k,g=>⟨g.1,g.2.1,by
  rcases g.2.2 with g|⟨i,e,hi⟩
  ·exact .inl g
  ·exact .inr ⟨i,e,by omega⟩⟩
 | .pick is,g=>⟨g.1,g.2.1,g.2.2.1,fun i hi=>Nat.lt_of_lt_of_le (g.2.2.2 i hi) h⟩
structure Good (S:List Shp):Prop where
 ne:∀ (i:Nat) (s:Shp),S[i]?=some s->s.2 ≠ []
 few:∀ (i:Nat) (s:Shp),S[i]?=some s->s.2.length<=6
 fit:∀ (i:Nat) (s:Shp),S[i]?=some s->∀ f ∈ s.2,f.2.Fit i/\1<=f.1.length/\f.1.length<=6
 sz:∀ i:Nat,(tabs S).sz.getD i 0<=1000
theorem split_at {α : Type} {S:List α} {i:Nat} {s : α} (h:S[i]?=some s):S=S.take i++s::S.drop (i + 1)/\(S.take i).length=i:=by
 obtain⟨hi,e⟩:=List.getElem?_eq_some_iff.mp h
 refine⟨?_,by rw [List.length_take];omega⟩
 conv=>lhs;rw [← List.take_append_drop i S]
 rw [List.drop_eq_getElem_cons hi,e]
theorem getD_mid {α : Type} {xs zs:List α} {y d : α} : (xs++y::zs).getD xs.length d=y:=by
 rw [List.getD_eq_getElem?_getD,List.getElem?_append_right (Nat.le_refl _),Nat.sub_self];rfl
theorem tabs_lo {S R:List Shp} {i:Nat} (h:i < S.length):(tabs (S++R)).sz.getD i 0=(tabs S).sz.getD i 0/\(tabs (S++R)).dp.getD i 0=(tabs S).dp.getD i 0/\((tabs (S++R)).ut.getD i fun _=>[])=(tabs S).ut.getD i fun _=>[]:=by
 obtain⟨a,b,c,e1,e2,e3⟩:=tabs_app S R
 obtain⟨l1,l2,l3⟩:=tabs_len S
 rw [e1,e2,e3]
 exact⟨getD_app (by omega),getD_app (by omega),getD_app (by omega)⟩
theorem tabs_at (S:List Shp) (s:Shp) (R:List Shp):(tabs (S++s::R)).sz.getD S.length 0=(s.2.map fun f=>f.2.size (tabs S).sz).sum/\(tabs (S++s::R)).dp.getD S.length 0=1 + maxL (s.2.map fun f=>f.2.depth (tabs S).dp)/\∀ p,((tabs (S++s::R)).ut.getD S.length fun _=>[]) p=s.2.flatMap fun f=>f.2.units (tabs S).sz (tabs S).ut (pj p f.1):=by
 have e:S++s::R=(S++[s])++R:=by rw [List.append_assoc];rfl
 obtain⟨h1,h2,h3⟩:=tabs_lo (S:=S++[s]) (R:=R) (i:=S.length) (by rw [List.length_append];exact Nat.lt_succ_self _)
 obtain⟨l1,l2,l3⟩:=tabs_len S
 rw [e,h1,h2,h3,tabs_snoc]
 refine⟨?_,?_,fun p=>?_⟩
 ·show ((tabs S).sz++[_]).getD _ _=_
  rw [← l1,getD_mid]
 ·show ((tabs S).dp++[_]).getD _ _=_
  rw [← l2,getD_mid]
 ·show ((tabs S).ut++[_]).getD _ _ p=_
  rw [← l3,getD_mid]
theorem Kd.tab_lo {S R:List Shp} {k:Kd} (h:k.Below S.length):k.size (tabs (S++R)).sz=k.size (tabs S).sz/\k.depth (tabs (S++R)).dp=k.depth (tabs S).dp/\∀ p,k.units (tabs (S++R)).sz (tabs (S++R)).ut p=k.units (tabs S).sz (tabs S).ut p:=by
 obtain⟨a,b,c,e1,e2,e3⟩:=tabs_app S R
 obtain⟨l1,l2,l3⟩:=tabs_len S
 rw [e1,e2,e3]
 exact⟨Kd.size_app (by rw [l1];exact h),Kd.depth_app (by rw [l2];exact h),fun p=>Kd.units_app (by omega) (by rw [l1];exact h) p⟩
theorem fm_congr {α β : Type} {f g : α->List β} : ∀ {xs:List α},(∀ x ∈ xs,f x=g x)->xs.flatMap f=xs.flatMap g
 | [],_=>rfl
 | x::xs,h=>by rw [List.flatMap_cons,List.flatMap_cons,h x (List.mem_cons_self ..),fm_congr fun y hy=>h y (List.mem_cons_of_mem _ hy)]
theorem tab_at {S:List Shp} {i:Nat} {s:Shp} (h:S[i]?=some s) (hF:∀ f ∈ s.2,f.2.Below i):(tabs S).sz.getD i 0=(s.2.map fun f=>f.2.size (tabs S).sz).sum/\(tabs S).dp.getD i 0=1 + maxL (s.2.map fun f=>f.2.depth (tabs S).dp)/\∀ p,((tabs S).ut.getD i fun _=>[]) p=s.2.flatMap fun f=>f.2.units (tabs S).sz (tabs S).ut (pj p f.1):=by
 obtain⟨e,hl⟩:=split_at h
 generalize S.take i=A at e hl
 generalize S.drop (i + 1)=B at e
 subst e
 subst hl
 obtain⟨h1,h2,h3⟩:=tabs_at A s B
 have q:=fun f hf=>Kd.tab_lo (R:=s::B) (hF f hf)
 refine⟨?_,?_,fun p=>?_⟩
 ·rw [h1,List.map_congr_left fun f hf=>(q f hf).1]
 ·rw [h2,List.map_congr_left fun f hf=>(q f hf).2.1]
 ·rw [h3 p,fm_congr fun f hf=>(q f hf).2.2 _]
theorem Kd.units_len {sz:List Nat} {ut:List (Str->List Un3)} {n:Nat} (h:∀ i,i < n->1<=sz.getD i 0/\∀ p,((ut.getD i fun _=>[]) p).length<=sz.getD i 0):∀ {k:Kd},k.Fit n->1<=k.size sz/\∀ p,(k.units sz ut p).length<=k.size sz:=by
 have hn:∀ w,1<=w->1<=(Kd.num w).size sz/\∀ p,((Kd.num w).units sz ut p).length<=(Kd.num w).size sz:=fun w hw=>⟨hw,fun p=>hw⟩
 intro k hk
 cases k with
 | num w=>exact hn w hk.1
 | nest i=>exact h i hk
 | many m k =>
  have hs : 1<=k.size sz/\∀ p,(k.units sz ut p).length<=k.size sz:=by
   rcases hk.2.2 with⟨w,rfl,hw,_⟩|⟨i,rfl,hi⟩
   ·exact hn w hw
   ·exact h i hi
  refine⟨Nat.mul_pos hk.1 hs.1,fun p=>?_⟩
  show ((List.range m).flatMap _).length<=m * _
  have:∀ m,((List.range m).flatMap fun j=>k.units sz ut (pj p (Str.ofString (toString j)))).length<=m * k.size sz:=by
   intro m
   induction m with
   | zero=>exact Nat.zero_le _
   | succ m ih =>
    rw [List.range_succ,List.flatMap_append,List.length_append,List.flatMap_singleton,Nat.succ_mul]
    exact Nat.add_le_add ih (hs.2 _)
  exact this m
 | pick is =>
  refine⟨by show 1<=1 + _;omega,fun p=>?_⟩
  show 2<=1 + maxL _
  cases is with
  | nil=>exact absurd hk.1 (by decide)
  | cons i r =>
   have:=(h i (hk.2.2.2 i (List.mem_cons_self ..))).1
   have g:=maxL_le (n:=sz.getD i 0) (xs:=(i::r).map fun i=>sz.getD i 0) (List.mem_cons_self ..)
   omega
theorem fields_len {sz:List Nat} {ut:List (Str->List Un3)} (p:Str):∀ {fs:List (Str × Kd)},(∀ f ∈ fs,1<=f.2.size sz/\∀ p,(f.2.units sz ut p).length<=f.2.size sz)->(fs.flatMap fun f=>f.2.units sz ut (pj p f.1)).length<=(fs.map fun f=>f.2.size sz).sum/\fs.length<=(fs.map fun f=>f.2.size sz).sum
 | [],_=>⟨Nat.le_refl _,Nat.le_refl _⟩
 | f::fs,h=>by
  have ih:=fields_len p (fs:=fs) fun g hg=>h g (List.mem_cons_of_mem _ hg)
  have h0:=h f (List.mem_cons_self ..)
  rw [List.flatMap_cons,List.length_append,List.map_cons,List.sum_cons,List.length_cons]
  exact⟨Nat.add_le_add (h0.2 _) ih.1,by omega⟩
theorem Good.len {S:List Shp} (h:Good S):∀ n i,i < n->i < S.length->1<=(tabs S).sz.getD i 0/\∀ p,(((tabs S).ut.getD i fun _=>[]) p).length<=(tabs S).sz.getD i 0
 | 0,i,hi,_=>absurd hi (Nat.not_lt_zero _)
 | n + 1,i,hi,hl=>by
  have hs:S[i]?=some S[i]:=List.getElem?_eq_getElem hl
  have hF:=h.fit i _ hs
  obtain⟨e1,e2,e3⟩:=tab_at hs fun f hf=>(hF f hf).1.below
  have q:∀ f ∈ S[i].2,1<=f.2.size (tabs S).sz/\∀ p,(f.2.units (tabs S).sz (tabs S).ut p).length<=f.2.size (tabs S).sz:=fun f hf =>
   Kd.units_len (fun j hj=>Good.len h n j (by omega) (by omega)) (hF f hf).1
  have hne:=h.ne i _ hs
  have : 1<=S[i].2.length:=by
   cases e:S[i].2 with
   | nil=>exact absurd e hne
   | cons _ _=>exact Nat.succ_le_succ (Nat.zero_le _)
  refine⟨?_,fun p=>?_⟩
  ·rw [e1];exact Nat.le_trans this (fields_len Str.empty q).2
  ·rw [e1,e3 p];exact (fields_len p q).1
theorem Good.kd {S:List Shp} (h:Good S) {k:Kd} (hk:k.Fit S.length) : 1<=k.size (tabs S).sz/\∀ p,(k.units (tabs S).sz (tabs S).ut p).length<=k.size (tabs S).sz:=Kd.units_len (fun j hj=>h.len S.length j hj hj) hk
theorem maxL_bd {m:Nat} : ∀ {xs:List Nat},(∀ x ∈ xs,x<=m)->maxL xs<=m
 | [],_=>Nat.zero_le _
 | x::xs,h=>Nat.max_le.mpr ⟨h x (List.mem_cons_self ..),maxL_bd fun y hy=>h y (List.mem_cons_of_mem _ hy)⟩
theorem Kd.size_bd {sz:List Nat} {m n:Nat} (h:∀ i,sz.getD i 0<=m) (hm : 4<=m):∀ {k:Kd},k.Fit n->k.size sz<=6 * m
 | .num w,hk=>by have:=hk.2;show w<=_;omega
 | .nest i,_=>by have:=h i;show sz.getD i 0<=_;omega
 | .many c k,hk=>by
  have:k.size sz<=m:=by
   rcases hk.2.2 with⟨w,rfl,_,hw⟩|⟨i,rfl,hi⟩
   ·show w<=m;omega
   ·exact h i
  exact Nat.mul_le_mul hk.2.1 this
 | .pick is,_=>by
  have:maxL (is.map fun i=>sz.getD i 0)<=m:=maxL_bd fun x hx=>by obtain⟨i,_,rfl⟩:=List.mem_map.mp hx;exact h i
  show 1 + _<=_
  omega
def Kd.parts (S:List Shp):Kd->List (Str × Kd)
 | .nest i=>(S.getD i (Str.empty,[])).2
 | .many n k=>(List.range n).map fun j=>(Str.ofString (toString j),k)
 | _=>[]
theorem Kd.parts_units {S:List Shp} (h:Good S) {k:Kd} (hk:k.Fit S.length) (hs:(∃ i,k=.nest i)\/∃ n q,k=.many n q) (p:Str):k.units (tabs S).sz (tabs S).ut p=(k.parts S).flatMap fun f=>f.2.units (tabs S).sz (tabs S).ut (pj p f.1):=by
 rcases hs with⟨i,rfl⟩|⟨n,q,rfl⟩
 ·have hi:i < S.length:=hk
  have hs:S[i]?=some S[i]:=List.getElem?_eq_getElem hi
  have e:(Kd.nest i).parts S=S[i].2:=by show (S.getD i _).2=_;rw [List.getD_eq_getElem?_getD,hs];rfl
  rw [e]
  exact (tab_at hs fun f hf=>((h.fit i _ hs) f hf).1.below).2.2 p
 ·show (List.range n).flatMap _=((List.range n).map _).flatMap _
  rw [List.flatMap_map]
def Kd.isNum:Kd->Bool
 | .num _=>true
 | _=>false
def Kd.isNest:Kd->Bool
 | .nest _=>true
 | _=>false
def Kd.isMany:Kd->Bool
 | .many _ _=>true
 | _=>false
def Kd.isPick:Kd->Bool
 | .pick _=>true
 | _=>false
def Nolk (m:Str):Prop:=∀ v w:V,[(("width" : Str),v)].lookup m=none/\[(("shape" : Str),v)].lookup m=none/\[(("count" : Str),v),(("kind" : Str),w)].lookup m=none/\[(("shapes" : Str),v)].lookup m=none
def spV (c:Cl5) (K:Frag) (r:Nat) (F:Kd->Bool) (val:Kd->Tab->Nat):Sp:=fun vs H Q _=>∃ (a:Addr) (kd:Kd) (sa:List Addr) (S:List Shp),vs=[.ref a]/\F kd=true/\kd.Rk r/\kd.Fit S.length/\KO c K H sa a kd/\SW c K H sa S/\Good S/\∀ H',Same H H'->Q (.int (val kd (tabs S))) H'
def TV (c:Cl5) (K:Frag) (r:Nat) (val:Kd->Tab->Nat):Addr->Sp->Prop:=fun C sp=>(C=c.num/\sp=spV c K r Kd.isNum val)\/(C=c.nest/\sp=spV c K r Kd.isNest val)\/(C=c.many/\sp=spV c K r Kd.isMany val)\/(C=c.pick/\sp=spV c K r Kd.isPick val)
theorem callV {c:Cl5} {K:Frag} {r:Nat} {val:Kd->Tab->Nat} {H:Hp} {a:Addr} {kd:Kd} {sa:List Addr} {S:List Shp} {Q:VK} {E:XK} {m:Str} (hm:Nolk m) (hr:kd.Rk r) (hf:kd.Fit S.length) (ho:KO c K H sa a kd) (hw:SW c K H sa S) (hg:Good S)
  (q:∀ H',Same H H'->Q (.int (val kd (tabs S))) H'):∃ a' C dx fs sp,V.ref a=.ref a'/\H a'=some (.ins C dx fs)/\fs.lookup m=none/\TV c K r val C sp/\sp [.ref a] H Q E:=by
 cases id ho with
 | num h=>exact⟨_,_,_,_,_,rfl,h,(hm _ .non).1,.inl ⟨rfl,rfl⟩,a,_,sa,S,rfl,rfl,hr,hf,ho,hw,hg,q⟩
 | nest e h=>exact⟨_,_,_,_,_,rfl,h,(hm _ .non).2.1,.inr (.inl ⟨rfl,rfl⟩),a,_,sa,S,rfl,rfl,hr,hf,ho,hw,hg,q⟩
 | many h _=>exact⟨_,_,_,_,_,rfl,h,(hm _ _).2.2.1,.inr (.inr (.inl ⟨rfl,rfl⟩)),a,_,sa,S,rfl,rfl,hr,hf,ho,hw,hg,q⟩
 | pick h _ _ _=>exact⟨_,_,_,_,_,rfl,h,(hm _ .non).2.2.2,.inr (.inr (.inr ⟨rfl,rfl⟩)),a,_,sa,S,rfl,rfl,hr,hf,ho,hw,hg,q⟩
def spShV (c:Cl5) (K:Frag) (r:Nat) (val:Nat->Tab->Nat):Sp:=fun vs H Q _=>∃ (a:Addr) (i:Nat) (sa:List Addr) (S:List Shp),vs=[.ref a]/\sa[i]?=some a/\2 * i + 1<=r/\SW c K H sa S/\Good S/\∀ H',Same H H'->Q (.int (val i (tabs S))) H'
inductive UR (K:Frag) (H:Hp):List Addr->List Un3->Prop
 | nil:UR K H [] []
 | cons {t:Addr} {ts:List Addr} {u:Un3} {us:List Un3} : SqT K H t [.str u.1,.int u.2.1,.str u.2.2]->UR K H ts us->UR K H (t::ts) (u::us)
theorem UR.same {K:Frag} {H H':Hp} {ts:List Addr} {us:List Un3} (h:UR K H ts us) (g:Same H H'):UR K H' ts us:=by
 induction h with
 | nil=>exact .nil
 | cons t _ ih=>exact .cons (g.tp t) ih
theorem UR.len {K:Frag} {H:Hp} {ts:List Addr} {us:List Un3} (h:UR K H ts us):ts.length=us.length:=by
 induction h with
 | nil=>rfl
 | cons _ _ ih=>rw [List.length_cons,List.length_cons,ih]
theorem UR.app {K:Frag} {H:Hp} {ts ts':List Addr} {us us':List Un3} (h:UR K H ts us) (h':UR K H ts' us'):UR K H (ts++ts') (us++us'):=by
 induction h with
 | nil=>exact h'
 | cons t _ ih=>exact .cons t ih
theorem UR.get {K:Frag} {H:Hp} {ts:List Addr} {us:List Un3} (h:UR K H ts us):∀ {i:Nat} {t:Addr},ts[i]?=some t->∃ u,us[i]?=some u/\SqT K H t [.str u.1,.int u.2.1,.str u.2.2]:=by
 induction h with
 | nil=>intro i t e;simp at e
 | cons t _ ih =>
  intro i a e
  cases i with
  | zero=>cases e;exact⟨_,rfl,t⟩
  | succ i=>exact ih e
theorem UR.but {K:Frag} {H H':Hp} {l:Addr} {zs:List V} {ts:List Addr} {us:List Un3} (h:UR K H ts us) (g:But l H H') (hl:H l=some (.lst zs)):UR K H' ts us:=by
 induction h with
 | nil=>exact .nil
 | cons t _ ih=>exact .cons (g.tup hl t) ih
def UL (K:Frag) (H:Hp) (l:Addr) (us:List Un3):Prop:=∃ ts:List Addr,H l=some (.lst (ts.map V.ref))/\UR K H ts us
abbrev un (kd:Kd) (S:List Shp) (p:Str):List Un3:=kd.units (tabs S).sz (tabs S).ut p
theorem Kd.parts_un {S:List Shp} (h:Good S) {k:Kd} (hk:k.Fit S.length) (hs:(∃ i,k=.nest i)\/∃ n q,k=.many n q) {p:Str} : un k S p=(k.parts S).flatMap fun f=>un f.2 S (pj p f.1):=Kd.parts_units h hk hs p
def spU (c:Cl5) (K:Frag) (r:Nat) (F:Kd->Bool):Sp:=fun vs H Q _=>∃ (a:Addr) (p:Str) (kd:Kd) (sa:List Addr) (S:List Shp),vs=[.ref a,.str p]/\p.length + 8 * r<=200/\F kd=true/\kd.Rk r/\kd.Fit S.length/\KO c K H sa a kd/\SW c K H sa S/\Good S ∧
 ∀ l H',Same H H'->H l=none->UL K H' l (un kd S p)->Q (.ref l) H'
def TU (c:Cl5) (K:Frag) (r:Nat):Addr->Sp->Prop:=fun C sp=>(C=c.num/\sp=spU c K r Kd.isNum)\/(C=c.nest/\sp=spU c K r Kd.isNest)\/(C=c.many/\sp=spU c K r Kd.isMany)\/(C=c.pick/\sp=spU c K r Kd.isPick)
theorem kdU {c:Cl5} {K:Frag} {r:Nat} {H:Hp} {a:Addr} {kd:Kd} {sa:List Addr} {S:List Shp} {m:Str} (hm:Nolk m) (hr:kd.Rk r) (hf:kd.Fit S.length) (ho:KO c K H sa a kd) (hw:SW c K H sa S) (hg:Good S) :
  ∃ C dx fs sp,H a=some (.ins C dx fs)/\fs.lookup m=none/\TU c K r C sp/\∀ (p:Str) (Q:VK) (E:XK),p.length + 8 * r<=200->(∀ l H',Same H H'->H l=none->UL K H' l (un kd S p)->Q (.ref l) H')->sp [.ref a,.str p] H Q E:=by
 cases id ho with
 | num h=>exact⟨_,_,_,_,h,(hm _ .non).1,.inl ⟨rfl,rfl⟩,fun p Q E hp q=>⟨a,p,_,sa,S,rfl,hp,rfl,hr,hf,ho,hw,hg,q⟩⟩
 | nest e h=>exact⟨_,_,_,_,h,(hm _ .non).2.1,.inr (.inl ⟨rfl,rfl⟩),fun p Q E hp q=>⟨a,p,_,sa,S,rfl,hp,rfl,hr,hf,ho,hw,hg,q⟩⟩
 | many h _=>exact⟨_,_,_,_,h,(hm _ _).2.2.1,.inr (.inr (.inl ⟨rfl,rfl⟩)),fun p Q E hp q=>⟨a,p,_,sa,S,rfl,hp,rfl,hr,hf,ho,hw,hg,q⟩⟩
 | pick h _ _ _=>exact⟨_,_,_,_,h,(hm _ .non).2.2.2,.inr (.inr (.inr ⟨rfl,rfl⟩)),fun p Q E hp q=>⟨a,p,_,sa,S,rfl,hp,rfl,hr,hf,ho,hw,hg,q⟩⟩
inductive PR (c:Cl5) (K:Frag) (H:Hp) (sa:List Addr):List Addr->List (Str × Kd)->Prop
 | nil:PR c K H sa [] []
 | cons {t k:Addr} {x:V} {y:Str} {kd:Kd} {ts:List Addr} {ps:List (Str × Kd)} : SqT K H t [x,.ref k]->txtV x=some y->KO c K H sa k kd->PR c K H sa ts ps->PR c K H sa (t::ts) ((y,kd)::ps)
theorem PR.same {c:Cl5} {K:Frag} {H H':Hp} {sa ts:List Addr} {ps:List (Str × Kd)} (h:PR c K H sa ts ps) (g:Same H H'):PR c K H' sa ts ps:=by
 induction h with
 | nil=>exact .nil
 | cons t x k _ ih=>exact .cons (g.tp t) x (k.same g) ih
theorem PR.len {c:Cl5} {K:Frag} {H:Hp} {sa ts:List Addr} {ps:List (Str × Kd)} (h:PR c K H sa ts ps):ts.length=ps.length:=by
 induction h with
 | nil=>rfl
 | cons _ _ _ _ ih=>rw [List.length_cons,List.length_cons,ih]
theorem PR.snoc {c:Cl5} {K:Frag} {H:Hp} {sa ts:List Addr} {ps:List (Str × Kd)} {t k:Addr} {x:V} {y:Str} {kd:Kd} (h:PR c K H sa ts ps) (t1:SqT K H t [x,.ref k]) (h2:txtV x=some y) (h3:KO c K H sa k kd):PR c K H sa (ts++[t]) (ps++[(y,kd)]):=by
 induction h with
 | nil=>exact .cons t1 h2 h3 .nil
 | cons t x k _ ih=>exact .cons t x k ih
theorem PR.get {c:Cl5} {K:Frag} {H:Hp} {sa ts:List Addr} {ps:List (Str × Kd)} (h:PR c K H sa ts ps):∀ {i:Nat} {t:Addr},ts[i]?=some t->∃ x y kd k,ps[i]?=some (y,kd)/\SqT K H t [x,.ref k]/\txtV x=some y/\KO c K H sa k kd:=by
 induction h with
 | nil=>intro i t e;simp at e
 | cons t x k _ ih =>
  intro i a e
  cases i with
  | zero=>cases e;exact⟨_,_,_,_,rfl,t,x,k⟩
  | succ i=>exact ih e
theorem FO.parts {c:Cl5} {K:Frag} {H:Hp} {sa ps:List Addr} {fs:List (Str × Kd)} (h:FO c K H sa ps fs) (more:List Addr):PR c K H (sa++more) ps fs:=by
 induction h with
 | nil=>exact .nil
 | cons t k _ ih=>exact .cons t rfl (k.more more) ih
def PL (c:Cl5) (K:Frag) (H:Hp) (sa:List Addr) (l:Addr) (ps:List (Str × Kd)):Prop:=∃ ts:List Addr,H l=some (.lst (ts.map V.ref))/\PR c K H sa ts ps
def spP (c:Cl5) (K:Frag) (F:Kd->Bool):Sp:=fun vs H Q _=>∃ (a:Addr) (kd:Kd) (sa:List Addr) (S:List Shp),vs=[.ref a]/\F kd=true/\kd.Fit S.length/\KO c K H sa a kd/\SW c K H sa S/\Good S/\∀ l H',Same H H'->H l=none->PL c K H' sa l (kd.parts S)->Q (.ref l) H'
def TPt (c:Cl5) (K:Frag):Addr->Sp->Prop:=fun C sp=>(C=c.nest/\sp=spP c K Kd.isNest)\/(C=c.many/\sp=spP c K Kd.isMany)
theorem callP {c:Cl5} {K:Frag} {H:Hp} {a:Addr} {kd:Kd} {sa:List Addr} {S:List Shp} {Q:VK} {E:XK} {m:Str} (hm:Nolk m) (hs:(∃ i,kd=.nest i)\/∃ n q,kd=.many n q) (hf:kd.Fit S.length) (ho:KO c K H sa a kd) (hw:SW c K H sa S) (hg:Good S)
  (q:∀ l H',Same H H'->H l=none->PL c K H' sa l (kd.parts S)->Q (.ref l) H'):∃ a' C dx fs sp,V.ref a=.ref a'/\H a'=some (.ins C dx fs)/\fs.lookup m=none/\TPt c K C sp/\sp [.ref a] H Q E:=by
 cases id ho with
 | num h=>rcases hs with⟨_,z⟩|⟨_,_,z⟩ <;> cases z
 | nest e h=>exact⟨_,_,_,_,_,rfl,h,(hm _ .non).2.1,.inl ⟨rfl,rfl⟩,a,_,sa,S,rfl,rfl,hf,ho,hw,hg,q⟩
 | many h _=>exact⟨_,_,_,_,_,rfl,h,(hm _ _).2.2.1,.inr ⟨rfl,rfl⟩,a,_,sa,S,rfl,rfl,hf,ho,hw,hg,q⟩
 | pick h _ _ _=>rcases hs with⟨_,z⟩|⟨_,_,z⟩ <;> cases z
theorem SW.at {c:Cl5} {K:Frag} {H:Hp} {sa:List Addr} {S:List Shp} (h:SW c K H sa S) {i:Nat} {a:Addr} (e:sa[i]?=some a):∃ s,S[i]?=some s/\SO c K H (sa.take i) a s:=by
 have hi:i < S.length:=by rw [← h.1];exact (List.getElem?_eq_some_iff.mp e).1
 exact⟨S[i],List.getElem?_eq_getElem hi,h.2 i a _ e (List.getElem?_eq_getElem hi)⟩
theorem SO.fields {c:Cl5} {K:Frag} {H:Hp} {sa:List Addr} {i:Nat} {a:Addr} {s:Shp} (h:SO c K H (sa.take i) a s):∃ dx t ps,H a=some (.ins c.shape dx [("name",.str s.1),("fields",.ref t)])/\SqT K H t (ps.map V.ref)/\PR c K H sa ps s.2:=by
 obtain⟨dx,t,ps,h1,h2,h3⟩:=h
 refine⟨dx,t,ps,h1,h2,?_⟩
 have:=h3.parts (sa.drop i)
 rw [List.take_append_drop] at this
 exact this
theorem small_len:∀ j:Nat,j < 6->(Str.ofString (toString j)).length=1:=by decide +kernel
theorem Kd.parts_ok {S:List Shp} (h:Good S) {k:Kd} {r:Nat} (hk:k.Fit S.length) (hr:k.Rk (r + 1)) {f:Str × Kd} (hf:f ∈ k.parts S):f.2.Rk r/\f.2.Fit S.length/\1<=f.1.length/\f.1.length<=6:=by
 cases k with
 | num w=>cases hf
 | nest i =>
  have hi:i < S.length:=hk
  have hs:S[i]?=some S[i]:=List.getElem?_eq_getElem hi
  have e:(Kd.nest i).parts S=S[i].2:=by show (S.getD i _).2=_;rw [List.getD_eq_getElem?_getD,hs];rfl
  rw [e] at hf
  obtain⟨g1,g2,g3⟩:=h.fit i _ hs f hf
  exact⟨g1.rk.mono (by have : 2 * i + 2<=r + 1:=hr;omega),g1.mono (by omega),g2,g3⟩
 | many n q =>
  obtain⟨j,hj,rfl⟩:=List.mem_map.mp hf
  have hj':j < 6:=Nat.lt_of_lt_of_le (List.mem_range.mp hj) hk.2.1
  have:=small_len j hj'
  refine⟨?_,?_,by show 1<=(Str.ofString (toString j)).length;omega,by show (Str.ofString (toString j)).length<=6;omega⟩
  ·rcases hr with⟨w,rfl,_⟩|⟨i,rfl,hi⟩
   ·exact True.intro
   ·show 2 * i + 2<=r;omega
  ·rcases hk.2.2 with⟨w,rfl,hw⟩|⟨i,rfl,hi⟩
   ·exact hw
   ·exact hi
 | pick is=>cases hf
def Kd.lv:Kd->Nat
 | .many _ _=>1
 | _=>0
theorem Kd.lv_le:∀ k:Kd,k.lv<=1
 | .num _=>Nat.zero_le _
 | .nest _=>Nat.zero_le _
 | .many _ _=>Nat.le_refl _
 | .pick _=>Nat.zero_le _
def LX (K:Frag) (H:Hp) (sl:Addr) (S:List Shp):Prop:=∃ as:List Addr,SqL K H sl (as.map V.ref)/\LW K H as S
theorem LX.same {K:Frag} {H H':Hp} {sl:Addr} {S:List Shp} (h:LX K H sl S) (g:Same H H'):LX K H' sl S:=by
 obtain⟨as,h1,h2⟩:=h
 exact⟨as,g.seq h1,h2.same g⟩
def spLV (K:Frag) (val:Kd->Tab->Nat):Nat->Sp
 | 0=>fun _ _ _ _=>False
 | r + 1=>fun vs H Q _=>∃ (a sl:Addr) (kd:Kd) (S:List Shp),vs=[.ref a,.ref sl]/\kd.Rk r/\kd.lv<=r/\kd.Fit S.length/\LK K H a kd/\LX K H sl S/\Good S/\∀ H',Same H H'->Q (.int (val kd (tabs S))) H'
def spLU (K:Frag):Nat->Sp
 | 0=>fun _ _ _ _=>False
 | r + 1=>fun vs H Q _=>∃ (a sl:Addr) (p:Str) (kd:Kd) (S:List Shp),vs=[.ref a,.ref sl,.str p]/\p.length + 8 * r<=200/\kd.Rk r/\kd.lv<=r/\kd.Fit S.length/\LK K H a kd/\LX K H sl S/\Good S ∧
  ∀ l H',Same H H'->H l=none->UL K H' l (un kd S p)->Q (.ref l) H'
def vSz (kd:Kd) (t:Tab):Nat:=kd.size t.sz
def vDp (kd:Kd) (t:Tab):Nat:=kd.depth t.dp
def sSz (i:Nat) (t:Tab):Nat:=t.sz.getD i 0
def sDp (i:Nat) (t:Tab):Nat:=t.dp.getD i 0
theorem KO.but {c:Cl5} {K:Frag} {H H':Hp} {l:Addr} {zs:List V} (g:But l H H') (hl:H l=some (.lst zs)) {sa:List Addr} {a:Addr} {k:Kd} (h:KO c K H sa a k):KO c K H' sa a k:=by
 have n:∀ {a C dx fs},H a=some (.ins C dx fs)->H' a=some (.ins C dx fs):=fun h=>g _ _ (ne_of h hl (by intro z;cases z)) h
 induction h with
 | num h=>exact .num (n h)
 | nest e h=>exact .nest e (n h)
 | many h _ ih=>exact .many (n h) ih
 | pick h t l e=>exact .pick (n h) (g.tup hl t) l e
theorem FO.but {c:Cl5} {K:Frag} {H H':Hp} {l:Addr} {zs:List V} (g:But l H H') (hl:H l=some (.lst zs)) {sa ps:List Addr} {fs:List (Str × Kd)} (h:FO c K H sa ps fs):FO c K H' sa ps fs:=by
 induction h with
 | nil=>exact .nil
 | cons t k _ ih=>exact .cons (g.tup hl t) (k.but g hl) ih
theorem SO.but {c:Cl5} {K:Frag} {H H':Hp} {l:Addr} {zs:List V} (g:But l H H') (hl:H l=some (.lst zs)) {sa:List Addr} {a:Addr} {s:Shp} (h:SO c K H sa a s):SO c K H' sa a s:=by
 obtain⟨dx,t,ps,h1,h2,h3⟩:=h
 exact⟨dx,t,ps,g _ _ (ne_of h1 hl (by intro z;cases z)) h1,g.tup hl h2,h3.but g hl⟩
theorem SW.but {c:Cl5} {K:Frag} {H H':Hp} {l:Addr} {zs:List V} (g:But l H H') (hl:H l=some (.lst zs)) {sa:List Addr} {S:List Shp} (h:SW c K H sa S):SW c K H' sa S:=⟨h.1,fun i a s h1 h2=>(h.2 i a s h1 h2).but g hl⟩
theorem But.from {l:Addr} {H H1 H2:Hp} (g:Same H H1) (hl:H l=none) (b:But l H1 H2):Same H H2:=fun x o q=>b x o (ne_of_none q hl) (g x o q)
theorem madeS {H:Hp} {x dx:Addr} {o u:HO} (hx:H x=none) (hd:H dx=none):Same H (upd (upd H dx o) x u):=fun b v q=>by
 rw [upd_ne (ne_of_none q hx),upd_ne (ne_of_none q hd)];exact q
theorem Same.putn {H H1:Hp} {a:Addr} {o:HO} (g:Same H H1) (h:H a=none):Same H (upd H1 a o):=fun b v q=>by
 rw [upd_ne (ne_of_none q h)];exact g _ _ q
theorem get_refs {ss:List Addr} {i:Nat} {x:V} (h:(ss.map V.ref)[i]?=some x):∃ s,ss[i]?=some s/\x=.ref s:=by
 rw [List.getElem?_map] at h
 cases e:ss[i]? with
 | none=>rw [e] at h;cases h
 | some c=>rw [e] at h;cases h;exact⟨c,rfl,rfl⟩
theorem map_snoc {α β : Type} {f : α->β} {l:List α} {i:Nat} {a : α} (h:l[i]?=some a):(l.take (i + 1)).map f=(l.take i).map f++[f a]:=by
 rw [List.take_add_one,h,List.map_append];rfl
theorem fm_snoc {α β : Type} {f : α->List β} {l:List α} {i:Nat} {a : α} (h:l[i]?=some a):(l.take (i + 1)).flatMap f=(l.take i).flatMap f++f a:=by
 rw [List.take_add_one,h,List.flatMap_append]
 show _++[a].flatMap f=_
 rw [List.flatMap_singleton]
theorem take_len {α : Type} {l:List α} : l.take l.length=l:=List.take_length
theorem maxI {ns:List Nat} {m:Int} (h1:m ∈ ns.map fun n:Nat=>(n:Int)) (h2:∀ n ∈ ns.map fun n:Nat=>(n:Int),n<=m):m=((maxL ns:Nat):Int):=by
 obtain⟨n,hn,rfl⟩:=List.mem_map.mp h1
 rw [← maxL_eq hn fun k hk=>by have:=h2 (k:Int) (List.mem_map_of_mem hk);omega]
theorem sumI:∀ ns:List Nat,(ns.map fun n:Nat=>(n:Int)).sum=((ns.sum:Nat):Int)
 | []=>rfl
 | n::ns=>by rw [List.map_cons,List.sum_cons,List.sum_cons,sumI ns];omega
theorem Kd.Rk.zero {n:Nat} : ∀ {k:Kd},k.Rk 0->k.Fit n->k.isNum=true
 | .num _,_,_=>rfl
 | .nest i,h,_=>by have : 2 * i + 2<=0:=h;omega
 | .many _ _,h,_=>by
  rcases h with⟨_,_,h⟩|⟨i,_,h⟩ <;> omega
 | .pick is,h,q=>by
  cases is with
  | nil=>exact absurd q.1 (by decide)
  | cons i _=>have:=h i (List.mem_cons_self ..);omega
theorem Kd.Rk.sub {n r:Nat} {k:Kd} (h:(Kd.many n k).Rk (r + 1)):k.Rk r:=by
 rcases h with⟨w,rfl,_⟩|⟨i,rfl,hi⟩
 ·exact True.intro
 ·show 2 * i + 2<=r;omega
theorem Kd.Fit.sub {n m:Nat} {k:Kd} (h:(Kd.many n k).Fit m):k.Fit m:=by
 rcases h.2.2 with⟨w,rfl,hw⟩|⟨i,rfl,hi⟩
 ·exact hw
 ·exact hi
theorem len2 {os:St} (h:os.length=2):∃ a b,os=[a,b]:=by
 match os,h with
 | [a,b],_=>exact⟨a,b,rfl⟩
theorem nolk {m:Str} (h:m = "size" ∨ m = "depth" ∨ m = "units_at" ∨ m = "parted"):Nolk m:=by
 rcases h with rfl|rfl|rfl|rfl <;> exact fun _ _=>⟨rfl,rfl,rfl,rfl⟩
theorem VRow.mono {P:Program} {w:World} {K:Frag} {mg:Str->Option Value} {base:Heap} {CX:CXT} {j k:Nat} {m:Str} {C:Addr} {sp:Sp} (h:VRow P w K mg base CX j m C sp) (hk:j<=k):VRow P w K mg base CX k m C sp:=by
 obtain⟨c,f,fd,ps,h1,h2,h3⟩:=h
 exact⟨c,f,fd,ps,h1,h2.mono hk,h3⟩
theorem noFn {P:Program} {w:World} {K:Frag} {mg:Str->Option Value} {base:Heap} {CX:CXT} {k:Nat} {f:Addr} {fd:FuncData} {ps:List Str} {sp:Sp} (h:∀ vs H Q E,sp vs H Q E->False):FnOk P w K mg base CX k f fd ps sp:=⟨fun vs H Q E q=>(h vs H Q E q).elim,fun _ _ _ H _ _ vs Q E _ _ _ _ q=>(h vs H Q E q).elim⟩
theorem noV {c:Cl5} {K:Frag} {F:Kd->Bool} {val:Kd->Tab->Nat} (hF:∀ k,F k=true->k.isNum=true->False):∀ vs H Q E,spV c K 0 F val vs H Q E->False:=fun vs H Q E ⟨a,kd,sa,S,_,h1,h2,h3,_⟩=>hF kd h1 (h2.zero h3)
theorem noU {c:Cl5} {K:Frag} {F:Kd->Bool} (hF:∀ k,F k=true->k.isNum=true->False):∀ vs H Q E,spU c K 0 F vs H Q E->False:=fun vs H Q E ⟨a,p,kd,sa,S,_,_,h1,h2,h3,_⟩=>hF kd h1 (h2.zero h3)
theorem nn1:∀ k:Kd,k.isNest=true->k.isNum=true->False:=fun k h g=>by cases k <;> first|exact Bool.false_ne_true h|exact Bool.false_ne_true g
theorem nn2:∀ k:Kd,k.isMany=true->k.isNum=true->False:=fun k h g=>by cases k <;> first|exact Bool.false_ne_true h|exact Bool.false_ne_true g
theorem nn3:∀ k:Kd,k.isPick=true->k.isNum=true->False:=fun k h g=>by cases k <;> first|exact Bool.false_ne_true h|exact Bool.false_ne_true g
theorem ff1:∀ k:Kd,k.isNest=true->(∃ i,k=.nest i)\/∃ n q,k=.many n q:=fun k h=>by
 cases k <;> first|exact .inl ⟨_,rfl⟩|cases h
theorem ff2:∀ k:Kd,k.isMany=true->(∃ i,k=.nest i)\/∃ n q,k=.many n q:=fun k h=>by
 cases k <;> first|exact .inr ⟨_,_,rfl⟩|cases h
inductive Itm where
 | sh (n:Str)
 | fd (n:Str) (k:Kd)
def itm1 (s:Shp):List Itm:=.sh s.1::s.2.map fun f=>.fd f.1 f.2
def itms (S:List Shp):List Itm:=S.flatMap itm1
def Itm.line (nm:Nat->Str):Itm->List Str
 | .sh n=>[Str.ofString "shape",n]
 | .fd n k=>n::k.words nm
theorem itms_lines (S:List Shp):txLines S=(itms S).map (Itm.line (nmOf S)):=by
 unfold txLines itms
 rw [List.map_flatMap]
 congr 1
 funext s
 unfold shLines itm1
 rw [List.map_cons,List.map_map]
 rfl
theorem itms_app (A B:List Shp):itms (A++B)=itms A++itms B:=List.flatMap_append
def StAt (S:List Shp) (j:Nat) (T:List Shp):Prop:=(∃ S2,S=T++S2/\j=(itms T).length)\/∃ S1 s S2 f1 f2,S=S1++s::S2/\s.2=f1++f2/\T=S1++[(s.1,f1)]/\j=(itms S1).length + 1 + f1.length
theorem StAt.start (S:List Shp):StAt S 0 []:=.inl ⟨S,rfl,rfl⟩
theorem StAt.next {S:List Shp} {j:Nat} {T:List Shp} (h:StAt S j T) (hj:j < (itms S).length):∃ S1 s S2,S=S1++s::S2 ∧
  (((itms S)[j]?=some (.sh s.1)/\T=S1/\StAt S (j + 1) (S1++[(s.1,[])]))\/∃ f1 n k f2,s.2=f1++(n,k)::f2/\(itms S)[j]?=some (.fd n k)/\T=S1++[(s.1,f1)]/\StAt S (j + 1) (S1++[(s.1,f1++[(n,k)])])):=by
 have one:∀ {T:List Shp} {S2:List Shp},S=T++S2->j=(itms T).length->∃ S1 s S2,S=S1++s::S2 ∧
  (((itms S)[j]?=some (.sh s.1)/\T=S1/\StAt S (j + 1) (S1++[(s.1,[])]))\/∃ f1 n k f2,s.2=f1++(n,k)::f2/\(itms S)[j]?=some (.fd n k)/\T=S1++[(s.1,f1)]/\StAt S (j + 1) (S1++[(s.1,f1++[(n,k)])])):=by
  intro T S2 e ej
  cases S2 with
  | nil=>rw [e,List.append_nil,← ej] at hj;exact absurd hj (Nat.lt_irrefl _)
  | cons s S2 =>
   refine⟨T,s,S2,e,.inl ⟨?_,rfl,.inr ⟨T,s,S2,[],s.2,e,rfl,rfl,by rw [ej];rfl⟩⟩⟩
   rw [e,itms_app,List.getElem?_append_right (by omega),ej,Nat.sub_self]
   rfl
 rcases h with⟨S2,e,ej⟩|⟨S1,s,S2,f1,f2,e,ef,eT,ej⟩
 ·exact one e ej
 ·cases f2 with
  | nil =>
   rw [List.append_nil] at ef
   have e2:T=S1++[s]:=by rw [eT,← ef]
   refine one (S2:=S2) (by rw [e,e2,List.append_assoc];rfl) ?_
   rw [e2,itms_app,List.length_append,ej]
   show _=_ + ([s].flatMap itm1).length
   rw [List.flatMap_singleton]
   unfold itm1
   rw [List.length_cons,List.length_map,ef]
   omega
  | cons f f2 =>
   refine⟨S1,s,S2,e,.inr ⟨f1,f.1,f.2,f2,ef,?_,eT,.inr ⟨S1,s,S2,f1++[(f.1,f.2)],f2,e,by rw [ef,List.append_assoc];rfl,rfl,by rw [ej,List.length_append];rfl⟩⟩⟩
   rw [e,itms_app,List.getElem?_append_right (by omega),show j - (itms S1).length=f1.length + 1 by omega]
   show ((itm1 s)++itms S2)[f1.length + 1]?=_
   unfold itm1
   rw [List.cons_append,List.getElem?_cons_succ,List.getElem?_append_left (by rw [List.length_map,ef,List.length_append,List.length_cons];omega),List.getElem?_map,ef,List.getElem?_append_right (Nat.le_refl _),Nat.sub_self]
   rfl
theorem itms_ne {A:List Shp} (h:A ≠ []) : 0 < (itms A).length:=by
 cases A with
 | nil=>exact absurd rfl h
 | cons a A=>exact Nat.succ_pos _
theorem StAt.done {S:List Shp} {T:List Shp} (h:StAt S (itms S).length T):T=S:=by
 rcases h with⟨S2,e,ej⟩|⟨S1,s,S2,f1,f2,e,ef,eT,ej⟩
 ·cases S2 with
  | nil=>rw [e,List.append_nil]
  | cons s S2 =>
   rw [e,itms_app,List.length_append] at ej
   have:=itms_ne (A:=s::S2) (by simp)
   omega
 ·rw [e,itms_app,List.length_append,show itms (s::S2)=itm1 s++itms S2 from rfl,List.length_append] at ej
  unfold itm1 at ej
  rw [List.length_cons,List.length_map,ef,List.length_append] at ej
  have h2:f2=[]:=List.length_eq_zero_iff.mp (by omega)
  have h3:S2=[]:=by
   cases S2 with
   | nil=>rfl
   | cons a A=>have:=itms_ne (A:=a::A) (by simp);omega
  rw [eT,e,h3]
  subst h2
  rw [List.append_nil] at ef
  rw [← ef]
theorem atI_lastR (sa:List Addr) (z:Addr):atI ((sa++[z]).map V.ref) (-1)=some (.ref z):=by
 have l:((sa++[z]).map V.ref).length=sa.length + 1:=by rw [List.length_map,List.length_append];rfl
 have e:ixN (sa.length + 1) (-1)=some sa.length:=by
  unfold ixN
  rw [if_neg (by omega),if_pos (by omega)]
  congr 1
  omega
 unfold atI
 rw [l,e]
 show ((sa++[z]).map V.ref)[sa.length]?=_
 rw [List.map_append,List.getElem?_append_right (by rw [List.length_map];exact Nat.le_refl _),List.length_map,Nat.sub_self]
 rfl
theorem ixN_last (sa:List Addr) (z:Addr):ixN ((sa++[z]).map V.ref).length (-1)=some sa.length:=by
 rw [List.length_map,List.length_append,List.length_singleton]
 unfold ixN
 rw [if_neg (by omega),if_pos (by omega)]
 congr 1
 omega
theorem set_last (sa:List Addr) (z y:Addr):((sa++[z]).map V.ref).set sa.length (.ref y)=(sa++[y]).map V.ref:=by
 rw [List.map_append,List.map_append,List.set_append_right _ _ (by rw [List.length_map];exact Nat.le_refl _),List.length_map,Nat.sub_self]
 rfl
theorem cutA (xs:List V) (k:Nat):cutV xs (some (k:Int)) none=xs.drop k:=by
 unfold cutV
 rw [HT.sIx_none,HT.sIx_nat]
 have e:xs.drop (min k xs.length)=xs.drop k:=by
  by_cases h:k<=xs.length
  ·rw [Nat.min_eq_left h]
  ·rw [Nat.min_eq_right (by omega),List.drop_length,List.drop_eq_nil_of_le (by omega)]
 rw [e,List.take_of_length_le]
 rw [List.length_drop]
 omega
theorem cutA1 (x:V) (xs:List V):cutV (x::xs) (some 1) none=xs:=cutA (x::xs) 1
theorem cutA2 (x y:V) (xs:List V):cutV (x::y::xs) (some 2) none=xs:=cutA (x::y::xs) 2
theorem at0 {x:V} {xs:List V} : atI (x::xs) 0=some x:=atI_nat (j:=0) rfl
theorem at1 {x y:V} {xs:List V} : atI (x::y::xs) 1=some y:=atI_nat (j:=1) rfl
theorem cutB (xs:List V) (k:Nat):cutV xs none (some (k:Int))=xs.take k:=by
 unfold cutV
 rw [HT.sIx_none,HT.sIx_nat,List.drop_zero,Nat.sub_zero]
 by_cases h:k<=xs.length
 ·rw [Nat.min_eq_left h]
 ·rw [Nat.min_eq_right (by omega),List.take_length,List.take_of_length_le (by omega)]
theorem cutC (sa:List Addr) (z:Addr):cutV ((sa++[z]).map V.ref) none (some (-1))=sa.map V.ref:=by
 unfold cutV
 rw [HT.sIx_none,List.drop_zero,Nat.sub_zero]
 have l:((sa++[z]).map V.ref).length=sa.length + 1:=by rw [List.length_map,List.length_append];rfl
 have e:HT.sIx ((sa++[z]).map V.ref).length ((sa++[z]).map V.ref).length (some (-1))=(sa.map V.ref).length:=by
  rw [l,List.length_map]
  show (if (-1:Int) < 0 then ((-1:Int) + ((sa.length + 1:Nat):Int)).toNat else min (-1:Int).toNat (sa.length + 1))=_
  rw [if_pos (by decide)]
  omega
 rw [e,List.map_append,List.take_left' rfl]
def dk (T:List Shp) (sa:List Addr):List (Key × V):=List.zipWith (fun (s:Shp) (a:Addr)=>((.inr s.1:Key),V.ref a)) T sa
theorem dk_get {T:List Shp} {sa:List Addr} (hn:(T.map (·.1)).Nodup):∀ {i:Nat} {s:Shp} {a:Addr},T[i]?=some s->sa[i]?=some a->valV (dk T sa) (.inr s.1)=some (.ref a):=by
 induction T generalizing sa with
 | nil=>intro i s a h;simp at h
 | cons t T ih =>
  intro i s a h1 h2
  cases sa with
  | nil=>simp at h2
  | cons b sa =>
   cases i with
   | zero =>
    cases h1
    cases h2
    unfold dk valV
    rw [List.zipWith_cons_cons,List.find?_cons_of_pos (by simp)]
    rfl
   | succ i =>
    have hn':=List.nodup_cons.mp (show (t.1::T.map (·.1)).Nodup from hn)
    have:=ih hn'.2 (sa:=sa) h1 h2
    unfold dk valV at this ⊢
    rw [List.zipWith_cons_cons,List.find?_cons_of_neg]
    ·exact this
    ·intro z
     have z2:t.1=s.1:=Sum.inr.inj (show (Sum.inr t.1:Key)=.inr s.1 from of_decide_eq_true z)
     have h1':T[i]?=some s:=h1
     exact hn'.1 (by rw [z2];exact List.mem_map_of_mem (List.mem_of_getElem? h1'))
theorem putK_newK {kvs:List (Key × V)} {k:Key} {v:V} (h:∀ x ∈ kvs,x.1 ≠ k):putK kvs k v=kvs++[(k,v)]:=by
 unfold putK
 first
 | rw [if_neg (by simp only [List.any_eq_true,not_exists];rintro x ⟨hx,z⟩;exact h x hx (of_decide_eq_true z))]
 | (split
    · rename_i z
      simp only [List.any_eq_true] at z
      obtain⟨x,hx,z⟩:=z
      exact absurd (by simpa using z) (h x hx)
    · rfl)
theorem zip_snoc {α β γ : Type} (f : α->β->γ):∀ {xs:List α} {ys:List β} {x : α} {y : β},xs.length=ys.length->List.zipWith f (xs++[x]) (ys++[y])=List.zipWith f xs ys++[f x y]
 | [],[],_,_,_=>rfl
 | a::xs,b::ys,x,y,h=>by
  rw [List.cons_append,List.cons_append,List.zipWith_cons_cons,List.zipWith_cons_cons,zip_snoc f (Nat.succ.inj h)];rfl
theorem dk_snoc {T:List Shp} {sa:List Addr} {j:Nat} {s:Shp} {a:Addr} (h1:T[j]?=some s) (h2:sa[j]?=some a):dk (T.take (j + 1)) (sa.take (j + 1))=dk (T.take j) (sa.take j)++[(.inr s.1,.ref a)]:=by
 unfold dk
 rw [List.take_add_one,List.take_add_one,h1,h2]
 refine zip_snoc _ ?_
 rw [List.length_take,List.length_take]
 have:=(List.getElem?_eq_some_iff.mp h1).1
 have:=(List.getElem?_eq_some_iff.mp h2).1
 omega
theorem dk_keys {T:List Shp} {sa:List Addr} : ∀ x ∈ dk T sa,∃ s ∈ T,x.1=.inr s.1:=by
 induction T generalizing sa with
 | nil=>intro x hx;cases sa <;> simp [dk] at hx
 | cons t T ih =>
  intro x hx
  cases sa with
  | nil=>simp [dk] at hx
  | cons a sa =>
   unfold dk at hx
   rw [List.zipWith_cons_cons] at hx
   rcases List.mem_cons.mp hx with rfl|hx
   ·exact⟨t,List.mem_cons_self ..,rfl⟩
   ·obtain⟨s,hs,e⟩:=ih x hx
    exact⟨s,List.mem_cons_of_mem _ hs,e⟩
theorem SW.init {c:Cl5} {K:Frag} {H:Hp} {sa:List Addr} {z:Addr} {T:List Shp} {s:Shp} (h:SW c K H (sa++[z]) (T++[s])):SW c K H sa T/\SO c K H sa z s:=by
 have hl:sa.length=T.length:=by have:=h.1;rw [List.length_append,List.length_append] at this;exact Nat.succ.inj this
 refine⟨⟨hl,fun i a u h1 h2=>?_⟩,?_⟩
 ·have hi:i < sa.length:=(List.getElem?_eq_some_iff.mp h1).1
  have:=h.2 i a u (get_app h1) (by rw [List.getElem?_append_left (by omega)];exact h2)
  rw [List.take_append_of_le_length (by omega)] at this
  exact this
 ·have:=h.2 sa.length z s (by rw [List.getElem?_append_right (Nat.le_refl _),Nat.sub_self];rfl) (by rw [hl,List.getElem?_append_right (Nat.le_refl _),Nat.sub_self];rfl)
  rw [List.take_left' rfl] at this
  exact this
theorem jn_len (c:Nat):∀ ps:List (List Nat),(jn c ps).length<=(ps.map (·.length)).sum + ps.length
 | []=>Nat.le_refl _
 | [p]=>by show p.length<=(p.length + 0) + 1;omega
 | p::q::r=>by
  have ih:=jn_len c (q::r)
  show (p++c::jn c (q::r)).length<=_
  rw [List.length_append,List.length_cons,List.map_cons,List.sum_cons,List.length_cons]
  omega
theorem sum_le {α : Type} {f : α->Nat} {m:Nat} : ∀ {l:List α},(∀ x ∈ l,f x<=m)->(l.map f).sum<=l.length * m
 | [],_=>Nat.zero_le _
 | x::l,h=>by
  have h1:=h x (List.mem_cons_self ..)
  have h2:=sum_le (f:=f) (l:=l) fun y hy=>h y (List.mem_cons_of_mem _ hy)
  rw [List.map_cons,List.sum_cons,List.length_cons,Nat.succ_mul]
  omega
theorem join_len {c:Nat} {ws:List Str} {m:Nat} (h:∀ w ∈ ws,w.length<=m):(Str.join ⟨#[c]⟩ ws).length<=ws.length * (m + 1):=by
 have e:(Str.join ⟨#[c]⟩ ws).length=(jn c (ws.map fun w=>w.cps.toList)).length:=by
  rw [← join_jn];exact (Array.length_toList).symm
 rw [e]
 refine Nat.le_trans (jn_len _ _) ?_
 rw [List.map_map,List.length_map,Nat.mul_add,Nat.mul_one]
 exact Nat.add_le_add_right (sum_le fun w hw=>by show w.cps.toList.length<=m;rw [Array.length_toList];exact h w hw) _
theorem get_nats {ns:List Nat} {i:Nat} {x:V} (h:(ns.map fun n:Nat=>V.int n)[i]?=some x):∃ c:Nat,ns[i]?=some c/\x=.int c:=by
 rw [List.getElem?_map] at h
 cases e:ns[i]? with
 | none=>rw [e] at h;cases h
 | some c=>rw [e] at h;cases h;exact⟨c,rfl,rfl⟩
theorem at_ref {ss:List Addr} {i:Nat} {s:Addr} (h:ss[i]?=some s):atI (ss.map V.ref) (i:Int)=some (.ref s):=atI_nat (by rw [List.getElem?_map,h];rfl)
theorem at_str {ss:List Str} {i:Nat} {s:Str} (h:ss[i]?=some s):atI (ss.map V.str) (i:Int)=some (.str s):=atI_nat (by rw [List.getElem?_map,h];rfl)
theorem LX.at {K:Frag} {H:Hp} {sl:Addr} {S:List Shp} (h:LX K H sl S) {i:Nat} (hi:i < S.length):∃ (as:List Addr) (s l:Addr) (ps:List Addr),SqL K H sl (as.map V.ref)/\as[i]?=some s/\SqT K H s [.str (S[i]).1,.ref l]/\SqL K H l (ps.map V.ref)/\LF K H ps (S[i]).2:=by
 obtain⟨as,h1,h2⟩:=h
 have hl:=h2.len
 have ha:as[i]?=some (as[i]'(by omega)):=List.getElem?_eq_getElem _
 obtain⟨s,hs,l,ps,q1,q2,q3⟩:=h2.get ha
 rw [List.getElem?_eq_getElem hi] at hs
 cases hs
 exact⟨as,_,l,ps,h1,ha,q1,q2,q3⟩
def offs (xs:List Addr) (H:Hp):Hp:=fun b=>if b ∈ xs then none else H b
theorem offs_at {xs:List Addr} {a:Addr} {H:Hp} {o:HO} (n:a ∉ xs) (h:H a=some o):offs xs H a=some o:=by unfold offs;rw [if_neg n];exact h
theorem offs_same {xs:List Addr} {H:Hp} : Same (offs xs H) H:=fun b o q=>by
 unfold offs at q
 split at q
 ·cases q
 ·exact q
theorem offs_but {xs:List Addr} {H H':Hp} (h:∀ b o,b ∉ xs->H b=some o->H' b=some o):Same (offs xs H) (offs xs H'):=fun b o q=>by
 unfold offs at q ⊢
 split at q
 ·cases q
 ·rename_i n
  rw [if_neg n]
  exact h b o n q
theorem offs_mono {xs:List Addr} {H H':Hp} (g:Same H H'):Same (offs xs H) (offs xs H'):=offs_but fun b o _ q=>g b o q
theorem offs_sub {xs ys:List Addr} {H:Hp} (h:∀ b,b ∈ xs->b ∈ ys):Same (offs ys H) (offs xs H):=fun b o q=>by
 unfold offs at q ⊢
 split at q
 ·cases q
 ·rename_i n
  rw [if_neg fun z=>n (h b z)]
  exact q
def Al (xs:List Addr) (H:Hp):Prop:=∀ b ∈ xs,∃ o,H b=some o
theorem Al.same {xs:List Addr} {H H':Hp} (h:Al xs H) (g:Same H H'):Al xs H':=fun b hb=>by
 obtain⟨o,ho⟩:=h b hb
 exact⟨o,g _ _ ho⟩
theorem Al.new {xs:List Addr} {H:Hp} {t:Addr} (h:Al xs H) (ht:H t=none):t ∉ xs:=fun z=>by
 obtain⟨o,ho⟩:=h t z
 rw [ht] at ho
 cases ho
abbrev Hold:=Str × Nat
abbrev Row4:=Str × Nat × Nat × List Hold
def lj (p x:Str):Str:=if p.length=0 then x else if x.length=0 then p else p++Str.ofString "." ++ x
def ahd (st:Str) (m:Int) (x:Row4):Row4:=(lj st x.1,x.2.1,((x.2.2.1:Int) + m).toNat,x.2.2.2.map fun h=>(lj st h.1,h.2))
def ahead (st:Str) (rows:List Row4) (m:Int):List Row4:=rows.map (ahd st m)
def psz (S:List Shp) (fs:List (Str × Kd)):Nat:=(fs.map fun f=>f.2.size (tabs S).sz).sum
def insF (S:List Shp) (f:Kd->List Row4):Nat->List (Str × Kd)->List Row4
 | _,[]=>[]
 | o,x::xs=>ahead x.1 (f x.2) o++insF S f (o + x.2.size (tabs S).sz) xs
def pickR (n:Nat) (x:Row4):Row4:=(x.1,x.2.1,x.2.2.1,(Str.empty,n)::x.2.2.2)
def ins (S:List Shp):Nat->Kd->List Row4
 | 0,.num w=>[(Str.empty,w,0,[])]
 | 0,_=>[]
 | r + 1,.num w=>[(Str.empty,w,0,[])]
 | r + 1,.nest i=>insF S (ins S r) 0 ((Kd.nest i).parts S)
 | r + 1,.many n k=>insF S (ins S r) 0 ((Kd.many n k).parts S)
 | r + 1,.pick is=>(Str.ofString "tag",1,0,[])::(List.range is.length).flatMap fun n=>(ahead (nmOf S (is.getD n 0)) (ins S r (.nest (is.getD n 0))) 1).map (pickR n)
end L2
namespace L2
open PySem PySem.Spec PyProof.Rows
theorem KV.get:∀ {kvs:List (Key × V)} {vs:List (Key × Value)},KV kvs vs->∀ {i:Nat} {kv:Key × V},kvs[i]?=some kv->∃ u,vs[i]?=some (kv.1,u)
 | _,_,.nil,_,_,e=>by simp at e
 | _,_,.cons (a:=p) (b:=q) r _,0,kv,e=>by
  simp at e;subst e
  exact⟨q.2,by simp [r.1]⟩
 | _,_,.cons _ t,i + 1,kv,e=>by
  obtain⟨u,h⟩:=KV.get t (i:=i) (kv:=kv) (by simpa using e)
  exact⟨u,by simpa using h⟩
end L2
namespace L2.TX
open PySem PySem.Spec PyProof.Rows
section
variable {prog:Program} {w:World} {A:Around} {R:Result->Shared->Prop} {I:Addr} {fp wr:List Addr} {G:Array GenState->Array GenState->Prop} {n:Nat} {P:Nat->Value->Prop} {St:Nat->Shared->Prop}
end
end L2.TX
namespace L2
open PySem PySem.Spec PyProof.Rows
structure InsC (K:Frag) (C:Addr):Prop where
 cl:Cls K C
 ha:findIn K (.ref C) "__class__" = some (some (.builtin "object.__class__"))
 hn:PySem.W.specialIn K (.builtin "object.__class__") "__get__" = some (some (.builtin "getset_descriptor.__get__"))
 htk:PySem.W.takesIn K (.builtin "object.__class__")=some true
 hm:PySem.W.mroIn K C (.type "object")=some true
theorem InsC.ty {K:Frag} {C:Addr} (c:InsC K C) {H:Hp} {a dx:Addr} {fs:List (Str × V)} (e:H a=some (.ins C dx fs)):TyOf K H (.ref a) (.ref C):=.ins e c.cl c.ha c.hn c.htk c.hm
theorem call_isO {X:Cx} {K:Frag} (hK:X.K=K):CallR X (.builtin "isinstance") (fun xs H Q=>∃ (x:V) (D:Addr) (t:Value) (b:Bool),xs=[x,.ref D]/\TyOf K H x t/\PySem.W.kitOne K t (.ref D)=some b/\Q (.bl b) H):=by
 intro pins s σ H xs us Q I r h
 obtain⟨x,D,t,b,rfl,ht,hk,q⟩:=h
 subst hK
 obtain⟨u,w',rfl,rx,rD⟩:=vals2 r
 cases rD
 exact isinst_ok I rx ht hk fun tk=>⟨.bl b,H,I.tok tk,rfl,q⟩
section
variable {P:Program} {w:World} {A:Around} {E:Value->Shared->Prop} {s:Shared}
structure ZpM (b c2:Bool) (h:Heap) (z ti to j1 j2 a1 a2:Addr) (n:Nat):Prop where
 z:IsZip h z ti to .none
 ti:IsPair h ti (.ref j1) (.ref j2)
 to:∃ p q,IsPair h to p q
 i1:IsIt2 b h j1 a1 n
 i2:IsIt2 c2 h j2 a2 n
theorem zpItemM {b c2:Bool} {z ti to j1 j2 a1 a2:Addr} {n:Nat} {us vs:Array Value} {u v:Value} {Q:Option Value->Shared->Prop} (D:ZipApart z ti to j1 j2 a1 a2) (hz:ZpM b c2 s.heap z ti to j1 j2 a1 a2 n)
  (g1:IsSq2 b s.heap a1 us) (g2:IsSq2 c2 s.heap a2 vs) (hu:us[n]?=some u) (hv:vs[n]?=some v)
  (k:∀ g,IsZip g z ti to (rawInt s.heap.objs.size)->IsPair g to u v->IsIt2 b g j1 a1 (n + 1)->IsIt2 c2 g j2 a2 (n + 1)->IsPair g s.heap.objs.size u v →
   (∀ c o,c ∉ [z,to,j1,j2]->s.heap.get? c=some o->g.get? c=some o)->Q (some (.ref s.heap.objs.size)) { s with heap:=g }):wpAny (model P w) A (pyNext (.ref z)) Q E s:=by
 obtain⟨hz,hi,⟨p,q,ho⟩,h1,h2⟩:=hz
 have ty:s.TypeIs (.ref z) "zip":=⟨_,hz,rfl⟩
 unfold pyNext
 refine wpAny_bind (wpAny_attempt (wpAny_callSpecial?_slot (name:=Str.ofString "__next__") ty F.slot_zip_next (wpAny_call_entry F.slot_zip_next ty F.entry_zip_next ?_ (F.args_zip_next_1 _))))
 show wpAny _ _ (field (.ref z) 2 >>= fun _=>_) _ _ _
 refine wpAny_bind (wpAny_field hz rfl (x:=.bool false) rfl ?_)
 show wpAny _ _ (field (.ref z) 3 >>= fun _=>_) _ _ _
 refine wpAny_bind (wpAny_field hz rfl (x:=.ref ti) rfl ?_)
 refine wpAny_bind (wpAny_seqItems hi rfl ?_)
 show wpAny _ _ (Builtin.SmallTypes.ownedTupleIsFree (.ref z) >>= fun _=>_) _ _ _
 refine wpAny_bind ?_
 unfold Builtin.SmallTypes.ownedTupleIsFree
 refine wpAny_bind (wpAny_field hz rfl (x:=Value.none) rfl (wpAny_pure ?_))
 simp only [if_true]
 refine wpAny_bind (wpAny_rule ?_)
 refine wpAny_bind (wpAny_field hz rfl (x:=.ref to) rfl ?_)
 refine wpAny_bind (wpAny_setField_rec hz (by simp) fun e1 z1 s1=>?_)
 replace z1:IsZip e1 z ti to .ellipsis:=z1
 refine wpAny_bind ?_
 simp only [List.zipIdx_cons,List.zipIdx_nil,List.forIn_cons,List.forIn_nil]
 have x1:=s1.extBut
 refine wpAny_bind (wpAny_bind (wpAny_onRaise ?_))
 show wpAny _ _ (Builtin.SmallTypes.nextOf (.ref j1) >>= fun _=>_) _ _ _
 refine wpAny_bind (sqNext (h1.keep fun o e=>x1 _ o D.i1z e) (g1.keep fun o e=>x1 _ o D.l1z e) hu fun e2 m2 s2=>wpAny_pure ?_)
 have x2:=s2.extBut
 have o2:IsPair e2 to p q:=x2 _ _ D.TOi1 (x1 _ _ D.TOz ho)
 refine wpAny_bind (wpAny_seqItems o2 rfl ?_)
 refine wpAny_bind (wpAny_updateSeq_pair o2 fun e3 o3 s3=>?_)
 replace o3:IsPair e3 to u q:=o3
 have x3:=s3.extBut
 refine wpAny_bind (wpAny_letGo (wpAny_pure ?_))
 refine wpAny_bind (wpAny_bind (wpAny_onRaise ?_))
 show wpAny _ _ (Builtin.SmallTypes.nextOf (.ref j2) >>= fun _=>_) _ _ _
 refine wpAny_bind (sqNext (h2.keep fun o e=>x3 _ o D.TOi2.symm (x2 _ o D.i12.symm (x1 _ o D.i2z e))) (g2.keep fun o e=>x3 _ o D.l2TO (x2 _ o D.l2i1 (x1 _ o D.l2z e))) hv fun e4 m4 s4=>wpAny_pure ?_)
 have x4:=s4.extBut
 have o4:IsPair e4 to u q:=x4 _ _ D.TOi2 o3
 refine wpAny_bind (wpAny_seqItems o4 rfl ?_)
 refine wpAny_bind (wpAny_updateSeq_pair o4 fun e5 o5 s5=>?_)
 replace o5:IsPair e5 to u v:=o5
 have x5:=s5.extBut
 refine wpAny_bind (wpAny_letGo (wpAny_pure (wpAny_pure ?_)))
 refine wpAny_bind (wpAny_seqItems o5 rfl ?_)
 refine wpAny_bind (wpAny_newTuple ?_)
 have sz:e5.objs.size=s.heap.objs.size:=by rw [s5.1,s4.1,s3.1,s2.1,s1.1]
 have z5:IsZip e5 z ti to .ellipsis:=x5 _ _ D.TOz.symm (x4 _ _ D.i2z.symm (x3 _ _ D.TOz.symm (x2 _ _ D.i1z.symm z1)))
 have k5:∀ c o,c ∉ [z,to,j1,j2]->s.heap.get? c=some o->e5.get? c=some o:=fun c o hc e=>by
  simp only [List.mem_cons,List.not_mem_nil,or_false,not_or] at hc
  exact x5 _ _ hc.2.1 (x4 _ _ hc.2.2.2 (x3 _ _ hc.2.1 (x2 _ _ hc.2.2.1 (x1 _ _ hc.1 e))))
 have m25:IsIt2 b e5 j1 a1 (n + 1):=m2.keep fun o e=>x5 _ o D.TOi1.symm (x4 _ o D.i12 (x3 _ o D.TOi1.symm e))
 have m45:IsIt2 c2 e5 j2 a2 (n + 1):=m4.keep fun o e=>x5 _ o D.TOi2.symm e
 have lz:z < e5.objs.size:=Heap.lt_size z5
 show wpAny _ _ (Builtin.SmallTypes.ownedTupleHandOut (.ref z) (.ref e5.objs.size) >>= fun _=>_) _ _ _
 refine wpAny_bind ?_
 unfold Builtin.SmallTypes.ownedTupleHandOut
 have z6:IsZip (e5.push { cls:=.type "tuple",data:=.seq #[u,v] }) z ti to .ellipsis:=Heap.get?_push_of_some _ z5
 refine wpAny_bind (wpAny_setField_rec z6 (by simp) fun e7 z7 s7=>?_)
 replace z7:IsZip e7 z ti to (rawInt e5.objs.size):=z7
 refine wpAny_setField_rec z7 (by simp) fun e8 z8 s8=>?_
 replace z8:IsZip e8 z ti to (rawInt e5.objs.size):=z8
 have up:∀ c o,c ≠ z->e5.get? c=some o->e8.get? c=some o:=fun c o c1 e=>s8.extBut _ _ c1 (s7.extBut _ _ c1 (Heap.get?_push_of_some _ e))
 have t8:IsPair e8 e5.objs.size u v:=s8.extBut _ _ (Nat.ne_of_gt lz) (s7.extBut _ _ (Nat.ne_of_gt lz) (Heap.get?_push_size _ rfl))
 rw [sz] at z8 t8
 refine wpAny_pure ⟨_,rfl,wpAny_pure ?_⟩
 rw [sz]
 exact k e8 z8 (up _ _ D.TOz o5) (m25.keep fun o e=>up _ o D.i1z e) (m45.keep fun o e=>up _ o D.i2z e) t8 fun c o hc e=>up c o (fun x=>hc (by simp [x])) (k5 c o hc e)
theorem zpEndM {b c2:Bool} {z ti to j1 j2 a1 a2:Addr} {n:Nat} {us vs:Array Value} {Q:Option Value->Shared->Prop} (hh:A.handled=none) (D:ZipApart z ti to j1 j2 a1 a2) (hz:ZpM b c2 s.heap z ti to j1 j2 a1 a2 n)
  (g1:IsSq2 b s.heap a1 us) (g2:IsSq2 c2 s.heap a2 vs) (hend:us[n]?=none\/vs[n]?=none)
  (k:∀ g,(∀ c o,c ∉ [z,to,j1,j2]->s.heap.get? c=some o->g.get? c=some o)->Q none { s with heap:=g }):wpAny (model P w) A (pyNext (.ref z)) Q E s:=by
 obtain⟨hz,hi,⟨p,q,ho⟩,h1,h2⟩:=hz
 have ty:s.TypeIs (.ref z) "zip":=⟨_,hz,rfl⟩
 have nx:∀ c,c ∉ [z,to,j1,j2]->c ≠ z/\c ≠ to/\c ≠ j1/\c ≠ j2:=fun c hc=>by simpa only [List.mem_cons,List.not_mem_nil,or_false,not_or] using hc
 unfold pyNext
 refine wpAny_bind (wpAny_attempt (wpAny_callSpecial?_slot (name:=Str.ofString "__next__") ty F.slot_zip_next (wpAny_call_entry F.slot_zip_next ty F.entry_zip_next ?_ (F.args_zip_next_1 _))))
 show wpAny _ _ (field (.ref z) 2 >>= fun _=>_) _ _ _
 refine wpAny_bind (wpAny_field hz rfl (x:=.bool false) rfl ?_)
 show wpAny _ _ (field (.ref z) 3 >>= fun _=>_) _ _ _
 refine wpAny_bind (wpAny_field hz rfl (x:=.ref ti) rfl ?_)
 refine wpAny_bind (wpAny_seqItems hi rfl ?_)
 show wpAny _ _ (Builtin.SmallTypes.ownedTupleIsFree (.ref z) >>= fun _=>_) _ _ _
 refine wpAny_bind ?_
 unfold Builtin.SmallTypes.ownedTupleIsFree
 refine wpAny_bind (wpAny_field hz rfl (x:=Value.none) rfl (wpAny_pure ?_))
 simp only [if_true]
 refine wpAny_bind (wpAny_rule ?_)
 refine wpAny_bind (wpAny_field hz rfl (x:=.ref to) rfl ?_)
 refine wpAny_bind (wpAny_setField_rec hz (by simp) fun e1 z1 s1=>?_)
 replace z1:IsZip e1 z ti to .ellipsis:=z1
 refine wpAny_bind ?_
 simp only [List.zipIdx_cons,List.zipIdx_nil,List.forIn_cons,List.forIn_nil]
 have x1:=s1.extBut
 refine wpAny_bind (wpAny_bind (wpAny_onRaise ?_))
 show wpAny _ _ (Builtin.SmallTypes.nextOf (.ref j1) >>= fun _=>_) _ _ _
 cases hu:us[n]? with
 | none =>
  refine wpAny_bind (sqEnd hh (h1.keep fun o e=>x1 _ o D.i1z e) (g1.keep fun o e=>x1 _ o D.l1z e) hu fun e2 x s2 hx=>?_)
  obtain⟨ox,ex,cx⟩:=hx
  have z2:IsZip e2 z ti to .ellipsis:=s2 _ _ D.i1z.symm z1
  have nz:x ≠ z:=fun y=>by subst y;rw [z2] at ex;cases ex;simp at cx
  refine wpAny_setField_rec z2 (by simp) fun e3 _ s3=>?_
  refine wpAny_bind (wpAny_isInstance (T:="StopIteration") (b:=true) ⟨ox,s3.extBut _ _ nz ex,cx⟩ isSubtype_stop ?_)
  refine wpAny_pure (k _ fun c o hc e=>?_)
  exact s3.extBut _ _ (nx c hc).1 (s2 _ _ (nx c hc).2.2.1 (x1 _ _ (nx c hc).1 e))
 | some u =>
  have hv:vs[n]?=none:=by
   rcases hend with y|y
   ·rw [hu] at y;cases y
   ·exact y
  refine wpAny_bind (sqNext (h1.keep fun o e=>x1 _ o D.i1z e) (g1.keep fun o e=>x1 _ o D.l1z e) hu fun e2 m2 s2=>wpAny_pure ?_)
  have x2:=s2.extBut
  have o2:IsPair e2 to p q:=x2 _ _ D.TOi1 (x1 _ _ D.TOz ho)
  refine wpAny_bind (wpAny_seqItems o2 rfl ?_)
  refine wpAny_bind (wpAny_updateSeq_pair o2 fun e3 o3 s3=>?_)
  have x3:=s3.extBut
  refine wpAny_bind (wpAny_letGo (wpAny_pure ?_))
  refine wpAny_bind (wpAny_bind (wpAny_onRaise ?_))
  show wpAny _ _ (Builtin.SmallTypes.nextOf (.ref j2) >>= fun _=>_) _ _ _
  refine wpAny_bind (sqEnd hh (h2.keep fun o e=>x3 _ o D.TOi2.symm (x2 _ o D.i12.symm (x1 _ o D.i2z e))) (g2.keep fun o e=>x3 _ o D.l2TO (x2 _ o D.l2i1 (x1 _ o D.l2z e))) hv fun e4 x s4 hx=>?_)
  obtain⟨ox,ex,cx⟩:=hx
  have z4:IsZip e4 z ti to .ellipsis:=s4 _ _ D.i2z.symm (x3 _ _ D.TOz.symm (x2 _ _ D.i1z.symm z1))
  have nz:x ≠ z:=fun y=>by subst y;rw [z4] at ex;cases ex;simp at cx
  refine wpAny_setField_rec z4 (by simp) fun e5 _ s5=>?_
  refine wpAny_bind (wpAny_isInstance (T:="StopIteration") (b:=true) ⟨ox,s5.extBut _ _ nz ex,cx⟩ isSubtype_stop ?_)
  refine wpAny_pure (k _ fun c o hc e=>?_)
  exact s5.extBut _ _ (nx c hc).1 (s4 _ _ (nx c hc).2.2.2 (x3 _ _ (nx c hc).2.1 (x2 _ _ (nx c hc).2.2.1 (x1 _ _ (nx c hc).1 e))))
end
abbrev zp3M (b c2:Bool) (h:Heap) (a1 a2:Addr):Heap:=(zp1 c2 (zp1 b h a1) a2).push { cls:=.type "tuple",data:=.seq #[.ref h.objs.size,.ref (zp1 b h a1).objs.size] }
abbrev zp4M (b c2:Bool) (h:Heap) (a1 a2:Addr):Heap:=(zp3M b c2 h a1 a2).push { cls:=.type "tuple",data:=.seq #[.none,.none] }
abbrev zp5M (b c2:Bool) (h:Heap) (a1 a2:Addr):Heap:=(zp4M b c2 h a1 a2).push { cls:=.type "zip",data:=.fields #[.none,.bool false,.bool false,.ref (zp1 c2 (zp1 b h a1) a2).objs.size,.ref (zp3M b c2 h a1 a2).objs.size] }
theorem zpMeetsM (b c2:Bool) (a1 a2:Addr) (us vs:Array Value):Meets (Builtin.«zip.__new__» ⟨[.type "zip",.ref a1,.ref a2],[]⟩) (fun _ R s=>IsSq2 b s.heap a1 us/\IsSq2 c2 s.heap a2 vs/\R (.ok (.ret (.ref (zp4M b c2 s.heap a1 a2).objs.size))) { s with heap:=zp5M b c2 s.heap a1 a2 }) :=
 .of_wp fun prog w A R s h=>by
  obtain⟨hp,g,d,tk,os⟩:=s
  obtain⟨k1,k2,h⟩:=h
  have hsub:=sub_zip
  cases b <;> cases c2
  ·have y1:Heap.IsList (Shared.heap ⟨hp,g,d,tk,os⟩) a1 us:=k1
   have y2:Heap.IsList (Shared.heap ⟨hp.push { cls:=.type "list_iterator",data:=.fields #[.ref a1,.int 0 0] },g,d,tk,os⟩) a2 vs:=Heap.IsList.push k2 _
   wp_walk using wpAny_pyIter_list y1,wpAny_pyIter_list y2
   exact⟨_,rfl,h⟩
  ·have y1:Heap.IsList (Shared.heap ⟨hp,g,d,tk,os⟩) a1 us:=k1
   have y2:Heap.IsTuple (Shared.heap ⟨hp.push { cls:=.type "list_iterator",data:=.fields #[.ref a1,.int 0 0] },g,d,tk,os⟩) a2 vs:=Heap.IsTuple.push k2 _
   wp_walk using wpAny_pyIter_list y1,wpAny_pyIter_tuple y2
   exact⟨_,rfl,h⟩
  ·have y1:Heap.IsTuple (Shared.heap ⟨hp,g,d,tk,os⟩) a1 us:=k1
   have y2:Heap.IsList (Shared.heap ⟨hp.push { cls:=.type "tuple_iterator",data:=.fields #[.ref a1,.int 0 0] },g,d,tk,os⟩) a2 vs:=Heap.IsList.push k2 _
   wp_walk using wpAny_pyIter_tuple y1,wpAny_pyIter_list y2
   exact⟨_,rfl,h⟩
  ·have y1:Heap.IsTuple (Shared.heap ⟨hp,g,d,tk,os⟩) a1 us:=k1
   have y2:Heap.IsTuple (Shared.heap ⟨hp.push { cls:=.type "tuple_iterator",data:=.fields #[.ref a1,.int 0 0] },g,d,tk,os⟩) a2 vs:=Heap.IsTuple.push k2 _
   wp_walk using wpAny_pyIter_tuple y1,wpAny_pyIter_tuple y2
   exact⟨_,rfl,h⟩
section
variable {P:Program} {w:World} {A:Around} {E:Value->Shared->Prop} {s:Shared}
theorem zpCallM {b c2:Bool} {a1 a2:Addr} {us vs:Array Value} {Q:Value->Shared->Prop} (k1:IsSq2 b s.heap a1 us) (k2:IsSq2 c2 s.heap a2 vs)
  (h:∀ g,ZpM b c2 g (s.heap.objs.size + 4) (s.heap.objs.size + 2) (s.heap.objs.size + 3) s.heap.objs.size (s.heap.objs.size + 1) a1 a2 0->(∀ c o,s.heap.get? c=some o->g.get? c=some o)->Q (.ref (s.heap.objs.size + 4)) { s with heap:=g }) :
  wpAny (model P w) A (call (.type "zip") [.ref a1,.ref a2]) Q E s:=by
 refine callType_new F.called_zip (by decide) (F.typeCall_zip_2 _ _) (F.newCall_zip_2 _ _) (fun obj=>F.args_object_init_3 obj _ _) F.entry_zip_new (zpMeetsM b c2 a1 a2 us vs) ⟨k1,k2,?_⟩
 have z1:(zp1 b s.heap a1).objs.size=s.heap.objs.size + 1:=Heap.size_push ..
 have z2:(zp1 c2 (zp1 b s.heap a1) a2).objs.size=s.heap.objs.size + 2:=by rw [Heap.size_push,z1]
 have z3:(zp3M b c2 s.heap a1 a2).objs.size=s.heap.objs.size + 3:=by rw [Heap.size_push,z2]
 have z4:(zp4M b c2 s.heap a1 a2).objs.size=s.heap.objs.size + 4:=by rw [Heap.size_push,z3]
 have up:=fun {h:Heap} {c:Addr} {x:Obj} (o:Obj) (e:h.get? c=some x)=>Heap.get?_push_of_some o e
 have g5:(zp5M b c2 s.heap a1 a2).get? (zp4M b c2 s.heap a1 a2).objs.size=some _:=Heap.get?_push_size _ rfl
 have g4:(zp5M b c2 s.heap a1 a2).get? (zp3M b c2 s.heap a1 a2).objs.size=some _:=up _ (Heap.get?_push_size _ rfl)
 have g3:(zp5M b c2 s.heap a1 a2).get? (zp1 c2 (zp1 b s.heap a1) a2).objs.size=some _:=up _ (up _ (Heap.get?_push_size _ rfl))
 have g2:(zp5M b c2 s.heap a1 a2).get? (zp1 b s.heap a1).objs.size=some _:=up _ (up _ (up _ (Heap.get?_push_size _ rfl)))
 have g1:(zp5M b c2 s.heap a1 a2).get? s.heap.objs.size=some _:=up _ (up _ (up _ (up _ (Heap.get?_push_size _ rfl))))
 show _/\_
 rw [z2,z3,z4] at g5
 rw [z1,z2] at g3
 rw [z3] at g4
 rw [z1] at g2
 rw [z4]
 refine⟨⟨_,g5,rfl⟩,h _ ⟨g5,g3,⟨_,_,g4⟩,?_,?_⟩ fun c o x=>up _ (up _ (up _ (up _ (up _ x))))⟩
 ·cases b <;> exact⟨_,g1,rfl,rfl⟩
 ·cases c2 <;> exact⟨_,g2,rfl,rfl⟩
end
def ItzM (K:Frag) (b c2:Bool) (a1 a2:Addr):It :=
 ⟨fun i H=>∃ xs ys x y,Sq2 K b H a1 xs/\Sq2 K c2 H a2 ys/\xs[i]?=some x/\ys[i]?=some y,
   fun i H v H'=>∃ x y p,v=.ref p/\H p=none/\H'=upd H p (.tup [x,y])/\(∀ xs,Sq2 K b H a1 xs->xs[i]?=some x)/\∀ ys,Sq2 K c2 H a2 ys->ys[i]?=some y,
   fun i H=>∃ xs ys,Sq2 K b H a1 xs/\Sq2 K c2 H a2 ys/\(xs.length<=i\/ys.length<=i)⟩
theorem turn_zipM {P:Program} {w:World} {K:Frag} {elts:List Expr} {x1:Nat} {pos:Pos} {b c2:Bool} {z ti to j1 j2 a1 a2:Addr} (D:ZipApart z ti to j1 j2 a1 a2) :
  Turn P w K (.Tuple elts x1 pos) (ItzM K b c2 a1 a2) [z,ti,to,j1,j2] z (fun i h=>ZpM b c2 h z ti to j1 j2 a1 a2 i) where
 mem:=by simp
 obj:=fun i h st c hc=>by
  obtain⟨hz,hi,⟨p,q,ho⟩,h1,h2⟩:=st
  have:c=z\/c=ti\/c=to\/c=j1\/c=j2:=by simpa using hc
  rcases this with rfl|rfl|rfl|rfl|rfl
  ·exact⟨_,hz,fun v z=>by cases z⟩
  ·exact⟨_,hi,fun v z=>by cases z⟩
  ·exact⟨_,ho,fun v z=>by cases z⟩
  ·exact h1.obj
  ·exact h2.obj
 keep:=fun i h h' st k=>by
  obtain⟨hz,hi,⟨p,q,ho⟩,h1,h2⟩:=st
  exact⟨k z (by simp) _ hz,k ti (by simp) _ hi,⟨p,q,k to (by simp) _ ho⟩,h1.keep fun o e=>k j1 (by simp) o e,h2.keep fun o e=>k j2 (by simp) o e⟩
 item:=by
  intro X hP hw hK hc i pins s σ H E I hf st hg
  subst hP hw hK
  obtain⟨xs,ys,x,y,hq1,hq2,hx,hy⟩:=hg
  obtain⟨is1,r1,p1⟩:=I.seq2 hq1
  obtain⟨is2,r2,p2⟩:=I.seq2 hq2
  obtain⟨u,hu,ru⟩:=r1.get hx
  obtain⟨v,hv,rv⟩:=r2.get hy
  refine zpItemM D st p1 p2 (u:=u) (v:=v) (by simpa using hu) (by simpa using hv) fun g gz go g1 g2 gn gk=>⟨_,rfl,?_⟩
  refine wpAny_letOwnedTupleGo_zip gz fun h2 z2 s2=>?_
  replace s2:Heap.SameBut z g h2:=s2
  have nz:s.heap.objs.size ≠ z:=Nat.ne_of_gt (Heap.lt_size st.z)
  have t2:IsPair h2 s.heap.objs.size u v:=(s2.2 _ nz).trans gn
  have k2:∀ c o,c ∉ [z,to,j1,j2]->s.heap.get? c=some o->h2.get? c=some o:=fun c o hc e=>(s2.2 c (fun q=>hc (by simp [q]))).trans (gk c o hc e)
  have mem:∀ c ∈ [z,to,j1,j2],c ∈ [z,ti,to,j1,j2]:=fun c hc=>by
   simp only [List.mem_cons,List.not_mem_nil,or_false] at hc ⊢
   rcases hc with q|q|q|q <;> simp [q]
  refine⟨.ref s.heap.objs.size,upd H s.heap.objs.size (.tup [x,y]),I.turnedL (t':=s.toks) k2 (fun c hc=>hf c (mem c hc)) (Nat.le_refl _) ⟨(by show 2<=sizeLine;decide),[u,v],.cons ru (.cons rv .nil),_,t2,rfl,_,rfl⟩,rfl,
   ⟨x,y,_,rfl,I.hok.fresh (Nat.le_refl _),rfl,fun zs hz=>by rw [I.seq2_inj hz hq1];exact hx,fun zs hz=>by rw [I.seq2_inj hz hq2];exact hy⟩,
   ⟨z2,k2 ti _ (by simp [D.TIz,D.TITO,D.TIi1,D.TIi2]) st.ti,⟨_,_,(s2.2 to D.TOz).trans go⟩,g1.keep fun o e=>(s2.2 j1 D.i1z).trans e,g2.keep fun o e=>(s2.2 j2 D.i2z).trans e⟩,fun c hc=>?_⟩
  obtain⟨oc,ec,_⟩ : ∃ o,s.heap.get? c=some o/\∀ v,o.data ≠ .cell v:=by
   obtain⟨hz,hi,⟨p,q,ho⟩,h1,h2⟩:=st
   have:c=z\/c=ti\/c=to\/c=j1\/c=j2:=by simpa using hc
   rcases this with rfl|rfl|rfl|rfl|rfl
   ·exact⟨_,hz,fun v z=>by cases z⟩
   ·exact⟨_,hi,fun v z=>by cases z⟩
   ·exact⟨_,ho,fun v z=>by cases z⟩
   ·exact h1.obj
   ·exact h2.obj
  rw [upd_ne (Nat.ne_of_lt (Heap.lt_size ec))]
  exact (hf c hc).1
 done:=by
  intro X hP hw hK hc i pins s σ H E I hf st hg
  subst hP hw hK
  obtain⟨xs,ys,hq1,hq2,hl⟩:=hg
  obtain⟨is1,r1,p1⟩:=I.seq2 hq1
  obtain⟨is2,r2,p2⟩:=I.seq2 hq2
  have e1:=r1.length
  have e2:=r2.length
  have mem:∀ c ∈ [z,to,j1,j2],c ∈ [z,ti,to,j1,j2]:=fun c hc=>by
   simp only [List.mem_cons,List.not_mem_nil,or_false] at hc ⊢
   rcases hc with q|q|q|q <;> simp [q]
  refine zpEndM (I.ok.hd hc) D st p1 p2 ?_ fun g gk=>⟨rfl,I.turnedL0 (t':=s.toks) gk fun c hc=>hf c (mem c hc)⟩
  rcases hl with q|q
  ·exact .inl (by simp;omega)
  ·exact .inr (by simp;omega)
 self:=fun _ _ _ _ _ st h=>wpAny_pyIter_zip st.z h
def iZipM (K:Frag) (b c2:Bool) (ta:TA):TI:=fun σ H R=>ta σ H fun vs H1=>∃ a1 a2 xs ys,vs=[.ref a1,.ref a2]/\Sq2 K b H1 a1 xs/\Sq2 K c2 H1 a2 ys/\R (ItzM K b c2 a1 a2) H1
def iZip2M (K:Frag) (ta:TA):TI:=fun σ H R=>∃ b c2,iZipM K b c2 ta σ H R
theorem pi_zipM {X:Cx} {elts:List Expr} {x1:Nat} {tpos:Pos} {a c:Expr} {ta:TA} {p pos:Pos} (hg:Gl X "zip") (hm:X.mg "zip" = none) (ha:PA X [a,c] ta) (hs:starEach [a,c] X.env=(false,eval a X.env)::starEach [c] X.env:=by rfl) (hs2:starEach [c] X.env=[(false,eval c X.env)]:=by rfl) :
  PI X (.Tuple elts x1 tpos) (.Call (.Name "zip" p) [a,c] [] pos) (iZip2M X.K ta):=by
 intro pins s σ H R I h
 obtain⟨b,c2,h⟩:=h
 refine Call_ (ld_blt I hg hm (show bootBuiltins "zip" = some (.type "zip") from by decide +kernel) (PyProof.Rows.callWith_type1 (thn (ha pos pins s σ H _ I h) fun us s1 ⟨vs,H1,I1,r1,q1⟩=>?_) (by rw [hs,hs2]) (by rw [hs2];rfl)))
 obtain⟨a1,a2,xs,ys,e,h1,h2,q⟩:=q1
 subst e
 obtain⟨u,v,rfl,rx,ry⟩:=vals2 r1
 cases rx
 cases ry
 obtain⟨is1,v1,p1⟩:=I1.seq2 h1
 obtain⟨is2,v2,p2⟩:=I1.seq2 h2
 have l1:=p1.lt
 have l2:=p2.lt
 refine zpCallM p1 p2 fun g gz gk=>wpAny_pyIter_zip gz.z ?_
 have D:ZipApart (s1.heap.objs.size + 4) (s1.heap.objs.size + 2) (s1.heap.objs.size + 3) s1.heap.objs.size (s1.heap.objs.size + 1) a1 a2:=by
  have A1:(s1.heap.objs.size:Nat) + 4=s1.heap.objs.size + 4:=rfl
  constructor <;> simp <;> first|exact Nat.ne_of_lt (Nat.lt_of_lt_of_le l1 (Nat.le_add_right _ _))|exact Nat.ne_of_lt (Nat.lt_of_lt_of_le l2 (Nat.le_add_right _ _))|exact Nat.ne_of_lt l1|exact Nat.ne_of_lt l2|decide
 refine⟨_,_,_,_,H1,rfl,I1.kept (t':=s1.toks) gk,turn_zipM D,gz,fun c hc=>?_,q⟩
 have:c=s1.heap.objs.size + 4\/c=s1.heap.objs.size + 2\/c=s1.heap.objs.size + 3\/c=s1.heap.objs.size\/c=s1.heap.objs.size + 1:=by simpa using hc
 have ge:s1.heap.objs.size<=c:=by
  rcases this with rfl|rfl|rfl|rfl|rfl <;> first|exact Nat.le_add_right _ _|exact Nat.le_refl _
 exact I1.fpOk ge (I1.hok.fresh ge)
theorem for_zipM {K:Frag} {b c2:Bool} {a1 a2:Addr} {xs ys:List V} {g:TG} {tb:TS} {D:Ends} {σ:St} {H:Hp} (Pv:Nat->St->Hp->Prop) (he:ys.length=xs.length) (h0:Pv 0 σ H) (hl:∀ i σ H,i<=xs.length->Pv i σ H->Sq2 K b H a1 xs/\Sq2 K c2 H a2 ys)
  (hs:∀ i x y σ H p,xs[i]?=some x->ys[i]?=some y->Pv i σ H->H p=none->g (.ref p) σ (upd H p (.tup [x,y])) fun σ2 H2=>tb { D with nx:=Pv (i + 1),ct:=Pv (i + 1),bk:=D.nx } σ2 H2) (hd:∀ σ H,Pv xs.length σ H->D.nx σ H) :
  ∃ W:Nat->Nat->St->Hp->Prop,(∃ m,W 0 m σ H)/\∀ i m σ H,W i m σ H →
   ((ItzM K b c2 a1 a2).stop i H/\D.nx σ H)\/((ItzM K b c2 a1 a2).go i H/\∃ N:St->Hp->Prop,(∀ σ' H',N σ' H'->∃ m',m' < m/\W (i + 1) m' σ' H')/\∀ x H',(ItzM K b c2 a1 a2).yld i H x H'->g x σ H' fun σ2 H2=>tb { D with nx:=N,ct:=N,bk:=D.nx } σ2 H2):=by
 refine⟨fun i m σ H=>m=xs.length - i/\i<=xs.length/\Pv i σ H,⟨xs.length,by simp,Nat.zero_le _,h0⟩,?_⟩
 rintro i m σ H ⟨rfl,hi,p⟩
 obtain⟨q1,q2⟩:=hl i σ H hi p
 by_cases hlt:i < xs.length
 ·have hl2:i < ys.length:=by omega
  refine .inr ⟨⟨xs,ys,xs[i],ys[i],q1,q2,by simp [hlt],by simp [hl2]⟩,Pv (i + 1),fun σ' H' p'=>⟨xs.length - (i + 1),by omega,rfl,hlt,p'⟩,fun v H' y=>?_⟩
  obtain⟨x,y,pa,rfl,hn,rfl,hx,hy⟩:=y
  exact hs i x y σ H pa (hx xs q1) (hy ys q2) p hn
 ·have e:i=xs.length:=by omega
  subst e
  exact .inl ⟨⟨xs,ys,q1,q2,.inl (Nat.le_refl _)⟩,hd σ H p⟩
end L2
namespace L2
open PySem PySem.Spec PyProof.Rows
open AutoSeq1 (wpAny_loadPart')
open MeetsSeq
theorem str_eq_declines_dict (b:Str) (u:Tok) (l:Addr) (es:Array DictEntry) (ep:Nat) :
  Meets (Builtin.«str.__eq__» ⟨[.str b u,.ref l],[]⟩) (fun _ R s=>s.heap.get? l=some { cls:=.type "dict",dict:=none,data:=.dict es ep,slots:=#[] }/\R (.ok (.ret .notImplemented)) s) :=
 .of_wp fun prog w A R s h=>by obtain⟨hp,g,d,tk,os⟩:=s;obtain⟨hl,h⟩:=h;wp_walk using wpAny_loadPart' hl,wpAny_load hl;exact⟨_,rfl,h⟩
theorem dict_eq_declines_str (l:Addr) (es:Array DictEntry) (ep:Nat) (b:Str) (u:Tok) :
  Meets (Builtin.«dict.__eq__» ⟨[.ref l,.str b u],[]⟩) (fun _ R s=>s.heap.get? l=some { cls:=.type "dict",dict:=none,data:=.dict es ep,slots:=#[] }/\R (.ok (.ret .notImplemented)) s) :=
 .of_wp fun prog w A R s h=>by obtain⟨hp,g,d,tk,os⟩:=s;obtain⟨hl,h⟩:=h;have f1:=F.sub_str_dict;wp_walk using wpAny_loadPart' hl,wpAny_load hl;exact⟨_,rfl,h⟩
theorem rc_str_dict {A:Around} {s:Shared} {l:Addr} {es:Array DictEntry} {ep:Nat} (b:Str) (u:Tok) (ho:s.heap.get? l=some { cls:=.type "dict",dict:=none,data:=.dict es ep,slots:=#[] }) (hu:A.units < cLine):SeqAt.RcAt A s (.str b u) (.ref l) false:=fun prog w E Q h=>by
 exact SeqAt.rc_eq_decline_or (k:=false) (typeIs_str s b u) ⟨_,ho,rfl⟩ (by decide) F.sub_dict_str F.slot_str_eq F.slot_dict_eq_refl
  (fun _ hq=>call_meets F.slot_str_eq (typeIs_str s b u) F.entry_str_eq (F.args_str_eq_2 _ _) (str_eq_declines_dict b u l es ep) ⟨ho,hq⟩)
  (fun _ hq=>call_meets F.slot_dict_eq_refl ⟨_,ho,rfl⟩ F.entry_dict_eq (F.args_dict_eq_2 _ _) (dict_eq_declines_str l es ep b u) ⟨ho,hq⟩)
  (fun _ hq=>wpAny_of_eq (rfl:isSame (.str b u) (.ref l)=pure false) hq) (.inr hu) h
def rEqSR (K:Frag):R2:=fun x y H Q=>∃ (z:Str) (a:Addr),x=.str z/\y=.ref a/\((∃ xs,SqL K H a xs)\/(∃ xs,SqT K H a xs)\/∃ kvs,H a=some (.dK kvs))/\Q (.bl false) H
theorem op_eqSR {X:Cx} (hu:X.A.units < cLine):OpR X (compareOp .Eq) (rEqSR X.K):=by
 intro pins s σ H x y v u Q I rx ry h
 obtain⟨z,a,rfl,rfl,ha,q⟩:=h
 obtain⟨t,rfl⟩:=rx
 cases ry
 show wpAny _ _ (richCompare .Eq (.str z t) (.ref a)) _ _ _
 rcases ha with⟨xs,ha⟩|⟨xs,ha⟩|⟨kvs,ha⟩
 ·obtain⟨i1,r1,p1,_⟩:=I.list ha
  exact SeqAt.RcAt.str_list z t p1.isList hu _ _ _ _ ⟨.bl false,H,I,rfl,q⟩
 ·obtain⟨i1,r1,p1,_⟩:=I.tuple ha
  exact SeqAt.RcAt.str_tuple z t (show s.heap.IsTuple a i1.toArray from p1) hu _ _ _ _ ⟨.bl false,H,I,rfl,q⟩
 ·obtain⟨_,_,vs,_,⟨o,es,ep,ho,⟨h1,h2,h3⟩,hd,_⟩⟩:=dk_of I.hok ha
  obtain⟨c,dd,da,sl⟩:=o
  simp only at h1 h2 h3 hd
  subst h1 h2 h3 hd
  exact rc_str_dict z t ho hu _ _ _ _ ⟨.bl false,H,I,rfl,q⟩
theorem op_eqX {X:Cx} (hu:X.A.units < cLine):OpR X (compareOp .Eq) (fun x y H Q=>rEq x y H Q\/rEqSR X.K x y H Q):=op_eq.or (op_eqSR hu)
theorem op_rep6 {X:Cx} : OpR X (binaryOp .Mult) (fun x y H Q=>x=.str "q"/\y=.int 6/\Q (.str "qqqqqq") H):=by
 intro pins s σ H x y v u Q I rx ry h
 obtain⟨rfl,rfl,q⟩:=h
 obtain⟨t,rfl⟩:=rx
 obtain⟨t',rfl⟩:=ry
 refine P.mul_str (by decide) (fun _ _=>by decide) (fun _ _=>by decide) ?_
 rw [if_neg (by decide),if_neg (by decide)]
 exact⟨by decide,.str _,H,I.tok _,⟨_,rfl⟩,q⟩
end L2
namespace K07
open PySem L2
set_option hygiene false in
local macro_rules | `(tactic| walk_at "sc") => `(tactic| exact ⟨rfl, rfl, rfl, by decide +kernel, rfl, by decide +kernel, by decide +kernel⟩)
set_option hygiene false in
local macro_rules | `(tactic| walk_at "hr") => `(tactic| have hr := hr0.mono (Nat.le_succ _))
set_option hygiene false in
local macro_rules | `(tactic| walk_at "b1") => `(tactic| exact fun _ _ _ _ _ _ us hl => match us, hl with | [_], _ => rfl)
set_option hygiene false in
local macro_rules | `(tactic| walk_at "b2") => `(tactic| exact fun _ _ _ _ _ _ us hl => match us, hl with | [_, _], _ => rfl)
set_option hygiene false in
local macro_rules | `(tactic| walk_at "b3") => `(tactic| exact fun _ _ _ _ _ _ us hl => match us, hl with | [_, _, _], _ => rfl)
set_option hygiene false in
local macro_rules | `(tactic| walk_at "o") => `(tactic| first | exact Or.inl rfl | exact Or.inr rfl)
set_option hygiene false in
local macro_rules | `(tactic| w_cond $s:ident) => `(tactic| first | refine F.ok $s (fun vs H Q E h => ?_) (fun cdv A outer s0 H vs Q E hr0 h => ?_) | refine F.okE $s (fun vs H Q E h => ?_) (fun cdv A outer s0 H vs Q E hr0 h => ?_))
def top (i : Nat) : Stmt := PySem.Challenge.pw_roomslaid_k07_shapes_read_and_written.main.body.getD i (.Pass ⟨0,0,0,0⟩)
def inClass:Stmt->Nat->Stmt
 | .ClassDef _ _ _ body _ _ _ _ _ _ _,j=>body.getD j (.Pass ⟨0,0,0,0⟩)
 | s,_=>s
theorem iteP {c A B:Prop} [Decidable c] (hc:c) (h:A):if c then A else B:=by rw [if_pos hc];exact h
theorem iteN {c A B:Prop} [Decidable c] (hc:¬ c) (h:B):if c then A else B:=by rw [if_neg hc];exact h
structure Blt (mg:Str->Option Value):Prop where
 range:mg "range" = none
 len:mg "len" = none
 isinstance:mg "isinstance" = none
 int:mg "int" = none
 bool:mg "bool" = none
 list:mg "list" = none
 all:mg "all" = none
 max:mg "max" = none
 min:mg "min" = none
 reversed:mg "reversed" = none
 tuple:mg "tuple" = none
 divmod:mg "divmod" = none
 str:mg "str" = none
 sum:mg "sum" = none
 zip:mg "zip" = none
 enumerate:mg "enumerate" = none
 ValueError:mg "ValueError" = none
 repr:mg "repr" = none
structure Df (K:Frag) (mg:Str->Option Value) (x:Str) (f:Addr) (fd:FuncData) (ps:List Str):Prop where
 m:mg x=some (.ref f)
 k:keepIn K (.ref f)=true
 b:Binds K fd ps []
def St3 (H:Hp) (p:Addr):Prop:=∃ a b c:Int,H p=some (.lst [.int a,.int b,.int c])
def Drawn (p:Addr) (H H':Hp):Prop:=St3 H' p/\∀ b o,b ≠ p->H b=some o->H' b=some o
theorem Drawn.trans {p:Addr} {H H1 H2:Hp} (a:Drawn p H H1) (b:Drawn p H1 H2):Drawn p H H2:=⟨b.1,fun c o n h=>b.2 c o n (a.2 c o n h)⟩
theorem Drawn.refl {p:Addr} {H:Hp} (h:St3 H p):Drawn p H H:=⟨h,fun _ _ _ q=>q⟩
theorem Drawn.new {p l:Addr} {H H1:Hp} {o:HO} (a:Drawn p H H1) (hl:H1 l=none):Drawn p H (upd H1 l o):=by
 obtain⟨⟨x,y,z,e⟩,h⟩:=a
 refine⟨⟨x,y,z,by rw [upd_ne (ne_of_none e hl)];exact e⟩,fun b u n q=>?_⟩
 have:=h b u n q
 rw [upd_ne (ne_of_none this hl)];exact this
theorem Drawn.same {p:Addr} {H H':Hp} (a:Drawn p H H') (hp:H p=none):Same H H':=fun b o h=>a.2 b o (ne_of_none h hp) h
theorem same_new {H:Hp} {p:Addr} (h:H p=none) (o:HO):Same H (upd H p o):=fun b u q=>by rw [upd_ne (ne_of_none q h)];exact q
theorem atI_ints (ns:List Int) {i:Int} (h0 : 0<=i) (h1:i < ns.length):∃ v:Int,atI (ns.map V.int) i=some (.int v):=by
 have hk:i.toNat < ns.length:=by omega
 have e:i=((i.toNat:Nat):Int):=by omega
 have q:atI (ns.map V.int) ((i.toNat:Nat):Int)=some (.int ns[i.toNat]):=atI_nat (by rw [List.getElem?_map,List.getElem?_eq_getElem hk] <;> rfl)
 rw [← e] at q
 exact⟨_,q⟩
theorem small {n:Nat} (h:n<=1000):n<=sizeLine:=Nat.le_of_lt (small1000 h)
def spCell (K:Frag):Sp:=fun vs H Q _=>∃ (a:Addr) (ns:List Int) (k:Int),vs=[.ref a,.int k]/\SqL K H a (ns.map V.int)/\0<=k/\k < 64/\∀ v:Int,Q (.int v) H
def spWhole:Sp:=fun vs H Q _=>∃ i:Int,vs=[.int i]/\Q (.bl true) H
def spLaw (K:Frag):Sp:=fun vs H Q _=>∃ (a:Addr) (ns:List Int),vs=[.ref a]/\SqL K H a (ns.map V.int)/\ns.length<=63/\∀ H',Q (.bl true) H'
theorem Same.tup {K:Frag} {H H':Hp} {a:Addr} {xs:List V} (e:Same H H') (h:SqT K H a xs):SqT K H' a xs:=by
 rcases h with (h|⟨o,h⟩)|h
 ·exact .inl (.inl (e _ _ h))
 ·exact .inl (.inr ⟨o,e _ _ h⟩)
 ·exact .inr h
theorem Drawn.tup {K:Frag} {p:Addr} {H H':Hp} {a:Addr} {xs:List V} (hs:St3 H p) (e:Drawn p H H') (h:SqT K H a xs):SqT K H' a xs:=by
 obtain⟨x,y,z,hp⟩:=hs
 rcases h with (h|⟨o,h⟩)|h
 ·exact .inl (.inl (e.2 _ _ (ne_of h hp (by intro z;cases z)) h))
 ·exact .inl (.inr ⟨o,e.2 _ _ (ne_of h hp (by intro z;cases z)) h⟩)
 ·exact .inr h
structure TCls (K:Frag) (mg:Str->Option Value) (x:Str) (C fI:Addr) (as:List Str):Prop where
 m:mg x=some (.ref C)
 cl:Cls K C
 ma:Mk K C fI
 na:∀ a ∈ as,NoAttr K C a
structure DfM (K:Frag) (C:Addr) (m:Str) (f:Addr) (fd:FuncData) (ps:List Str):Prop where
 me:Meth K C m f
 b:Binds K fd ps []
structure DfI (K:Frag) (fd:FuncData) (ps:List Str):Prop where
 b:Binds K fd ps []
structure TX (K:Frag) (mg:Str->Option Value) (x:Str) (C R fI:Addr) (as:List Str):Prop where
 m:mg x=some (.ref C)
 c:ExCl K C R fI
 x:XCls K C (.ref R::VB)
 n:∀ a ∈ as,findIn K (.ref C) a=some none
structure TXB (K:Frag) (mg:Str->Option Value) (C fI:Addr):Prop where
 m:mg "RoomError" = some (.ref C)
 i:CInit K C fI
 x:XCls K C VB
def ownL:List Str:=["shape","num","row","pick","tag","room","things","part","tags","put","take","many","look","which","store","choose","copy","each","span","if","else","end","out"]
abbrev lettersS:Str:="abcdefghijklmnopqrstuvwxyz"
abbrev figuresS:Str:="0123456789"
structure Cst (K:Frag) (mg:Str->Option Value) (t1 t2 t3 t4 t5 t6 t7 t8 t9 t10 t11 t12 t13:Tok) (ts:Addr):Prop where
 SMALL_LETTERS:mg "SMALL_LETTERS" = some (.str "abcdefghijklmnopqrstuvwxyz" t1)
 FIGURES:mg "FIGURES" = some (.str "0123456789" t2)
 MOST_LETTERS:mg "MOST_LETTERS" = some (.int 6 t3)
 MOST_FIGURES:mg "MOST_FIGURES" = some (.int 10 t4)
 MOST_SHAPES:mg "MOST_SHAPES" = some (.int 8 t5)
 MOST_FIELDS:mg "MOST_FIELDS" = some (.int 6 t6)
 MOST_CELLS:mg "MOST_CELLS" = some (.int 64 t7)
 MOST_UNITS:mg "MOST_UNITS" = some (.int 40 t8)
 MOST_DEPTH:mg "MOST_DEPTH" = some (.int 4 t9)
 MOST_WIDTH:mg "MOST_WIDTH" = some (.int 4 t10)
 MOST_COUNT:mg "MOST_COUNT" = some (.int 6 t11)
 LEAST_PICKED:mg "LEAST_PICKED" = some (.int 2 t12)
 MOST_PICKED:mg "MOST_PICKED" = some (.int 4 t13)
 OWN_WORDS:mg "OWN_WORDS" = some (.ref ts)
 words:∀ H,SqT K H ts (ownL.map V.str)
def tyA (K:Frag) (x:V) (H:Hp) (t:String):Prop:=tyN K x H t\/(t = "dict"/\∃ p kvs,x=.ref p/\H p=some (.dK kvs))
theorem Same.tyA {K:Frag} {x:V} {H H':Hp} {t:String} (g:Same H H') (h:tyA K x H t):tyA K x H' t:=by
 rcases h with h|⟨e,p,kvs,ex,h⟩
 ·left
  cases x with
  | ref p =>
   rcases h with⟨e,xs,h⟩|⟨e,xs,h⟩
   ·exact .inl ⟨e,xs,g.seq h⟩
   ·exact .inr ⟨e,xs,Same.tup g h⟩
  | _=>exact h
 ·exact .inr ⟨e,p,kvs,ex,g _ _ h⟩
def within (x:Str) (most:Int):Bool:=decide (1<=(x.length:Int)) && decide ((x.length:Int)<=most)
def allIn (x signs:Str):Bool:=x.cps.toList.all fun c=>decide (c ∈ signs.cps.toList)
def nameB (x:Str):Bool:=within x 6 && allIn x lettersS && !decide (x ∈ ownL)
def leadB (x:Str):Bool:=decide (x.cps.toList[0]?=some 48) && decide (1 < (x.length:Int))
def numB (x:Str):Option Int:=if (within x 10 && allIn x figuresS && !leadB x)=true then some ((PySem.NumText.digitsVal x.cps.toList:Nat):Int) else none
def optV:Option Int->V
 | none=>.non
 | some n=>.int n
def boundV (o:Option Int) (lo hi:Int):Option Int:=match o with
 | none=>none
 | some n=>if lo<=n/\n<=hi then some n else none
def spTextOf (K:Frag):Sp:=fun vs H Q _=>∃ (x:V) (signs:Str) (most:Int),vs=[x,.str signs,.int most] ∧
 ((∃ z:Str,x=.str z/\z.length<=1000/\∀ H',Same H H'->Q (.bl (within z most && allIn z signs)) H')\/(∃ t,tyA K x H t/\t ≠ "str"/\Q (.bl false) H))
def spIsName (K:Frag):Sp:=fun vs H Q _=>∃ x:V,vs=[x] ∧
 ((∃ z:Str,x=.str z/\z.length<=1000/\∀ H',Same H H'->Q (.bl (nameB z)) H')\/(∃ t,tyA K x H t/\t ≠ "str"/\∀ H',Same H H'->Q (.bl false) H'))
def spNumberIn (K:Frag):Sp:=fun vs H Q _=>∃ (x:V) (lo hi:Int),vs=[x,.int lo,.int hi] ∧
 ((∃ z:Str,x=.str z/\z.length<=1000/\∀ H',Same H H'->Q (optV (boundV (numB z) lo hi)) H')\/(∃ t,tyA K x H t/\t ≠ "str"/\∀ H',Same H H'->Q .non H'))
theorem inV_strs (x:Str) (ys:List Str):inV (.str x) (ys.map V.str)=decide (x ∈ ys):=by
 rw [Bool.eq_iff_iff]
 simp only [inV,List.any_map,List.any_eq_true,Function.comp,decide_eq_true_eq,eqV,beq_iff_eq]
 constructor
 ·rintro ⟨y,hy,rfl⟩;exact hy
 ·intro h;exact⟨x,h,rfl⟩
theorem flat_strs (ys:List Str):(ys.map V.str).all flatV=true:=by
 rw [List.all_eq_true]
 intro x hx
 obtain⟨n,_,rfl⟩:=List.mem_map.mp hx
 rfl
theorem letters_list:lettersS.cps.toList=List.range' 97 26:=by decide +kernel
theorem figures_list:figuresS.cps.toList=List.range' 48 10:=by decide +kernel
theorem mem_letters (c:Nat):c ∈ lettersS.cps.toList ↔ 97<=c/\c<=122:=by
 rw [letters_list,List.mem_range'_1];omega
theorem mem_figures (c:Nat):c ∈ figuresS.cps.toList ↔ 48<=c/\c<=57:=by
 rw [figures_list,List.mem_range'_1];omega
theorem all_snoc (f:Nat->Bool) (l:List Nat) (i:Nat) {c:Nat} (h:l[i]?=some c):((l.take (i + 1)).map f)=(l.take i).map f++[f c]:=by
 rw [List.take_add_one,h,List.map_append] <;> rfl
theorem all_map (f:Nat->Bool) (l:List Nat):(l.map f).all id=l.all f:=by
 rw [List.all_map];rfl
theorem isa3 {t:String} (h:t ≠ "str"):isa t "str" = false:=by
 unfold isa
 simp [h]
theorem is_0 {c:Nat} : decide (V.str ⟨#[c]⟩=V.str (Str.ofString "0"))=decide (c=48):=by
 have e:(Str.ofString "0")=⟨#[48]⟩:=by decide +kernel
 rw [e,Bool.eq_iff_iff,decide_eq_true_eq,decide_eq_true_eq]
 constructor
 ·intro h;injection h with h;injection h with h;simpa using h
 ·rintro rfl;rfl
theorem Same.st3 {p:Addr} {H H':Hp} (g:Same H H') (h:St3 H p):St3 H' p:=by
 obtain⟨x,y,z,e⟩:=h
 exact⟨x,y,z,g _ _ e⟩
theorem Drawn.keep {p:Addr} {H H1 H2:Hp} (d:Drawn p H H1) (g:Same H1 H2):Drawn p H H2:=⟨Same.st3 g d.1,fun b o n e=>g _ _ (d.2 b o n e)⟩
theorem len_list (z:Str):z.cps.toList.length=z.length:=Array.length_toList
theorem emp_app (p:Str):Str.empty++p=p:=Str.ext' (by rw [Str.cps_append];simp [Str.empty])
theorem len_le {a:Nat} (h:a<=5000):a<=sizeLine:=by rw [sizeLine_eq];omega
def spJoined:Sp:=fun vs H Q _=>∃ (p:Str) (x:V) (y:Str),vs=[.str p,x]/\txtV x=some y/\p.length<=1000/\y.length<=1000/\Q (.str (pj p y)) H
def spTake:Sp:=fun vs H Q _=>∃ (p:Addr) (m:Int),vs=[.ref p,.int m]/\0 < m/\m < 1073741824/\St3 H p/\∀ (v:Nat) (H':Hp),(v:Int) < m->Drawn p H H'->Q (.int v) H'
def spBox:Sp:=fun vs H Q _=>∃ c:Int,vs=[.int c]/\∀ (p:Addr) (H':Hp),H p=none->Drawn p H H'->Q (.ref p) H'
structure Wds (K:Frag) (H:Hp) (a:Addr) (ws:List Str):Prop where
 l:SqL K H a (ws.map V.str)
 s:∀ w ∈ ws,w.length<=1000
 n:ws.length<=1000
theorem Wds.same {K:Frag} {H H':Hp} {a:Addr} {ws:List Str} (h:Wds K H a ws) (g:Same H H'):Wds K H' a ws:=⟨g.seq h.l,h.s,h.n⟩
def isShB:List Str->Bool
 | [x,y]=>decide (x=Str.ofString "shape") && nameB y
 | _=>false
def spShL (K:Frag):Sp:=fun vs H Q _=>∃ (a:Addr) (ws:List Str),vs=[.ref a]/\Wds K H a ws/\∀ H',Same H H'->Q (.bl (isShB ws)) H'
def spI1 (C:Addr) (n:Str):Sp:=fun vs H Q _=>∃ (a dx:Addr) (v:V) (H1:Hp),vs=[.ref a,v]/\H a=some (.ins C dx [])/\Same H1 H/\H1 a=none/\∀ H',Same H1 H'->H' a=some (.ins C dx [(n,v)])->Q .non H'
def spI2 (C:Addr) (n m:Str):Sp:=fun vs H Q _=>∃ (a dx:Addr) (v u:V) (H1:Hp),vs=[.ref a,v,u]/\H a=some (.ins C dx [])/\Same H1 H/\H1 a=none/\∀ H',Same H1 H'->H' a=some (.ins C dx [(n,v),(m,u)])->Q .non H'
def spIT (K:Frag) (C:Addr) (n:Str):Sp:=fun vs H Q _=>∃ (a dx l:Addr) (ys:List V) (H1:Hp),vs=[.ref a,.ref l]/\H a=some (.ins C dx [])/\Same H1 H/\H1 a=none/\SqL K H1 l ys/\∀ t H',Same H1 H'->H' a=some (.ins C dx [(n,.ref t)])->SqT K H' t ys->Q .non H'
def spShI (c:Cl5) (K:Frag):Sp:=fun vs H Q _=>∃ (a dx fl:Addr) (nm:Str) (ps:List Addr) (fs:List (Str × Kd)) (sa:List Addr) (H1:Hp),vs=[.ref a,.str nm,.ref fl]/\H a=some (.ins c.shape dx [])/\Same H1 H/\H1 a=none/\(SqL K H1 fl (ps.map V.ref)\/SqT K H1 fl (ps.map V.ref))/\FO c K H1 sa ps fs/\fs.length<=100 ∧
 ∀ t ps' H',Same H1 H'->H' a=some (.ins c.shape dx [("name",.str nm),("fields",.ref t)])->SqT K H' t (ps'.map V.ref)->FO c K H' sa ps' fs->Q .non H'
def spGr (c:Cl5) (K:Frag) (r:Nat):Sp:=fun vs H Q _=>∃ (a:Addr) (is:List Nat) (sa:List Addr) (S:List Shp),vs=[.ref a]/\(Kd.pick is).Rk r/\(Kd.pick is).Fit S.length/\KO c K H sa a (.pick is)/\SW c K H sa S/\Good S/\∀ H',Same H H'->Q (.int ((maxL (is.map fun i=>(tabs S).sz.getD i 0):Nat):Int)) H'
def spShU (c:Cl5) (K:Frag) (r:Nat):Sp:=fun vs H Q _=>∃ (a:Addr) (i:Nat) (sa:List Addr) (S:List Shp),vs=[.ref a]/\sa[i]?=some a/\2 * i + 2<=r/\8 * r<=200/\SW c K H sa S/\Good S/\∀ l H',Same H H'->H l=none->UL K H' l (un (.nest i) S Str.empty)->Q (.ref l) H'
theorem FO.insD {c:Cl5} {K:Frag} {H:Hp} {sa ps:List Addr} {fs:List (Str × Kd)} {a:Addr} {C dx:Addr} {x:V} {o:HO} (h:FO c K H sa ps fs) (ha:H a=some (.ins C dx [("name",x)])):FO c K (upd H a o) sa ps fs:=by
 have n:∀ {b C' dx' fs'},H b=some (.ins C' dx' fs')->fs'.head?.map (·.1) ≠ some ("name" : Str)->upd H a o b=some (.ins C' dx' fs'):=fun hb z=>by
  rw [upd_ne (fun e=>z (by rw [e,ha] at hb;cases hb;rfl))];exact hb
 have t:∀ {b xs},SqT K H b xs->SqT K (upd H a o) b xs:=fun h=>by
  rcases h with (h|⟨o',h⟩)|h
  ·exact .inl (.inl (by rw [upd_ne (ne_of h ha (by intro z;cases z))];exact h))
  ·exact .inl (.inr ⟨o',by rw [upd_ne (ne_of h ha (by intro z;cases z))];exact h⟩)
  ·exact .inr h
 have kk:∀ {b kd},KO c K H sa b kd->KO c K (upd H a o) sa b kd:=fun h=>by
  induction h with
  | num h=>exact .num (n h (by show some (Str.ofString "width") ≠ some (Str.ofString "name");decide))
  | nest e h=>exact .nest e (n h (by show some (Str.ofString "shape") ≠ some (Str.ofString "name");decide))
  | many h _ ih=>exact .many (n h (by show some (Str.ofString "count") ≠ some (Str.ofString "name");decide)) ih
  | pick h h2 l e=>exact .pick (n h (by show some (Str.ofString "shapes") ≠ some (Str.ofString "name");decide)) (t h2) l e
 induction h with
 | nil=>exact .nil
 | cons h1 h2 _ ih=>exact .cons (t h1) (kk h2) ih
def NOk (nm:Nat->Str) (n:Nat):Prop:=∀ i,i < n->nameB (nm i)=true
theorem name_len {x:Str} (h:nameB x=true) : 1<=x.length/\x.length<=6:=by
 unfold nameB within at h
 simp only [Bool.and_eq_true,decide_eq_true_eq] at h
 omega
theorem name_ne {x y:Str} (h:nameB x=true) (hy:y ∈ ownL):x ≠ y:=by
 rintro rfl
 unfold nameB at h
 simp only [Bool.and_eq_true,Bool.not_eq_true',decide_eq_false_iff_not] at h
 exact h.2 hy
theorem dig {w:Nat} (h:w<=9):numB (Str.ofString (toString (w:Int)))=some (w:Int)/\(Str.ofString (toString (w:Int))).length=1/\nameB (Str.ofString (toString (w:Int)))=false/\PySem.intText? (Str.ofString (toString (w:Int)))=some (w:Int):=by
 have:∀ m:Fin 10,numB (Str.ofString (toString ((m.val:Nat):Int)))=some ((m.val:Nat):Int)/\(Str.ofString (toString ((m.val:Nat):Int))).length=1/\nameB (Str.ofString (toString ((m.val:Nat):Int)))=false/\PySem.intText? (Str.ofString (toString ((m.val:Nat):Int)))=some ((m.val:Nat):Int):=by decide +kernel
 exact this ⟨w,by omega⟩
theorem own_rows:nameB (Str.ofString "num")=false/\nameB (Str.ofString "row")=false/\nameB (Str.ofString "pick")=false:=by decide +kernel
def Kd.named (nm:Nat->Str):Kd->List Str
 | .num _=>[]
 | .nest i=>[nm i]
 | .many _ k=>Kd.named nm k
 | .pick is=>is.map nm
theorem named_filter {nm:Nat->Str} {n:Nat} (hn:NOk nm n):∀ {k:Kd},k.Fit n->(k.words nm).filter nameB=Kd.named nm k:=by
 have hnum:∀ w,w<=9->((Kd.num w).words nm).filter nameB=[]:=fun w hw=>by
  show [Str.ofString "num",Str.ofString (toString (w:Int))].filter nameB=[]
  rw [List.filter_cons_of_neg (by rw [own_rows.1];decide),List.filter_cons_of_neg (by rw [(dig hw).2.2.1];decide)];rfl
 have hnest:∀ i,i < n->((Kd.nest i).words nm).filter nameB=[nm i]:=fun i hi=>by
  show [nm i].filter nameB=_
  rw [List.filter_cons_of_pos (hn i hi)];rfl
 intro k hk
 cases k with
 | num w=>exact hnum w (by have:=hk.2;omega)
 | nest i=>exact hnest i hk
 | many m k =>
  show (Str.ofString "row" :: Str.ofString (toString (m:Int))::k.words nm).filter nameB=Kd.named nm k
  rw [List.filter_cons_of_neg (by rw [own_rows.2.1];decide),List.filter_cons_of_neg (by rw [(dig (by have:=hk.2.1;omega)).2.2.1];decide)]
  rcases hk.2.2 with⟨w,rfl,hw⟩|⟨i,rfl,hi⟩
  ·exact hnum w (by omega)
  ·exact hnest i hi
 | pick is =>
  show (Str.ofString "pick" :: is.map nm).filter nameB=is.map nm
  rw [List.filter_cons_of_neg (by rw [own_rows.2.2];decide),List.filter_eq_self.mpr]
  intro x hx
  obtain⟨i,hi,rfl⟩:=List.mem_map.mp hx
  exact hn i (hk.2.2.2 i hi)
theorem words_len {nm:Nat->Str} {n:Nat} (hn:NOk nm n):∀ {k:Kd},k.Fit n->(∀ w ∈ k.words nm,w.length<=6)/\(k.words nm).length<=5:=by
 have hnum:∀ w,w<=9->∀ x ∈ (Kd.num w).words nm,x.length<=6:=fun w hw x hx=>by
  simp only [Kd.words,List.mem_cons,List.not_mem_nil,or_false] at hx
  rcases hx with rfl|rfl
  ·decide
  ·rw [(dig hw).2.1];decide
 have hnest:∀ i,i < n->∀ x ∈ (Kd.nest i).words nm,x.length<=6:=fun i hi x hx=>by
  rw [List.mem_singleton.mp (show x ∈ [nm i] from hx)];exact (name_len (hn i hi)).2
 intro k hk
 cases k with
 | num w=>exact⟨hnum w (by have:=hk.2;omega),by show 2<=5;decide⟩
 | nest i=>exact⟨hnest i hk,by show 1<=5;decide⟩
 | many m k =>
  have:(∀ x ∈ k.words nm,x.length<=6)/\(k.words nm).length<=2:=by
   rcases hk.2.2 with⟨w,rfl,hw⟩|⟨i,rfl,hi⟩
   ·exact⟨hnum w (by omega),by show 2<=2;decide⟩
   ·exact⟨hnest i hi,by show 1<=2;decide⟩
  refine⟨fun x hx=>?_,by show (k.words nm).length + 1 + 1<=5;omega⟩
  simp only [Kd.words,List.mem_cons] at hx
  rcases hx with rfl|rfl|hx
  ·decide
  ·rw [(dig (by have:=hk.2.1;omega)).2.1];decide
  ·exact this.1 x hx
 | pick is =>
  refine⟨fun x hx=>?_,by show (is.map nm).length + 1<=5;rw [List.length_map];have:=hk.2.1;omega⟩
  simp only [Kd.words,List.mem_cons,List.mem_map] at hx
  rcases hx with rfl|⟨i,hi,rfl⟩
  ·decide
  ·exact (name_len (hn i (hk.2.2.2 i hi))).2
def spSg (K:Frag):Sp:=fun vs H Q _=>∃ (a:Addr) (ws:List Str),vs=[.ref a]/\SqL K H a (ws.map V.str)/\((∃ w:Nat,1<=w/\w<=4/\ws=[Str.ofString "num",Str.ofString (toString (w:Int))])\/∃ x,nameB x=true/\ws=[x])/\∀ H',Same H H'->Q (.bl true) H'
def spKd (K:Frag):Sp:=fun vs H Q _=>∃ (a:Addr) (nm:Nat->Str) (n:Nat) (kd:Kd),vs=[.ref a]/\SqL K H a ((kd.words nm).map V.str)/\kd.Fit n/\NOk nm n/\∀ H',Same H H'->Q (.bl true) H'
def spFl (K:Frag):Sp:=fun vs H Q _=>∃ (a:Addr) (nm:Nat->Str) (n:Nat) (kd:Kd) (f:Str),vs=[.ref a]/\SqL K H a ((f::kd.words nm).map V.str)/\nameB f=true/\kd.Fit n/\NOk nm n/\∀ H',Same H H'->Q (.bl true) H'
def spNamed (K:Frag):Sp:=fun vs H Q _=>∃ (a:Addr) (nm:Nat->Str) (n:Nat) (kd:Kd) (f:Str),vs=[.ref a]/\SqL K H a ((f::kd.words nm).map V.str)/\kd.Fit n/\NOk nm n/\∀ l H',Same H H'->H l=none->H' l=some (.lst ((Kd.named nm kd).map V.str))->Q (.ref l) H'
theorem filt_snoc {f:Str->Bool} {l:List Str} {i:Nat} {a:Str} (h:l[i]?=some a):(l.take (i + 1)).filter f=(l.take i).filter f++(if f a=true then [a] else []):=by
 rw [List.take_add_one,h,List.filter_append]
 congr 1
 show [a].filter f=_
 by_cases z:f a=true
 ·rw [if_pos z,List.filter_cons_of_pos z];rfl
 ·rw [if_neg z,List.filter_cons_of_neg z];rfl
theorem get_strs {ns:List Str} {i:Nat} {x:V} (h:(ns.map V.str)[i]?=some x):∃ c,ns[i]?=some c/\x=.str c:=by
 rw [List.getElem?_map] at h
 cases e:ns[i]? with
 | none=>rw [e] at h;cases h
 | some c=>rw [e] at h;cases h;exact⟨c,rfl,rfl⟩
def spLJ:Sp:=fun vs H Q _=>∃ (p y:Str),vs=[.str p,.str y]/\p.length<=1000/\y.length<=1000/\1<=y.length/\Q (.str (pj p y)) H
structure Wel (S:List Shp):Prop where
 good:Good S
 nm:∀ s ∈ S,nameB s.1=true
 fnm:∀ s ∈ S,∀ f ∈ s.2,nameB f.1=true
 nd:(S.map (·.1)).Nodup
 fnd:∀ s ∈ S,(s.2.map (·.1)).Nodup
 len:S.length<=5
 bd:∀ (i:Nat) (s:Shp),S[i]?=some s->(tabs S).sz.getD i 0<=64/\(un (.nest i) S Str.empty).length<=40/\(tabs S).dp.getD i 0<=4/\s.2.length<=5
theorem get_snoc {α : Type} {S:List α} {x y : α} {i:Nat} (h:(S++[x])[i]?=some y):S[i]?=some y\/(i=S.length/\y=x):=by
 by_cases hi:i < S.length
 ·rw [List.getElem?_append_left hi] at h;exact .inl h
 ·rw [List.getElem?_append_right (by omega)] at h
  have:i - S.length < 1:=(List.getElem?_eq_some_iff.mp h).1
  have e:i=S.length:=by omega
  subst e
  rw [Nat.sub_self] at h
  cases h
  exact .inr ⟨rfl,rfl⟩
theorem Good.snoc {S1:List Shp} {s:Shp} (h:Good S1) (h1:s.2 ≠ []) (h2:s.2.length<=6) (h3:∀ f ∈ s.2,f.2.Fit S1.length/\1<=f.1.length/\f.1.length<=6) (h4:(s.2.map fun f=>f.2.size (tabs S1).sz).sum<=1000):Good (S1++[s]):=by
 refine⟨fun i t e=>?_,fun i t e=>?_,fun i t e=>?_,fun i=>?_⟩
 ·rcases get_snoc e with e|⟨_,rfl⟩
  ·exact h.ne i t e
  ·exact h1
 ·rcases get_snoc e with e|⟨_,rfl⟩
  ·exact h.few i t e
  ·exact h2
 ·rcases get_snoc e with e|⟨rfl,rfl⟩
  ·exact h.fit i t e
  ·exact h3
 ·by_cases hi:i < S1.length
  ·rw [(tabs_lo hi).1];exact h.sz i
  ·by_cases e:i=S1.length
   ·subst e;rw [(tabs_at S1 s []).1];exact h4
   ·have hl:=(tabs_len (S1++[s])).1
    rw [List.length_append,List.length_singleton] at hl
    rw [List.getD_eq_getElem?_getD,List.getElem?_eq_none (by omega)];exact Nat.zero_le _
theorem Good.pre {S1 S2:List Shp} (h:Good (S1++S2)):Good S1:=by
 refine⟨fun i t e=>h.ne i t ?_,fun i t e=>h.few i t ?_,fun i t e=>h.fit i t ?_,fun i=>?_⟩
 ·rw [List.getElem?_append_left (List.getElem?_eq_some_iff.mp e).1];exact e
 ·rw [List.getElem?_append_left (List.getElem?_eq_some_iff.mp e).1];exact e
 ·rw [List.getElem?_append_left (List.getElem?_eq_some_iff.mp e).1];exact e
 ·by_cases hi:i < S1.length
  ·rw [← (tabs_lo (R:=S2) hi).1];exact h.sz i
  ·have hl:=(tabs_len S1).1
   rw [List.getD_eq_getElem?_getD,List.getElem?_eq_none (by omega)];exact Nat.zero_le _
def Smal (S:List Shp) (i:Nat):Prop:=(tabs S).sz.getD i 0<=64/\(un (.nest i) S Str.empty).length<=40/\(tabs S).dp.getD i 0<=4
theorem Wel.pre {S S1 S2:List Shp} {s:Shp} {f1 f2:List (Str × Kd)} (h:Wel S) (e:S=S1++s::S2) (ef:s.2=f1++f2) (hne:f1 ≠ []):Good (S1++[(s.1,f1)])/\Smal (S1++[(s.1,f1)]) S1.length/\f1.length<=5:=by
 subst e
 have hi:(S1++s::S2)[S1.length]?=some s:=by rw [List.getElem?_append_right (Nat.le_refl _),Nat.sub_self];rfl
 obtain⟨b1,b2,b3,b4⟩:=h.bd _ _ hi
 obtain⟨t1,t2,t3⟩:=tabs_at S1 s S2
 obtain⟨u1,u2,u3⟩:=tabs_at S1 (s.1,f1) []
 rw [ef,List.length_append] at b4
 have z1:(f1.map fun f=>f.2.size (tabs S1).sz).sum<=64:=by
  rw [t1,ef,List.map_append,List.sum_append] at b1;omega
 have hfit:=h.good.fit _ _ hi
 refine⟨Good.snoc (Good.pre h.good) hne (by show f1.length<=6;omega) (fun f hf=>hfit f (by rw [ef];exact List.mem_append_left _ hf)) (by show (f1.map _).sum<=1000;omega),⟨by rw [u1];exact z1,?_,?_⟩,by omega⟩
 ·have e1:un (.nest S1.length) (S1++[(s.1,f1)]) Str.empty=_:=u3 Str.empty
  have e2:un (.nest S1.length) (S1++s::S2) Str.empty=_:=t3 Str.empty
  rw [e2,ef,List.flatMap_append,List.length_append] at b2
  rw [e1]
  show (f1.flatMap _).length<=40
  omega
 ·rw [u2]
  rw [t2,ef,List.map_append] at b3
  have:maxL (f1.map fun f=>f.2.depth (tabs S1).dp)<=maxL ((f1.map fun f=>f.2.depth (tabs S1).dp)++(f2.map fun f=>f.2.depth (tabs S1).dp)):=maxL_bd fun x hx=>maxL_le (List.mem_append_left _ hx)
  show 1 + maxL (f1.map fun f=>f.2.depth (tabs S1).dp)<=4
  omega
theorem nmOf_get {S:List Shp} {i:Nat} {s:Shp} (h:S[i]?=some s):nmOf S i=s.1:=by
 unfold nmOf;rw [List.getD_eq_getElem?_getD,h];rfl
theorem nmOf_pre {S1 S2:List Shp} {i:Nat} (h:i < S1.length):nmOf (S1++S2) i=nmOf S1 i:=by
 have e:S1[i]?=some S1[i]:=List.getElem?_eq_getElem h
 rw [nmOf_get e,nmOf_get (by rw [List.getElem?_append_left h];exact e)]
theorem words_congr {nm nm':Nat->Str} {n:Nat} (h:∀ i,i < n->nm i=nm' i):∀ {k:Kd},k.Below n->k.words nm=k.words nm'
 | .num _,_=>rfl
 | .nest i,hk=>by show [nm i]=[nm' i];rw [h i hk]
 | .many m k,hk=>by show _::_::k.words nm=_::_::k.words nm';rw [words_congr h (k:=k) hk]
 | .pick is,hk=>by
  show _::is.map nm=_::is.map nm'
  rw [List.map_congr_left fun i hi=>h i (hk i hi)]
theorem nok_of {S:List Shp} (h:∀ s ∈ S,nameB s.1=true):NOk (nmOf S) S.length:=fun i hi=>by
 have e:S[i]?=some S[i]:=List.getElem?_eq_getElem hi
 rw [nmOf_get e];exact h _ (List.getElem_mem hi)
theorem nm_inj {S:List Shp} (h:(S.map (·.1)).Nodup) {i j:Nat} (hi:i < S.length) (hj:j < S.length) (e:nmOf S i=nmOf S j):i=j:=by
 have ei:S[i]?=some S[i]:=List.getElem?_eq_getElem hi
 have ej:S[j]?=some S[j]:=List.getElem?_eq_getElem hj
 rw [nmOf_get ei,nmOf_get ej] at e
 have hp:=List.pairwise_iff_getElem.mp h
 rcases Nat.lt_trichotomy i j with hl|hl|hl
 ·exact absurd (by rw [List.getElem_map,List.getElem_map];exact e) (hp i j (by rw [List.length_map];exact hi) (by rw [List.length_map];exact hj) hl)
 ·exact hl
 ·exact absurd (by rw [List.getElem_map,List.getElem_map];exact e.symm) (hp j i (by rw [List.length_map];exact hj) (by rw [List.length_map];exact hi) hl)
theorem named_nodup {S:List Shp} (h:(S.map (·.1)).Nodup):∀ {k:Kd},k.Fit S.length->(Kd.named (nmOf S) k).Nodup/\(Kd.named (nmOf S) k).length<=4/\∀ x ∈ Kd.named (nmOf S) k,∃ i,i < S.length/\x=nmOf S i:=by
 have hs:∀ {k:Kd},(∃ w,k=.num w/\1<=w/\w<=4)\/(∃ i,k=.nest i/\i < S.length)->(Kd.named (nmOf S) k).Nodup/\(Kd.named (nmOf S) k).length<=4/\∀ x ∈ Kd.named (nmOf S) k,∃ i,i < S.length/\x=nmOf S i:=by
  rintro k (⟨w,rfl,_⟩|⟨i,rfl,hi⟩)
  ·exact⟨List.Pairwise.nil,Nat.zero_le _,fun x hx=>by cases hx⟩
  ·exact⟨List.pairwise_singleton _ _,(by show 1<=4;decide),fun x hx=>⟨i,hi,List.mem_singleton.mp hx⟩⟩
 intro k hk
 cases k with
 | num w=>exact hs (.inl ⟨w,rfl,hk⟩)
 | nest i=>exact hs (.inr ⟨i,rfl,hk⟩)
 | many m k=>exact hs (k:=k) hk.2.2
 | pick is =>
  refine⟨?_,by show (is.map _).length<=4;rw [List.length_map];exact hk.2.1,fun x hx=>?_⟩
  ·show (is.map (nmOf S)).Pairwise (· ≠ ·)
   rw [List.pairwise_map]
   exact hk.2.2.1.imp_of_mem fun ha hb ne e=>ne (nm_inj h (hk.2.2.2 _ ha) (hk.2.2.2 _ hb) e)
  ·obtain⟨i,hi,rfl⟩:=List.mem_map.mp hx
   exact⟨i,hk.2.2.2 i hi,rfl⟩
theorem isSh_fd {n:Str} {ws:List Str} (h:nameB n=true):isShB (n::ws)=false:=by
 match ws with
 | []=>rfl
 | [y] =>
  show (decide (n=Str.ofString "shape") && nameB y)=false
  rw [decide_eq_false (name_ne h (by decide)),Bool.false_and]
 | _::_::_=>rfl
def spNew (c:Cl5) (K:Frag):Sp:=fun vs H Q _=>∃ (tl:Addr) (x:V) (nm:Str) (sa:List Addr) (T:List Shp),vs=[.ref tl,x,.str nm]/\H tl=some (.lst (sa.map V.ref))/\SW c K H sa T/\(∀ s ∈ T,s.2 ≠ [])/\nm ∉ T.map (·.1)/\T.length < 8/\∀ H',Same H H'->Q .non H'
def spWh (c:Cl5) (K:Frag):Sp:=fun vs H Q _=>∃ (tl z:Addr) (sa:List Addr) (T:List Shp) (s:Shp),vs=[.ref tl]/\H tl=some (.lst ((sa++[z]).map V.ref))/\SW c K H (sa++[z]) (T++[s])/\(T.map (·.1)).Nodup/\T.length<=100/\∀ d H',Same H H'->H d=none->H' d=some (.dK (dk T sa))->Q (.ref d) H'
def spNF (c:Cl5) (K:Frag):Sp:=fun vs H Q _=>∃ (tl a z:Addr) (x:V) (sa:List Addr) (T:List Shp) (s:Shp) (fn:Str) (kd:Kd),vs=[.ref tl,x,.ref a]/\H tl=some (.lst ((sa++[z]).map V.ref))/\SW c K H (sa++[z]) (T++[s])/\SqL K H a ((fn::kd.words (nmOf T)).map V.str)/\nameB fn=true/\fn ∉ s.2.map (·.1)/\s.2.length<=100/\kd.Fit T.length/\NOk (nmOf T) T.length/\(T.map (·.1)).Nodup/\T.length<=100/\∀ H',Same H H'->Q .non H'
def spKin (c:Cl5) (K:Frag) (n:Nat):Sp:=fun vs H Q _=>∃ (a d:Addr) (kd:Kd) (sa:List Addr) (T:List Shp),vs=[.ref a,.ref d]/\kd.lv < n/\SqL K H a ((kd.words (nmOf T)).map V.str)/\H d=some (.dK (dk T sa))/\kd.Fit T.length/\NOk (nmOf T) T.length/\(T.map (·.1)).Nodup/\sa.length=T.length/\∀ k H',Same H H'->KO c K H' sa k kd->Q (.ref k) H'
def spTM (c:Cl5) (K:Frag) (r:Nat):Sp:=fun vs H Q _=>∃ (a:Addr) (i:Nat) (sa:List Addr) (S:List Shp),vs=[.ref a]/\sa[i]?=some a/\2 * i + 2<=r/\8 * r<=200/\SW c K H sa S/\Good S/\Smal S i/\∀ H',Same H H'->Q (.bl false) H'
def spWF (c:Cl5) (K:Frag) (r:Nat):Sp:=fun vs H Q _=>∃ (tl a z:Addr) (x:V) (sa:List Addr) (T:List Shp) (s:Shp) (fn:Str) (kd:Kd),vs=[.ref tl,x,.ref a]/\H tl=some (.lst ((sa++[z]).map V.ref))/\SW c K H (sa++[z]) (T++[s])/\SqL K H a ((fn::kd.words (nmOf T)).map V.str)/\kd.Fit T.length/\NOk (nmOf T) T.length/\(T.map (·.1)).Nodup/\T.length<=100/\2 * T.length + 2<=r/\8 * r<=200/\s.2.length<=50/\Good (T++[(s.1,s.2++[(fn,kd)])])/\Smal (T++[(s.1,s.2++[(fn,kd)])]) T.length ∧
 ∀ y H',Same H H'->SO c K H' sa y (s.1,s.2++[(fn,kd)])->Q (.ref y) H'
def txt (S:List Shp):Str:=Str.join nlS ((txLines S).map (Str.join spS))
def spRd (c:Cl5) (CS:Addr) (K:Frag) (r:Nat):Sp:=fun vs H Q _=>∃ S:List Shp,vs=[.str (txt S)]/\Wel S/\S ≠ []/\12<=r/\8 * r<=200/\∀ (a dx t:Addr) (sa:List Addr) H',Same H H'->H' a=some (.ins CS dx [("shapes",.ref t)])->SqT K H' t (sa.map V.ref)->SW c K H' sa S->Q (.ref a) H'
theorem name_pln {x:Str} (h:nameB x=true):Pln x:=by
 unfold nameB at h
 simp only [Bool.and_eq_true] at h
 have ha:x.cps.toList.all (fun c=>decide (c ∈ lettersS.cps.toList))=true:=h.1.2
 have hc:∀ c ∈ x.cps.toList,97<=c/\c<=122:=fun c hc=>(mem_letters c).mp (of_decide_eq_true (List.all_eq_true.mp ha c hc))
 exact⟨fun z=>by have:=hc _ z;omega,fun z=>by have:=hc _ z;omega⟩
theorem line_ok {S:List Shp} (hW:Wel S):∀ it ∈ itms S,(∀ w ∈ it.line (nmOf S),Pln w/\w.length<=6)/\(it.line (nmOf S)).length<=6/\it.line (nmOf S) ≠ []:=by
 intro it hit
 obtain⟨s,hs,hit⟩:=List.mem_flatMap.mp hit
 have hn:=nok_of hW.nm
 unfold itm1 at hit
 rcases List.mem_cons.mp hit with rfl|hit
 ·refine⟨fun w hw=>?_,(by show 2<=6;decide),(by simp [Itm.line])⟩
  simp only [Itm.line,List.mem_cons,List.not_mem_nil,or_false] at hw
  rcases hw with rfl|rfl
  ·exact⟨by unfold Pln;decide +kernel,by decide⟩
  ·exact⟨name_pln (hW.nm s hs),(name_len (hW.nm s hs)).2⟩
 ·obtain⟨f,hf,rfl⟩:=List.mem_map.mp hit
  obtain⟨i,hi⟩:=List.mem_iff_getElem?.mp hs
  have hfit:f.2.Fit S.length:=(hW.good.fit i s hi f hf).1.mono (Nat.le_of_lt (List.getElem?_eq_some_iff.mp hi).1)
  have hnm:=hW.fnm s hs f hf
  obtain⟨w6,w5⟩:=words_len hn hfit
  refine⟨fun w hw=>?_,(by show (f.2.words (nmOf S)).length + 1<=6;omega),(by simp [Itm.line])⟩
  rcases List.mem_cons.mp (show w ∈ f.1::f.2.words (nmOf S) from hw) with rfl|hw
  ·exact⟨name_pln hnm,(name_len hnm).2⟩
  ·exact⟨hfit.plain (fun j hj=>name_pln (hn j hj)) w hw,w6 w hw⟩
theorem txt_ok {S:List Shp} (hW:Wel S) (hne:S ≠ []):(itms S).length<=30/\(∀ it ∈ itms S,(Str.join spS (it.line (nmOf S))).length<=100/\Txt.split (Str.join spS (it.line (nmOf S))) spS=it.line (nmOf S))/\(txt S).length<=4000/\Txt.split (txt S) nlS=(itms S).map fun it=>Str.join spS (it.line (nmOf S)):=by
 have hl:=line_ok hW
 have h30:(itms S).length<=30:=by
  unfold itms
  rw [List.length_flatMap]
  have h1:(S.map fun s=>(itm1 s).length).sum<=S.length * 6:=sum_le fun s hs=>by
   obtain⟨i,hi⟩:=List.mem_iff_getElem?.mp hs
   have:=(hW.bd i s hi).2.2.2
   unfold itm1
   rw [List.length_cons,List.length_map];omega
  have:=hW.len
  omega
 have hrow:∀ it ∈ itms S,(Str.join spS (it.line (nmOf S))).length<=100:=fun it hit=>by
  obtain⟨h1,h2,_⟩:=hl it hit
  have h3:(Str.join spS (it.line (nmOf S))).length<=_:=join_len (c:=32) (m:=6) fun w hw=>(h1 w hw).2
  omega
 have e:(txLines S).map (Str.join spS)=(itms S).map fun it=>Str.join spS (it.line (nmOf S)):=by rw [itms_lines,List.map_map];rfl
 refine⟨h30,fun it hit=>⟨hrow it hit,split_line (hl it hit).2.2 fun w hw=>((hl it hit).1 w hw).1⟩,?_,?_⟩
 ·unfold txt
  rw [e]
  have h3:(Str.join nlS ((itms S).map fun it=>Str.join spS (it.line (nmOf S)))).length<=_:=join_len (c:=10) (m:=100) (ws:=(itms S).map fun it=>Str.join spS (it.line (nmOf S))) fun w hw=>by
   obtain⟨it,hit,rfl⟩:=List.mem_map.mp hw
   exact hrow it hit
  rw [List.length_map] at h3
  omega
 ·unfold txt
  rw [split_lines,e]
  ·rw [itms_lines]
   intro z
   have h0:=itms_ne hne
   rw [List.map_eq_nil_iff] at z
   rw [z] at h0
   exact absurd h0 (by decide)
  ·intro l hl' w hw
   rw [itms_lines] at hl'
   obtain⟨it,hit,rfl⟩:=List.mem_map.mp hl'
   exact ((hl it hit).1 w hw).1
theorem snoc_of {sa:List Addr} {T:List Shp} {s:Shp} (h:sa.length=(T++[s]).length):∃ sa0 z,sa=sa0++[z]:=by
 rcases List.eq_nil_or_concat sa with rfl|⟨sa0,z,rfl⟩
 ·rw [List.length_append] at h;exact absurd h (by simp)
 ·exact⟨sa0,z,List.concat_eq_append ..⟩
def spFits (K:Frag) (r:Nat):Sp:=fun vs H Q _=>∃ (sl:Addr) (S:List Shp) (n:Nat),vs=[.ref sl]/\S.length=n + 1/\LX K H sl S/\Good S/\2 * n + 2<=r/\8 * r<=200/\∀ (b:Bool) H',Same H H'->(b=true->Smal S n)->Q (.bl b) H'
def spLKd (K:Frag):Sp:=fun vs H Q _=>∃ (p:Addr) (n:Nat) (xs:List Addr),vs=[.ref p,.int n]/\n<=8/\St3 H p/\p ∈ xs/\Al xs H/\∀ a kd H',Drawn p H H'->kd.Fit n->LK K (offs xs H') a kd->Q (.ref a) H'
theorem Al.drawn {xs:List Addr} {p:Addr} {H H':Hp} (h:Al xs H) (d:Drawn p H H'):Al xs H':=fun b hb=>by
 by_cases e:b=p
 ·obtain⟨x,y,z,q⟩:=d.1
  exact⟨_,by rw [e];exact q⟩
 ·obtain⟨o,ho⟩:=h b hb
  exact⟨o,d.2 b o e ho⟩
theorem Drawn.offs {xs:List Addr} {p:Addr} {H H':Hp} (d:Drawn p H H') (hp:p ∈ xs):Same (offs xs H) (offs xs H'):=offs_but fun b o n q=>d.2 b o (fun z=>n (by rw [z];exact hp)) q
theorem mod_nodup {a n m:Nat} (h:m<=n):((List.range m).map fun k=>(a + k) % n).Nodup:=by
 show List.Pairwise (· ≠ ·) _
 rw [List.pairwise_map]
 refine List.pairwise_lt_range.imp_of_mem fun {i j} hi hj hlt e=>?_
 have hj':=List.mem_range.mp hj
 have h1:=Nat.sub_mod_eq_zero_of_mod_eq e.symm
 rw [show a + j - (a + i)=j - i by omega,Nat.mod_eq_of_lt (by omega)] at h1
 omega
def spKT (K:Frag) (n:Nat):Sp:=fun vs H Q _=>∃ (a sl:Addr) (kd:Kd) (S:List Shp),vs=[.ref a,.ref sl]/\kd.lv < n/\kd.Fit S.length/\NOk (nmOf S) S.length/\LK K H a kd/\LX K H sl S/\∀ H',Same H H'->Q (.str (Str.join spS (kd.words (nmOf S)))) H'
def spTx (K:Frag):Sp:=fun vs H Q _=>∃ (sl:Addr) (S:List Shp),vs=[.ref sl]/\LX K H sl S/\Wel S/\S ≠ []/\∀ H',Same H H'->Q (.str (txt S)) H'
def rowT (S:List Shp) (it:Itm):Str:=Str.join spS (it.line (nmOf S))
theorem txt_rows (S:List Shp):txt S=Str.join nlS ((itms S).map (rowT S)):=by
 unfold txt
 rw [itms_lines,List.map_map]
 rfl
def w0L:List Str:=["num","row","pick","tag","room","part","tags","put","look","shape","end","out"]
def nm0 (a:Nat):List Str:=(List.range 12).map fun k=>(w0L.getD ((a + k) % 12) Str.empty)++Str.ofString "q"
def NmOk (ns:List Str):Prop:=ns.length=12/\ns.Nodup/\∀ x ∈ ns,nameB x=true
theorem nm0_ok {a:Nat} (h:a < 12):NmOk (nm0 a):=by
 have:∀ a:Fin 12,(nm0 a.val).length=12/\(nm0 a.val).Nodup/\∀ x ∈ nm0 a.val,nameB x=true:=by decide +kernel
 exact this ⟨a,h⟩
def c1L:Str:=Str.ofString "bfgjkqvxyzwh"
def c1 (a k:Nat):Nat:=c1L.cps.toList.getD ((a + k) % 12) 0
def nm1 (tl:Str) (a:Nat):List Str:=(List.range 12).map fun k=>(⟨#[c1 a k]⟩ : Str)++tl++Str.ofString "x"
theorem nm1_cps (tl:Str) (c:Nat):((⟨#[c]⟩ : Str)++tl++Str.ofString "x").cps.toList=c::tl.cps.toList++[120]:=by
 rw [Str.cps_append,Str.cps_append,Array.toList_append,Array.toList_append];rfl
theorem nm1_ok {tl:Str} {a:Nat} (h:a < 12) (h4:tl.length<=4) (hl:∀ c ∈ tl.cps.toList,97<=c/\c<=122):NmOk (nm1 tl a):=by
 have hc:∀ a:Fin 12,((List.range 12).map fun k=>c1 a.val k).Nodup/\∀ k,k < 12->97<=c1 a.val k/\c1 a.val k<=122:=by decide +kernel
 obtain⟨h1,h2⟩:=hc ⟨a,h⟩
 have ho:∀ w ∈ ownL,w.cps.toList.getLast? ≠ some 120:=by decide +kernel
 refine⟨by unfold nm1;rw [List.length_map,List.length_range],?_,fun x hx=>?_⟩
 ·unfold nm1
  show List.Pairwise (· ≠ ·) _
  rw [List.pairwise_map]
  have h1':List.Pairwise (· ≠ ·) ((List.range 12).map fun k=>c1 a k):=h1
  rw [List.pairwise_map] at h1'
  refine h1'.imp fun ne e=>ne ?_
  have:=congrArg (fun s:Str=>s.cps.toList) e
  simp only [nm1_cps] at this
  exact (List.cons.inj this).1
 ·obtain⟨k,hk,rfl⟩:=List.mem_map.mp hx
  have hk':=List.mem_range.mp hk
  have hlen:((⟨#[c1 a k]⟩ : Str)++tl++Str.ofString "x").length=tl.length + 2:=by
   rw [strLen_append,strLen_append];show 1 + tl.length + 1=_;omega
  unfold nameB within allIn
  simp only [Bool.and_eq_true,decide_eq_true_eq,Bool.not_eq_true',decide_eq_false_iff_not,List.all_eq_true]
  refine⟨⟨⟨by rw [hlen];omega,by rw [hlen];omega⟩,fun c hc=>?_⟩,fun z=>?_⟩
  ·rw [nm1_cps] at hc
   rw [mem_letters]
   simp only [List.mem_append,List.mem_cons,List.not_mem_nil,or_false] at hc
   rcases hc with (rfl|hc)|rfl
   ·exact h2 k hk'
   ·exact hl c hc
   ·exact⟨by decide,by decide⟩
  ·refine ho _ z ?_
   rw [nm1_cps,List.getLast?_append];rfl
def nm2 (a:Nat):List Str:=((List.range 6).map fun k=>Txt.slice (Str.ofString "zyxwvu") none (some (1 + (((a + k) % 6:Nat):Int))))++(["yz","yyyyyy","y","yx","numz","tagszz"]:List Str)
theorem nm2_ok {a:Nat} (h:a < 12):NmOk (nm2 a):=by
 have:∀ a:Fin 12,(nm2 a.val).length=12/\(nm2 a.val).Nodup/\∀ x ∈ nm2 a.val,nameB x=true:=by decide +kernel
 exact this ⟨a,h⟩
theorem tail_cps:∀ cs:List Nat,(Str.join (Str.ofString "") (cs.map fun c=>(⟨#[c]⟩ : Str))).cps.toList=cs
 | []=>rfl
 | [c]=>rfl
 | c::d::cs=>by
  have ih:=tail_cps (d::cs)
  rw [List.map_cons,join_cons (by simp),Str.cps_append,Str.cps_append,Array.toList_append,Array.toList_append,ih]
  rfl
theorem Drawn.free {p l:Addr} {H H1:Hp} (d:Drawn p H H1) (h:H1 l=none):H l=none:=by
 cases e:H l with
 | none=>rfl
 | some o =>
  by_cases z:l=p
  ·obtain⟨x,y,w,q⟩:=d.1
   rw [z,q] at h;cases h
  ·rw [d.2 l o z e] at h;cases h
def spNms (K:Frag):Sp:=fun vs H Q _=>∃ p:Addr,vs=[.ref p]/\St3 H p/\∀ l ns H',Drawn p H H'->H l=none->H' l=some (.lst (ns.map V.str))->NmOk ns->Q (.ref l) H'
theorem modc {a j n:Nat} : (((a:Nat):Int) + ((0:Int) + (j:Nat))) % ((n:Nat):Int)=(((a + j) % n:Nat):Int):=by
 rw [Int.zero_add,← Int.natCast_add]
 first|exact (Int.natCast_emod _ _).symm|exact (Int.ofNat_emod _ _).symm|rfl
theorem Wel.nil:Wel []:=⟨⟨fun i s h=>by simp at h,fun i s h=>by simp at h,fun i s h=>by simp at h,fun i=>by show (([]:List Nat).getD i 0)<=1000;simp⟩,fun s h=>by simp at h,fun s h=>by simp at h,List.Pairwise.nil,fun s h=>by simp at h,Nat.zero_le _,fun i s h=>by simp at h⟩
theorem Wel.sz64 {S:List Shp} (h:Wel S) (i:Nat):(tabs S).sz.getD i 0<=64:=by
 by_cases hi:i < S.length
 ·exact (h.bd i _ (List.getElem?_eq_getElem hi)).1
 ·rw [List.getD_eq_getElem?_getD,List.getElem?_eq_none (by rw [(tabs_len S).1];omega)];exact Nat.zero_le _
theorem Wel.snoc {S:List Shp} {nm:Str} {fs:List (Str × Kd)} (h:Wel S) (h1:nameB nm=true) (h2:nm ∉ S.map (·.1)) (h3:S.length<=4) (h4:fs ≠ []) (h5:fs.length<=5) (h6:∀ f ∈ fs,f.2.Fit S.length/\nameB f.1=true) (h7:(fs.map (·.1)).Nodup) (h8:Smal (S++[(nm,fs)]) S.length):Wel (S++[(nm,fs)]):=by
 have hz:=h8.1
 rw [(tabs_at S (nm,fs) []).1] at hz
 refine⟨Good.snoc h.good h4 (by show fs.length<=6;omega) (fun f hf=>⟨(h6 f hf).1,name_len (h6 f hf).2⟩) (by show (fs.map _).sum<=1000;exact Nat.le_trans hz (by decide)),fun s hs=>?_,fun s hs=>?_,?_,fun s hs=>?_,by rw [List.length_append,List.length_singleton];omega,fun i s e=>?_⟩
 ·rcases List.mem_append.mp hs with hs|hs
  ·exact h.nm s hs
  ·rw [List.mem_singleton.mp hs];exact h1
 ·rcases List.mem_append.mp hs with hs|hs
  ·exact h.fnm s hs
  ·rw [List.mem_singleton.mp hs];exact fun f hf=>(h6 f hf).2
 ·rw [List.map_append,List.nodup_append]
  refine⟨h.nd,List.pairwise_singleton _ _,fun a ha b hb e=>h2 ?_⟩
  rw [← show b=nm from List.mem_singleton.mp hb,← e];exact ha
 ·rcases List.mem_append.mp hs with hs|hs
  ·exact h.fnd s hs
  ·rw [List.mem_singleton.mp hs];exact h7
 ·rcases get_snoc e with e|⟨rfl,rfl⟩
  ·have hi:i < S.length:=(List.getElem?_eq_some_iff.mp e).1
   obtain⟨t1,t2,t3⟩:=tabs_lo (R:=[(nm,fs)]) hi
   obtain⟨b1,b2,b3,b4⟩:=h.bd i s e
   refine⟨by rw [t1];exact b1,?_,by rw [t2];exact b3,b4⟩
   have e1:un (.nest i) (S++[(nm,fs)]) Str.empty=un (.nest i) S Str.empty:=by
    show ((tabs (S++[(nm,fs)])).ut.getD i fun _=>[]) Str.empty=((tabs S).ut.getD i fun _=>[]) Str.empty
    rw [t3]
   rw [e1];exact b2
  ·exact⟨h8.1,h8.2.1,h8.2.2,h5⟩
theorem step_good {S:List Shp} {nm:Str} {fs:List (Str × Kd)} {f:Str × Kd} (h:Wel S) (hs:fs ≠ []->Smal (S++[(nm,fs)]) S.length) (h5:fs.length<=5) (h6:∀ f ∈ fs,f.2.Fit S.length/\nameB f.1=true) (hf:f.2.Fit S.length) (hn:nameB f.1=true):Good (S++[(nm,fs++[f])]):=by
 refine Good.snoc h.good (by simp) (by show (fs++[f]).length<=6;rw [List.length_append,List.length_singleton];omega) (fun g hg=>?_) ?_
 ·rcases List.mem_append.mp hg with hg|hg
  ·exact⟨(h6 g hg).1,name_len (h6 g hg).2⟩
  ·rw [List.mem_singleton.mp hg];exact⟨hf,name_len hn⟩
 ·show ((fs++[f]).map fun f=>f.2.size (tabs S).sz).sum<=1000
  rw [List.map_append,List.sum_append]
  have h1:(fs.map fun f=>f.2.size (tabs S).sz).sum<=64:=by
   by_cases e:fs=[]
   ·rw [e];exact Nat.zero_le _
   ·have hz:=(hs e).1
    rw [(tabs_at S (nm,fs) []).1] at hz
    exact hz
  have h2:=Kd.size_bd (h.sz64) (by decide) hf
  show _ + (f.2.size (tabs S).sz + 0)<=1000
  omega
theorem smal_num {S:List Shp} {nm x:Str} {w:Nat} (hw:w<=4):Smal (S++[(nm,[(x,Kd.num w)])]) S.length:=by
 obtain⟨t1,t2,t3⟩:=tabs_at S (nm,[(x,Kd.num w)]) []
 refine⟨?_,?_,?_⟩
 ·rw [t1];show w + 0<=64;omega
 ·have e1:un (.nest S.length) (S++[(nm,[(x,Kd.num w)])]) Str.empty=_:=t3 Str.empty
  rw [e1];show 1<=40;decide
 ·rw [t2];show 1 + max 0 0<=4;decide
theorem st_ne {p a:Addr} {H:Hp} (h:St3 H p) (ha:H a=none):a ≠ p:=fun z=>by
 obtain⟨x,y,w,q⟩:=h
 rw [z,q] at ha;cases ha
theorem st_ex {p:Addr} {H:Hp} (h:St3 H p):∃ o,H p=some o:=by
 obtain⟨x,y,w,q⟩:=h
 exact⟨_,q⟩
theorem pe_xfldK {X:Cx} {K:Frag} {o:Expr} {f:Str} {pos:Pos} {ta:TE} (hK:X.K=K) (he:PE X o ta) (hb:attributeBase o f X.env (eval o X.env)=eval o X.env):PE X (.Attribute o f pos) (tXfld K ta f):=hK ▸ pe_xfld he hb
def NPx (CN:Addr) (H:Hp) (e:Addr) (v:V):Prop:=∃ dx,H e=some (ExF e CN (some dx))/\H dx=some (XD dx [("path",v)])
theorem np_fin {CN e dx:Addr} {v:V} {H H':Hp} (g:Same H H') (he:H' e=none) (hd:upd H' e (Ex0 e CN none) dx=none) :
  Same H (upd (upd (upd (upd H' e (Ex0 e CN none)) dx (XD dx [("path",v)])) e (Ex0 e CN (some dx))) e (ExF e CN (some dx)))/\NPx CN (upd (upd (upd (upd H' e (Ex0 e CN none)) dx (XD dx [("path",v)])) e (Ex0 e CN (some dx))) e (ExF e CN (some dx))) e v:=by
 have ne:dx ≠ e:=fun z=>by rw [z,upd_same] at hd;cases hd
 have hd':H' dx=none:=by rw [upd_ne ne] at hd;exact hd
 refine⟨fun b o q=>?_,dx,upd_same,?_⟩
 ·have q':=g b o q
  have n1:b ≠ e:=ne_of_none q' he
  have n2:b ≠ dx:=ne_of_none q' hd'
  rw [upd_ne n1,upd_ne n1,upd_ne n2,upd_ne n1];exact q'
 ·rw [upd_ne ne,upd_ne ne,upd_same]
def spRE (K:Frag):Sp:=fun vs H Q _=>∃ (e:Addr) (v:V) (C R fI:Addr) (dx:Option Addr),vs=[.ref e,v]/\H e=some (Ex0 e C dx)/\ExCl K C R fI/\Q .non H
def spNP (CN:Addr):Sp:=fun vs H Q _=>∃ (e:Addr) (v:V),vs=[.ref e,v]/\H e=some (Ex0 e CN none)/\∀ dx,H dx=none->Q .non (upd (upd H dx (XD dx [("path",v)])) e (Ex0 e CN (some dx)))
def spW (c:Cl5) (K:Frag) (r:Nat) (F:Kd->Bool) (val:Kd->List Shp->V):Sp:=fun vs H Q _=>∃ (a:Addr) (kd:Kd) (sa:List Addr) (S:List Shp),vs=[.ref a]/\F kd=true/\kd.Rk r/\kd.Fit S.length/\KO c K H sa a kd/\SW c K H sa S/\(Good S/\NOk (nmOf S) S.length)/\∀ H',Same H H'->Q (val kd S) H'
def TW (c:Cl5) (K:Frag) (r:Nat) (val:Kd->List Shp->V):Addr->Sp->Prop:=fun C sp=>(C=c.num/\sp=spW c K r Kd.isNum val)\/(C=c.nest/\sp=spW c K r Kd.isNest val)\/(C=c.many/\sp=spW c K r Kd.isMany val)\/(C=c.pick/\sp=spW c K r Kd.isPick val)
theorem callW {c:Cl5} {K:Frag} {r:Nat} {val:Kd->List Shp->V} {H:Hp} {a:Addr} {kd:Kd} {sa:List Addr} {S:List Shp} {Q:VK} {E:XK} {m:Str} (hm:Nolk m) (hr:kd.Rk r) (hf:kd.Fit S.length) (ho:KO c K H sa a kd) (hw:SW c K H sa S) (hg:(Good S/\NOk (nmOf S) S.length))
  (q:∀ H',Same H H'->Q (val kd S) H'):∃ a' C dx fs sp,V.ref a=.ref a'/\H a'=some (.ins C dx fs)/\fs.lookup m=none/\TW c K r val C sp/\sp [.ref a] H Q E:=by
 cases id ho with
 | num h=>exact⟨_,_,_,_,_,rfl,h,(hm _ .non).1,.inl ⟨rfl,rfl⟩,a,_,sa,S,rfl,rfl,hr,hf,ho,hw,hg,q⟩
 | nest e h=>exact⟨_,_,_,_,_,rfl,h,(hm _ .non).2.1,.inr (.inl ⟨rfl,rfl⟩),a,_,sa,S,rfl,rfl,hr,hf,ho,hw,hg,q⟩
 | many h _=>exact⟨_,_,_,_,_,rfl,h,(hm _ _).2.2.1,.inr (.inr (.inl ⟨rfl,rfl⟩)),a,_,sa,S,rfl,rfl,hr,hf,ho,hw,hg,q⟩
 | pick h _ _ _=>exact⟨_,_,_,_,_,rfl,h,(hm _ .non).2.2.2,.inr (.inr (.inr ⟨rfl,rfl⟩)),a,_,sa,S,rfl,rfl,hr,hf,ho,hw,hg,q⟩
theorem noW {c:Cl5} {K:Frag} {F:Kd->Bool} {val:Kd->List Shp->V} (hF:∀ k,F k=true->k.isNum=true->False):∀ vs H Q E,spW c K 0 F val vs H Q E->False:=fun vs H Q E ⟨a,kd,sa,S,_,h1,h2,h3,_⟩=>hF kd h1 (h2.zero h3)
def kdWord:Kd->Str
 | .num _=>Str.ofString "num"
 | .nest _=>Str.ofString "shape"
 | .many _ _=>Str.ofString "row"
 | .pick _=>Str.ofString "pick"
abbrev txK (kd:Kd) (S:List Shp):V:=.str (Str.join spS (kd.words (nmOf S)))
abbrev wdK (kd:Kd) (S:List Shp):V:=.str (kdWord kd)
theorem off_at {p:Addr} {H:Hp} {xs:List V} (hp:H p=some (.lst xs)) {b:Addr} {o:HO} (e:H b=some o) (n:∀ ys,o ≠ .lst ys):offs [p] H b=some o:=offs_at (fun z=>n xs (by rw [List.mem_singleton.mp z,hp] at e;exact (Option.some.inj e).symm)) e
theorem off_tp {K:Frag} {p:Addr} {H:Hp} {xs:List V} (hp:H p=some (.lst xs)) {b:Addr} {ys:List V} (h:SqT K H b ys):SqT K (offs [p] H) b ys:=by
 rcases h with (h|⟨o,h⟩)|h
 ·exact .inl (.inl (off_at hp h (fun _ z=>by cases z)))
 ·exact .inl (.inr ⟨o,off_at hp h (fun _ z=>by cases z)⟩)
 ·exact .inr h
theorem KO.off {c:Cl5} {K:Frag} {H:Hp} {sa:List Addr} {a:Addr} {k:Kd} {p:Addr} {xs:List V} (hp:H p=some (.lst xs)) (h:KO c K H sa a k):KO c K (offs [p] H) sa a k:=by
 induction h with
 | num h=>exact .num (off_at hp h (fun _ z=>by cases z))
 | nest e h=>exact .nest e (off_at hp h (fun _ z=>by cases z))
 | many h _ ih=>exact .many (off_at hp h (fun _ z=>by cases z)) ih
 | pick h t l e=>exact .pick (off_at hp h (fun _ z=>by cases z)) (off_tp hp t) l e
theorem FO.off {c:Cl5} {K:Frag} {H:Hp} {sa ps:List Addr} {fs:List (Str × Kd)} {p:Addr} {xs:List V} (hp:H p=some (.lst xs)) (h:FO c K H sa ps fs):FO c K (offs [p] H) sa ps fs:=by
 induction h with
 | nil=>exact .nil
 | cons t k _ ih=>exact .cons (off_tp hp t) (KO.off hp k) ih
theorem SW.off {c:Cl5} {K:Frag} {H:Hp} {sa:List Addr} {S:List Shp} {p:Addr} {xs:List V} (hp:H p=some (.lst xs)) (h:SW c K H sa S):SW c K (offs [p] H) sa S:=⟨h.1,fun i a s h1 h2=>by
 obtain⟨dx,t,ps,k1,k2,k3⟩:=h.2 i a s h1 h2
 exact⟨dx,t,ps,off_at hp k1 (fun _ z=>by cases z),off_tp hp k2,FO.off hp k3⟩⟩
theorem LKhd {K:Frag} {H:Hp} {d:Addr} {k:Kd} (h:LK K H d k):∃ rest,SqT K H d (.str (kdWord k)::rest):=by
 cases h with
 | num h=>exact⟨_,h⟩
 | nest h=>exact⟨_,h⟩
 | many h _=>exact⟨_,h⟩
 | pick h _=>exact⟨_,h⟩
theorem tyM_same {K:Frag} {H H':Hp} {x:V} {t:String} (g:Same H H') (h:tyM K x H t):tyM K x H' t:=by
 rcases h with h|⟨rfl,p,kvs,rfl,hp⟩
 ·refine .inl ?_
  cases x with
  | ref p =>
   rcases h with⟨rfl,xs,h⟩|⟨rfl,xs,h⟩
   ·exact .inl ⟨rfl,xs,g.seq h⟩
   ·exact .inr ⟨rfl,xs,g.tp h⟩
  | _=>exact h
 ·exact .inr ⟨rfl,p,kvs,rfl,g _ _ hp⟩
def RO (c:Cl5) (CS:Addr) (K:Frag) (H:Hp) (ra:Addr) (sa:List Addr) (S:List Shp):Prop:=∃ dx t,H ra=some (.ins CS dx [("shapes",.ref t)])/\SqT K H t (sa.map V.ref)/\SW c K H sa S
theorem RO_same {c:Cl5} {CS:Addr} {K:Frag} {H H':Hp} {ra:Addr} {sa:List Addr} {S:List Shp} (h:RO c CS K H ra sa S) (g:Same H H'):RO c CS K H' ra sa S:=by
 obtain⟨dx,t,a,b,w⟩:=h
 exact⟨dx,t,g _ _ a,g.tp b,w.same g⟩
theorem RO_off {c:Cl5} {CS:Addr} {K:Frag} {H:Hp} {ra:Addr} {sa:List Addr} {S:List Shp} {p:Addr} {xs:List V} (hp:H p=some (.lst xs)) (h:RO c CS K H ra sa S):RO c CS K (offs [p] H) ra sa S:=by
 obtain⟨dx,t,a,b,w⟩:=h
 exact⟨dx,t,off_at hp a (fun _ z=>by cases z),off_tp hp b,SW.off hp w⟩
def NoNm (K:Frag) (H:Hp) (S:List Shp) (x:V):Prop:=(∃ p:Str,x=.str p/\p ∉ S.map (·.1))\/x=.non\/(∃ b,x=.bl b)\/(∃ n,x=.int n)\/∃ a,x=.ref a/\((∃ xs,SqL K H a xs)\/(∃ xs,SqT K H a xs)\/∃ kvs,H a=some (.dK kvs))
theorem NoNm_same {K:Frag} {H H':Hp} {S:List Shp} {x:V} (h:NoNm K H S x) (g:Same H H'):NoNm K H' S x:=by
 rcases h with h|h|h|h|⟨a,e,h⟩
 ·exact .inl h
 ·exact .inr (.inl h)
 ·exact .inr (.inr (.inl h))
 ·exact .inr (.inr (.inr (.inl h)))
 ·refine .inr (.inr (.inr (.inr ⟨a,e,?_⟩)))
  rcases h with⟨xs,h⟩|⟨xs,h⟩|⟨xs,h⟩
  ·exact .inl ⟨xs,g.seq h⟩
  ·exact .inr (.inl ⟨xs,g.tp h⟩)
  ·exact .inr (.inr ⟨xs,g _ _ h⟩)
theorem NoNm_ty {K:Frag} {H:Hp} {S:List Shp} {x:V} (h:NoNm K H S x):(∃ t,tyM K x H t)/\SelfV x:=by
 rcases h with⟨p,rfl,_⟩|rfl|⟨b,rfl⟩|⟨n,rfl⟩|⟨a,rfl,h⟩
 ·exact⟨⟨_,.inl rfl⟩,.inl rfl⟩
 ·exact⟨⟨_,.inl rfl⟩,.inl rfl⟩
 ·exact⟨⟨_,.inl rfl⟩,.inl rfl⟩
 ·exact⟨⟨_,.inl rfl⟩,.inl rfl⟩
 ·refine⟨?_,.inr ⟨a,rfl⟩⟩
  rcases h with⟨xs,h⟩|⟨xs,h⟩|⟨xs,h⟩
  ·exact⟨_,.inl (.inl ⟨rfl,xs,h⟩)⟩
  ·exact⟨_,.inl (.inr ⟨rfl,xs,h⟩)⟩
  ·exact⟨_,.inr ⟨rfl,a,xs,rfl,h⟩⟩
def spSO (c:Cl5) (CS CN:Addr) (K:Frag):Sp:=fun vs H Q E=>∃ (ra:Addr) (x:V) (sa:List Addr) (S:List Shp),vs=[.ref ra,x]/\RO c CS K H ra sa S/\(S.map (·.1)).Nodup ∧
 ((∃ (i:Nat) (s:Shp) (a:Addr),x=.str s.1/\S[i]?=some s/\sa[i]?=some a/\Q (.ref a) H)\/(NoNm K H S x/\∀ e H',Same H H'->H e=none->NPx CN H' e x->E (.ref e) none H'))
def spMn (c:Cl5) (CS:Addr) (K:Frag):Sp:=fun vs H Q _=>∃ (ra z:Addr) (sa:List Addr) (S:List Shp),vs=[.ref ra]/\RO c CS K H ra (sa++[z]) S/\Q (.ref z) H
def spTT (c:Cl5) (CS:Addr) (K:Frag) (r:Nat):Sp:=fun vs H Q _=>∃ (ra:Addr) (sa:List Addr) (S:List Shp),vs=[.ref ra]/\RO c CS K H ra sa S/\Wel S/\S ≠ []/\12<=r/\∀ H',Same H H'->Q (.str (txt S)) H'
def spNb:Sp:=fun vs H Q _=>∃ a:Int,vs=[.int a,.int a]/\Q (.bl true) H
def kdIx:Kd->Nat
 | .num _=>0
 | .nest _=>1
 | .many _ _=>2
 | .pick _=>3
def Cl5.four (c:Cl5):List Addr:=[c.num,c.nest,c.many,c.pick]
structure KdM (K:Frag) (mg:Str->Option Value) (c:Cl5) (CK CS:Addr):Prop where
 m:mg "Kind" = some (.ref CK)
 i4:∀ C ∈ Cl5.four c,InsC K C
 i5:InsC K c.shape
 i6:InsC K CS
 kk:∀ C ∈ Cl5.four c,PySem.W.kitOne K (.ref C) (.ref CK)=some true
 kd:∀ (i j:Nat) (C D:Addr),(Cl5.four c)[i]?=some C->(Cl5.four c)[j]?=some D->PySem.W.kitOne K (.ref C) (.ref D)=some (decide (i=j))
 k5:PySem.W.kitOne K (.ref c.shape) (.ref c.shape)=some true
 k6:PySem.W.kitOne K (.ref CS) (.ref CS)=some true
theorem KO_cls {c:Cl5} {K:Frag} {H:Hp} {sa:List Addr} {a:Addr} {k:Kd} (ho:KO c K H sa a k):∃ C dx fs,H a=some (.ins C dx fs)/\(Cl5.four c)[kdIx k]?=some C:=by
 cases ho with
 | num e=>exact⟨_,_,_,e,rfl⟩
 | nest _ e=>exact⟨_,_,_,e,rfl⟩
 | many e _=>exact⟨_,_,_,e,rfl⟩
 | pick e _ _ _=>exact⟨_,_,_,e,rfl⟩
def spKR (c:Cl5) (K:Frag) (n:Nat):Sp:=fun vs H Q _=>∃ (f t sl:Addr) (kd:Kd) (sa:List Addr) (S:List Shp),vs=[.ref f,.ref t,.ref sl]/\kd.lv < n/\KO c K H sa f kd/\LK K H t kd/\SW c K H sa S/\LX K H sl S/\Good S/\NOk (nmOf S) S.length/\kd.Fit S.length/\S.length<=5/\∀ H',Same H H'->Q (.bl true) H'
def spSR (c:Cl5) (K:Frag):Sp:=fun vs H Q _=>∃ (a sl:Addr) (i:Nat) (sa:List Addr) (S:List Shp),vs=[.ref a,.int i,.ref sl]/\sa[i]?=some a/\SW c K H sa S/\LX K H sl S/\Good S/\NOk (nmOf S) S.length/\S.length<=5/\∀ H',Same H H'->Q (.bl true) H'
def spNS (c:Cl5) (CS:Addr) (K:Frag):Sp:=fun vs H Q _=>∃ (ra:Addr) (x:V) (sa:List Addr) (S:List Shp),vs=[.ref ra,x]/\RO c CS K H ra sa S/\(S.map (·.1)).Nodup/\NoNm K H S x/\∀ H',Same H H'->Q (.bl true) H'
def spR7 (c:Cl5) (CS:Addr) (K:Frag):Sp:=fun vs H Q _=>∃ (ra sl:Addr) (sa:List Addr) (S:List Shp),vs=[.ref ra,.ref sl]/\RO c CS K H ra sa S/\LX K H sl S/\Wel S/\S ≠ []/\∀ H',Same H H'->Q (.bl true) H'
def spKM (c:Cl5) (K:Frag) (n:Nat):Sp:=fun vs H Q _=>∃ (t ml:Addr) (kd:Kd) (sa:List Addr),vs=[.ref t,.ref ml]/\kd.lv < n/\LK K H t kd/\H ml=some (.lst (sa.map V.ref))/\kd.Fit sa.length/\∀ k H',Same H H'->KO c K H' sa k kd->Q (.ref k) H'
def spBH (c:Cl5) (CS:Addr) (K:Frag):Sp:=fun vs H Q _=>∃ (sl:Addr) (S:List Shp),vs=[.ref sl]/\LX K H sl S/\Wel S/\∀ ra sa H',Same H H'->RO c CS K H' ra sa S->Q (.ref ra) H'
theorem sorts_eq (kd:Kd):([.bl (decide (kdIx kd=0)),.bl (decide (kdIx kd=1)),.bl (decide (kdIx kd=2)),.bl (decide (kdIx kd=3))]:List V)=(["num","shape","row","pick"]:List Str).map fun w=>V.bl (decide (V.str (kdWord kd)=V.str w)):=by
 cases kd <;> rfl
abbrev wdsD:List (Key × V):=[(.inr "num",.str "num"),(.inr "shape",.str "shape"),(.inr "row",.str "row"),(.inr "pick",.str "pick")]
theorem words_get (kd:Kd):valV (mergeK [] wdsD) (.inr (kdWord kd))=some (.str (kdWord kd)):=by
 cases kd <;> (simp only [kdWord];rfl)
theorem mapT {α β : Type} {f : α->β} {l:List α} {i:Nat} {a : α} (h:l[i]?=some a):(l.take (i + 1)).map f=(l.take i).map f++[f a]:=map_snoc h
def spSh7 (K:Frag) (r:Nat):Sp:=fun vs H Q _=>∃ (p tq:Addr) (oq:HO),vs=[.ref p,.int 5]/\St3 H p/\tq ≠ p/\H tq=some oq/\12<=r/\8 * r<=200/\∀ l S H',Drawn p H H'->H l=none->LX K (offs [p,tq] H') l S->Wel S->S ≠ []->Q (.ref l) H'
theorem but_tp {K:Frag} {l:Addr} {H H':Hp} {zs:List V} (g:But l H H') (hl:H l=some (.lst zs)) {b:Addr} {ys:List V} (h:SqT K H b ys):SqT K H' b ys:=by
 rcases h with (h|⟨o,h⟩)|h
 ·exact .inl (.inl (g _ _ (fun z=>by rw [z,hl] at h;cases h) h))
 ·exact .inl (.inr ⟨o,g _ _ (fun z=>by rw [z,hl] at h;cases h) h⟩)
 ·exact .inr h
def Prs (c:Cl5) (CS:Addr) (K:Frag) (H:Hp) (u:Addr):Prop:=∃ ra l sa S,SqT K H u [.ref ra,.ref l]/\RO c CS K H ra sa S/\LX K H l S/\Wel S/\S ≠ []
theorem Prs_same {c:Cl5} {CS:Addr} {K:Frag} {H H':Hp} {u:Addr} (h:Prs c CS K H u) (g:Same H H'):Prs c CS K H' u:=by
 obtain⟨ra,l,sa,S,h1,h2,h3,h4,h5⟩:=h
 exact⟨ra,l,sa,S,g.tp h1,RO_same h2 g,h3.same g,h4,h5⟩
end K07
namespace K07
open PySem L2 PyProof.Rows
set_option hygiene false in
local macro_rules | `(tactic| walk_at "sc") => `(tactic| exact ⟨rfl, rfl, rfl, by decide +kernel, rfl, by decide +kernel, by decide +kernel⟩)
set_option hygiene false in
local macro_rules | `(tactic| walk_at "hr") => `(tactic| have hr := hr0.mono (Nat.le_succ _))
set_option hygiene false in
local macro_rules | `(tactic| walk_at "b1") => `(tactic| exact fun _ _ _ _ _ _ us hl => match us, hl with | [_], _ => rfl)
set_option hygiene false in
local macro_rules | `(tactic| walk_at "b2") => `(tactic| exact fun _ _ _ _ _ _ us hl => match us, hl with | [_, _], _ => rfl)
set_option hygiene false in
local macro_rules | `(tactic| walk_at "b3") => `(tactic| exact fun _ _ _ _ _ _ us hl => match us, hl with | [_, _, _], _ => rfl)
set_option hygiene false in
local macro_rules | `(tactic| walk_at "o") => `(tactic| first | exact Or.inl rfl | exact Or.inr rfl)
set_option hygiene false in
local macro_rules | `(tactic| w_cond $s:ident) => `(tactic| first | refine F.ok $s (fun vs H Q E h => ?_) (fun cdv A outer s0 H vs Q E hr0 h => ?_) | refine F.okE $s (fun vs H Q E h => ?_) (fun cdv A outer s0 H vs Q E hr0 h => ?_))
theorem szL0 : 0<=sizeLine:=by decide
theorem szL1 : 1<=sizeLine:=by decide
theorem szL2 : 2<=sizeLine:=by decide
theorem szL3 : 3<=sizeLine:=by decide
theorem szL4 : 4<=sizeLine:=by decide
theorem szL5 : 5<=sizeLine:=by decide
abbrev s_is_text_of:Stmt:=top 17
theorem sc_is_text_of:FnScope ["thing","signs","most"] ["thing","signs","most"] (defScope s_is_text_of):=by walk_at "sc"
abbrev s_is_name:Stmt:=top 16
theorem sc_is_name:FnScope ["thing"] ["thing"] (defScope s_is_name):=by walk_at "sc"
abbrev s_number_in:Stmt:=top 18
theorem sc_number_in:FnScope ["text","low","high","number"] ["text","low","high"] (defScope s_number_in):=by walk_at "sc"
abbrev s_joined:Stmt:=top 20
theorem sc_joined:FnScope ["path","step"] ["path","step"] (defScope s_joined):=by walk_at "sc"
abbrev s_law_box:Stmt:=top 52
theorem sc_law_box:FnScope ["_law_cell_here"] ["_law_cell_here"] (defScope s_law_box):=by walk_at "sc"
abbrev s_law_take:Stmt:=top 53
theorem sc_law_take:FnScope ["_law_box_here","_law_many","_law_digit","_law_number_here"] ["_law_box_here","_law_many"] (defScope s_law_take):=by walk_at "sc"
abbrev s_law_cell:Stmt:=top 51
theorem sc_law_cell:FnScope ["_law_script","_law_k"] ["_law_script","_law_k"] (defScope s_law_cell):=by walk_at "sc"
abbrev s_is_shape_line:Stmt:=top 39
theorem sc_is_shape_line:FnScope ["words"] ["words"] (defScope s_is_shape_line):=by walk_at "sc"
abbrev s_Num_size:Stmt:=inClass (top 22) 3
theorem sc_Num_size:FnScope ["self"] ["self"] (defScope s_Num_size):=by walk_at "sc"
abbrev s_Nested_size:Stmt:=inClass (top 23) 3
theorem sc_Nested_size:FnScope ["self"] ["self"] (defScope s_Nested_size):=by walk_at "sc"
abbrev s_Shape_size:Stmt:=inClass (top 26) 1
theorem sc_Shape_size:FnScope ["self"] ["self"] (defScope s_Shape_size):=by walk_at "sc"
abbrev s_Num_depth:Stmt:=inClass (top 22) 4
theorem sc_Num_depth:FnScope ["self"] ["self"] (defScope s_Num_depth):=by walk_at "sc"
abbrev s_Nested_depth:Stmt:=inClass (top 23) 4
theorem sc_Nested_depth:FnScope ["self"] ["self"] (defScope s_Nested_depth):=by walk_at "sc"
abbrev s_Shape_depth:Stmt:=inClass (top 26) 2
theorem sc_Shape_depth:FnScope ["self"] ["self"] (defScope s_Shape_depth):=by walk_at "sc"
abbrev s_Many_size:Stmt:=inClass (top 24) 3
theorem sc_Many_size:FnScope ["self"] ["self"] (defScope s_Many_size):=by walk_at "sc"
abbrev s_Many_depth:Stmt:=inClass (top 24) 4
theorem sc_Many_depth:FnScope ["self"] ["self"] (defScope s_Many_depth):=by walk_at "sc"
abbrev s_Pick_greatest:Stmt:=inClass (top 25) 4
theorem sc_Pick_greatest:FnScope ["self"] ["self"] (defScope s_Pick_greatest):=by walk_at "sc"
abbrev s_Pick_depth:Stmt:=inClass (top 25) 5
theorem sc_Pick_depth:FnScope ["self"] ["self"] (defScope s_Pick_depth):=by walk_at "sc"
abbrev s_Pick_size:Stmt:=inClass (top 25) 3
theorem sc_Pick_size:FnScope ["self"] ["self"] (defScope s_Pick_size):=by walk_at "sc"
abbrev s_Num_init:Stmt:=inClass (top 22) 0
theorem sc_Num_init:FnScope ["self","width"] ["self","width"] (defScope s_Num_init):=by walk_at "sc"
abbrev s_Nested_init:Stmt:=inClass (top 23) 0
theorem sc_Nested_init:FnScope ["self","shape"] ["self","shape"] (defScope s_Nested_init):=by walk_at "sc"
abbrev s_Many_init:Stmt:=inClass (top 24) 0
theorem sc_Many_init:FnScope ["self","count","kind"] ["self","count","kind"] (defScope s_Many_init):=by walk_at "sc"
abbrev s_Pick_init:Stmt:=inClass (top 25) 0
theorem sc_Pick_init:FnScope ["self","shapes"] ["self","shapes"] (defScope s_Pick_init):=by walk_at "sc"
abbrev s_Shapes_init:Stmt:=inClass (top 27) 0
theorem sc_Shapes_init:FnScope ["self","shapes"] ["self","shapes"] (defScope s_Shapes_init):=by walk_at "sc"
abbrev s_Num_units_at:Stmt:=inClass (top 22) 6
theorem sc_Num_units_at:FnScope ["self","path"] ["self","path"] (defScope s_Num_units_at):=by walk_at "sc"
abbrev s_Pick_units_at:Stmt:=inClass (top 25) 7
theorem sc_Pick_units_at:FnScope ["self","path"] ["self","path"] (defScope s_Pick_units_at):=by walk_at "sc"
abbrev s_Nested_parted:Stmt:=inClass (top 23) 5
theorem sc_Nested_parted:FnScope ["self"] ["self"] (defScope s_Nested_parted):=by walk_at "sc"
abbrev s_Many_parted:Stmt:=inClass (top 24) 5
theorem sc_Many_parted:FnScope ["self"] ["self"] (defScope s_Many_parted):=by walk_at "sc"
abbrev s_Kind_units_at:Stmt:=inClass (top 21) 2
theorem sc_Kind_units_at:FnScope ["self","path","rows","step","kind"] ["self","path"] (defScope s_Kind_units_at):=by walk_at "sc"
abbrev s_Shape_units:Stmt:=inClass (top 26) 3
theorem sc_Shape_units:FnScope ["self"] ["self"] (defScope s_Shape_units):=by walk_at "sc"
abbrev s_Shape_init:Stmt:=inClass (top 26) 0
theorem sc_Shape_init:FnScope ["self","name","fields"] ["self","name","fields"] (defScope s_Shape_init):=by walk_at "sc"
abbrev s_is_single:Stmt:=top 42
theorem sc_is_single:FnScope ["words"] ["words"] (defScope s_is_single):=by walk_at "sc"
abbrev s_is_kind:Stmt:=top 41
theorem sc_is_kind:FnScope ["words"] ["words"] (defScope s_is_kind):=by walk_at "sc"
abbrev s_is_field_line:Stmt:=top 40
theorem sc_is_field_line:FnScope ["words"] ["words"] (defScope s_is_field_line):=by walk_at "sc"
abbrev s_shapes_named:Stmt:=top 45
theorem sc_shapes_named:FnScope ["words"] ["words"] (defScope s_shapes_named):=by walk_at "sc"
abbrev s_law_joined:Stmt:=top 57
theorem sc_law_joined:FnScope ["_law_path","_law_step"] ["_law_path","_law_step"] (defScope s_law_joined):=by walk_at "sc"
abbrev s_need_new_shape:Stmt:=top 43
theorem sc_need_new_shape:FnScope ["told","line","name"] ["told","line","name"] (defScope s_need_new_shape):=by walk_at "sc"
abbrev s_whole_shapes:Stmt:=top 46
theorem sc_whole_shapes:FnScope ["told"] ["told"] (defScope s_whole_shapes):=by walk_at "sc"
abbrev s_need_field:Stmt:=top 44
theorem sc_need_field:FnScope ["told","line","words","named","at","name"] ["told","line","words"] (defScope s_need_field):=by walk_at "sc"
abbrev s_kind_in:Stmt:=top 48
theorem sc_kind_in:FnScope ["words","shapes"] ["words","shapes"] (defScope s_kind_in):=by walk_at "sc"
abbrev s_is_too_much:Stmt:=top 49
theorem sc_is_too_much:FnScope ["shape"] ["shape"] (defScope s_is_too_much):=by walk_at "sc"
abbrev s_with_field:Stmt:=top 47
theorem sc_with_field:FnScope ["told","line","words","kind","shape"] ["told","line","words"] (defScope s_with_field):=by walk_at "sc"
abbrev s_read_shapes:Stmt:=top 38
theorem sc_read_shapes:FnScope ["text","lines","told","line","row","words"] ["text"] (defScope s_read_shapes):=by walk_at "sc"
abbrev s_law_size:Stmt:=top 55
theorem sc_law_size:FnScope ["_law_kind_here","_law_shapes_here"] ["_law_kind_here","_law_shapes_here"] (defScope s_law_size):=by walk_at "sc"
abbrev s_law_depth:Stmt:=top 58
theorem sc_law_depth:FnScope ["_law_kind_here","_law_shapes_here"] ["_law_kind_here","_law_shapes_here"] (defScope s_law_depth):=by walk_at "sc"
abbrev s_law_units:Stmt:=top 56
theorem sc_law_units:FnScope ["_law_kind_here","_law_shapes_here","_law_path","_law_found","_law_number_here","_law_name","_law_inner"] ["_law_kind_here","_law_shapes_here","_law_path"] (defScope s_law_units):=by walk_at "sc"
abbrev s_law_fits:Stmt:=top 60
theorem sc_law_fits:FnScope ["_law_shapes_here","_law_main"] ["_law_shapes_here"] (defScope s_law_fits):=by walk_at "sc"
abbrev s_law_kind:Stmt:=top 59
theorem sc_law_kind:FnScope ["_law_box_here","_law_known","_law_way","_law_width","_law_at"] ["_law_box_here","_law_known"] (defScope s_law_kind):=by walk_at "sc"
abbrev s_law_kind_text:Stmt:=top 62
theorem sc_law_kind_text:FnScope ["_law_kind_here","_law_shapes_here"] ["_law_kind_here","_law_shapes_here"] (defScope s_law_kind_text):=by walk_at "sc"
abbrev s_law_text:Stmt:=top 63
theorem sc_law_text:FnScope ["_law_shapes_here","_law_lines","_law_name","_law_fields","_law_field","_law_kind_here"] ["_law_shapes_here"] (defScope s_law_text):=by walk_at "sc"
abbrev s_law_names:Stmt:=top 54
theorem sc_law_names:FnScope ["_law_box_here","_law_way","_law_at","_law_words","_law_tail"] ["_law_box_here"] (defScope s_law_names):=by walk_at "sc"
abbrev s_law_shapes:Stmt:=top 61
theorem sc_law_shapes:FnScope ["_law_box_here","_law_most","_law_names_here","_law_turn","_law_shapes_here","_law_k","_law_fields","_law_j","_law_field"] ["_law_box_here","_law_most"] (defScope s_law_shapes):=by walk_at "sc"
abbrev s_Num_word:Stmt:=inClass (top 22) 1
theorem sc_Num_word:FnScope ["self"] ["self"] (defScope s_Num_word):=by walk_at "sc"
abbrev s_Nested_word:Stmt:=inClass (top 23) 1
theorem sc_Nested_word:FnScope ["self"] ["self"] (defScope s_Nested_word):=by walk_at "sc"
abbrev s_Many_word:Stmt:=inClass (top 24) 1
theorem sc_Many_word:FnScope ["self"] ["self"] (defScope s_Many_word):=by walk_at "sc"
abbrev s_Pick_word:Stmt:=inClass (top 25) 1
theorem sc_Pick_word:FnScope ["self"] ["self"] (defScope s_Pick_word):=by walk_at "sc"
abbrev s_Num_text:Stmt:=inClass (top 22) 2
theorem sc_Num_text:FnScope ["self"] ["self"] (defScope s_Num_text):=by walk_at "sc"
abbrev s_Nested_text:Stmt:=inClass (top 23) 2
theorem sc_Nested_text:FnScope ["self"] ["self"] (defScope s_Nested_text):=by walk_at "sc"
abbrev s_Many_text:Stmt:=inClass (top 24) 2
theorem sc_Many_text:FnScope ["self"] ["self"] (defScope s_Many_text):=by walk_at "sc"
abbrev s_Pick_text:Stmt:=inClass (top 25) 2
theorem sc_Pick_text:FnScope ["self"] ["self"] (defScope s_Pick_text):=by walk_at "sc"
abbrev s_RoomError_init:Stmt:=inClass (top 2) 0
theorem sc_RoomError_init:FnScope ["self","words"] ["self","words"] (defScope s_RoomError_init):=by walk_at "sc"
abbrev s_NoPath_init:Stmt:=inClass (top 7) 0
theorem sc_NoPath_init:FnScope ["self","path"] ["self","path"] (defScope s_NoPath_init):=by walk_at "sc"
abbrev s_law_whole:Stmt:=top 64
theorem sc_law_whole:FnScope ["_law_found"] ["_law_found"] (defScope s_law_whole):=by walk_at "sc"
abbrev s_Shapes_shape_of:Stmt:=inClass (top 27) 1
theorem sc_Shapes_shape_of:FnScope ["self","name","shape"] ["self","name"] (defScope s_Shapes_shape_of):=by walk_at "sc"
abbrev s_Shapes_main:Stmt:=inClass (top 27) 2
theorem sc_Shapes_main:FnScope ["self"] ["self"] (defScope s_Shapes_main):=by walk_at "sc"
abbrev s_Shapes_text:Stmt:=inClass (top 27) 3
theorem sc_Shapes_text:FnScope ["self","lines","shape"] ["self"] (defScope s_Shapes_text):=by walk_at "sc"
abbrev s_law_number:Stmt:=top 65
theorem sc_law_number:FnScope ["_law_found","_law_due"] ["_law_found","_law_due"] (defScope s_law_number):=by walk_at "sc"
abbrev s_law_no_shape:Stmt:=top 68
theorem sc_law_no_shape:FnScope ["_law_read","_law_thing","_law_told","e"] ["_law_read","_law_thing"] (defScope s_law_no_shape):=by walk_at "sc"
abbrev s_law_kind_right:Stmt:=top 66
theorem sc_law_kind_right:FnScope ["_law_found","_law_kind_here","_law_shapes_here","_law_words","_law_sorts"] ["_law_found","_law_kind_here","_law_shapes_here"] (defScope s_law_kind_right):=by walk_at "sc"
abbrev s_law_shape_right:Stmt:=top 67
theorem sc_law_shape_right:FnScope ["_law_found","_law_at","_law_shapes_here","_law_name","_law_fields","_law_kind_here","_law_field","_law_told","_law_name_due","_law_due"] ["_law_found","_law_at","_law_shapes_here"] (defScope s_law_shape_right):=by walk_at "sc"
abbrev s_law_kind_made:Stmt:=top 70
theorem sc_law_kind_made:FnScope ["_law_kind_here","_law_made","_law_some","_law_pick"] ["_law_kind_here","_law_made"] (defScope s_law_kind_made):=by walk_at "sc"
abbrev s_law_by_hand:Stmt:=top 71
theorem sc_law_by_hand:FnScope ["_law_shapes_here","_law_made","_law_name","_law_fields","_law_some","_law_found"] ["_law_shapes_here"] (defScope s_law_by_hand):=by walk_at "sc"
abbrev s_law_right:Stmt:=top 69
theorem sc_law_right:FnScope ["_law_read","_law_shapes_here","_law_at","_law_thing"] ["_law_read","_law_shapes_here"] (defScope s_law_right):=by walk_at "sc"
abbrev s_law:Stmt:=top 72
theorem sc_law:FnScope ["_law_script","_law_told","_law_k","_law_shapes_here","_law_read"] ["_law_script"] (defScope s_law):=by walk_at "sc"
section
variable (P:Program) (w:World) {K:Frag} {mg:Str->Option Value} (base:Heap) (M:Blt mg) {t1 t2 t3 t4 t5 t6 t7 t8 t9 t10 t11 t12 t13:Tok} {ts:Addr} (C:Cst K mg t1 t2 t3 t4 t5 t6 t7 t8 t9 t10 t11 t12 t13 ts) {Va cIu:Addr} (Ua:TCls K mg "Num" Va cIu ["width"]) {Vb cIv:Addr} (Ub:TCls K mg "Nested" Vb cIv ["shape"]) {Vc cIx:Addr} (Uc:TCls K mg "Many" Vc cIx ["count","kind"]) {Vd cIy:Addr} (Ud:TCls K mg "Pick" Vd cIy ["shapes"]) {Ve cIz:Addr} (Ue:TCls K mg "Shape" Ve cIz ["name","fields"]) {Vf cIw:Addr} (Uf:TCls K mg "Shapes" Vf cIw ["shapes"]) {cRE fRE:Addr} (tRE:TXB K mg cRE fRE) (VI:VInit K) {cNP fNP:Addr} (tNP:TX K mg "NoPath" cNP cRE fNP ["path"])
variable {f:Addr} {fd:FuncData}
include M C Ua Ub Uc Ud Ue Uf tRE VI tNP
theorem ok_is_text_of {k:Nat} (F:Fun K "is_text_of" "is_text_of" s_is_text_of f fd):FnOk P w K mg base CX0 (k + 2) f fd ["thing","signs","most"] (spTextOf K):=by
 w_cond sc_is_text_of
 ·obtain⟨x,signs,most,rfl,_⟩:=h;rfl
 obtain⟨x,signs,most,rfl,h⟩:=h
 walk_at "hr"
 refine⟨_,(pss_cons (ps_if (PW.pt (pw_or (pt_not (pt_val (pe_callB (CallR.or call_isi call_isiD) rfl M.isinstance boot_isinstance (pa_cons (pv 0) (pa_cons (pe_bltn (v:=.ty "str") rfl M.str boot_str rfl) pa_nil))))) (pw_or1 (pt_not (pt_chain op_le op_le pe_int (pe_callB call_len rfl M.len PySem.boot_len (pa_cons (pv 0) pa_nil)) (pv 2)))))) (pss_one (ps_ret pe_bl)) pss_nil)
   (pss_one (ps_ret (pe_callB (call_all rfl) rfl M.all boot_all (pa_cons (pe_comp ["sign"] ["signs"] [1] rfl (pi_str (pv 0)) rfl ⟨rfl,trivial⟩ ⟨⟨rfl,rfl,rfl,_,rfl⟩,trivial⟩ (fun _ _ _ _=>(pg_name (i:=0) (show List.Nodup (["sign","signs"]:List Str) from by decide +kernel) rfl (Or.inl rfl))) (fun _ _ _ _=>pif_nil) (fun _ _ _ _=>(pe_cmpR op_in_str (pv 0) (pv 1) (by with_unfolding_all rfl)))) pa_nil))))),?_⟩
 rcases h with⟨z,rfl,hz,q⟩|⟨t,ht,hns,q⟩
 ·have hl:=len_list z
  refine⟨_,rfl,.inl ⟨_,_,"str",rfl,by decide,rfl,_,rfl,iteN (by decide) ?_⟩⟩
  refine⟨_,rfl,.str z,z.length,rfl,⟨small hz,rfl⟩,_,_,rfl,rfl,_,rfl,ite2 (fun c1=>?_) (fun c1=>?_)⟩
  ·refine⟨_,rfl,_,_,rfl,rfl,_,rfl,ite2 (fun c2=>?_) (fun c2=>?_)⟩
   ·have e:within z most=false:=by
     unfold within
     have:decide ((z.length:Int)<=most)=false:=by simpa using c2
     rw [this,Bool.and_false]
    have:=q H (Same.refl H)
    rw [e,Bool.false_and] at this
    exact this
   ·have e:within z most=true:=by
     unfold within
     have c2':decide ((z.length:Int)<=most)=true:=by simpa using c2
     rw [c2',c1];rfl
    refine⟨_,rfl,z,rfl,comp_str (fun i ys H'=>H'=H/\ys=((z.cps.toList.take i).map fun c=>decide (c ∈ signs.cps.toList)).map V.bl) ⟨rfl,rfl⟩ (fun i ys H' _ w=>by rw [w.2,List.length_map,List.length_map];exact List.length_take_le ..) (small1000 hz) (fun i c ys H' hc w=>?_) (fun ys H' w p hp=>?_)⟩
    ·obtain⟨rfl,rfl⟩:=w
     refine⟨_,rfl,_,rfl,⟨#[c]⟩,signs,rfl,rfl,⟨rfl,?_⟩,_,rfl⟩
     rw [all_snoc (fun c=>decide (c ∈ signs.cps.toList)) _ i hc,List.map_append,in_one];rfl
    ·obtain⟨rfl,rfl⟩:=w
     refine⟨p,(z.cps.toList.map fun c=>decide (c ∈ signs.cps.toList)),rfl,SqL.of ?_,?_⟩
     ·rw [upd_same,← hl,List.take_length]
     ·have:=q _ (same_new hp (.lst (((z.cps.toList.take z.length).map fun c=>decide (c ∈ signs.cps.toList)).map V.bl)))
      rw [e,Bool.true_and] at this
      rw [all_map]
      exact this
  ·refine⟨_,rfl,?_⟩
   have e:within z most=false:=by
    unfold within
    have:decide (1<=(z.length:Int))=false:=by simpa using c1
    rw [this,Bool.false_and]
   have:=q H (Same.refl H)
   rw [e,Bool.false_and] at this
   exact iteP (by decide) this
 ·rcases ht with ht|⟨rfl,p,kvs,rfl,hp⟩
  ·exact⟨_,rfl,.inl ⟨x,_,t,rfl,by decide,ht,_,rfl,iteP (by rw [isa3 hns];rfl) (iteT q)⟩⟩
  ·exact⟨_,rfl,.inr ⟨p,_,kvs,rfl,by decide,hp,_,rfl,iteP (by decide) (iteT q)⟩⟩
theorem ok_is_name {k:Nat} (F:Fun K "is_name" "is_name" s_is_name f fd) {f_is_text_of:Addr} {fd_is_text_of:FuncData} (D_is_text_of:Df K mg "is_text_of" f_is_text_of fd_is_text_of ["thing","signs","most"]) (G_is_text_of:FnOk P w K mg base CX0 k f_is_text_of fd_is_text_of ["thing","signs","most"] (spTextOf K)):FnOk P w K mg base CX0 (k + 2) f fd ["thing"] (spIsName K):=by
 w_cond sc_is_name
 ·obtain⟨x,rfl,_⟩:=h;rfl
 obtain⟨x,rfl,h⟩:=h
 walk_at "hr"
 refine⟨_,(pss_one (ps_ret (pe_and (pe_call G_is_text_of hr rfl D_is_text_of.m D_is_text_of.k D_is_text_of.b .nil pass0 (pa_cons (pv 0) (pa_cons (pe_glob (v:=.str "abcdefghijklmnopqrstuvwxyz") rfl C.SMALL_LETTERS ⟨_,rfl⟩) (pa_cons (pe_glob (v:=.int 6) rfl C.MOST_LETTERS ⟨_,rfl⟩) pa_nil)))) (pe_one (pe_cmpR op_notIn_seq (pv 0) (pe_glob (v:=.ref ts) rfl C.OWN_WORDS rfl) (by with_unfolding_all rfl)))))),?_⟩
 rcases h with⟨z,rfl,hz,q⟩|⟨t,ht,hns,q⟩
 ·refine⟨_,rfl,.str z,lettersS,6,rfl,.inl ⟨z,rfl,hz,fun H1 g1=>⟨_,rfl,ite2 (fun c=>?_) (fun c=>?_)⟩⟩⟩
  ·refine⟨_,rfl,ts,_,rfl,.inr (C.words _),rfl,flat_strs _,?_⟩
   show Q (.bl (!inV (.str z) (ownL.map V.str))) H1
   rw [inV_strs]
   have:=q H1 g1
   unfold nameB at this
   rw [c,Bool.true_and] at this
   exact this
  ·have:=q H1 g1
   unfold nameB at this
   rw [Bool.eq_false_iff.mpr c,Bool.false_and] at this
   exact this
 ·exact⟨_,rfl,x,lettersS,6,rfl,.inr ⟨t,ht,hns,⟨_,rfl,iteF (q H (Same.refl H))⟩⟩⟩
theorem ok_number_in {k:Nat} (F:Fun K "number_in" "number_in" s_number_in f fd) {f_is_text_of:Addr} {fd_is_text_of:FuncData} (D_is_text_of:Df K mg "is_text_of" f_is_text_of fd_is_text_of ["thing","signs","most"]) (G_is_text_of:FnOk P w K mg base CX0 k f_is_text_of fd_is_text_of ["thing","signs","most"] (spTextOf K)):FnOk P w K mg base CX0 (k + 2) f fd ["text","low","high"] (spNumberIn K):=by
 w_cond sc_number_in
 ·obtain⟨x,lo,hi,rfl,_⟩:=h;rfl
 obtain⟨x,lo,hi,rfl,h⟩:=h
 walk_at "hr"
 refine⟨_,(pss_cons (ps_if (pt_not (pt_val (pe_call G_is_text_of hr rfl D_is_text_of.m D_is_text_of.k D_is_text_of.b .nil pass0 (pa_cons (pv 0) (pa_cons (pe_glob (v:=.str "0123456789") rfl C.FIGURES ⟨_,rfl⟩) (pa_cons (pe_glob (v:=.int 10) rfl C.MOST_FIGURES ⟨_,rfl⟩) pa_nil)))))) (pss_one (ps_ret pe_non)) pss_nil)
   (pss_cons (ps_if (PW.pt (pw_and (pt_cmpR op_eq (pe_ix ix_str (pv 0) pe_int (fun _ _=>rfl)) pe_str (nomark _)) (pw_and1 (pt_cmpR op_gt (pe_callB call_len rfl M.len PySem.boot_len (pa_cons (pv 0) pa_nil)) pe_int (nomark _))))) (pss_one (ps_ret pe_non)) pss_nil)
   (pss_cons (ps_set (i:=3) sc_number_in.nd rfl (by walk_at "o") (pe_callTy call_int_txt rfl M.int boot_int (pa_cons (pv 0) pa_nil)))
   (pss_one (ps_ret (pe_ifExp (pt_chain op_le op_le (pv 1) (pv 3) (pv 2)) (pv 3) pe_non)))))),?_⟩
 rcases h with⟨z,rfl,hz,q⟩|⟨t,ht,hns,q⟩
 ·have hl:=len_list z
  refine⟨_,rfl,.str z,figuresS,10,rfl,.inl ⟨z,rfl,hz,fun H1 g1=>⟨_,rfl,ite2 (fun c=>?_) (fun c=>?_)⟩⟩⟩
  ·have e:numB z=none:=by
    unfold numB
    rw [if_neg]
    intro w
    rw [Bool.and_eq_true] at w
    rw [w.1] at c
    exact absurd c (by decide)
   have:=q H1 g1
   rw [e] at this
   exact this
  ·have c':(within z 10 && allIn z figuresS)=true:=by simpa using c
   have hw : 1<=(z.length:Int):=by
    rw [Bool.and_eq_true] at c'
    unfold within at c'
    have:=c'.1
    rw [Bool.and_eq_true] at this
    exact of_decide_eq_true this.1
   have hw2:(z.length:Int)<=10:=by
    rw [Bool.and_eq_true] at c'
    unfold within at c'
    have:=c'.1
    rw [Bool.and_eq_true] at this
    exact of_decide_eq_true this.2
   have hd:PySem.NumText.AllDigits z.cps.toList:=fun d hd=>by
    rw [Bool.and_eq_true] at c'
    have:=List.all_eq_true.mp c'.2 d hd
    exact (mem_figures d).mp (of_decide_eq_true this)
   obtain⟨c0,hc0⟩ : ∃ c0,z.cps.toList[0]?=some c0:=⟨_,List.getElem?_eq_getElem (by omega)⟩
   have at0:atI z.cps.toList 0=some c0:=by
    have:=atI_nat (j:=0) hc0
    simpa using this
   have lead:leadB z=(decide (c0=48) && decide (1 < (z.length:Int))):=by
    unfold leadB
    rw [hc0]
    congr 1
    rw [Bool.eq_iff_iff];simp
   have no:leadB z=true->Q .non H1:=fun w=>by
    have e:numB z=none:=by
     unfold numB
     rw [if_neg]
     intro v
     rw [Bool.and_eq_true,w] at v
     exact absurd v.2 (by decide)
    have:=q H1 g1
    rw [e] at this
    exact this
   have yes:leadB z=false->numB z=some ((PySem.NumText.digitsVal z.cps.toList:Nat):Int):=fun w=>by
    unfold numB
    rw [if_pos]
    rw [c',w];rfl
   have hnum:=PySem.intText_digits (x:=z) hd (by intro w;rw [w] at hc0;cases hc0) (by omega)
   refine⟨_,rfl,z,_,c0,rfl,rfl,small hz,at0,rfl,_,rfl,?_⟩
   rw [is_0]
   refine ite2 (fun c1=>?_) (fun c1=>?_)
   ·refine⟨_,rfl,.str z,z.length,rfl,⟨small hz,rfl⟩,_,_,rfl,rfl,_,rfl,ite2 (fun c2=>?_) (fun c2=>?_)⟩
    ·exact no (by rw [lead,c1];simpa using c2)
    ·have ey:=yes (by rw [lead,Bool.eq_false_iff.mpr c2,Bool.and_false])
     refine⟨_,rfl,z,_,rfl,hnum,by omega,?_⟩
     refine⟨_,rfl,_,rfl,_,_,rfl,rfl,_,rfl,ite2 (fun d1=>⟨_,rfl,_,_,rfl,rfl,_,rfl,ite2 (fun d2=>⟨_,rfl,?_⟩) (fun d2=>?_)⟩) (fun d1=>⟨_,rfl,iteF ?_⟩)⟩
     ·have:=q H1 g1
      rw [ey,boundV,if_pos ⟨of_decide_eq_true d1,of_decide_eq_true d2⟩] at this
      exact this
     ·have:=q H1 g1
      rw [ey,boundV,if_neg (fun w=>d2 (decide_eq_true w.2))] at this
      exact this
     ·have:=q H1 g1
      rw [ey,boundV,if_neg (fun w=>d1 (decide_eq_true w.1))] at this
      exact this
   ·have ey:=yes (by rw [lead,Bool.eq_false_iff.mpr c1,Bool.false_and])
    refine iteF ⟨_,rfl,z,_,rfl,hnum,by omega,?_⟩
    refine⟨_,rfl,_,rfl,_,_,rfl,rfl,_,rfl,ite2 (fun d1=>⟨_,rfl,_,_,rfl,rfl,_,rfl,ite2 (fun d2=>⟨_,rfl,?_⟩) (fun d2=>?_)⟩) (fun d1=>⟨_,rfl,iteF ?_⟩)⟩
    ·have:=q H1 g1
     rw [ey,boundV,if_pos ⟨of_decide_eq_true d1,of_decide_eq_true d2⟩] at this
     exact this
    ·have:=q H1 g1
     rw [ey,boundV,if_neg (fun w=>d2 (decide_eq_true w.2))] at this
     exact this
    ·have:=q H1 g1
     rw [ey,boundV,if_neg (fun w=>d1 (decide_eq_true w.1))] at this
     exact this
 ·exact⟨_,rfl,x,figuresS,10,rfl,.inr ⟨t,ht,hns,⟨_,rfl,iteP (by decide) (q H (Same.refl H))⟩⟩⟩
theorem ok_joined {k:Nat} (F:Fun K "joined" "joined" s_joined f fd):FnOk P w K mg base CX0 (k + 2) f fd ["path","step"] spJoined:=by
 w_cond sc_joined
 ·obtain⟨p,x,y,rfl,_⟩:=h;rfl
 obtain⟨p,x,y,rfl,hy,hp,hl,q⟩:=h
 walk_at "hr"
 refine⟨_,(pss_one (ps_ret (pe_ifExp (pt_truth (pv 0) (fun _=>rfl)) (pe_join (pj_val (pv 0) (pj_str (pj_val (pv 1) pj_nil)))) (pe_join1 (pv 1))))),?_⟩
 refine⟨_,rfl,_,⟨small hp,rfl⟩,ite2 (fun c=>?_) (fun c=>?_)⟩
 ·have hne:¬ p.length=0:=fun z=>by rw [z] at c;exact absurd c (by decide)
  have l1:(Str.empty++p).length<=sizeLine:=by rw [emp_app];exact small hp
  have l2:(Str.empty++p++Str.ofString ".").length<=sizeLine:=by rw [emp_app,strLen_append];exact len_le (by have:(Str.ofString ".").length=1:=rfl;omega)
  have l3:(Str.empty++p++Str.ofString "." ++ y).length<=sizeLine:=by rw [emp_app,strLen_append,strLen_append];exact len_le (by have:(Str.ofString ".").length=1:=rfl;omega)
  refine⟨_,rfl,p,rfl,small hp,l1,l2,_,rfl,y,hy,small hl,l3,l3,?_⟩
  rw [emp_app]
  unfold pj at q
  rw [if_neg hne] at q
  exact q
 ·have hne:p.length=0:=by
   by_cases z:p.length=0
   ·exact z
   ·exact absurd (show ((p.length:Int) != 0)=true from bne_iff_ne.mpr (by omega)) c
  unfold pj at q
  rw [if_pos hne] at q
  exact⟨_,rfl,y,hy,small hl,q⟩
theorem ok_law_box {k:Nat} (F:Fun K "_law_box" "_law_box" s_law_box f fd):FnOk P w K mg base CX0 (k + 2) f fd ["_law_cell_here"] spBox:=by
 w_cond sc_law_box
 ·obtain⟨c,rfl,_⟩:=h;rfl
 obtain⟨c,rfl,q⟩:=h
 walk_at "hr"
 refine⟨_,(pss_one (ps_ret (pe_lst (pa_cons (pe_callB (call_max2 rfl) rfl M.max boot_max (pa_cons pe_int (pa_cons (pe_op op_sub (pv 0) (pe_op op_pow pe_int pe_int)) pa_nil))) (pa_cons (pe_op op_mod (pv 0) pe_int) (pa_cons pe_int pa_nil)))))),?_⟩
 exact⟨_,rfl,_,_,rfl,rfl,⟨by decide,by decide,by decide⟩,_,_,rfl,rfl,_,_,rfl,_,rfl,_,_,rfl,rfl,(by show (0:Int) < _;decide),szL3,fun p hp=>q p _ hp ⟨⟨_,_,_,upd_same⟩,fun b o n e=>by rw [upd_ne n];exact e⟩⟩
theorem ok_law_take {k:Nat} (F:Fun K "_law_take" "_law_take" s_law_take f fd):FnOk P w K mg base CX0 (k + 2) f fd ["_law_box_here","_law_many"] spTake:=by
 w_cond sc_law_take
 ·obtain⟨p,m,rfl,_⟩:=h;rfl
 obtain⟨p,m,rfl,hm,hm2,⟨a,b,c,h⟩,q⟩:=h
 walk_at "hr"
 refine⟨_,(pss_cons (ps_if (pt_cmpR op_gt (pe_ix ix_list (pv 0) pe_int (fun _ _=>rfl)) pe_int (nomark _)) (pss_cons (ps_set (i:=2) sc_law_take.nd rfl (by walk_at "o") (pe_op op_mod (pe_ix ix_list (pv 0) pe_int (fun _ _=>rfl)) (pv 1)))
   (pss_cons (ps_asg (pe_op op_fdiv (pe_ix ix_list (pv 0) pe_int (fun _ _=>rfl)) (pv 1)) (pg_sub (pv 0) pe_int set_list))
   (pss_one (ps_ret (pv 2))))) pss_nil)
   (pss_cons (ps_asg (pe_op op_add (pe_ix ix_list (pv 0) pe_int (fun _ _=>rfl)) pe_int) (pg_sub (pv 0) pe_int set_list))
   (pss_cons (ps_set (i:=3) sc_law_take.nd rfl (by walk_at "o") (pe_op op_mod (pe_op op_mul (pe_op op_add (pe_op op_add (pe_ix ix_list (pv 0) pe_int (fun _ _=>rfl)) (pe_op op_mul pe_int (pe_ix ix_list (pv 0) pe_int (fun _ _=>rfl)))) pe_int) pe_int) pe_int))
   (pss_cons (ps_set (i:=3) sc_law_take.nd rfl (by walk_at "o") (pe_op op_mod (pe_op op_add (pe_op op_add (pe_op op_mul (pv 3) (pv 3)) (pe_op op_mul pe_int (pe_ix ix_list (pv 0) pe_int (fun _ _=>rfl)))) pe_int) pe_int))
   (pss_one (ps_ret (pe_op op_mod (pe_op op_fdiv (pe_op op_mod (pe_op op_mul (pv 3) (pe_op op_add (pv 3) pe_int)) pe_int) pe_int) (pv 1)))))))),?_⟩
 have nat:∀ x:Int,∃ v:Nat,x % m=(v:Int)/\(v:Int) < m:=fun x=>by
  have h0:=Int.emod_nonneg x (show m ≠ 0 by omega)
  have h1:=Int.emod_lt_of_pos x hm
  exact⟨(x % m).toNat,by omega,by omega⟩
 refine⟨_,rfl,p,_,_,_,rfl,rfl,SqL.of h,rfl,_,_,rfl,rfl,_,rfl,ite2 (fun cc=>?_) (fun cc=>?_)⟩
 ·refine⟨_,rfl,p,_,_,_,rfl,rfl,SqL.of h,rfl,_,rfl,_,_,rfl,rfl,hm,?_⟩
  refine⟨_,rfl,p,_,_,_,rfl,rfl,SqL.of h,rfl,_,rfl,_,_,rfl,rfl,⟨hm,hm2⟩,_,rfl,p,_,_,0,rfl,rfl,h,rfl,?_⟩
  obtain⟨v,hv,hl⟩:=nat a
  refine⟨_,rfl,?_⟩
  show Q (.int (a % m)) _
  rw [hv]
  exact q v _ hl ⟨⟨_,_,_,upd_same⟩,fun b' o n e=>by rw [upd_ne n];exact e⟩
 ·refine⟨_,rfl,p,_,_,_,rfl,rfl,SqL.of h,rfl,_,_,rfl,rfl,_,rfl,p,_,_,2,rfl,rfl,h,rfl,?_⟩
  have h1:upd H p (.lst [.int a,.int b,.int (c + 1)]) p=some (.lst [.int a,.int b,.int (c + 1)]):=upd_same
  refine⟨_,rfl,p,_,_,_,rfl,rfl,SqL.of h1,rfl,_,rfl,p,_,_,_,rfl,rfl,SqL.of h1,rfl,_,_,rfl,rfl,.inl ⟨by omega,by omega⟩,_,_,rfl,rfl,_,_,rfl,rfl,_,_,rfl,rfl,.inr ⟨by omega,by omega⟩,_,_,rfl,rfl,(by show (0:Int) < _;decide),?_⟩
  refine⟨_,rfl,_,rfl,_,_,rfl,rfl,.inl ⟨by omega,by omega⟩,_,rfl,p,_,_,_,rfl,rfl,SqL.of h1,rfl,_,_,rfl,rfl,.inl ⟨by omega,by omega⟩,_,_,rfl,rfl,_,_,rfl,rfl,_,_,rfl,rfl,(by show (0:Int) < _;decide),?_⟩
  refine⟨_,rfl,_,rfl,_,_,rfl,rfl,_,_,rfl,rfl,.inl ⟨by omega,by omega⟩,_,_,rfl,rfl,(by show (0:Int) < _;decide),_,_,rfl,rfl,⟨by decide,by decide⟩,_,rfl,_,_,rfl,rfl,hm,?_⟩
  dsimp only
  generalize hz:(_ % m:Int)=z
  obtain⟨v,hv,hl⟩:=nat (((((((b + 7919 * (c + 1) + 17) * 48271 % 2147483629) * ((b + 7919 * (c + 1) + 17) * 48271 % 2147483629) + 16807 * (c + 1) + 3) % 2147483587) * (((((b + 7919 * (c + 1) + 17) * 48271 % 2147483629) * ((b + 7919 * (c + 1) + 17) * 48271 % 2147483629) + 16807 * (c + 1) + 3) % 2147483587) + 11)) % 2147483647) / 8)
  rw [← hz,hv]
  exact q v _ hl ⟨⟨_,_,_,upd_same⟩,fun b' o n e=>by rw [upd_ne n];exact e⟩
theorem ok_law_cell {k:Nat} (F:Fun K "_law_cell" "_law_cell" s_law_cell f fd):FnOk P w K mg base CX0 (k + 2) f fd ["_law_script","_law_k"] (spCell K):=by
 w_cond sc_law_cell
 ·obtain⟨a,ns,k,rfl,_⟩:=h;rfl
 obtain⟨a,ns,k,rfl,hS,hk0,hk1,q⟩:=h
 walk_at "hr"
 refine⟨_,(pss_cons (ps_if (pt_cmpR op_lt (pv 1) (pe_callB call_len_seq rfl M.len PySem.boot_len (pa_cons (pv 0) pa_nil)) (nomark _)) (pss_one (ps_ret (pe_ix ix_list (pv 0) (pv 1) (fun _ _=>rfl)))) pss_nil)
   (pss_one (ps_ret (pe_op op_add (pe_op op_mul pe_int (pv 1)) pe_int)))),?_⟩
 have hl:(ns.map V.int).length=ns.length:=List.length_map _
 refine⟨_,rfl,_,rfl,a,_,rfl,.inl hS,_,_,rfl,rfl,_,rfl,?_⟩
 refine ite2 (fun c=>?_) (fun c=>?_)
 ·have c':k < (((ns.map V.int).length:Nat):Int):=of_decide_eq_true c
  rw [hl] at c'
  obtain⟨v,hv⟩:=atI_ints ns hk0 c'
  exact⟨_,rfl,_,rfl,a,_,_,_,rfl,rfl,hS,hv,q _⟩
 ·exact⟨_,rfl,_,_,rfl,rfl,.inl ⟨by omega,by omega⟩,_,_,rfl,rfl,q _⟩
theorem ok_is_shape_line {k:Nat} (F:Fun K "is_shape_line" "is_shape_line" s_is_shape_line f fd) {f_is_name:Addr} {fd_is_name:FuncData} (D_is_name:Df K mg "is_name" f_is_name fd_is_name ["thing"]) (G_is_name:FnOk P w K mg base CX0 k f_is_name fd_is_name ["thing"] (spIsName K)):FnOk P w K mg base CX0 (k + 2) f fd ["words"] (spShL K):=by
 w_cond sc_is_shape_line
 ·obtain⟨a,ws,rfl,_⟩:=h;rfl
 obtain⟨a,ws,rfl,hw,q⟩:=h
 walk_at "hr"
 refine⟨_,(pss_one (ps_ret (pe_and (pe_cmpR op_eq (pe_callB call_len_seq rfl M.len PySem.boot_len (pa_cons (pv 0) pa_nil)) pe_int (nomark _)) (pe_and (pe_cmpR op_eq (pe_ix ix_list (pv 0) pe_int (fun _ _=>rfl)) pe_str (nomark _)) (pe_one (pe_call G_is_name hr rfl D_is_name.m D_is_name.k D_is_name.b .nil pass0 (pa_cons (pe_ix ix_list (pv 0) pe_int (fun _ _=>rfl)) pa_nil))))))),?_⟩
 refine⟨_,rfl,a,_,rfl,.inl hw.l,rfl,_,rfl,?_⟩
 match ws,hw,q with
 | [],hw,q=>exact iteN (by decide) (q _ (Same.refl _))
 | [x],hw,q=>exact iteN (by simp) (q _ (Same.refl _))
 | x::y::z::r,hw,q=>exact iteN (by simp;omega) (q _ (Same.refl _))
 | [x,y],hw,q =>
  refine iteP (by simp) ⟨_,rfl,a,_,_,_,rfl,rfl,hw.l,rfl,rfl,_,rfl,ite2 (fun c=>?_) (fun c=>?_)⟩
  ·refine⟨_,rfl,a,_,_,_,rfl,rfl,hw.l,rfl,.str y,rfl,.inl ⟨y,rfl,hw.s y (by simp),fun H1 g1=>?_⟩⟩
   have e:isShB [x,y]=nameB y:=by
    show (decide (x=Str.ofString "shape") && nameB y)=_
    rw [decide_eq_true (show x=Str.ofString "shape" from by simpa using c),Bool.true_and]
   have:=q H1 g1
   rw [e] at this
   exact this
  ·have e:isShB [x,y]=false:=by
    show (decide (x=Str.ofString "shape") && nameB y)=_
    rw [decide_eq_false (show ¬ x=Str.ofString "shape" from by simpa using c),Bool.false_and]
   have:=q _ (Same.refl _)
   rw [e] at this
   exact this
theorem ok_Num_size {k r:Nat} (F:Fun K "size" "Num.size" s_Num_size f fd):FnOk P w K mg base CX0 (k + 2) f fd ["self"] (spV (Cl5.mk Va Vb Vc Vd Ve) K r Kd.isNum vSz):=by
 w_cond sc_Num_size
 ·obtain⟨a,kd,sa,S,rfl,_⟩:=h;rfl
 obtain⟨a,kd,sa,S,rfl,hF,hk,hf,ho,hw,hg,q⟩:=h
 walk_at "hr"
 refine⟨_,(pss_one (ps_ret (pe_fld (pv 0) rfl))),?_⟩
 cases id ho with
 | num h1 =>
  exact⟨_,rfl,a,Va,_,_,_,rfl,h1,Ua.cl,Ua.na _ (by decide),rfl,q _ (Same.refl _)⟩
 | _=>cases hF
theorem ok_Nested_size {k r:Nat} (F:Fun K "size" "Nested.size" s_Nested_size f fd) {f_Shape_size:Addr} {fd_Shape_size:FuncData} (D_Shape_size:DfM K Ve "size" f_Shape_size fd_Shape_size ["self"]) (G_Shape_size:FnOk P w K mg base CX0 k f_Shape_size fd_Shape_size ["self"] (spShV (Cl5.mk Va Vb Vc Vd Ve) K r sSz)):FnOk P w K mg base CX0 (k + 2) f fd ["self"] (spV (Cl5.mk Va Vb Vc Vd Ve) K (r + 1) Kd.isNest vSz):=by
 w_cond sc_Nested_size
 ·obtain⟨a,kd,sa,S,rfl,_⟩:=h;rfl
 obtain⟨a,kd,sa,S,rfl,hF,hk,hf,ho,hw,hg,q⟩:=h
 walk_at "hr"
 refine⟨_,(pss_one (ps_ret (pe_meth0 (pe_fld (pv 0) rfl) Ue.cl D_Shape_size.me G_Shape_size hr D_Shape_size.b .nil pass0))),?_⟩
 cases id ho with
 | @nest a dx s i e h1 =>
  obtain⟨sh,hs,dx2,t,ps,h2,_⟩:=hw.at e
  exact⟨_,rfl,a,Vb,_,_,_,rfl,h1,Ub.cl,Ub.na _ (by decide),rfl,s,dx2,_,rfl,h2,rfl,s,i,sa,S,rfl,e,(by have : 2 * i + 2<=r + 1:=hk;omega),hw,hg,q⟩
 | _=>cases hF
theorem ok_Shape_size {k r:Nat} (F:Fun K "size" "Shape.size" s_Shape_size f fd) (VT_size:∀ C sp,TV (Cl5.mk Va Vb Vc Vd Ve) K r vSz C sp->VRow P w K mg base CX0 k "size" C sp):FnOk P w K mg base CX0 (k + 2) f fd ["self"] (spShV (Cl5.mk Va Vb Vc Vd Ve) K r sSz):=by
 w_cond sc_Shape_size
 ·obtain⟨a,i,sa,S,rfl,_⟩:=h;rfl
 obtain⟨a,i,sa,S,rfl,e,hi,hw,hg,q⟩:=h
 walk_at "hr"
 refine⟨_,(pss_one (ps_ret (pe_callB (call_sum rfl) rfl M.sum (show bootBuiltins "sum" = some (.builtin "sum") from by decide +kernel) (pa_cons (pe_comp ["name","kind"] [] [] rfl (pi_tup (pe_fld (pv 0) rfl)) rfl trivial trivial (fun _ _ _ _=>(pg_tupK (K:=K) (n:=2) rfl rfl (pgs_cons (pg_name (i:=0) (show List.Nodup (["name","kind"]:List Str) from by decide +kernel) rfl (Or.inl rfl)) (pgs_cons (pg_name (i:=1) (show List.Nodup (["name","kind"]:List Str) from by decide +kernel) rfl (Or.inl rfl)) pgs_nil)))) (fun _ _ _ _=>pif_nil) (fun _ _ _ _=>(pe_methV0 (pv 1) VT_size hr pass0))) pa_nil)))),?_⟩
 obtain⟨s,hS,so⟩:=hw.at e
 obtain⟨dx,t,ps,k1,k2,k3⟩:=so.fields
 have zl:(ps.map V.ref).length=s.2.length:=by rw [List.length_map];exact k3.len
 have hfit:=hg.fit i s hS
 have htab:=tab_at hS fun f hf=>(hfit f hf).1.below
 have hil:i < S.length:=(List.getElem?_eq_some_iff.mp hS).1
 refine⟨_,rfl,a,Ve,_,_,_,rfl,k1,Ue.cl,Ue.na _ (by decide),rfl,t,rfl,⟨_,k2⟩,comp_tupM (xs:=ps.map V.ref) (fun j ys H'=>Same H H'/\ys=((s.2.take j).map fun f=>V.int (vSz f.2 (tabs S)))) ⟨Same.refl _,rfl⟩ (fun j ys H' _ z=>⟨z.1.tp k2,by rw [z.2,List.length_map,List.length_take];exact Nat.min_le_left _ _⟩) (small1000 (by have:=hg.few i s hS;omega)) (fun j x ys H' os ho hx z=>?_) (fun ys H' z p hp=>?_)⟩
 ·obtain⟨g,rfl⟩:=z
  obtain⟨o1,o2,rfl⟩:=len2 ho
  obtain⟨u,hu,rfl⟩:=get_refs hx
  obtain⟨x,y,kd,k,hf,ht,_,hko⟩:=k3.get hu
  have hm:=hfit _ (List.mem_of_getElem? hf)
  exact⟨u,_,rfl,g.tp ht,rfl,_,_,rfl,_,_,rfl,rfl,_,rfl,callV (nolk (by simp)) (hm.1.rk.mono hi) (hm.1.mono (Nat.le_of_lt hil)) (hko.same g) (hw.same g) hg fun H2 g2=>⟨⟨g.trans g2,(map_snoc hf).symm⟩,[_,_],rfl,rfl⟩⟩
 ·obtain⟨g,rfl⟩:=z
  have g2:=same_new hp (.lst ((s.2.take (ps.map V.ref).length).map fun f=>V.int (vSz f.2 (tabs S))))
  have kp:upd H' p (.lst ((s.2.take (ps.map V.ref).length).map fun f=>V.int (vSz f.2 (tabs S)))) p=some (.lst (((s.2.map fun f=>vSz f.2 (tabs S)).map fun n:Nat=>(n:Int)).map V.int)):=by
   rw [upd_same,zl,take_len,List.map_map,List.map_map];rfl
  have q':=q _ (g.trans g2)
  refine⟨p,(s.2.map fun f=>vSz f.2 (tabs S)).map fun n:Nat=>(n:Int),rfl,SqL.of kp,?_⟩
  rw [sumI]
  rw [show sSz i (tabs S)=(s.2.map fun f=>vSz f.2 (tabs S)).sum from htab.1] at q'
  exact q'
theorem ok_Num_depth {k r:Nat} (F:Fun K "depth" "Num.depth" s_Num_depth f fd):FnOk P w K mg base CX0 (k + 2) f fd ["self"] (spV (Cl5.mk Va Vb Vc Vd Ve) K r Kd.isNum vDp):=by
 w_cond sc_Num_depth
 ·obtain⟨a,kd,sa,S,rfl,_⟩:=h;rfl
 obtain⟨a,kd,sa,S,rfl,hF,hk,hf,ho,hw,hg,q⟩:=h
 walk_at "hr"
 refine⟨_,(pss_one (ps_ret pe_int)),?_⟩
 cases id ho with
 | num h1 =>
  exact q _ (Same.refl _)
 | _=>cases hF
theorem ok_Nested_depth {k r:Nat} (F:Fun K "depth" "Nested.depth" s_Nested_depth f fd) {f_Shape_depth:Addr} {fd_Shape_depth:FuncData} (D_Shape_depth:DfM K Ve "depth" f_Shape_depth fd_Shape_depth ["self"]) (G_Shape_depth:FnOk P w K mg base CX0 k f_Shape_depth fd_Shape_depth ["self"] (spShV (Cl5.mk Va Vb Vc Vd Ve) K r sDp)):FnOk P w K mg base CX0 (k + 2) f fd ["self"] (spV (Cl5.mk Va Vb Vc Vd Ve) K (r + 1) Kd.isNest vDp):=by
 w_cond sc_Nested_depth
 ·obtain⟨a,kd,sa,S,rfl,_⟩:=h;rfl
 obtain⟨a,kd,sa,S,rfl,hF,hk,hf,ho,hw,hg,q⟩:=h
 walk_at "hr"
 refine⟨_,(pss_one (ps_ret (pe_meth0 (pe_fld (pv 0) rfl) Ue.cl D_Shape_depth.me G_Shape_depth hr D_Shape_depth.b .nil pass0))),?_⟩
 cases id ho with
 | @nest a dx s i e h1 =>
  obtain⟨sh,hs,dx2,t,ps,h2,_⟩:=hw.at e
  exact⟨_,rfl,a,Vb,_,_,_,rfl,h1,Ub.cl,Ub.na _ (by decide),rfl,s,dx2,_,rfl,h2,rfl,s,i,sa,S,rfl,e,(by have : 2 * i + 2<=r + 1:=hk;omega),hw,hg,q⟩
 | _=>cases hF
theorem ok_Shape_depth {k r:Nat} (F:Fun K "depth" "Shape.depth" s_Shape_depth f fd) (VT_depth:∀ C sp,TV (Cl5.mk Va Vb Vc Vd Ve) K r vDp C sp->VRow P w K mg base CX0 k "depth" C sp):FnOk P w K mg base CX0 (k + 2) f fd ["self"] (spShV (Cl5.mk Va Vb Vc Vd Ve) K r sDp):=by
 w_cond sc_Shape_depth
 ·obtain⟨a,i,sa,S,rfl,_⟩:=h;rfl
 obtain⟨a,i,sa,S,rfl,e,hi,hw,hg,q⟩:=h
 walk_at "hr"
 refine⟨_,(pss_one (ps_ret (pe_op op_add pe_int (pe_callB (call_maxL rfl) rfl M.max boot_max (pa_cons (pe_comp ["name","kind"] [] [] rfl (pi_tup (pe_fld (pv 0) rfl)) rfl trivial trivial (fun _ _ _ _=>(pg_tupK (K:=K) (n:=2) rfl rfl (pgs_cons (pg_name (i:=0) (show List.Nodup (["name","kind"]:List Str) from by decide +kernel) rfl (Or.inl rfl)) (pgs_cons (pg_name (i:=1) (show List.Nodup (["name","kind"]:List Str) from by decide +kernel) rfl (Or.inl rfl)) pgs_nil)))) (fun _ _ _ _=>pif_nil) (fun _ _ _ _=>(pe_methV0 (pv 1) VT_depth hr pass0))) pa_nil))))),?_⟩
 obtain⟨s,hS,so⟩:=hw.at e
 obtain⟨dx,t,ps,k1,k2,k3⟩:=so.fields
 have zl:(ps.map V.ref).length=s.2.length:=by rw [List.length_map];exact k3.len
 have hfit:=hg.fit i s hS
 have htab:=tab_at hS fun f hf=>(hfit f hf).1.below
 have hil:i < S.length:=(List.getElem?_eq_some_iff.mp hS).1
 refine⟨_,rfl,a,Ve,_,_,_,rfl,k1,Ue.cl,Ue.na _ (by decide),rfl,t,rfl,⟨_,k2⟩,comp_tupM (xs:=ps.map V.ref) (fun j ys H'=>Same H H'/\ys=((s.2.take j).map fun f=>V.int (vDp f.2 (tabs S)))) ⟨Same.refl _,rfl⟩ (fun j ys H' _ z=>⟨z.1.tp k2,by rw [z.2,List.length_map,List.length_take];exact Nat.min_le_left _ _⟩) (small1000 (by have:=hg.few i s hS;omega)) (fun j x ys H' os ho hx z=>?_) (fun ys H' z p hp=>?_)⟩
 ·obtain⟨g,rfl⟩:=z
  obtain⟨o1,o2,rfl⟩:=len2 ho
  obtain⟨u,hu,rfl⟩:=get_refs hx
  obtain⟨x,y,kd,k,hf,ht,_,hko⟩:=k3.get hu
  have hm:=hfit _ (List.mem_of_getElem? hf)
  exact⟨u,_,rfl,g.tp ht,rfl,_,_,rfl,_,_,rfl,rfl,_,rfl,callV (nolk (by simp)) (hm.1.rk.mono hi) (hm.1.mono (Nat.le_of_lt hil)) (hko.same g) (hw.same g) hg fun H2 g2=>⟨⟨g.trans g2,(map_snoc hf).symm⟩,[_,_],rfl,rfl⟩⟩
 ·obtain⟨g,rfl⟩:=z
  have g2:=same_new hp (.lst ((s.2.take (ps.map V.ref).length).map fun f=>V.int (vDp f.2 (tabs S))))
  have kp:upd H' p (.lst ((s.2.take (ps.map V.ref).length).map fun f=>V.int (vDp f.2 (tabs S)))) p=some (.lst (((s.2.map fun f=>vDp f.2 (tabs S)).map fun n:Nat=>(n:Int)).map V.int)):=by
   rw [upd_same,zl,take_len,List.map_map,List.map_map];rfl
  have q':=q _ (g.trans g2)
  refine⟨p,(s.2.map fun f=>vDp f.2 (tabs S)).map fun n:Nat=>(n:Int),rfl,SqL.of kp,(by simpa using hg.ne i s hS),fun m h1 h2=>?_⟩
  rw [maxI h1 h2]
  refine⟨_,_,rfl,rfl,?_⟩
  rw [show sDp i (tabs S)=1 + maxL (s.2.map fun f=>vDp f.2 (tabs S)) from htab.2.1,Int.natCast_add] at q'
  exact q'
theorem ok_Many_size {k r:Nat} (F:Fun K "size" "Many.size" s_Many_size f fd) (VT_size:∀ C sp,TV (Cl5.mk Va Vb Vc Vd Ve) K r vSz C sp->VRow P w K mg base CX0 k "size" C sp):FnOk P w K mg base CX0 (k + 2) f fd ["self"] (spV (Cl5.mk Va Vb Vc Vd Ve) K (r + 1) Kd.isMany vSz):=by
 w_cond sc_Many_size
 ·obtain⟨a,kd,sa,S,rfl,_⟩:=h;rfl
 obtain⟨a,kd,sa,S,rfl,hF,hk,hf,ho,hw,hg,q⟩:=h
 walk_at "hr"
 refine⟨_,(pss_one (ps_ret (pe_op op_mul (pe_fld (pv 0) rfl) (pe_methV0 (pe_fld (pv 0) rfl) VT_size hr pass0)))),?_⟩
 cases id ho with
 | @many a dx b n k h1 h2 =>
  refine⟨_,rfl,a,Vc,_,_,_,rfl,h1,Uc.cl,Uc.na _ (by decide),rfl,_,rfl,a,Vc,_,_,_,rfl,h1,Uc.cl,Uc.na _ (by decide),rfl,callV (nolk (by simp)) hk.sub hf.sub h2 hw hg fun H' g=>⟨_,_,rfl,rfl,.inl ⟨by have:=hf.2.1;omega,by have:=hf.2.1;omega⟩,?_⟩⟩
  have q':=q H' g
  rw [show vSz (Kd.many n k) (tabs S)=n * vSz k (tabs S) from rfl,Int.natCast_mul] at q'
  exact q'
 | _=>cases hF
theorem ok_Many_depth {k r:Nat} (F:Fun K "depth" "Many.depth" s_Many_depth f fd) (VT_depth:∀ C sp,TV (Cl5.mk Va Vb Vc Vd Ve) K r vDp C sp->VRow P w K mg base CX0 k "depth" C sp):FnOk P w K mg base CX0 (k + 2) f fd ["self"] (spV (Cl5.mk Va Vb Vc Vd Ve) K (r + 1) Kd.isMany vDp):=by
 w_cond sc_Many_depth
 ·obtain⟨a,kd,sa,S,rfl,_⟩:=h;rfl
 obtain⟨a,kd,sa,S,rfl,hF,hk,hf,ho,hw,hg,q⟩:=h
 walk_at "hr"
 refine⟨_,(pss_one (ps_ret (pe_methV0 (pe_fld (pv 0) rfl) VT_depth hr pass0))),?_⟩
 cases id ho with
 | @many a dx b n k h1 h2 =>
  exact⟨_,rfl,a,Vc,_,_,_,rfl,h1,Uc.cl,Uc.na _ (by decide),rfl,callV (nolk (by simp)) hk.sub hf.sub h2 hw hg q⟩
 | _=>cases hF
theorem ok_Pick_greatest {k r:Nat} (F:Fun K "greatest" "Pick.greatest" s_Pick_greatest f fd) {f_Shape_size:Addr} {fd_Shape_size:FuncData} (D_Shape_size:DfM K Ve "size" f_Shape_size fd_Shape_size ["self"]) (G_Shape_size:FnOk P w K mg base CX0 k f_Shape_size fd_Shape_size ["self"] (spShV (Cl5.mk Va Vb Vc Vd Ve) K r sSz)):FnOk P w K mg base CX0 (k + 2) f fd ["self"] (spGr (Cl5.mk Va Vb Vc Vd Ve) K (r + 1)):=by
 w_cond sc_Pick_greatest
 ·obtain⟨a,is,sa,S,rfl,_⟩:=h;rfl
 obtain⟨a,is,sa,S,rfl,hk,hf,ho,hw,hg,q⟩:=h
 walk_at "hr"
 refine⟨_,(pss_one (ps_ret (pe_callB (call_maxL rfl) rfl M.max boot_max (pa_cons (pe_comp ["shape"] [] [] rfl (pi_tup (pe_fld (pv 0) rfl)) rfl trivial trivial (fun _ _ _ _=>(pg_name (i:=0) (show List.Nodup (["shape"]:List Str) from by decide +kernel) rfl (Or.inl rfl))) (fun _ _ _ _=>pif_nil) (fun _ _ _ _=>(pe_meth0 (pv 0) Ue.cl D_Shape_size.me G_Shape_size hr D_Shape_size.b .nil pass0))) pa_nil)))),?_⟩
 obtain⟨dx,t,ss,h1,h2,h3,h4⟩ : ∃ (dx t:Addr) (ss:List Addr),H a=some (.ins Vd dx [("shapes",.ref t)])/\SqT K H t (ss.map V.ref)/\ss.length=is.length/\∀ (j i:Nat) (s:Addr),is[j]?=some i->ss[j]?=some s->sa[i]?=some s:=by
  cases ho with
  | pick h1 h2 h3 h4=>exact⟨_,_,_,h1,h2,h3,h4⟩
 have zl:(ss.map V.ref).length=is.length:=by rw [List.length_map];exact h3
 refine⟨_,rfl,a,Vd,_,_,_,rfl,h1,Ud.cl,Ud.na _ (by decide),rfl,t,rfl,⟨_,h2⟩,comp_tup (xs:=ss.map V.ref) (fun j ys H'=>Same H H'/\ys=((is.take j).map fun i=>V.int (sSz i (tabs S)))) ⟨Same.refl _,rfl⟩ (fun j ys H' _ z=>⟨z.1.tp h2,by rw [z.2,List.length_map,List.length_take];exact Nat.min_le_left _ _⟩) (small1000 (by have:=hf.2.1;omega)) (fun j x ys H' hx z=>?_) (fun ys H' z p hp=>?_)⟩
 ·obtain⟨g,rfl⟩:=z
  obtain⟨s,hs,rfl⟩:=get_refs hx
  have hj:j < is.length:=by rw [← h3];exact (List.getElem?_eq_some_iff.mp hs).1
  have hi:is[j]?=some is[j]:=List.getElem?_eq_getElem hj
  have e:=h4 j _ s hi hs
  obtain⟨sh,hS,dx2,t2,ps,k2,_⟩:=hw.at e
  exact⟨_,rfl,s,dx2,_,rfl,g _ _ k2,rfl,s,is[j],sa,S,rfl,e,(by have:=hk _ (List.getElem_mem hj);omega),hw.same g,hg,fun H2 g2=>⟨⟨g.trans g2,(map_snoc hi).symm⟩,_,rfl⟩⟩
 ·obtain⟨g,rfl⟩:=z
  have g2:=same_new hp (.lst ((is.take (ss.map V.ref).length).map fun i=>V.int (sSz i (tabs S))))
  have kp:upd H' p (.lst ((is.take (ss.map V.ref).length).map fun i=>V.int (sSz i (tabs S)))) p=some (.lst (((is.map fun i=>sSz i (tabs S)).map fun n:Nat=>(n:Int)).map V.int)):=by
   rw [upd_same,zl,take_len,List.map_map,List.map_map];rfl
  have q':=q _ (g.trans g2)
  refine⟨p,(is.map fun i=>sSz i (tabs S)).map fun n:Nat=>(n:Int),rfl,SqL.of kp,(by have:=hf.1;intro z;rw [List.map_map,List.map_eq_nil_iff] at z;rw [z] at this;exact absurd this (by decide)),fun m h5 h6=>?_⟩
  rw [maxI h5 h6]
  exact q'
theorem ok_Pick_depth {k r:Nat} (F:Fun K "depth" "Pick.depth" s_Pick_depth f fd) {f_Shape_depth:Addr} {fd_Shape_depth:FuncData} (D_Shape_depth:DfM K Ve "depth" f_Shape_depth fd_Shape_depth ["self"]) (G_Shape_depth:FnOk P w K mg base CX0 k f_Shape_depth fd_Shape_depth ["self"] (spShV (Cl5.mk Va Vb Vc Vd Ve) K r sDp)):FnOk P w K mg base CX0 (k + 2) f fd ["self"] (spV (Cl5.mk Va Vb Vc Vd Ve) K (r + 1) Kd.isPick vDp):=by
 w_cond sc_Pick_depth
 ·obtain⟨a,kd,sa,S,rfl,_⟩:=h;rfl
 obtain⟨a,kd,sa,S,rfl,hF,hk,hf,ho,hw,hg,q⟩:=h
 walk_at "hr"
 refine⟨_,(pss_one (ps_ret (pe_callB (call_maxL rfl) rfl M.max boot_max (pa_cons (pe_comp ["shape"] [] [] rfl (pi_tup (pe_fld (pv 0) rfl)) rfl trivial trivial (fun _ _ _ _=>(pg_name (i:=0) (show List.Nodup (["shape"]:List Str) from by decide +kernel) rfl (Or.inl rfl))) (fun _ _ _ _=>pif_nil) (fun _ _ _ _=>(pe_meth0 (pv 0) Ue.cl D_Shape_depth.me G_Shape_depth hr D_Shape_depth.b .nil pass0))) pa_nil)))),?_⟩
 obtain⟨is,dx,t,ss,rfl,h1,h2,h3,h4⟩ : ∃ (is:List Nat) (dx t:Addr) (ss:List Addr),kd=.pick is/\H a=some (.ins Vd dx [("shapes",.ref t)])/\SqT K H t (ss.map V.ref)/\ss.length=is.length/\∀ (j i:Nat) (s:Addr),is[j]?=some i->ss[j]?=some s->sa[i]?=some s:=by
  cases ho with
  | pick h1 h2 h3 h4=>exact⟨_,_,_,_,rfl,h1,h2,h3,h4⟩
  | _=>cases hF
 have zl:(ss.map V.ref).length=is.length:=by rw [List.length_map];exact h3
 refine⟨_,rfl,a,Vd,_,_,_,rfl,h1,Ud.cl,Ud.na _ (by decide),rfl,t,rfl,⟨_,h2⟩,comp_tup (xs:=ss.map V.ref) (fun j ys H'=>Same H H'/\ys=((is.take j).map fun i=>V.int (sDp i (tabs S)))) ⟨Same.refl _,rfl⟩ (fun j ys H' _ z=>⟨z.1.tp h2,by rw [z.2,List.length_map,List.length_take];exact Nat.min_le_left _ _⟩) (small1000 (by have:=hf.2.1;omega)) (fun j x ys H' hx z=>?_) (fun ys H' z p hp=>?_)⟩
 ·obtain⟨g,rfl⟩:=z
  obtain⟨s,hs,rfl⟩:=get_refs hx
  have hj:j < is.length:=by rw [← h3];exact (List.getElem?_eq_some_iff.mp hs).1
  have hi:is[j]?=some is[j]:=List.getElem?_eq_getElem hj
  have e:=h4 j _ s hi hs
  obtain⟨sh,hS,dx2,t2,ps,k2,_⟩:=hw.at e
  exact⟨_,rfl,s,dx2,_,rfl,g _ _ k2,rfl,s,is[j],sa,S,rfl,e,(by have:=hk _ (List.getElem_mem hj);omega),hw.same g,hg,fun H2 g2=>⟨⟨g.trans g2,(map_snoc hi).symm⟩,_,rfl⟩⟩
 ·obtain⟨g,rfl⟩:=z
  have g2:=same_new hp (.lst ((is.take (ss.map V.ref).length).map fun i=>V.int (sDp i (tabs S))))
  have kp:upd H' p (.lst ((is.take (ss.map V.ref).length).map fun i=>V.int (sDp i (tabs S)))) p=some (.lst (((is.map fun i=>sDp i (tabs S)).map fun n:Nat=>(n:Int)).map V.int)):=by
   rw [upd_same,zl,take_len,List.map_map,List.map_map];rfl
  have q':=q _ (g.trans g2)
  refine⟨p,(is.map fun i=>sDp i (tabs S)).map fun n:Nat=>(n:Int),rfl,SqL.of kp,(by have:=hf.1;intro z;rw [List.map_map,List.map_eq_nil_iff] at z;rw [z] at this;exact absurd this (by decide)),fun m h5 h6=>?_⟩
  rw [maxI h5 h6]
  exact q'
theorem ok_Pick_size {k r:Nat} (F:Fun K "size" "Pick.size" s_Pick_size f fd) {f_Pick_greatest:Addr} {fd_Pick_greatest:FuncData} (D_Pick_greatest:DfM K Vd "greatest" f_Pick_greatest fd_Pick_greatest ["self"]) (G_Pick_greatest:FnOk P w K mg base CX0 k f_Pick_greatest fd_Pick_greatest ["self"] (spGr (Cl5.mk Va Vb Vc Vd Ve) K (r + 1))):FnOk P w K mg base CX0 (k + 2) f fd ["self"] (spV (Cl5.mk Va Vb Vc Vd Ve) K (r + 1) Kd.isPick vSz):=by
 w_cond sc_Pick_size
 ·obtain⟨a,kd,sa,S,rfl,_⟩:=h;rfl
 obtain⟨a,kd,sa,S,rfl,hF,hk,hf,ho,hw,hg,q⟩:=h
 walk_at "hr"
 refine⟨_,(pss_one (ps_ret (pe_op op_add pe_int (pe_meth0 (pv 0) Ud.cl D_Pick_greatest.me G_Pick_greatest hr D_Pick_greatest.b .nil pass0)))),?_⟩
 cases id ho with
 | @pick a dx t is ss h1 h2 h3 h4 =>
  refine⟨_,rfl,a,dx,_,rfl,h1,rfl,a,is,sa,S,rfl,hk,hf,ho,hw,hg,fun H' g=>⟨_,_,rfl,rfl,?_⟩⟩
  have q':=q H' g
  rw [show vSz (Kd.pick is) (tabs S)=1 + maxL (is.map fun i=>(tabs S).sz.getD i 0) from rfl,Int.natCast_add] at q'
  exact q'
 | _=>cases hF
theorem ok_Num_init {k:Nat} (F:Fun K "__init__" "Num.__init__" s_Num_init f fd):FnOk P w K mg base CX0 (k + 2) f fd ["self","width"] (spI1 Va "width"):=by
 w_cond sc_Num_init
 ·obtain⟨a,dx,v,H1,rfl,_⟩:=h;rfl
 obtain⟨a,dx,v,H1,rfl,hA,g,h0,q⟩:=h
 walk_at "hr"
 refine⟨_,(pss_one (ps_fld (pv 0) (pv 1) rfl)),?_⟩
 exact⟨_,rfl,_,rfl,a,Va,dx,[],rfl,hA,Ua.cl,Ua.na _ (by decide),by decide,q _ (g.putn h0) upd_same⟩
theorem ok_Nested_init {k:Nat} (F:Fun K "__init__" "Nested.__init__" s_Nested_init f fd):FnOk P w K mg base CX0 (k + 2) f fd ["self","shape"] (spI1 Vb "shape"):=by
 w_cond sc_Nested_init
 ·obtain⟨a,dx,v,H1,rfl,_⟩:=h;rfl
 obtain⟨a,dx,v,H1,rfl,hA,g,h0,q⟩:=h
 walk_at "hr"
 refine⟨_,(pss_one (ps_fld (pv 0) (pv 1) rfl)),?_⟩
 exact⟨_,rfl,_,rfl,a,Vb,dx,[],rfl,hA,Ub.cl,Ub.na _ (by decide),by decide,q _ (g.putn h0) upd_same⟩
theorem ok_Many_init {k:Nat} (F:Fun K "__init__" "Many.__init__" s_Many_init f fd):FnOk P w K mg base CX0 (k + 2) f fd ["self","count","kind"] (spI2 Vc "count" "kind"):=by
 w_cond sc_Many_init
 ·obtain⟨a,dx,v,u,H1,rfl,_⟩:=h;rfl
 obtain⟨a,dx,v,u,H1,rfl,hA,g,h0,q⟩:=h
 walk_at "hr"
 refine⟨_,(pss_cons (ps_fld (pv 0) (pv 1) rfl)
   (pss_one (ps_fld (pv 0) (pv 2) rfl))),?_⟩
 exact⟨_,rfl,_,rfl,a,Vc,dx,[],rfl,hA,Uc.cl,Uc.na _ (by decide),by decide,_,rfl,_,rfl,a,Vc,dx,_,rfl,upd_same,Uc.cl,Uc.na _ (by decide),(by show 1 < 1000;decide),q _ ((g.putn h0).putn h0) upd_same⟩
theorem ok_Pick_init {k:Nat} (F:Fun K "__init__" "Pick.__init__" s_Pick_init f fd):FnOk P w K mg base CX0 (k + 2) f fd ["self","shapes"] (spIT K Vd "shapes"):=by
 w_cond sc_Pick_init
 ·obtain⟨a,dx,l,ys,H1,rfl,_⟩:=h;rfl
 obtain⟨a,dx,l,ys,H1,rfl,hA,g,h0,hl,q⟩:=h
 walk_at "hr"
 refine⟨_,(pss_one (ps_fld (pv 0) (pe_callTy call_tuple_of rfl M.tuple boot_tuple (pa_cons (pv 1) pa_nil)) rfl)),?_⟩
 refine⟨_,rfl,l,ys,rfl,.inl ⟨g.seq hl,fun t ht=>?_⟩⟩
 generalize e_k2:upd H t _=H2
 obtain⟨g2,k2⟩:=new_facts e_k2 ht
 exact⟨_,rfl,a,Vd,dx,[],rfl,g2 _ _ hA,Ud.cl,Ud.na _ (by decide),by decide,q t _ ((g.trans g2).putn h0) upd_same (SqT.of (by rw [upd_ne (Ne.symm (ne_of_none hA ht))];exact k2))⟩
theorem ok_Shapes_init {k:Nat} (F:Fun K "__init__" "Shapes.__init__" s_Shapes_init f fd):FnOk P w K mg base CX0 (k + 2) f fd ["self","shapes"] (spIT K Vf "shapes"):=by
 w_cond sc_Shapes_init
 ·obtain⟨a,dx,l,ys,H1,rfl,_⟩:=h;rfl
 obtain⟨a,dx,l,ys,H1,rfl,hA,g,h0,hl,q⟩:=h
 walk_at "hr"
 refine⟨_,(pss_one (ps_fld (pv 0) (pe_callTy call_tuple_of rfl M.tuple boot_tuple (pa_cons (pv 1) pa_nil)) rfl)),?_⟩
 refine⟨_,rfl,l,ys,rfl,.inl ⟨g.seq hl,fun t ht=>?_⟩⟩
 generalize e_k2:upd H t _=H2
 obtain⟨g2,k2⟩:=new_facts e_k2 ht
 exact⟨_,rfl,a,Vf,dx,[],rfl,g2 _ _ hA,Uf.cl,Uf.na _ (by decide),by decide,q t _ ((g.trans g2).putn h0) upd_same (SqT.of (by rw [upd_ne (Ne.symm (ne_of_none hA ht))];exact k2))⟩
theorem ok_Num_units_at {k r:Nat} (F:Fun K "units_at" "Num.units_at" s_Num_units_at f fd):FnOk P w K mg base CX0 (k + 2) f fd ["self","path"] (spU (Cl5.mk Va Vb Vc Vd Ve) K r Kd.isNum):=by
 w_cond sc_Num_units_at
 ·obtain⟨a,p,kd,sa,S,rfl,_⟩:=h;rfl
 obtain⟨a,p,kd,sa,S,rfl,hp,hF,hk,hf,ho,hw,hg,q⟩:=h
 walk_at "hr"
 refine⟨_,(pss_one (ps_ret (pe_lst (pa_cons (pe_tup (pa_cons (pv 1) (pa_cons (pe_fld (pv 0) rfl) (pa_cons pe_str pa_nil)))) pa_nil)))),?_⟩
 cases id ho with
 | num h1 =>
  refine⟨_,rfl,_,rfl,a,Va,_,_,_,rfl,h1,Ua.cl,Ua.na _ (by decide),rfl,szL3,fun t ht=>?_⟩
  generalize e1:upd H t _=H1
  obtain⟨g1,k1⟩:=new_facts e1 ht
  refine⟨szL1,fun l hl=>?_⟩
  generalize e2:upd H1 l _=H2
  obtain⟨g2,k2⟩:=new_facts e2 hl
  exact q l H2 (g1.trans g2) (g1.free hl) ⟨[t],k2,.cons (g2.tp (SqT.of k1)) .nil⟩
 | _=>cases hF
theorem ok_Pick_units_at {k r:Nat} (F:Fun K "units_at" "Pick.units_at" s_Pick_units_at f fd) {f_joined:Addr} {fd_joined:FuncData} (D_joined:Df K mg "joined" f_joined fd_joined ["path","step"]) (G_joined:FnOk P w K mg base CX0 k f_joined fd_joined ["path","step"] spJoined) {f_Pick_greatest:Addr} {fd_Pick_greatest:FuncData} (D_Pick_greatest:DfM K Vd "greatest" f_Pick_greatest fd_Pick_greatest ["self"]) (G_Pick_greatest:FnOk P w K mg base CX0 k f_Pick_greatest fd_Pick_greatest ["self"] (spGr (Cl5.mk Va Vb Vc Vd Ve) K (r + 1))):FnOk P w K mg base CX0 (k + 2) f fd ["self","path"] (spU (Cl5.mk Va Vb Vc Vd Ve) K (r + 1) Kd.isPick):=by
 w_cond sc_Pick_units_at
 ·obtain⟨a,p,kd,sa,S,rfl,_⟩:=h;rfl
 obtain⟨a,p,kd,sa,S,rfl,hp,hF,hk,hf,ho,hw,hg,q⟩:=h
 walk_at "hr"
 refine⟨_,(pss_one (ps_ret (pe_lst (pa_cons (pe_tup (pa_cons (pe_call G_joined hr rfl D_joined.m D_joined.k D_joined.b .nil pass0 (pa_cons (pv 1) (pa_cons pe_str pa_nil))) (pa_cons pe_int (pa_cons pe_str pa_nil)))) (pa_cons (pe_tup (pa_cons (pv 1) (pa_cons (pe_meth0 (pv 0) Ud.cl D_Pick_greatest.me G_Pick_greatest hr D_Pick_greatest.b .nil pass0) (pa_cons pe_str pa_nil)))) pa_nil))))),?_⟩
 cases id ho with
 | @pick a dx t is ss h1 h2 h3 h4 =>
  refine⟨_,rfl,p,_,_,rfl,rfl,(by omega),(by decide),szL3,fun t1 ht1=>?_⟩
  generalize e1:upd H t1 _=H1
  obtain⟨g1,k1⟩:=new_facts e1 ht1
  refine⟨_,rfl,_,rfl,a,dx,_,rfl,g1 _ _ h1,rfl,a,is,sa,S,rfl,hk,hf,ho.same g1,hw.same g1,hg,fun H2 g2=>⟨szL3,fun t2 ht2=>?_⟩⟩
  generalize e3:upd H2 t2 _=H3
  obtain⟨g3,k3⟩:=new_facts e3 ht2
  refine⟨szL2,fun l hl=>?_⟩
  generalize e4:upd H3 l _=H4
  obtain⟨g4,k4⟩:=new_facts e4 hl
  exact q l H4 (((g1.trans g2).trans g3).trans g4) (((g1.trans g2).trans g3).free hl) ⟨[t1,t2],k4,.cons (((g2.trans g3).trans g4).tp (SqT.of k1)) (.cons (g4.tp (SqT.of k3)) .nil)⟩
 | _=>cases hF
theorem ok_Nested_parted {k:Nat} (F:Fun K "parted" "Nested.parted" s_Nested_parted f fd):FnOk P w K mg base CX0 (k + 2) f fd ["self"] (spP (Cl5.mk Va Vb Vc Vd Ve) K Kd.isNest):=by
 w_cond sc_Nested_parted
 ·obtain⟨a,kd,sa,S,rfl,_⟩:=h;rfl
 obtain⟨a,kd,sa,S,rfl,hF,hf,ho,hw,hg,q⟩:=h
 walk_at "hr"
 refine⟨_,(pss_one (ps_ret (pe_callTy call_list_of rfl M.list boot_list (pa_cons (pe_fld (pe_fld (pv 0) rfl) rfl) pa_nil)))),?_⟩
 cases id ho with
 | @nest a dx s i e h1 =>
  obtain⟨sh,hs,so⟩:=hw.at e
  obtain⟨dx2,t,ps,k1,k2,k3⟩:=so.fields
  refine⟨_,rfl,a,Vb,_,_,_,rfl,h1,Ub.cl,Ub.na _ (by decide),rfl,s,Ve,_,_,_,rfl,k1,Ue.cl,Ue.na _ (by decide),rfl,t,_,rfl,.inr k2,fun l hl=>?_⟩
  generalize e1:upd H l _=H1
  obtain⟨g1,kl⟩:=new_facts e1 hl
  refine q l H1 g1 hl ⟨ps,kl,?_⟩
  rw [show (Kd.nest i).parts S=sh.2 by show (S.getD i _).2=_;rw [List.getD_eq_getElem?_getD,hs];rfl]
  exact k3.same g1
 | _=>cases hF
theorem ok_Many_parted {k:Nat} (F:Fun K "parted" "Many.parted" s_Many_parted f fd):FnOk P w K mg base CX0 (k + 2) f fd ["self"] (spP (Cl5.mk Va Vb Vc Vd Ve) K Kd.isMany):=by
 w_cond sc_Many_parted
 ·obtain⟨a,kd,sa,S,rfl,_⟩:=h;rfl
 obtain⟨a,kd,sa,S,rfl,hF,hf,ho,hw,hg,q⟩:=h
 walk_at "hr"
 refine⟨_,(pss_one (ps_ret (pe_comp ["number"] ["self"] [0] rfl (pi_range1 rfl M.range (pa_cons (pe_fld (pv 0) rfl) pa_nil)) rfl ⟨rfl,trivial⟩ ⟨⟨rfl,rfl,rfl,_,rfl⟩,trivial⟩ (fun _ _ _ _=>(pg_name (i:=0) (show List.Nodup (["number","self"]:List Str) from by decide +kernel) rfl (Or.inl rfl))) (fun _ _ _ _=>pif_nil) (fun _ _ _ _=>(pe_tup (pa_cons (pv 0) (pa_cons (pe_fldK (K:=K) rfl (pv 1) rfl) pa_nil))))))),?_⟩
 cases id ho with
 | @many a dx b n k h1 h2 =>
  have hn:n<=6:=hf.2.1
  refine⟨_,rfl,a,Vc,_,_,_,rfl,h1,Uc.cl,Uc.na _ (by decide),rfl,n,rfl,by omega,by omega,comp_range (n:=n) (fun j ys H'=>Same H H'/\∃ tt:List Addr,ys=tt.map V.ref/\tt.length=j/\PR (Cl5.mk Va Vb Vc Vd Ve) K H' sa tt ((List.range j).map fun j=>(Str.ofString (toString j),k))) ⟨Same.refl _,[],rfl,rfl,.nil⟩ (fun j ys H' _ z=>?_) (small1000 (by omega)) (fun j ys H' hj z=>?_) (fun ys H' z p hp=>?_)⟩
  ·obtain⟨_,tt,rfl,hl,_⟩:=z
   rw [List.length_map];omega
  ·obtain⟨g,tt,rfl,hl,hP⟩:=z
   refine⟨_,rfl,_,rfl,a,Vc,_,_,_,rfl,g _ _ h1,Uc.cl,Uc.na _ (by decide),rfl,szL2,fun t ht=>?_⟩
   generalize e1:upd H' t _=H1
   obtain⟨g1,k1⟩:=new_facts e1 ht
   refine⟨⟨g.trans g1,tt++[t],by rw [List.map_append];rfl,by rw [List.length_append,hl];rfl,?_⟩,_,rfl⟩
   rw [List.range_succ,List.map_append]
   refine (hP.same g1).snoc (x:=.int ((0:Int) + (j:Nat))) (SqT.of k1) ?_ (h2.same (g.trans g1))
   rw [Int.zero_add]
   exact if_pos (by show (j:Nat) < 2 ^ 100;exact Nat.lt_of_lt_of_le hj (by omega))
  ·obtain⟨g,tt,rfl,hl,hP⟩:=z
   generalize e1:upd H' p _=H1
   obtain⟨g1,k1⟩:=new_facts e1 hp
   exact q p H1 (g.trans g1) (g.free hp) ⟨tt,k1,hP.same g1⟩
 | _=>cases hF
theorem ok_Kind_units_at {k r:Nat} {FF:Kd->Bool} (hFF:∀ k,FF k=true->(∃ i,k=.nest i)\/∃ n q,k=.many n q) (F:Fun K "units_at" "Kind.units_at" s_Kind_units_at f fd) (VT_parted:∀ C sp,TPt (Cl5.mk Va Vb Vc Vd Ve) K C sp->VRow P w K mg base CX0 k "parted" C sp) (VT_units_at:∀ C sp,TU (Cl5.mk Va Vb Vc Vd Ve) K r C sp->VRow P w K mg base CX0 k "units_at" C sp) {f_joined:Addr} {fd_joined:FuncData} (D_joined:Df K mg "joined" f_joined fd_joined ["path","step"]) (G_joined:FnOk P w K mg base CX0 k f_joined fd_joined ["path","step"] spJoined):FnOk P w K mg base CX0 (k + 2) f fd ["self","path"] (spU (Cl5.mk Va Vb Vc Vd Ve) K (r + 1) FF):=by
 w_cond sc_Kind_units_at
 ·obtain⟨a,p,kd,sa,S,rfl,_⟩:=h;rfl
 obtain⟨a,p,kd,sa,S,rfl,hp,hF,hk,hf,ho,hw,hg,q⟩:=h
 walk_at "hr"
 refine⟨_,(pss_cons (ps_set (i:=2) sc_Kind_units_at.nd rfl (by walk_at "o") (pe_lst pa_nil))
   (pss_cons (ps_for PassesOwn.never rfl (pi_list (pe_methV0 (pv 0) VT_parted hr pass0)) (pg_tup rfl (pgs_cons (pg_name (i:=3) sc_Kind_units_at.nd rfl (Or.inl rfl)) (pgs_cons (pg_name (i:=4) sc_Kind_units_at.nd rfl (Or.inl rfl)) pgs_nil))) (pss_one (ps_expr (pe_bm PySem.F.plainAttrs_list PySem.F.slot_list_extend PySem.F.type_list_extend mt_extend (pv 2) (pa_cons (pe_methV (pv 4) VT_units_at hr pass0 (pa_cons (pe_call G_joined hr rfl D_joined.m D_joined.k D_joined.b .nil pass0 (pa_cons (pv 1) (pa_cons (pv 3) pa_nil))) pa_nil)) pa_nil)))))
   (pss_one (ps_ret (pv 2))))),?_⟩
 refine⟨szL0,fun l hl=>?_⟩
 generalize e1:upd H l _=H1
 obtain⟨g1,k1⟩:=new_facts e1 hl
 refine⟨_,rfl,callP (nolk (by simp)) (hFF kd hF) hf (ho.same g1) (hw.same g1) hg fun l2 H2 g2 hl2 ⟨tt,k2,pr⟩=>?_⟩
 have kl2:=g2 _ _ k1
 have n2:l2 ≠ l:=Ne.symm (ne_of_none k1 hl2)
 have hw2:=hw.same (g1.trans g2)
 have zl:tt.length=(kd.parts S).length:=pr.len
 have bd:=Kd.size_bd hg.sz (by decide) hf
 have lens:∀ j,(((kd.parts S).take j).flatMap fun f=>un f.2 S (pj p f.1)).length<=6000:=fun j=>by
  have h1:(un kd S p).length<=_:=(hg.kd hf).2 p
  rw [Kd.parts_un hg hf (hFF kd hF)] at h1
  conv at h1=>lhs;rw [← List.take_append_drop j (kd.parts S)]
  rw [List.flatMap_append,List.length_append] at h1
  omega
 refine⟨l2,rfl,⟨_,SqL.of k2⟩,for_list (xs:=tt.map V.ref) (fun j σ H'=>∃ o3 o4,σ = [some (.ref a),some (.str p),some (.ref l),o3,o4]/\But l H2 H'/\UL K H' l (((kd.parts S).take j).flatMap fun f=>un f.2 S (pj p f.1))) ⟨_,_,rfl,But.refl,[],kl2,.nil⟩ (fun j σ H' _ z=>?_) (fun j x σ H' hx z=>?_) (fun σ H' z=>?_)⟩
 ·obtain⟨o3,o4,rfl,g,_⟩:=z
  exact SqL.of (g _ _ n2 k2)
 ·obtain⟨o3,o4,rfl,g,us,ku,ur⟩:=z
  obtain⟨t,ht,rfl⟩:=get_refs hx
  obtain⟨x,y,kd',kk,hps,hq,hx',hko⟩:=pr.get ht
  obtain⟨p1,p2,p3,p4⟩:=Kd.parts_ok hg hf hk (List.mem_of_getElem? hps)
  obtain⟨C',dx',fs',sp',m1,m2,m3,m4⟩:=kdU (nolk (m:="units_at") (by simp)) p1 p2 (hko.but g kl2) (hw2.but g kl2) hg
  have hyl:(pj p y).length<=p.length + 7:=by
   have e1:(Str.ofString ".").length=1:=rfl
   have p4':y.length<=6:=p4
   unfold pj
   split
   ·omega
   ·rw [strLen_append,strLen_append];omega
  refine⟨t,_,rfl,g.tup kl2 hq,rfl,_,_,rfl,_,_,rfl,rfl,_,rfl,.inl ⟨rfl,_,SqL.of ku⟩,_,rfl,kk,C',dx',fs',sp',rfl,m1,m2,m3,_,rfl,_,rfl,p,x,y,rfl,hx',(by omega),(by have p4':y.length<=6:=p4;omega),m4 _ _ _ (by omega) fun l3 H3 g3 hl3 ⟨us3,k3,ur3⟩=>?_⟩
  have ku3:=g3 _ _ ku
  have h6:=lens (j + 1)
  rw [fm_snoc hps,List.length_append,← ur.len,← ur3.len] at h6
  refine⟨l,l3,_,_,rfl,rfl,ku3,k3,(by rw [sizeLine_eq,List.length_map,List.length_map];omega),?_⟩
  generalize e4:upd H3 l _=H4
  obtain⟨g4,k4⟩:=chg_facts e4
  refine⟨_,_,rfl,(g.trans (But.of g3)).trans g4,us++us3,by rw [List.map_append];exact k4,?_⟩
  rw [fm_snoc hps]
  exact ((ur.same g3).but g4 ku3).app (ur3.but g4 ku3)
 ·obtain⟨o3,o4,rfl,g,u⟩:=z
  rw [List.length_map,zl,take_len] at u
  refine⟨_,rfl,q l H' (But.from (g1.trans g2) hl g) hl ?_⟩
  rw [Kd.parts_un hg hf (hFF kd hF)]
  exact u
theorem ok_Shape_units {k r:Nat} (F:Fun K "units" "Shape.units" s_Shape_units f fd) {fd_Nested_init:FuncData} (D_Nested_init:DfI K fd_Nested_init ["self","shape"]) (G_Nested_init:FnOk P w K mg base CX0 k cIv fd_Nested_init ["self","shape"] (spI1 Vb "shape")) (VT_units_at:∀ C sp,TU (Cl5.mk Va Vb Vc Vd Ve) K r C sp->VRow P w K mg base CX0 k "units_at" C sp):FnOk P w K mg base CX0 (k + 2) f fd ["self"] (spShU (Cl5.mk Va Vb Vc Vd Ve) K r):=by
 w_cond sc_Shape_units
 ·obtain⟨a,i,sa,S,rfl,_⟩:=h;rfl
 obtain⟨a,i,sa,S,rfl,e,hi,h8,hw,hg,q⟩:=h
 walk_at "hr"
 refine⟨_,(pss_one (ps_ret (pe_methV (pe_make Ub.ma G_Nested_init hr0 rfl Ub.m D_Nested_init.b .nil pass0 (pa_cons (pv 0) pa_nil)) VT_units_at hr pass0 (pa_cons pe_str pa_nil)))),?_⟩
 refine⟨_,rfl,fun x dx hx hdx _=>⟨x,dx,.ref a,H,rfl,upd_same,madeS hx hdx,hx,fun H1 g1 k1=>⟨rfl,?_⟩⟩⟩
 have hil:i < S.length:=by rw [← hw.1];exact (List.getElem?_eq_some_iff.mp e).1
 obtain⟨C',dx',fs',sp',m1,m2,m3,m4⟩:=kdU (kd:=.nest i) (r:=r) (nolk (m:="units_at") (by simp)) hi hil (.nest e k1) (hw.same g1) hg
 exact⟨x,C',dx',fs',sp',rfl,m1,m2,m3,m4 _ _ _ (by show 0 + 8 * r<=200;omega) fun l H2 g2 hl u=>q l H2 (g1.trans g2) (g1.free hl) u⟩
theorem ok_Shape_init {k:Nat} (F:Fun K "__init__" "Shape.__init__" s_Shape_init f fd):FnOk P w K mg base CX0 (k + 2) f fd ["self","name","fields"] (spShI (Cl5.mk Va Vb Vc Vd Ve) K):=by
 w_cond sc_Shape_init
 ·obtain⟨a,dx,fl,nm,ps,fs,sa,H1,rfl,_⟩:=h;rfl
 obtain⟨a,dx,fl,nm,ps,fs,sa,H1,rfl,hA,g,h0,hl,hP,hn,q⟩:=h
 walk_at "hr"
 refine⟨_,(pss_cons (ps_fld (pv 0) (pv 1) rfl)
   (pss_one (ps_fld (pv 0) (pe_callTy call_tuple_of rfl M.tuple boot_tuple (pa_cons (pe_comp ["field","kind"] [] [] rfl (pi_seq (pv 2)) rfl trivial trivial (fun _ _ _ _=>(pg_tupK (K:=K) (n:=2) rfl rfl (pgs_cons (pg_name (i:=0) (show List.Nodup (["field","kind"]:List Str) from by decide +kernel) rfl (Or.inl rfl)) (pgs_cons (pg_name (i:=1) (show List.Nodup (["field","kind"]:List Str) from by decide +kernel) rfl (Or.inl rfl)) pgs_nil)))) (fun _ _ _ _=>pif_nil) (fun _ _ _ _=>(pe_tup (pa_cons (pv 0) (pa_cons (pv 1) pa_nil))))) pa_nil)) rfl))),?_⟩
 refine⟨_,rfl,_,rfl,a,Ve,dx,[],rfl,hA,Ue.cl,Ue.na _ (by decide),by decide,?_⟩
 have ga:Same H1 (upd H a (.ins Ve dx (putF "name" (.str nm) []))):=g.putn h0
 have ka:upd H a (.ins Ve dx (putF "name" (.str nm) [])) a=some (.ins Ve dx [("name",.str nm)]):=upd_same
 generalize upd H a (.ins Ve dx (putF "name" (.str nm) []))=H2 at ga ka
 have zl:(ps.map V.ref).length=fs.length:=by rw [List.length_map];exact hP.len
 have turn:∀ (j:Nat) (x:V) (ys:List V) (H':Hp) (Pv:Nat->List V->Hp->Prop),Pv=(fun j ys H'=>Same H2 H'/\∃ tt:List Addr,ys=tt.map V.ref/\tt.length=j/\FO (Cl5.mk Va Vb Vc Vd Ve) K H' sa tt (fs.take j))->(ps.map V.ref)[j]?=some x->Pv j ys H'->∃ t nm kk,x=.ref t/\SqT K H' t [.str nm,.ref kk]/\∀ u,H' u=none->Pv (j + 1) (ys++[.ref u]) (upd H' u (.tup [.str nm,.ref kk])):=by
  intro j x ys H' Pv eP hx z
  subst eP
  obtain⟨g2,tt,rfl,htl,hF⟩:=z
  obtain⟨t,ht,rfl⟩:=get_refs hx
  obtain⟨nm',kd,kk,hfs,hq,hko⟩:=hP.get ht
  refine⟨t,nm',kk,rfl,g2.tp (ga.tp hq),fun u hu=>?_⟩
  generalize e3:upd H' u _=H3
  obtain⟨g3,k3⟩:=new_facts e3 hu
  refine⟨g2.trans g3,tt++[u],by rw [List.map_append];rfl,by rw [List.length_append,htl];rfl,?_⟩
  have:=(hF.same g3).snoc (SqT.of k3) (hko.same ((ga.trans g2).trans g3))
  rw [List.take_add_one,hfs]
  exact this
 have fin:∀ (ys:List V) (H':Hp),(Same H2 H'/\∃ tt:List Addr,ys=tt.map V.ref/\tt.length=(ps.map V.ref).length/\FO (Cl5.mk Va Vb Vc Vd Ve) K H' sa tt (fs.take (ps.map V.ref).length))->∀ p,H' p=none->∀ t,upd H' p (.lst ys) t=none->Q .non (upd (upd (upd H' p (.lst ys)) t (.tup ys)) a (.ins Ve dx [("name",.str nm),("fields",.ref t)])):=by
  intro ys H' z p hp t ht
  obtain⟨g2,tt,rfl,htl,hF⟩:=z
  generalize e3:upd H' p _=H3 at ht
  obtain⟨g3,k3⟩:=new_facts e3 hp
  generalize e4:upd H3 t _=H4
  obtain⟨g4,k4⟩:=new_facts e4 ht
  have ka4:H4 a=_:=(g2.trans g3 |>.trans g4) _ _ ka
  rw [zl,take_len] at hF
  have G:Same H1 (upd H4 a (.ins Ve dx [("name",.str nm),("fields",.ref t)])):=(((ga.trans g2).trans g3).trans g4).putn h0
  have nta:t ≠ a:=Ne.symm (ne_of_none ((g2.trans g3) _ _ ka) ht)
  refine q t tt _ G upd_same (SqT.of (by rw [upd_ne nta];exact k4)) ?_
  exact FO.insD (hF.same (g3.trans g4)) ka4
 have st:Same H2 H2/\∃ tt:List Addr,([]:List V)=tt.map V.ref/\tt.length=0/\FO (Cl5.mk Va Vb Vc Vd Ve) K H2 sa tt (fs.take 0):=⟨Same.refl _,[],rfl,rfl,by rw [List.take_zero];exact .nil⟩
 have lst:∀ (H':Hp) (p t:Addr) (ys:List V),(Same H2 H'/\∃ tt:List Addr,ys=tt.map V.ref/\tt.length=(ps.map V.ref).length/\FO (Cl5.mk Va Vb Vc Vd Ve) K H' sa tt (fs.take (ps.map V.ref).length))->H' p=none->upd H' p (.lst ys) t=none->upd (upd H' p (.lst ys)) t (.tup ys) a=some (.ins Ve dx [("name",.str nm)]):=fun H' p t ys z hp ht=>(same_new ht _) _ _ ((same_new hp _) _ _ (z.1 _ _ ka))
 refine⟨_,rfl,fl,rfl,?_⟩
 rcases hl with hl|hl
 ·refine .inl ⟨⟨_,ga.seq hl⟩,comp_listM (xs:=ps.map V.ref) (fun j ys H'=>Same H2 H'/\∃ tt:List Addr,ys=tt.map V.ref/\tt.length=j/\FO (Cl5.mk Va Vb Vc Vd Ve) K H' sa tt (fs.take j)) st (fun j ys H' _ z=>⟨z.1.seq (ga.seq hl),by obtain⟨_,tt,rfl,hl,_⟩:=z;rw [List.length_map];omega⟩) (small1000 (by omega)) (fun j x ys H' os ho hx z=>?_) (fun ys H' z p hp=>⟨p,ys,rfl,.inl ⟨SqL.of upd_same,fun t ht=>⟨_,rfl,a,Ve,dx,_,rfl,lst H' p t ys z hp ht,Ue.cl,Ue.na _ (by decide),(by show 1 < 1000;decide),fin ys H' z p hp t ht⟩⟩⟩)⟩
  obtain⟨o1,o2,rfl⟩:=len2 ho
  obtain⟨t,nm',kk,rfl,hq,nxt⟩:=turn j x ys H' _ rfl hx z
  exact⟨t,_,rfl,hq,rfl,_,_,rfl,_,_,rfl,rfl,_,rfl,_,rfl,szL2,fun u hu=>⟨nxt u hu,[_,_],rfl,rfl⟩⟩
 ·refine .inr ⟨⟨_,ga.tp hl⟩,comp_tupM (xs:=ps.map V.ref) (fun j ys H'=>Same H2 H'/\∃ tt:List Addr,ys=tt.map V.ref/\tt.length=j/\FO (Cl5.mk Va Vb Vc Vd Ve) K H' sa tt (fs.take j)) st (fun j ys H' _ z=>⟨z.1.tp (ga.tp hl),by obtain⟨_,tt,rfl,hl,_⟩:=z;rw [List.length_map];omega⟩) (small1000 (by omega)) (fun j x ys H' os ho hx z=>?_) (fun ys H' z p hp=>⟨p,ys,rfl,.inl ⟨SqL.of upd_same,fun t ht=>⟨_,rfl,a,Ve,dx,_,rfl,lst H' p t ys z hp ht,Ue.cl,Ue.na _ (by decide),(by show 1 < 1000;decide),fin ys H' z p hp t ht⟩⟩⟩)⟩
  obtain⟨o1,o2,rfl⟩:=len2 ho
  obtain⟨t,nm',kk,rfl,hq,nxt⟩:=turn j x ys H' _ rfl hx z
  exact⟨t,_,rfl,hq,rfl,_,_,rfl,_,_,rfl,rfl,_,rfl,_,rfl,szL2,fun u hu=>⟨nxt u hu,[_,_],rfl,rfl⟩⟩
theorem ok_is_single {k:Nat} (F:Fun K "is_single" "is_single" s_is_single f fd) {f_number_in:Addr} {fd_number_in:FuncData} (D_number_in:Df K mg "number_in" f_number_in fd_number_in ["text","low","high"]) (G_number_in:FnOk P w K mg base CX0 k f_number_in fd_number_in ["text","low","high"] (spNumberIn K)) {f_is_name:Addr} {fd_is_name:FuncData} (D_is_name:Df K mg "is_name" f_is_name fd_is_name ["thing"]) (G_is_name:FnOk P w K mg base CX0 k f_is_name fd_is_name ["thing"] (spIsName K)):FnOk P w K mg base CX0 (k + 2) f fd ["words"] (spSg K):=by
 w_cond sc_is_single
 ·obtain⟨a,ws,rfl,_⟩:=h;rfl
 obtain⟨a,ws,rfl,hl,hs,q⟩:=h
 walk_at "hr"
 refine⟨_,(pss_cons (ps_if (pt_cmpR op_eq (pe_ix ix_list (pv 0) pe_int (fun _ _=>rfl)) pe_str (nomark _)) (pss_one (ps_ret (pe_and (pe_cmpR op_eq (pe_callB call_len_seq rfl M.len PySem.boot_len (pa_cons (pv 0) pa_nil)) pe_int (nomark _)) (pe_one (pe_cmpR op_notN (pe_call G_number_in hr rfl D_number_in.m D_number_in.k D_number_in.b .nil pass0 (pa_cons (pe_ix ix_list (pv 0) pe_int (fun _ _=>rfl)) (pa_cons pe_int (pa_cons (pe_glob (v:=.int 4) rfl C.MOST_WIDTH ⟨_,rfl⟩) pa_nil)))) pe_non (nomark _)))))) pss_nil)
   (pss_one (ps_ret (pe_and (pe_cmpR op_eq (pe_callB call_len_seq rfl M.len PySem.boot_len (pa_cons (pv 0) pa_nil)) pe_int (nomark _)) (pe_one (pe_call G_is_name hr rfl D_is_name.m D_is_name.k D_is_name.b .nil pass0 (pa_cons (pe_ix ix_list (pv 0) pe_int (fun _ _=>rfl)) pa_nil))))))),?_⟩
 rcases hs with⟨w,w1,w4,rfl⟩|⟨x,hx,rfl⟩
 ·obtain⟨d1,d2,d3,_⟩:=dig (w:=w) (by omega)
  refine⟨_,rfl,a,_,_,_,rfl,rfl,hl,rfl,rfl,_,rfl,iteP (by decide) ⟨_,rfl,a,_,rfl,.inl hl,rfl,_,rfl,iteP (by simp) ⟨_,rfl,a,_,_,_,rfl,rfl,hl,rfl,.str _,1,4,rfl,.inl ⟨_,rfl,by omega,fun H1 g1=>⟨rfl,?_⟩⟩⟩⟩⟩
  rw [d1,show boundV (some (w:Int)) 1 4=some (w:Int) from if_pos ⟨by omega,by omega⟩]
  exact q H1 g1
 ·have hne:=name_ne hx (y:="num") (by decide)
  refine⟨_,rfl,a,_,_,_,rfl,rfl,hl,rfl,rfl,_,rfl,iteN (by simpa using hne) ⟨_,rfl,a,_,rfl,.inl hl,rfl,_,rfl,iteP (by simp) ⟨_,rfl,a,_,_,_,rfl,rfl,hl,rfl,.str x,rfl,.inl ⟨x,rfl,by have:=(name_len hx).2;omega,fun H1 g1=>?_⟩⟩⟩⟩
  rw [hx]
  exact q H1 g1
theorem ok_is_kind {k:Nat} (F:Fun K "is_kind" "is_kind" s_is_kind f fd) {f_number_in:Addr} {fd_number_in:FuncData} (D_number_in:Df K mg "number_in" f_number_in fd_number_in ["text","low","high"]) (G_number_in:FnOk P w K mg base CX0 k f_number_in fd_number_in ["text","low","high"] (spNumberIn K)) {f_is_single:Addr} {fd_is_single:FuncData} (D_is_single:Df K mg "is_single" f_is_single fd_is_single ["words"]) (G_is_single:FnOk P w K mg base CX0 k f_is_single fd_is_single ["words"] (spSg K)) {f_is_name:Addr} {fd_is_name:FuncData} (D_is_name:Df K mg "is_name" f_is_name fd_is_name ["thing"]) (G_is_name:FnOk P w K mg base CX0 k f_is_name fd_is_name ["thing"] (spIsName K)):FnOk P w K mg base CX0 (k + 2) f fd ["words"] (spKd K):=by
 w_cond sc_is_kind
 ·obtain⟨a,nm,n,kd,rfl,_⟩:=h;rfl
 obtain⟨a,nm,n,kd,rfl,hl,hf,hn,q⟩:=h
 walk_at "hr"
 refine⟨_,(pss_cons (ps_if (pt_cmpR op_eq (pe_ix ix_list (pv 0) pe_int (fun _ _=>rfl)) pe_str (nomark _)) (pss_one (ps_ret (pe_and (pe_cmpR op_gt (pe_callB call_len_seq rfl M.len PySem.boot_len (pa_cons (pv 0) pa_nil)) pe_int (nomark _)) (pe_and (pe_cmpR op_notN (pe_call G_number_in hr rfl D_number_in.m D_number_in.k D_number_in.b .nil pass0 (pa_cons (pe_ix ix_list (pv 0) pe_int (fun _ _=>rfl)) (pa_cons pe_int (pa_cons (pe_glob (v:=.int 6) rfl C.MOST_COUNT ⟨_,rfl⟩) pa_nil)))) pe_non (nomark _)) (pe_one (pe_call G_is_single hr rfl D_is_single.m D_is_single.k D_is_single.b .nil pass0 (pa_cons (pe_slice sl_list (pv 0) (po_some pe_int) po_none) pa_nil))))))) pss_nil)
   (pss_cons (ps_if (pt_cmpR op_eq (pe_ix ix_list (pv 0) pe_int (fun _ _=>rfl)) pe_str (nomark _)) (pss_one (ps_ret (pe_and (pe_chain op_le op_le (pe_glob (v:=.int 2) rfl C.LEAST_PICKED ⟨_,rfl⟩) (pe_op op_sub (pe_callB call_len_seq rfl M.len PySem.boot_len (pa_cons (pv 0) pa_nil)) pe_int) (pe_glob (v:=.int 4) rfl C.MOST_PICKED ⟨_,rfl⟩)) (pe_one (pe_callB (call_all rfl) rfl M.all boot_all (pa_cons (pe_comp ["word"] [] [] rfl (pi_list (pe_slice sl_list (pv 0) (po_some pe_int) po_none)) rfl trivial trivial (fun _ _ _ _=>(pg_name (i:=0) (show List.Nodup (["word"]:List Str) from by decide +kernel) rfl (Or.inl rfl))) (fun _ _ _ _=>pif_nil) (fun _ _ _ _=>(pe_call G_is_name hr rfl D_is_name.m D_is_name.k D_is_name.b .nil pass0 (pa_cons (pv 0) pa_nil)))) pa_nil)))))) pss_nil)
   (pss_one (ps_ret (pe_call G_is_single hr rfl D_is_single.m D_is_single.k D_is_single.b .nil pass0 (pa_cons (pv 0) pa_nil)))))),?_⟩
 cases kd with
 | num w=>exact⟨_,rfl,a,_,_,_,rfl,rfl,hl,rfl,rfl,_,rfl,iteN (by decide) ⟨_,rfl,a,_,_,_,rfl,rfl,hl,rfl,rfl,_,rfl,iteN (by decide) ⟨_,rfl,a,_,rfl,hl,.inl ⟨w,hf.1,hf.2,rfl⟩,q⟩⟩⟩
 | nest i =>
  have hx:=hn i hf
  have h1:=name_ne hx (y:="row") (by decide)
  have h2:=name_ne hx (y:="pick") (by decide)
  exact⟨_,rfl,a,_,_,_,rfl,rfl,hl,rfl,rfl,_,rfl,iteN (by simpa using h1) ⟨_,rfl,a,_,_,_,rfl,rfl,hl,rfl,rfl,_,rfl,iteN (by simpa using h2) ⟨_,rfl,a,_,rfl,hl,.inr ⟨_,hx,rfl⟩,q⟩⟩⟩
 | many m k =>
  have hm:=hf.2.1
  have hm1:=hf.1
  obtain⟨d1,d2,d3,_⟩:=dig (w:=m) (by omega)
  have hne:=Kd.words_ne nm k
  have h0 : 0 < (k.words nm).length:=List.length_pos_iff.mpr hne
  have hl':SqL K H a (V.str (Str.ofString "row")::V.str (Str.ofString (toString (m:Int)))::(k.words nm).map V.str):=hl
  refine⟨_,rfl,a,_,_,_,rfl,rfl,hl',at0,rfl,_,rfl,iteP (by decide) ⟨_,rfl,a,_,rfl,.inl hl',_,_,rfl,rfl,_,rfl,iteP (by simp;omega) ⟨_,rfl,a,_,_,_,rfl,rfl,hl',at1,.str _,1,6,rfl,.inl ⟨_,rfl,by omega,fun H1 g1=>⟨rfl,_,rfl,?_⟩⟩⟩⟩⟩
  rw [d1,show boundV (some (m:Int)) 1 6=some (m:Int) from if_pos ⟨by omega,by omega⟩]
  refine iteP (by rfl) ⟨_,rfl,_,rfl,a,_,rfl,g1.seq hl,fun p hp=>?_⟩
  rw [show cutV ((Kd.words nm (.many m k)).map V.str) (some 2) none=(k.words nm).map V.str from cutA2 _ _ _]
  generalize e2:upd H1 p _=H2
  obtain⟨g2,k2⟩:=new_facts e2 hp
  refine⟨p,k.words nm,rfl,SqL.of k2,?_,fun H3 g3=>q H3 ((g1.trans g2).trans g3)⟩
  rcases hf.2.2 with⟨w,rfl,hw⟩|⟨i,rfl,hi⟩
  ·exact .inl ⟨w,hw.1,hw.2,rfl⟩
  ·exact .inr ⟨_,hn i hi,rfl⟩
 | pick is =>
  have h1:=hf.1
  have h2:=hf.2.1
  have hl':SqL K H a (V.str (Str.ofString "pick")::(is.map nm).map V.str):=hl
  have zl:((is.map nm).map V.str).length=is.length:=by rw [List.length_map,List.length_map]
  refine⟨_,rfl,a,_,_,_,rfl,rfl,hl',at0,rfl,_,rfl,iteN (by decide) ⟨_,rfl,a,_,_,_,rfl,rfl,hl',at0,rfl,_,rfl,iteP (by decide) ⟨_,rfl,a,_,rfl,.inl hl',_,_,rfl,rfl,_,_,rfl,rfl,_,rfl,iteP (by simp;omega) ⟨_,_,rfl,rfl,_,rfl,iteP (by simp;omega) ⟨_,rfl,_,rfl,a,_,rfl,hl',fun p hp=>?_⟩⟩⟩⟩⟩
  rw [cutA1]
  generalize e2:upd H p _=H2
  obtain⟨g2,k2⟩:=new_facts e2 hp
  refine⟨p,rfl,⟨_,SqL.of k2⟩,comp_list (xs:=(is.map nm).map V.str) (fun j ys H'=>Same H2 H'/\ys=((is.take j).map fun _=>true).map V.bl) ⟨Same.refl _,rfl⟩ (fun j ys H' _ z=>⟨z.1.seq (SqL.of k2),by rw [z.2,List.length_map,List.length_map,List.length_take];exact Nat.min_le_left _ _⟩) (small1000 (by omega)) (fun j x ys H' hx z=>?_) (fun ys H' z p hp=>?_)⟩
  ·obtain⟨g,rfl⟩:=z
   obtain⟨y,hy,rfl⟩:=get_strs hx
   rw [List.getElem?_map] at hy
   cases e:is[j]? with
   | none=>rw [e] at hy;cases hy
   | some i =>
    rw [e] at hy
    cases hy
    have hx:=hn i (hf.2.2.2 i (List.mem_of_getElem? e))
    refine⟨_,rfl,.str (nm i),rfl,.inl ⟨_,rfl,by have:=(name_len hx).2;omega,fun H3 g3=>⟨⟨g.trans g3,?_⟩,_,rfl⟩⟩⟩
    rw [map_snoc e,hx,List.map_append];rfl
  ·obtain⟨g,rfl⟩:=z
   have g3:=same_new hp (.lst (((is.take ((is.map nm).map V.str).length).map fun _=>true).map V.bl))
   refine⟨p,_,rfl,SqL.of upd_same,?_⟩
   rw [show ((is.take ((is.map nm).map V.str).length).map fun _=>true).all id=true from List.all_eq_true.mpr fun b hb=>by obtain⟨_,_,rfl⟩:=List.mem_map.mp hb;rfl]
   exact q _ ((g2.trans g).trans g3)
theorem ok_is_field_line {k:Nat} (F:Fun K "is_field_line" "is_field_line" s_is_field_line f fd) {f_is_name:Addr} {fd_is_name:FuncData} (D_is_name:Df K mg "is_name" f_is_name fd_is_name ["thing"]) (G_is_name:FnOk P w K mg base CX0 k f_is_name fd_is_name ["thing"] (spIsName K)) {f_is_kind:Addr} {fd_is_kind:FuncData} (D_is_kind:Df K mg "is_kind" f_is_kind fd_is_kind ["words"]) (G_is_kind:FnOk P w K mg base CX0 k f_is_kind fd_is_kind ["words"] (spKd K)):FnOk P w K mg base CX0 (k + 2) f fd ["words"] (spFl K):=by
 w_cond sc_is_field_line
 ·obtain⟨a,nm,n,kd,f,rfl,_⟩:=h;rfl
 obtain⟨a,nm,n,kd,fn,rfl,hl,hfn,hf,hn,q⟩:=h
 walk_at "hr"
 refine⟨_,(pss_one (ps_ret (pe_and (pe_cmpR op_gt (pe_callB call_len_seq rfl M.len PySem.boot_len (pa_cons (pv 0) pa_nil)) pe_int (nomark _)) (pe_and (pe_call G_is_name hr rfl D_is_name.m D_is_name.k D_is_name.b .nil pass0 (pa_cons (pe_ix ix_list (pv 0) pe_int (fun _ _=>rfl)) pa_nil)) (pe_one (pe_call G_is_kind hr rfl D_is_kind.m D_is_kind.k D_is_kind.b .nil pass0 (pa_cons (pe_slice sl_list (pv 0) (po_some pe_int) po_none) pa_nil))))))),?_⟩
 have h0 : 0 < (kd.words nm).length:=List.length_pos_iff.mpr (Kd.words_ne nm kd)
 refine⟨_,rfl,a,_,rfl,.inl hl,_,_,rfl,rfl,_,rfl,iteP (by simp;omega) ⟨_,rfl,a,_,_,_,rfl,rfl,hl,at0,.str fn,rfl,.inl ⟨fn,rfl,by have:=(name_len hfn).2;omega,fun H1 g1=>⟨_,rfl,iteP hfn ⟨_,rfl,_,rfl,a,_,rfl,g1.seq hl,fun p hp=>?_⟩⟩⟩⟩⟩
 rw [show cutV ((fn::kd.words nm).map V.str) (some 1) none=(kd.words nm).map V.str from cutA1 _ _]
 generalize e2:upd H1 p _=H2
 obtain⟨g2,k2⟩:=new_facts e2 hp
 exact⟨p,nm,n,kd,rfl,SqL.of k2,hf,hn,fun H3 g3=>q H3 ((g1.trans g2).trans g3)⟩
theorem ok_shapes_named {k:Nat} (F:Fun K "shapes_named" "shapes_named" s_shapes_named f fd) {f_is_name:Addr} {fd_is_name:FuncData} (D_is_name:Df K mg "is_name" f_is_name fd_is_name ["thing"]) (G_is_name:FnOk P w K mg base CX0 k f_is_name fd_is_name ["thing"] (spIsName K)):FnOk P w K mg base CX0 (k + 2) f fd ["words"] (spNamed K):=by
 w_cond sc_shapes_named
 ·obtain⟨a,nm,n,kd,f,rfl,_⟩:=h;rfl
 obtain⟨a,nm,n,kd,fn,rfl,hl,hf,hn,q⟩:=h
 walk_at "hr"
 refine⟨_,(pss_one (ps_ret (pe_comp ["word"] [] [] rfl (pi_list (pe_slice sl_list (pv 0) (po_some pe_int) po_none)) rfl trivial trivial (fun _ _ _ _=>(pg_name (i:=0) (show List.Nodup (["word"]:List Str) from by decide +kernel) rfl (Or.inl rfl))) (fun _ _ _ _=>(pif_one (pt_val (pe_call G_is_name hr rfl D_is_name.m D_is_name.k D_is_name.b .nil pass0 (pa_cons (pv 0) pa_nil))))) (fun _ _ _ _=>(pv 0))))),?_⟩
 obtain⟨w6,w5⟩:=words_len hn hf
 refine⟨_,rfl,_,rfl,a,_,rfl,hl,fun p hp=>?_⟩
 rw [show cutV ((fn::kd.words nm).map V.str) (some 1) none=(kd.words nm).map V.str from cutA1 _ _]
 generalize e2:upd H p _=H2
 obtain⟨g2,k2⟩:=new_facts e2 hp
 refine⟨p,rfl,⟨_,SqL.of k2⟩,comp_list (xs:=(kd.words nm).map V.str) (fun j ys H'=>Same H2 H'/\ys=(((kd.words nm).take j).filter nameB).map V.str) ⟨Same.refl _,rfl⟩ (fun j ys H' hj z=>⟨z.1.seq (SqL.of k2),?_⟩) (small1000 (by rw [List.length_map];omega)) (fun j x ys H' hx z=>?_) (fun ys H' z l hl=>?_)⟩
 ·rw [z.2,List.length_map]
  refine Nat.le_trans (List.length_filter_le ..) ?_
  rw [List.length_take];exact Nat.min_le_left _ _
 ·obtain⟨g,rfl⟩:=z
  obtain⟨y,hy,rfl⟩:=get_strs hx
  have hy6:=w6 y (List.mem_of_getElem? hy)
  refine⟨_,rfl,.str y,rfl,.inl ⟨_,rfl,by omega,fun H3 g3=>⟨_,rfl,ite2 (fun c=>⟨_,rfl,⟨g.trans g3,?_⟩,_,rfl⟩) (fun c=>⟨⟨g.trans g3,?_⟩,_,rfl⟩)⟩⟩⟩
  ·rw [filt_snoc hy,if_pos c,List.map_append];rfl
  ·rw [filt_snoc hy,if_neg c,List.append_nil]
 ·obtain⟨g,rfl⟩:=z
  generalize e3:upd H' l _=H3
  obtain⟨g3,k3⟩:=new_facts e3 hl
  rw [List.length_map,take_len,named_filter hn hf] at k3
  exact q l H3 ((g2.trans g).trans g3) ((g2.trans g).free hl) k3
theorem ok_law_joined {k:Nat} (F:Fun K "_law_joined" "_law_joined" s_law_joined f fd):FnOk P w K mg base CX0 (k + 2) f fd ["_law_path","_law_step"] spLJ:=by
 w_cond sc_law_joined
 ·obtain⟨p,y,rfl,_⟩:=h;rfl
 obtain⟨p,y,rfl,hp,hy,hy1,q⟩:=h
 walk_at "hr"
 refine⟨_,(pss_one (ps_ret (pe_op op_add_str (pe_op op_add_str (pv 0) (pe_op op_repB pe_str (pe_callTy call_int_bl rfl M.int boot_int (pa_cons (pe_and (pe_cmpR op_ne (pv 0) pe_str (nomark _)) (pe_one (pe_cmpR op_ne (pv 1) pe_str (nomark _)))) pa_nil)))) (pv 1)))),?_⟩
 have hye:¬ y=Str.ofString "":=fun z=>by rw [z] at hy1;exact absurd hy1 (by decide)
 have hd:(Str.ofString ".").length=1:=rfl
 refine⟨_,rfl,_,rfl,rfl,_,rfl,ite2 (fun c=>?_) (fun c=>?_)⟩
 ·have hpe:¬ p.length=0:=fun z=>by
   have e:p=Str.ofString "":=Str.ext' (by rw [show p.cps = #[] from Array.eq_empty_of_size_eq_zero z];rfl)
   rw [e] at c;exact absurd c (by decide)
  refine⟨_,rfl,rfl,_,rfl,_,_,rfl,rfl,?_⟩
  rw [show (!decide (V.str y=V.str (Str.ofString "")))=true by simpa using hye]
  refine⟨.inr rfl,by decide,_,_,rfl,rfl,(by rw [sizeLine_eq,if_pos rfl,if_pos rfl,hd];omega),_,rfl,_,_,rfl,rfl,(by rw [sizeLine_eq,if_pos rfl,if_pos rfl,strLen_append,hd];omega),?_⟩
  rw [if_pos rfl,if_pos rfl]
  unfold pj at q
  rw [if_neg hpe] at q
  exact q
 ·have hp0:p=Str.ofString "":=by simpa using c
  subst hp0
  refine⟨_,rfl,_,_,rfl,rfl,.inl rfl,by decide,_,_,rfl,rfl,(by decide),_,rfl,_,_,rfl,rfl,(by rw [sizeLine_eq,strLen_append];simp only [Bool.false_eq_true,if_false];rw [if_neg (by decide)];show 0 + 0 + y.length<=_;omega),?_⟩
  unfold pj at q
  rw [if_pos (by decide)] at q
  simp only [Bool.false_eq_true,if_false]
  rw [if_neg (by decide),show Str.ofString "" = Str.empty from rfl,emp_app,emp_app]
  exact q
theorem ok_need_new_shape {k:Nat} (F:Fun K "need_new_shape" "need_new_shape" s_need_new_shape f fd):FnOk P w K mg base CX0 (k + 2) f fd ["told","line","name"] (spNew (Cl5.mk Va Vb Vc Vd Ve) K):=by
 w_cond sc_need_new_shape
 ·obtain⟨tl,x,nm,sa,T,rfl,_⟩:=h;rfl
 obtain⟨tl,x,nm,sa,T,rfl,hl,hw,hne,hnm,hlen,q⟩:=h
 walk_at "hr"
 refine⟨_,(pss_cons (ps_if (PW.pt (pw_and (pt_truth (pv 0) (fun _=>rfl)) (pw_and1 (pt_not (pt_truth (pe_fld (pe_ix ix_list (pv 0) (pe_un un_neg pe_int) (fun _ _=>rfl)) rfl) (fun _=>rfl)))))) (pss_one ps_never) pss_nil)
   (pss_cons (ps_if (pt_cmpR op_in_seq (pv 2) (pe_comp ["shape"] [] [] rfl (pi_list (pv 0)) rfl trivial trivial (fun _ _ _ _=>(pg_name (i:=0) (show List.Nodup (["shape"]:List Str) from by decide +kernel) rfl (Or.inl rfl))) (fun _ _ _ _=>pif_nil) (fun _ _ _ _=>(pe_fldK (K:=K) rfl (pv 0) rfl))) (by with_unfolding_all rfl)) (pss_one ps_never) pss_nil)
   (pss_one (ps_if (pt_cmpR op_eq (pe_callB call_len_seq rfl M.len PySem.boot_len (pa_cons (pv 0) pa_nil)) (pe_glob (v:=.int 8) rfl C.MOST_SHAPES ⟨_,rfl⟩) (nomark _)) (pss_one ps_never) pss_nil)))),?_⟩
 have zl:(sa.map V.ref).length=T.length:=by rw [List.length_map];exact hw.1
 refine joinQ (fun σ' H'=>σ'=[some (.ref tl),some x,some (.str nm)]/\H'=H) (fun σ' H' z=>?_) (fun nx hnx=>?_)
 ·obtain⟨rfl,rfl⟩:=z
  refine⟨_,rfl,_,rfl,tl,rfl,⟨_,SqL.of hl⟩,comp_list (xs:=sa.map V.ref) (fun j ys H2=>H2=H'/\ys=((T.take j).map (·.1)).map V.str) ⟨rfl,rfl⟩ (fun j ys H2 _ z=>⟨by rw [z.1];exact SqL.of hl,by rw [z.2,List.length_map,List.length_map,List.length_take];exact Nat.min_le_left _ _⟩) (small1000 (by omega)) (fun j x ys H2 hx z=>?_) (fun ys H2 z p hp=>?_)⟩
  ·obtain⟨rfl,rfl⟩:=z
   obtain⟨s,hs,rfl⟩:=get_refs hx
   obtain⟨sh,hS,dx,t,ps,k1,_⟩:=hw.at hs
   refine⟨_,rfl,s,Ve,_,_,_,rfl,k1,Ue.cl,Ue.na _ (by decide),rfl,⟨rfl,?_⟩,_,rfl⟩
   rw [map_snoc hS,List.map_append];rfl
  ·obtain⟨rfl,rfl⟩:=z
   generalize e3:upd H2 p _=H3
   obtain⟨g3,k3⟩:=new_facts e3 hp
   refine⟨p,_,rfl,.inl (SqL.of k3),rfl,flat_strs _,_,rfl,?_⟩
   rw [if_neg (by decide),inV_strs,zl,take_len]
   refine iteN (by rw [decide_eq_false hnm];decide) ⟨_,rfl,tl,_,rfl,.inl (SqL.of (g3 _ _ hl)),rfl,_,rfl,iteN (by rw [zl];simp;omega) (q H3 g3)⟩
 ·rcases List.eq_nil_or_concat sa with rfl|⟨sa0,z,rfl⟩
  ·exact⟨_,rfl,false,.inl ⟨_,SqL.of hl,rfl⟩,iteN (by decide) (iteN (by decide) (hnx _ _ ⟨rfl,rfl⟩))⟩
  ·rw [List.concat_eq_append] at *
   obtain⟨s,hS,so⟩:=hw.at (i:=sa0.length) (a:=z) (by rw [List.getElem?_append_right (Nat.le_refl _),Nat.sub_self];rfl)
   obtain⟨dx,t,ps,k1,k2,k3⟩:=so
   have hp:ps ≠ []:=fun e=>hne s (List.mem_of_getElem? hS) (List.length_eq_zero_iff.mp (by rw [← k3.len,e];rfl))
   exact⟨_,rfl,true,.inl ⟨_,SqL.of hl,by simp⟩,iteP rfl ⟨_,rfl,_,rfl,tl,_,_,_,rfl,rfl,SqL.of hl,atI_lastR _ _,z,Ve,_,_,_,rfl,k1,Ue.cl,Ue.na _ (by decide),rfl,true,.inr (.inl ⟨_,k2,by cases ps with|nil=>exact absurd rfl hp|cons _ _=>rfl⟩),iteN (by decide) (hnx _ _ ⟨rfl,rfl⟩)⟩⟩
theorem ok_whole_shapes {k:Nat} (F:Fun K "whole_shapes" "whole_shapes" s_whole_shapes f fd):FnOk P w K mg base CX0 (k + 2) f fd ["told"] (spWh (Cl5.mk Va Vb Vc Vd Ve) K):=by
 w_cond sc_whole_shapes
 ·obtain⟨tl,z,sa,T,s,rfl,_⟩:=h;rfl
 obtain⟨tl,z,sa,T,s,rfl,hl,hw,hnd,hlen,q⟩:=h
 walk_at "hr"
 refine⟨_,(pss_one (ps_ret (pe_dcomp ["shape"] [] [] rfl (pi_list (pe_slice sl_list (pv 0) po_none (po_some (pe_un un_neg pe_int)))) rfl trivial trivial (fun _ _ _ _=>(pg_name (i:=0) (show List.Nodup (["shape"]:List Str) from by decide +kernel) rfl (Or.inl rfl))) (fun _ _ _ _=>pif_nil) (fun _ _ _ _=>(pe_fldK (K:=K) rfl (pv 0) rfl)) (fun _ _ _ _=>(pv 0))))),?_⟩
 obtain⟨hw0,_⟩:=hw.init
 have zl:(sa.map V.ref).length=T.length:=by rw [List.length_map];exact hw0.1
 refine⟨_,rfl,_,rfl,_,rfl,tl,_,rfl,SqL.of hl,fun p hp=>?_⟩
 rw [cutC]
 generalize e2:upd H p _=H2
 obtain⟨g2,k2⟩:=new_facts e2 hp
 refine⟨p,rfl,⟨_,SqL.of k2⟩,dcomp_list (xs:=sa.map V.ref) (fun D j ys H'=>Same H2 H'/\H2 D=none/\H' D=some (.dK ys)/\ys=dk (T.take j) (sa.take j)) (fun D hD=>⟨(Same.refl H2).putn hD,hD,upd_same,rfl⟩) (fun D j ys H' _ z=>z.1.seq (SqL.of k2)) (fun D j x ys H' hx z=>?_) (fun D ys H' z=>?_)⟩
 ·obtain⟨g,hD,kD,rfl⟩:=z
  obtain⟨a,ha,rfl⟩:=get_refs hx
  obtain⟨sh,hS,dx,t,ps,k1,_⟩:=hw0.at ha
  have hj:=(List.getElem?_eq_some_iff.mp hS).1
  have hnk:∀ x ∈ dk (T.take j) (sa.take j),x.1 ≠ (.inr sh.1:Key):=fun x hx e=>by
   obtain⟨u,hu,eu⟩:=dk_keys x hx
   obtain⟨i,hi⟩:=List.mem_iff_getElem?.mp hu
   have hij:i < j:=by have:=(List.getElem?_eq_some_iff.mp hi).1;rw [List.length_take] at this;omega
   rw [List.getElem?_take_of_lt hij] at hi
   have e2:nmOf T i=nmOf T j:=by rw [nmOf_get hi,nmOf_get hS];exact Sum.inr.inj (eu.symm.trans e)
   have:=nm_inj hnd (List.getElem?_eq_some_iff.mp hi).1 hj e2
   omega
  refine⟨_,rfl,a,Ve,_,_,_,rfl,g _ _ (g2 _ _ k1),Ue.cl,Ue.na _ (by decide),rfl,_,rfl,.inr sh.1,rfl,kD,?_,?_⟩
  ·have:(dk (T.take j) (sa.take j)).length<=100:=by unfold dk;rw [List.length_zipWith,List.length_take];omega
   exact Nat.lt_of_le_of_lt this (by decide)
  ·rw [putK_newK hnk]
   exact⟨⟨g.putn hD,hD,upd_same,(dk_snoc hS ha).symm⟩,_,rfl⟩
 ·obtain⟨g,hD,kD,rfl⟩:=z
  rw [zl,take_len,← hw0.1,take_len] at kD
  exact q D H' (g2.trans g) (g2.free hD) kD
theorem ok_need_field {k:Nat} (F:Fun K "need_field" "need_field" s_need_field f fd) {f_is_field_line:Addr} {fd_is_field_line:FuncData} (D_is_field_line:Df K mg "is_field_line" f_is_field_line fd_is_field_line ["words"]) (G_is_field_line:FnOk P w K mg base CX0 k f_is_field_line fd_is_field_line ["words"] (spFl K)) {f_shapes_named:Addr} {fd_shapes_named:FuncData} (D_shapes_named:Df K mg "shapes_named" f_shapes_named fd_shapes_named ["words"]) (G_shapes_named:FnOk P w K mg base CX0 k f_shapes_named fd_shapes_named ["words"] (spNamed K)) {f_whole_shapes:Addr} {fd_whole_shapes:FuncData} (D_whole_shapes:Df K mg "whole_shapes" f_whole_shapes fd_whole_shapes ["told"]) (G_whole_shapes:FnOk P w K mg base CX0 k f_whole_shapes fd_whole_shapes ["told"] (spWh (Cl5.mk Va Vb Vc Vd Ve) K)):FnOk P w K mg base CX0 (k + 2) f fd ["told","line","words"] (spNF (Cl5.mk Va Vb Vc Vd Ve) K):=by
 w_cond sc_need_field
 ·obtain⟨tl,a,z,x,sa,T,s,fn,kd,rfl,_⟩:=h;rfl
 obtain⟨tl,a,z,x,sa,T,s,fn,kd,rfl,hl,hw,hws,hfn,hnew,hs100,hf,hn,hnd,hlen,q⟩:=h
 walk_at "hr"
 refine⟨_,(pss_cons (ps_if (PW.pt (pw_or (pt_not (pt_truth (pv 0) (fun _=>rfl))) (pw_or1 (pt_not (pt_val (pe_call G_is_field_line hr rfl D_is_field_line.m D_is_field_line.k D_is_field_line.b .nil pass0 (pa_cons (pv 2) pa_nil))))))) (pss_one ps_never) pss_nil)
   (pss_cons (ps_if (pt_cmpR op_in_seq (pe_ix ix_list (pv 2) pe_int (fun _ _=>rfl)) (pe_comp ["name","kind"] [] [] rfl (pi_tup (pe_fld (pe_ix ix_list (pv 0) (pe_un un_neg pe_int) (fun _ _=>rfl)) rfl)) rfl trivial trivial (fun _ _ _ _=>(pg_tupK (K:=K) (n:=2) rfl rfl (pgs_cons (pg_name (i:=0) (show List.Nodup (["name","kind"]:List Str) from by decide +kernel) rfl (Or.inl rfl)) (pgs_cons (pg_name (i:=1) (show List.Nodup (["name","kind"]:List Str) from by decide +kernel) rfl (Or.inl rfl)) pgs_nil)))) (fun _ _ _ _=>pif_nil) (fun _ _ _ _=>(pv 0))) (by with_unfolding_all rfl)) (pss_one ps_never) pss_nil)
   (pss_cons (ps_set (i:=3) sc_need_field.nd rfl (by walk_at "o") (pe_call G_shapes_named hr rfl D_shapes_named.m D_shapes_named.k D_shapes_named.b .nil pass0 (pa_cons (pv 2) pa_nil)))
   (pss_cons (ps_for PassesOwn.never rfl (pi_enum rfl M.enumerate (pa_cons (pv 3) pa_nil)) (pg_tup rfl (pgs_cons (pg_name (i:=4) sc_need_field.nd rfl (Or.inl rfl)) (pgs_cons (pg_name (i:=5) sc_need_field.nd rfl (Or.inl rfl)) pgs_nil))) (pss_one (ps_if (pt_cmpR op_in_seq (pv 5) (pe_slice sl_list (pv 3) po_none (po_some (pv 4))) (by with_unfolding_all rfl)) (pss_one ps_never) pss_nil)))
   (pss_one (ps_for PassesOwn.never rfl (pi_list (pv 3)) (pg_name (i:=5) sc_need_field.nd rfl (Or.inl rfl)) (pss_one (ps_if (pt_cmp (pc_dnotin hr.units1 (pv 5) (pe_call G_whole_shapes hr rfl D_whole_shapes.m D_whole_shapes.k D_whole_shapes.b .nil pass0 (pa_cons (pv 0) pa_nil)))) (pss_one ps_never) pss_nil)))))))),?_⟩
 obtain⟨hw0,dx,t,ps,k1,k2,k3⟩:=hw.init
 obtain⟨n1,n4,n2⟩:=named_nodup hnd hf
 have zl:(ps.map V.ref).length=s.2.length:=by rw [List.length_map];exact k3.len
 refine⟨_,rfl,true,.inl ⟨_,SqL.of hl,by simp⟩,iteN (by decide) ⟨_,rfl,a,nmOf T,T.length,kd,fn,rfl,hws,hfn,hf,hn,fun H1 g1=>⟨_,rfl,iteN (by decide) ?_⟩⟩⟩
 refine⟨_,rfl,a,_,_,_,rfl,rfl,g1.seq hws,at0,_,rfl,_,rfl,tl,_,_,_,rfl,rfl,SqL.of (g1 _ _ hl),atI_lastR _ _,z,Ve,_,_,_,rfl,(g1 _ _ k1),Ue.cl,Ue.na _ (by decide),rfl,t,rfl,⟨_,g1.tp k2⟩,comp_tupM (xs:=ps.map V.ref) (fun j ys H2=>H2=H1/\ys=((s.2.take j).map (·.1)).map V.str) ⟨rfl,rfl⟩ (fun j ys H2 _ z=>⟨by rw [z.1];exact g1.tp k2,by rw [z.2,List.length_map,List.length_map,List.length_take];exact Nat.min_le_left _ _⟩) (small1000 (by omega)) (fun j x ys H2 os ho hx z=>?_) (fun ys H2 z p hp=>?_)⟩
 ·obtain⟨rfl,rfl⟩:=z
  obtain⟨o1,o2,rfl⟩:=len2 ho
  obtain⟨u,hu,rfl⟩:=get_refs hx
  obtain⟨nm',kd',kk,hfs,hq,hko⟩:=k3.get hu
  refine⟨u,_,rfl,g1.tp hq,rfl,_,_,rfl,_,_,rfl,rfl,_,rfl,⟨rfl,?_⟩,[_,_],rfl,rfl⟩
  rw [map_snoc hfs,List.map_append];rfl
 ·obtain⟨rfl,rfl⟩:=z
  generalize e3:upd H2 p _=H3
  obtain⟨g3,k4⟩:=new_facts e3 hp
  refine⟨p,_,rfl,.inl (SqL.of k4),rfl,flat_strs _,_,rfl,?_⟩
  rw [if_neg (by decide),inV_strs,zl,take_len]
  refine iteN (by rw [decide_eq_false hnew];decide) ⟨_,rfl,a,nmOf T,T.length,kd,fn,rfl,g3.seq (g1.seq hws),hf,hn,fun l H4 g4 hl4 k5=>?_⟩
  have g14:=(g1.trans g3).trans g4
  have zn:((Kd.named (nmOf T) kd).map V.str).length=(Kd.named (nmOf T) kd).length:=List.length_map _
  refine⟨_,rfl,l,_,rfl,SqL.of k5,for_enum (xs:=(Kd.named (nmOf T) kd).map V.str) (fun i σ H'=>∃ o4 o5,σ = [some (.ref tl),some x,some (.ref a),some (.ref l),o4,o5]/\Same H4 H') ⟨_,_,rfl,Same.refl _⟩ (fun i σ H' _ z=>?_) (fun i x σ H' p hx z hp=>?_) (fun σ H' z=>?_)⟩
  ·obtain⟨o4,o5,rfl,g⟩:=z
   exact g.seq (SqL.of k5)
  ·obtain⟨o4,o5,rfl,g⟩:=z
   obtain⟨y,hy,rfl⟩:=get_strs hx
   have g5:=same_new hp (.tup [.int (i:Int),.str y])
   have k6:upd H' p (.tup [.int (i:Int),.str y]) p=_:=upd_same
   generalize upd H' p (.tup [.int (i:Int),.str y])=H5 at g5 k6
   refine⟨p,_,rfl,SqT.of k6,rfl,_,_,rfl,_,_,rfl,rfl,_,rfl,_,rfl,_,rfl,_,rfl,l,_,rfl,(g.trans g5).seq (SqL.of k5),fun p2 hp2=>?_⟩
   rw [cutB]
   generalize e6:upd H5 p2 _=H6
   obtain⟨g6,k7⟩:=new_facts e6 hp2
   rw [← List.map_take] at k7
   refine⟨p2,_,rfl,.inl (SqL.of k7),rfl,flat_strs _,_,rfl,?_⟩
   rw [if_neg (by decide),inV_strs]
   refine iteN (fun z=>?_) ⟨_,_,rfl,(g.trans g5).trans g6⟩
   have hm:y ∈ (Kd.named (nmOf T) kd).take i:=of_decide_eq_true z
   obtain⟨j,hj⟩:=List.mem_iff_getElem?.mp hm
   have hji:j < i:=by have:=(List.getElem?_eq_some_iff.mp hj).1;rw [List.length_take] at this;omega
   rw [List.getElem?_take_of_lt hji] at hj
   obtain⟨a1,b1⟩:=List.getElem?_eq_some_iff.mp hj
   obtain⟨a2,b2⟩:=List.getElem?_eq_some_iff.mp hy
   exact List.pairwise_iff_getElem.mp n1 j i a1 a2 hji (b1.trans b2.symm)
  ·obtain⟨o4,o5,rfl,g⟩:=z
   refine⟨_,rfl,l,rfl,⟨_,g.seq (SqL.of k5)⟩,for_list (xs:=(Kd.named (nmOf T) kd).map V.str) (fun i σ H'=>∃ o4 o5,σ = [some (.ref tl),some x,some (.ref a),some (.ref l),o4,o5]/\Same H4 H') ⟨_,_,rfl,g⟩ (fun i σ H' _ z=>?_) (fun i x σ H' hx z=>?_) (fun σ H' z=>?_)⟩
   ·obtain⟨o4,o5,rfl,g⟩:=z
    exact g.seq (SqL.of k5)
   ·obtain⟨o4,o5,rfl,g⟩:=z
    obtain⟨y,hy,rfl⟩:=get_strs hx
    obtain⟨j,hj,rfl⟩:=n2 y (List.mem_of_getElem? hy)
    have hT:T[j]?=some T[j]:=List.getElem?_eq_getElem hj
    have hsa:sa[j]?=some (sa[j]'(by rw [hw0.1];exact hj)):=List.getElem?_eq_getElem _
    have hv:=dk_get hnd hT hsa
    rw [← nmOf_get hT] at hv
    refine⟨_,rfl,_,rfl,tl,z,sa,T,s,rfl,(g14.trans g) _ _ hl,hw.same (g14.trans g),hnd,hlen,fun d H5 g5 hd k6=>⟨d,_,rfl,DGet.k (k:=Sum.inr (nmOf T j)) k6,_,rfl,?_⟩⟩
    rw [hv]
    exact iteN (by simp) ⟨_,_,rfl,g.trans g5⟩
   ·obtain⟨o4,o5,rfl,g⟩:=z
    exact q H' (g14.trans g)
theorem ok_kind_in {k r:Nat} (F:Fun K "kind_in" "kind_in" s_kind_in f fd) {f_kind_in:Addr} {fd_kind_in:FuncData} (D_kind_in:Df K mg "kind_in" f_kind_in fd_kind_in ["words","shapes"]) (G_kind_in:FnOk P w K mg base CX0 k f_kind_in fd_kind_in ["words","shapes"] (spKin (Cl5.mk Va Vb Vc Vd Ve) K r)) {fd_Num_init:FuncData} (D_Num_init:DfI K fd_Num_init ["self","width"]) (G_Num_init:FnOk P w K mg base CX0 k cIu fd_Num_init ["self","width"] (spI1 Va "width")) {fd_Nested_init:FuncData} (D_Nested_init:DfI K fd_Nested_init ["self","shape"]) (G_Nested_init:FnOk P w K mg base CX0 k cIv fd_Nested_init ["self","shape"] (spI1 Vb "shape")) {fd_Many_init:FuncData} (D_Many_init:DfI K fd_Many_init ["self","count","kind"]) (G_Many_init:FnOk P w K mg base CX0 k cIx fd_Many_init ["self","count","kind"] (spI2 Vc "count" "kind")) {fd_Pick_init:FuncData} (D_Pick_init:DfI K fd_Pick_init ["self","shapes"]) (G_Pick_init:FnOk P w K mg base CX0 k cIy fd_Pick_init ["self","shapes"] (spIT K Vd "shapes")):FnOk P w K mg base CX0 (k + 2) f fd ["words","shapes"] (spKin (Cl5.mk Va Vb Vc Vd Ve) K (r + 1)):=by
 w_cond sc_kind_in
 ·obtain⟨a,d,kd,sa,T,rfl,_⟩:=h;rfl
 obtain⟨a,d,kd,sa,T,rfl,hlv,hl,hd,hf,hn,hnd,hsl,q⟩:=h
 walk_at "hr"
 refine⟨_,(pss_cons (ps_if (pt_cmpR op_eq (pe_ix ix_list (pv 0) pe_int (fun _ _=>rfl)) pe_str (nomark _)) (pss_one (ps_ret (pe_make Ua.ma G_Num_init hr0 rfl Ua.m D_Num_init.b .nil pass0 (pa_cons (pe_callTy call_int_txt rfl M.int boot_int (pa_cons (pe_ix ix_list (pv 0) pe_int (fun _ _=>rfl)) pa_nil)) pa_nil)))) pss_nil)
   (pss_cons (ps_if (pt_cmpR op_eq (pe_ix ix_list (pv 0) pe_int (fun _ _=>rfl)) pe_str (nomark _)) (pss_one (ps_ret (pe_make Uc.ma G_Many_init hr0 rfl Uc.m D_Many_init.b .nil pass0 (pa_cons (pe_callTy call_int_txt rfl M.int boot_int (pa_cons (pe_ix ix_list (pv 0) pe_int (fun _ _=>rfl)) pa_nil)) (pa_cons (pe_call G_kind_in hr rfl D_kind_in.m D_kind_in.k D_kind_in.b .nil pass0 (pa_cons (pe_slice sl_list (pv 0) (po_some pe_int) po_none) (pa_cons (pv 1) pa_nil))) pa_nil))))) pss_nil)
   (pss_cons (ps_if (pt_cmpR op_eq (pe_ix ix_list (pv 0) pe_int (fun _ _=>rfl)) pe_str (nomark _)) (pss_one (ps_ret (pe_make Ud.ma G_Pick_init hr0 rfl Ud.m D_Pick_init.b .nil pass0 (pa_cons (pe_comp ["name"] ["shapes"] [1] rfl (pi_list (pe_slice sl_list (pv 0) (po_some pe_int) po_none)) rfl ⟨rfl,trivial⟩ ⟨⟨rfl,rfl,rfl,_,rfl⟩,trivial⟩ (fun _ _ _ _=>(pg_name (i:=0) (show List.Nodup (["name","shapes"]:List Str) from by decide +kernel) rfl (Or.inl rfl))) (fun _ _ _ _=>pif_nil) (fun _ _ _ _=>(pe_dget hr.units1 (pv 1) (pv 0) (fun _ _=>rfl)))) pa_nil)))) pss_nil)
   (pss_one (ps_ret (pe_make Ub.ma G_Nested_init hr0 rfl Ub.m D_Nested_init.b .nil pass0 (pa_cons (pe_dget hr.units1 (pv 1) (pe_ix ix_list (pv 0) pe_int (fun _ _=>rfl)) (fun _ _=>rfl)) pa_nil))))))),?_⟩
 have look:∀ i,i < T.length->∃ s,sa[i]?=some s/\valV (dk T sa) (.inr (nmOf T i))=some (.ref s):=fun i hi=>by
  have hT:T[i]?=some T[i]:=List.getElem?_eq_getElem hi
  have hs:sa[i]?=some (sa[i]'(by omega)):=List.getElem?_eq_getElem _
  exact⟨_,hs,by rw [nmOf_get hT];exact dk_get hnd hT hs⟩
 cases kd with
 | num w =>
  obtain⟨_,d2,_,d4⟩:=dig (w:=w) (by have:=hf.2;omega)
  exact⟨_,rfl,a,_,_,_,rfl,rfl,hl,rfl,rfl,_,rfl,iteP (by decide) ⟨_,rfl,a,_,_,_,rfl,rfl,hl,rfl,_,_,rfl,d4,by omega,fun x dx hx hdx _=>⟨x,dx,.int w,H,rfl,upd_same,madeS hx hdx,hx,fun H1 g1 k1=>⟨rfl,q x H1 g1 (.num k1)⟩⟩⟩⟩
 | nest i =>
  have hx:=hn i hf
  obtain⟨s,hs,hv⟩:=look i hf
  exact⟨_,rfl,a,_,_,_,rfl,rfl,hl,rfl,rfl,_,rfl,iteN (by simpa using name_ne hx (y:="num") (by decide)) ⟨_,rfl,a,_,_,_,rfl,rfl,hl,rfl,rfl,_,rfl,iteN (by simpa using name_ne hx (y:="row") (by decide)) ⟨_,rfl,a,_,_,_,rfl,rfl,hl,rfl,rfl,_,rfl,iteN (by simpa using name_ne hx (y:="pick") (by decide)) ⟨_,rfl,_,rfl,a,_,_,_,rfl,rfl,hl,rfl,d,.ref s,rfl,(by rw [← hv];exact DGet.k (k:=Sum.inr (nmOf T i)) hd),fun x dx hx hdx _=>⟨x,dx,.ref s,H,rfl,upd_same,madeS hx hdx,hx,fun H1 g1 k1=>⟨rfl,q x H1 g1 (.nest hs k1)⟩⟩⟩⟩⟩⟩
 | many m k =>
  obtain⟨_,d2,_,d4⟩:=dig (w:=m) (by have:=hf.2.1;omega)
  have hl':SqL K H a (V.str (Str.ofString "row")::V.str (Str.ofString (toString (m:Int)))::(k.words (nmOf T)).map V.str):=hl
  refine⟨_,rfl,a,_,_,_,rfl,rfl,hl',at0,rfl,_,rfl,iteN (by decide) ⟨_,rfl,a,_,_,_,rfl,rfl,hl',at0,rfl,_,rfl,iteP (by decide) ⟨_,rfl,a,_,_,_,rfl,rfl,hl',at1,_,_,rfl,d4,by omega,_,rfl,_,rfl,a,_,rfl,hl',fun p hp=>?_⟩⟩⟩
  rw [cutA2]
  generalize e1:upd H p _=H1
  obtain⟨g1,k1⟩:=new_facts e1 hp
  have hlk:k.lv=0:=by rcases hf.2.2 with⟨w,rfl,_⟩|⟨i,rfl,_⟩ <;> rfl
  refine⟨_,rfl,p,d,k,sa,T,rfl,(by rw [hlk];have : 1 < r + 1:=hlv;omega),SqL.of k1,g1 _ _ hd,hf.sub,hn,hnd,hsl,fun b H2 g2 ko=>?_⟩
  exact fun x dx hx hdx _=>⟨x,dx,.int m,.ref b,H2,rfl,upd_same,madeS hx hdx,hx,fun H3 g3 k3=>⟨rfl,q x H3 ((g1.trans g2).trans g3) (.many k3 (ko.same g3))⟩⟩
 | pick is =>
  have hl':SqL K H a (V.str (Str.ofString "pick")::(is.map (nmOf T)).map V.str):=hl
  have h2:=hf.2.1
  have zl:((is.map (nmOf T)).map V.str).length=is.length:=by rw [List.length_map,List.length_map]
  refine⟨_,rfl,a,_,_,_,rfl,rfl,hl',at0,rfl,_,rfl,iteN (by decide) ⟨_,rfl,a,_,_,_,rfl,rfl,hl',at0,rfl,_,rfl,iteN (by decide) ⟨_,rfl,a,_,_,_,rfl,rfl,hl',at0,rfl,_,rfl,iteP (by decide) ⟨_,rfl,_,rfl,a,_,rfl,hl',fun p hp=>?_⟩⟩⟩⟩
  rw [cutA1]
  generalize e1:upd H p _=H1
  obtain⟨g1,k1⟩:=new_facts e1 hp
  refine⟨p,rfl,⟨_,SqL.of k1⟩,comp_list (xs:=(is.map (nmOf T)).map V.str) (fun j ys H'=>H'=H1/\∃ ss:List Addr,ys=ss.map V.ref/\ss.length=j/\∀ (b i:Nat) (s:Addr),is[b]?=some i->ss[b]?=some s->sa[i]?=some s) ⟨rfl,[],rfl,rfl,fun b i s _ z=>by simp at z⟩ (fun j ys H' _ z=>?_) (small1000 (by omega)) (fun j x ys H' hx z=>?_) (fun ys H' z p2 hp2=>?_)⟩
  ·obtain⟨rfl,ss,rfl,hss,_⟩:=z
   exact⟨SqL.of k1,by rw [List.length_map];omega⟩
  ·obtain⟨rfl,ss,rfl,hss,hall⟩:=z
   obtain⟨y,hy,rfl⟩:=get_strs hx
   rw [List.getElem?_map] at hy
   cases e:is[j]? with
   | none=>rw [e] at hy;cases hy
   | some i =>
    rw [e] at hy
    cases hy
    obtain⟨s,hs,hv⟩:=look i (hf.2.2.2 i (List.mem_of_getElem? e))
    refine⟨_,rfl,_,rfl,d,.ref s,rfl,(by rw [← hv];exact DGet.k (k:=Sum.inr (nmOf T i)) (g1 _ _ hd)),⟨rfl,ss++[s],by rw [List.map_append];rfl,by rw [List.length_append,hss];rfl,fun b i' s' hb1 hb2=>?_⟩,_,rfl⟩
    rcases get_snoc hb2 with hb2|⟨eb,es⟩
    ·exact hall b i' s' hb1 hb2
    ·rw [eb,hss,e] at hb1
     cases hb1
     rw [es];exact hs
  ·obtain⟨rfl,ss,rfl,hss,hall⟩:=z
   generalize e2:upd H' p2 _=H2
   obtain⟨g2,k2⟩:=new_facts e2 hp2
   exact fun x dx hx hdx _=>⟨x,dx,p2,_,H2,rfl,upd_same,madeS hx hdx,hx,SqL.of k2,fun t H3 g3 k3 k4=>⟨rfl,q x H3 ((g1.trans g2).trans g3) (.pick k3 k4 (by rw [hss,zl]) hall)⟩⟩
theorem ok_is_too_much {k r:Nat} (F:Fun K "is_too_much" "is_too_much" s_is_too_much f fd) {f_Shape_size:Addr} {fd_Shape_size:FuncData} (D_Shape_size:DfM K Ve "size" f_Shape_size fd_Shape_size ["self"]) (G_Shape_size:FnOk P w K mg base CX0 k f_Shape_size fd_Shape_size ["self"] (spShV (Cl5.mk Va Vb Vc Vd Ve) K r sSz)) {f_Shape_units:Addr} {fd_Shape_units:FuncData} (D_Shape_units:DfM K Ve "units" f_Shape_units fd_Shape_units ["self"]) (G_Shape_units:FnOk P w K mg base CX0 k f_Shape_units fd_Shape_units ["self"] (spShU (Cl5.mk Va Vb Vc Vd Ve) K r)) {f_Shape_depth:Addr} {fd_Shape_depth:FuncData} (D_Shape_depth:DfM K Ve "depth" f_Shape_depth fd_Shape_depth ["self"]) (G_Shape_depth:FnOk P w K mg base CX0 k f_Shape_depth fd_Shape_depth ["self"] (spShV (Cl5.mk Va Vb Vc Vd Ve) K r sDp)):FnOk P w K mg base CX0 (k + 2) f fd ["shape"] (spTM (Cl5.mk Va Vb Vc Vd Ve) K r):=by
 w_cond sc_is_too_much
 ·obtain⟨a,i,sa,S,rfl,_⟩:=h;rfl
 obtain⟨a,i,sa,S,rfl,e,hi,h8,hw,hg,⟨b1,b2,b3⟩,q⟩:=h
 walk_at "hr"
 refine⟨_,(pss_cons (ps_if (PW.pt (pw_or (pt_cmpR op_gt (pe_callB call_len_seq rfl M.len PySem.boot_len (pa_cons (pe_fld (pv 0) rfl) pa_nil)) (pe_glob (v:=.int 6) rfl C.MOST_FIELDS ⟨_,rfl⟩) (nomark _)) (pw_or1 (pt_cmpR op_gt (pe_meth0 (pv 0) Ue.cl D_Shape_size.me G_Shape_size hr D_Shape_size.b .nil pass0) (pe_glob (v:=.int 64) rfl C.MOST_CELLS ⟨_,rfl⟩) (nomark _))))) (pss_one (ps_ret pe_bl)) pss_nil)
   (pss_one (ps_ret (pe_or (pe_cmpR op_gt (pe_callB call_len_seq rfl M.len PySem.boot_len (pa_cons (pe_meth0 (pv 0) Ue.cl D_Shape_units.me G_Shape_units hr D_Shape_units.b .nil pass0) pa_nil)) (pe_glob (v:=.int 40) rfl C.MOST_UNITS ⟨_,rfl⟩) (nomark _)) (pe_one (pe_cmpR op_gt (pe_meth0 (pv 0) Ue.cl D_Shape_depth.me G_Shape_depth hr D_Shape_depth.b .nil pass0) (pe_glob (v:=.int 4) rfl C.MOST_DEPTH ⟨_,rfl⟩) (nomark _))))))),?_⟩
 obtain⟨s,hS,dx,t,ps,k1,k2,k3⟩:=hw.at e
 have h6:=hg.few i s hS
 have zl:(ps.map V.ref).length=s.2.length:=by rw [List.length_map];exact k3.len
 refine⟨_,rfl,a,Ve,_,_,_,rfl,k1,Ue.cl,Ue.na _ (by decide),rfl,t,_,rfl,.inr k2,_,_,rfl,rfl,_,rfl,iteN (by rw [zl];simp;omega) ⟨_,rfl,a,dx,_,rfl,k1,rfl,a,i,sa,S,rfl,e,(by omega),hw,hg,fun H1 g1=>⟨_,_,rfl,rfl,_,rfl,iteN (by have:sSz i (tabs S)<=64:=b1;simp;omega) ?_⟩⟩⟩
 refine⟨_,rfl,a,dx,_,rfl,g1 _ _ k1,rfl,a,i,sa,S,rfl,e,hi,h8,hw.same g1,hg,fun l H2 g2 hl ⟨us,ku,ur⟩=>⟨l,_,rfl,.inl (SqL.of ku),_,_,rfl,rfl,_,rfl,iteN (by rw [List.length_map,ur.len];simp;omega) ?_⟩⟩
 refine⟨_,rfl,a,dx,_,rfl,g2 _ _ (g1 _ _ k1),rfl,a,i,sa,S,rfl,e,(by omega),hw.same (g1.trans g2),hg,fun H3 g3=>⟨_,_,rfl,rfl,?_⟩⟩
 dsimp only
 rw [decide_eq_false (by have:sDp i (tabs S)<=4:=b3;omega)]
 exact q H3 ((g1.trans g2).trans g3)
theorem ok_with_field {k r:Nat} (F:Fun K "with_field" "with_field" s_with_field f fd) {f_kind_in:Addr} {fd_kind_in:FuncData} (D_kind_in:Df K mg "kind_in" f_kind_in fd_kind_in ["words","shapes"]) (G_kind_in:FnOk P w K mg base CX0 k f_kind_in fd_kind_in ["words","shapes"] (spKin (Cl5.mk Va Vb Vc Vd Ve) K 2)) {f_whole_shapes:Addr} {fd_whole_shapes:FuncData} (D_whole_shapes:Df K mg "whole_shapes" f_whole_shapes fd_whole_shapes ["told"]) (G_whole_shapes:FnOk P w K mg base CX0 k f_whole_shapes fd_whole_shapes ["told"] (spWh (Cl5.mk Va Vb Vc Vd Ve) K)) {fd_Shape_init:FuncData} (D_Shape_init:DfI K fd_Shape_init ["self","name","fields"]) (G_Shape_init:FnOk P w K mg base CX0 k cIz fd_Shape_init ["self","name","fields"] (spShI (Cl5.mk Va Vb Vc Vd Ve) K)) {f_is_too_much:Addr} {fd_is_too_much:FuncData} (D_is_too_much:Df K mg "is_too_much" f_is_too_much fd_is_too_much ["shape"]) (G_is_too_much:FnOk P w K mg base CX0 k f_is_too_much fd_is_too_much ["shape"] (spTM (Cl5.mk Va Vb Vc Vd Ve) K r)):FnOk P w K mg base CX0 (k + 2) f fd ["told","line","words"] (spWF (Cl5.mk Va Vb Vc Vd Ve) K r):=by
 w_cond sc_with_field
 ·obtain⟨tl,a,z,x,sa,T,s,fn,kd,rfl,_⟩:=h;rfl
 obtain⟨tl,a,z,x,sa,T,s,fn,kd,rfl,hl,hw,hws,hf,hn,hnd,hlen,hr1,h8,hs50,hg,hb,q⟩:=h
 walk_at "hr"
 refine⟨_,(pss_cons (ps_set (i:=3) sc_with_field.nd rfl (by walk_at "o") (pe_call G_kind_in hr rfl D_kind_in.m D_kind_in.k D_kind_in.b .nil pass0 (pa_cons (pe_slice sl_list (pv 2) (po_some pe_int) po_none) (pa_cons (pe_call G_whole_shapes hr rfl D_whole_shapes.m D_whole_shapes.k D_whole_shapes.b .nil pass0 (pa_cons (pv 0) pa_nil)) pa_nil))))
   (pss_cons (ps_set (i:=4) sc_with_field.nd rfl (by walk_at "o") (pe_make Ue.ma G_Shape_init hr0 rfl Ue.m D_Shape_init.b .nil pass0 (pa_cons (pe_fld (pe_ix ix_list (pv 0) (pe_un un_neg pe_int) (fun _ _=>rfl)) rfl) (pa_cons (pe_op op_catT2 (pe_fld (pe_ix ix_list (pv 0) (pe_un un_neg pe_int) (fun _ _=>rfl)) rfl) (pe_tup (pa_cons (pe_tup (pa_cons (pe_ix ix_list (pv 2) pe_int (fun _ _=>rfl)) (pa_cons (pv 3) pa_nil))) pa_nil))) pa_nil))))
   (pss_cons (ps_if (pt_val (pe_call G_is_too_much hr rfl D_is_too_much.m D_is_too_much.k D_is_too_much.b .nil pass0 (pa_cons (pv 4) pa_nil))) (pss_one ps_never) pss_nil)
   (pss_one (ps_ret (pv 4)))))),?_⟩
 obtain⟨hw0,dx,t,ps,k1,k2,k3⟩:=hw.init
 refine⟨_,rfl,_,rfl,a,_,rfl,hws,fun p hp=>?_⟩
 rw [show cutV ((fn::kd.words (nmOf T)).map V.str) (some 1) none=(kd.words (nmOf T)).map V.str from cutA1 _ _]
 generalize e1:upd H p _=H1
 obtain⟨g1,kp⟩:=new_facts e1 hp
 refine⟨_,rfl,tl,z,sa,T,s,rfl,g1 _ _ hl,hw.same g1,hnd,hlen,fun d H2 g2 hd kd2=>?_⟩
 refine⟨p,d,kd,sa,T,rfl,(by cases kd <;> simp [Kd.lv]),g2.seq (SqL.of kp),kd2,hf,hn,hnd,hw0.1,fun k H3 g3 ko=>?_⟩
 have g13:=(g1.trans g2).trans g3
 refine⟨_,rfl,_,rfl,tl,_,_,_,rfl,rfl,SqL.of (g13 _ _ hl),atI_lastR _ _,z,Ve,_,_,_,rfl,(g13 _ _ k1),Ue.cl,Ue.na _ (by decide),rfl,_,rfl,_,rfl,tl,_,_,_,rfl,rfl,SqL.of (g13 _ _ hl),atI_lastR _ _,z,Ve,_,_,_,rfl,(g13 _ _ k1),Ue.cl,Ue.na _ (by decide),rfl,_,rfl,a,_,_,_,rfl,rfl,g13.seq hws,at0,_,rfl,szL2,fun u hu=>?_⟩
 generalize e4:upd H3 u _=H4
 obtain⟨g4,k4⟩:=new_facts e4 hu
 refine⟨szL1,fun v hv=>?_⟩
 generalize e5:upd H4 v _=H5
 obtain⟨g5,k5⟩:=new_facts e5 hv
 have hps:ps.length=s.2.length:=k3.len
 refine⟨t,v,ps.map V.ref,[.ref u],rfl,rfl,(g4.trans g5).tp (g13.tp k2),SqT.of k5,(by simp),(by rw [sizeLine_eq,List.length_map];simp;omega),fun fl H6 g6 hfl=>?_⟩
 have g36:=(g4.trans g5).trans g6
 refine fun y dy hy hdy _=>⟨y,dy,fl,s.1,ps++[u],s.2++[(fn,kd)],sa,H6,rfl,upd_same,madeS hy hdy,hy,.inr (by rw [List.map_append];exact hfl),(k3.same (g13.trans g36)).snoc ((g5.trans g6).tp (SqT.of k4)) (ko.same g36),(by rw [List.length_append];show s.2.length + 1<=100;omega),fun t' ps' H7 g7 k7 st fo=>⟨rfl,?_⟩⟩
 have gA:=(g13.trans g36).trans g7
 have so:SO (Cl5.mk Va Vb Vc Vd Ve) K H7 sa y (s.1,s.2++[(fn,kd)]):=⟨dy,t',ps',k7,st,fo⟩
 have hsw:=(hw0.same gA).snoc so
 have hsl:sa.length=T.length:=hw0.1
 exact⟨_,rfl,y,T.length,sa++[y],_,rfl,(by rw [← hsl,List.getElem?_append_right (Nat.le_refl _),Nat.sub_self];rfl),hr1,h8,hsw,hg,hb,fun H8 g8=>⟨_,rfl,iteN (by decide) ⟨_,rfl,q y H8 (gA.trans g8) (so.same g8)⟩⟩⟩
theorem ok_read_shapes {k r:Nat} (F:Fun K "read_shapes" "read_shapes" s_read_shapes f fd) {f_is_shape_line:Addr} {fd_is_shape_line:FuncData} (D_is_shape_line:Df K mg "is_shape_line" f_is_shape_line fd_is_shape_line ["words"]) (G_is_shape_line:FnOk P w K mg base CX0 k f_is_shape_line fd_is_shape_line ["words"] (spShL K)) {f_need_new_shape:Addr} {fd_need_new_shape:FuncData} (D_need_new_shape:Df K mg "need_new_shape" f_need_new_shape fd_need_new_shape ["told","line","name"]) (G_need_new_shape:FnOk P w K mg base CX0 k f_need_new_shape fd_need_new_shape ["told","line","name"] (spNew (Cl5.mk Va Vb Vc Vd Ve) K)) {fd_Shape_init:FuncData} (D_Shape_init:DfI K fd_Shape_init ["self","name","fields"]) (G_Shape_init:FnOk P w K mg base CX0 k cIz fd_Shape_init ["self","name","fields"] (spShI (Cl5.mk Va Vb Vc Vd Ve) K)) {f_need_field:Addr} {fd_need_field:FuncData} (D_need_field:Df K mg "need_field" f_need_field fd_need_field ["told","line","words"]) (G_need_field:FnOk P w K mg base CX0 k f_need_field fd_need_field ["told","line","words"] (spNF (Cl5.mk Va Vb Vc Vd Ve) K)) {f_with_field:Addr} {fd_with_field:FuncData} (D_with_field:Df K mg "with_field" f_with_field fd_with_field ["told","line","words"]) (G_with_field:FnOk P w K mg base CX0 k f_with_field fd_with_field ["told","line","words"] (spWF (Cl5.mk Va Vb Vc Vd Ve) K r)) {fd_Shapes_init:FuncData} (D_Shapes_init:DfI K fd_Shapes_init ["self","shapes"]) (G_Shapes_init:FnOk P w K mg base CX0 k cIw fd_Shapes_init ["self","shapes"] (spIT K Vf "shapes")):FnOk P w K mg base CX0 (k + 2) f fd ["text"] (spRd (Cl5.mk Va Vb Vc Vd Ve) Vf K r):=by
 w_cond sc_read_shapes
 ·obtain⟨S,rfl,_⟩:=h;rfl
 obtain⟨S,rfl,hW,hne,hr12,h8,q⟩:=h
 walk_at "hr"
 refine⟨_,(pss_cons (ps_if (pt_not (pt_val (pe_callB call_isi rfl M.isinstance boot_isinstance (pa_cons (pv 0) (pa_cons (pe_bltn (v:=.ty "str") rfl M.str boot_str rfl) pa_nil))))) (pss_one ps_never) pss_nil)
   (pss_cons (ps_set (i:=1) sc_read_shapes.nd rfl (by walk_at "o") (pe_bm PySem.F.plainAttrs_str PySem.F.slot_str_split PySem.F.type_str_split mt_splitT (pv 0) (pa_cons pe_str pa_nil)))
   (pss_cons (ps_set (i:=2) sc_read_shapes.nd rfl (by walk_at "o") (pe_lst pa_nil))
   (pss_cons (ps_for PassesOwn.never rfl (pi_enum rfl M.enumerate (pa_cons (pv 1) pa_nil)) (pg_tup rfl (pgs_cons (pg_name (i:=3) sc_read_shapes.nd rfl (Or.inl rfl)) (pgs_cons (pg_name (i:=4) sc_read_shapes.nd rfl (Or.inl rfl)) pgs_nil))) (pss_cons (ps_set (i:=5) sc_read_shapes.nd rfl (by walk_at "o") (pe_bm PySem.F.plainAttrs_str PySem.F.slot_str_split PySem.F.type_str_split mt_splitT (pv 4) (pa_cons pe_str pa_nil)))
   (pss_one (ps_if (pt_val (pe_call G_is_shape_line hr rfl D_is_shape_line.m D_is_shape_line.k D_is_shape_line.b .nil pass0 (pa_cons (pv 5) pa_nil))) (pss_cons (ps_expr (pe_call G_need_new_shape hr rfl D_need_new_shape.m D_need_new_shape.k D_need_new_shape.b .nil pass0 (pa_cons (pv 2) (pa_cons (pv 3) (pa_cons (pe_ix ix_list (pv 5) pe_int (fun _ _=>rfl)) pa_nil)))))
   (pss_one (ps_expr (pe_bm PySem.F.plainAttrs_list PySem.F.slot_list_append PySem.F.type_list_append mt_append (pv 2) (pa_cons (pe_make Ue.ma G_Shape_init hr0 rfl Ue.m D_Shape_init.b .nil pass0 (pa_cons (pe_ix ix_list (pv 5) pe_int (fun _ _=>rfl)) (pa_cons (pe_lst pa_nil) pa_nil))) pa_nil))))) (pss_cons (ps_expr (pe_call G_need_field hr rfl D_need_field.m D_need_field.k D_need_field.b .nil pass0 (pa_cons (pv 2) (pa_cons (pv 3) (pa_cons (pv 5) pa_nil)))))
   (pss_one (ps_asg (pe_call G_with_field hr rfl D_with_field.m D_with_field.k D_with_field.b .nil pass0 (pa_cons (pv 2) (pa_cons (pv 3) (pa_cons (pv 5) pa_nil)))) (pg_sub (pv 2) (pe_un un_neg pe_int) set_list))))))))
   (pss_cons (ps_if (pt_not (pt_truth (pe_fld (pe_ix ix_list (pv 2) (pe_un un_neg pe_int) (fun _ _=>rfl)) rfl) (fun _=>rfl))) (pss_one ps_never) pss_nil)
   (pss_one (ps_ret (pe_make Uf.ma G_Shapes_init hr0 rfl Uf.m D_Shapes_init.b .nil pass0 (pa_cons (pv 2) pa_nil))))))))),?_⟩
 obtain⟨h30,hrow,htl,hsp⟩:=txt_ok hW hne
 have hok:=line_ok hW
 refine⟨_,rfl,_,_,"str",rfl,by decide,rfl,_,rfl,iteN (by decide) ⟨_,rfl,rfl,_,_,rfl,rfl,rfl,(by rw [sizeLine_eq];omega),fun p hp=>?_⟩⟩
 rw [show Txt.split (txt S) (Str.ofString "\n")=_ from hsp]
 generalize e1:upd H p _=H1
 obtain⟨g1,k1⟩:=new_facts e1 hp
 refine⟨szL0,fun tl hq=>?_⟩
 generalize e2:upd H1 tl _=H2
 obtain⟨g2,k2⟩:=new_facts e2 hq
 have hq0:H tl=none:=g1.free hq
 have npt:p ≠ tl:=ne_of_none k1 hq
 have k12:=g2 _ _ k1
 have zl:(((itms S).map fun it=>Str.join spS (it.line (nmOf S))).map V.str).length=(itms S).length:=by rw [List.length_map,List.length_map]
 refine⟨_,rfl,p,_,rfl,SqL.of k12,for_enum (xs:=((itms S).map fun it=>Str.join spS (it.line (nmOf S))).map V.str) (fun i σ H'=>∃ (o3 o4 o5:Option V) (sa:List Addr) (T:List Shp),σ = [some (.str (txt S)),some (.ref p),some (.ref tl),o3,o4,o5]/\But tl H2 H'/\H' tl=some (.lst (sa.map V.ref))/\SW (Cl5.mk Va Vb Vc Vd Ve) K H' sa T/\StAt S i T) ⟨_,_,_,[],[],rfl,But.refl,k2,SW.nil,StAt.start S⟩ (fun i σ H' _ z=>?_) (fun i x σ H' p2 hx z hp2=>?_) (fun σ H' z=>?_)⟩
 ·obtain⟨o3,o4,o5,sa,T,rfl,g,_⟩:=z
  exact SqL.of (g _ _ npt k12)
 ·obtain⟨o3,o4,o5,sa,T,rfl,g,kl,hw,hst⟩:=z
  obtain⟨row,hrw,rfl⟩:=get_strs hx
  rw [List.getElem?_map] at hrw
  cases eit:(itms S)[i]? with
  | none=>rw [eit] at hrw;cases hrw
  | some it =>
  rw [eit] at hrw
  cases hrw
  have hit:=List.mem_of_getElem? eit
  obtain⟨r100,rsp⟩:=hrow it hit
  obtain⟨ok1,ok2,ok3⟩:=hok it hit
  obtain⟨S1,s,S2,eS,hnx⟩:=hst.next (List.getElem?_eq_some_iff.mp eit).1
  generalize e3:upd H' p2 _=H3
  obtain⟨g3,k3⟩:=new_facts e3 hp2
  refine⟨p2,_,rfl,SqT.of k3,rfl,_,_,rfl,_,_,rfl,rfl,_,rfl,rfl,_,_,rfl,rfl,rfl,(by rw [sizeLine_eq];show (Str.join L2.spS (it.line (nmOf S))).length + 2<=_;omega),fun wa hwa=>?_⟩
  rw [show Txt.split (Str.join spS (it.line (nmOf S))) (Str.ofString " ")=_ from rsp]
  generalize e4:upd H3 wa _=H4
  obtain⟨g4,k4⟩:=new_facts e4 hwa
  have g34:=g3.trans g4
  refine⟨_,rfl,wa,it.line (nmOf S),rfl,⟨SqL.of k4,fun w hw=>by have:=(ok1 w hw).2;omega,by omega⟩,fun H5 g5=>⟨_,rfl,?_⟩⟩
  have g35:=g34.trans g5
  have kl5:=g35 _ _ kl
  have hw5:=hw.same g35
  have kw5:=g5 _ _ k4
  have hsS:s ∈ S:=by rw [eS];exact List.mem_append_right _ (List.mem_cons_self ..)
  have hS1:∀ t ∈ S1,t ∈ S:=fun t ht=>by rw [eS];exact List.mem_append_left _ ht
  have hlen:=hW.len
  have hnd1:(S1.map (·.1)).Nodup/\s.1 ∉ S1.map (·.1):=by
   have:=hW.nd
   rw [eS,List.map_append,List.nodup_append] at this
   exact⟨this.1,fun z=>this.2.2 _ z _ (List.mem_cons_self ..) rfl⟩
  have hl1:S1.length < 5:=by rw [eS,List.length_append,List.length_cons] at hlen;omega
  rcases hnx with⟨ei,rfl,hst2⟩|⟨f1,n,kd,f2,ef,ei,rfl,hst2⟩
  ·rw [eit] at ei
   cases ei
   have hnm:=hW.nm s hsS
   have hws:SqL K H5 wa [V.str (Str.ofString "shape"),V.str s.1]:=SqL.of kw5
   refine iteP (by show (decide (Str.ofString "shape" = Str.ofString "shape") && nameB s.1)=true;rw [hnm];decide) ⟨_,rfl,_,rfl,_,rfl,wa,_,_,_,rfl,rfl,hws,rfl,tl,_,s.1,sa,T,rfl,kl5,hw5,(fun t ht=>?_),hnd1.2,by omega,fun H6 g6=>?_⟩
   ·obtain⟨j,hj⟩:=List.mem_iff_getElem?.mp ht
    exact hW.good.ne j t (by rw [eS,List.getElem?_append_left (List.getElem?_eq_some_iff.mp hj).1];exact hj)
   have kl6:=g6 _ _ kl5
   refine⟨_,rfl,.inl ⟨rfl,_,SqL.of kl6⟩,_,rfl,wa,_,_,_,rfl,rfl,g6.seq hws,rfl,szL0,fun el hel=>?_⟩
   generalize e7:upd H6 el _=H7
   obtain⟨g7,k7⟩:=new_facts e7 hel
   refine fun y dy hy hdy _=>⟨y,dy,el,s.1,[],[],sa,H7,rfl,upd_same,madeS hy hdy,hy,.inl (SqL.of k7),.nil,by decide,fun t ps' H8 g8 k8 st fo=>⟨rfl,?_⟩⟩
   have g58:=(g6.trans g7).trans g8
   have kl8:=g58 _ _ kl5
   have hsl:=hw.1
   refine⟨tl,_,_,rfl,rfl,kl8,(by rw [List.length_map];exact Nat.lt_of_le_of_lt (show sa.length<=5 by omega) (by decide)),?_⟩
   generalize e9:upd H8 tl _=H9
   obtain⟨g9,k9⟩:=chg_facts e9
   exact⟨_,_,_,sa++[y],_,rfl,(g.trans (But.of (g35.trans g58))).trans g9,by rw [List.map_append];exact k9,((hw5.same g58).snoc (s:=(s.1,[])) ⟨dy,t,ps',k8,st,fo⟩).but g9 kl8,hst2⟩
  ·rw [eit] at ei
   cases ei
   obtain⟨sa0,z,rfl⟩:=snoc_of hw.1
   have hfm:(n,kd) ∈ s.2:=by rw [ef];exact List.mem_append_right _ (List.mem_cons_self ..)
   have hnm:=hW.fnm s hsS _ hfm
   have hi1:S[S1.length]?=some s:=by rw [eS,List.getElem?_append_right (Nat.le_refl _),Nat.sub_self];rfl
   have hfit:=(hW.good.fit _ _ hi1 _ hfm).1
   have hns:NOk (nmOf S1) S1.length:=nok_of fun t ht=>hW.nm t (hS1 t ht)
   have ew:kd.words (nmOf S)=kd.words (nmOf S1):=words_congr (fun j hj=>by rw [eS];exact nmOf_pre hj) hfit.below
   have hws:SqL K H5 wa ((n::kd.words (nmOf S1)).map V.str):=by rw [← ew];exact SqL.of kw5
   obtain⟨pg,pb,p5⟩:=hW.pre (f1:=f1++[(n,kd)]) (f2:=f2) eS (by rw [ef,List.append_assoc];rfl) (by simp)
   rw [List.length_append,List.length_singleton] at p5
   have hfn:n ∉ f1.map (·.1):=fun z=>by
    have:=hW.fnd s hsS
    rw [ef,List.map_append,List.nodup_append] at this
    exact this.2.2 _ z _ (List.mem_cons_self ..) rfl
   refine iteN (by rw [show isShB ((Itm.fd n kd).line (nmOf S))=false from isSh_fd hnm];decide) ⟨_,rfl,_,rfl,_,rfl,tl,wa,z,_,sa0,S1,(s.1,f1),n,kd,rfl,kl5,hw5,hws,hnm,hfn,(by show f1.length<=100;omega),hfit,hns,hnd1.1,by omega,fun H6 g6=>?_⟩
   refine⟨_,rfl,_,rfl,_,rfl,tl,wa,z,_,sa0,S1,(s.1,f1),n,kd,rfl,g6 _ _ kl5,hw5.same g6,g6.seq hws,hfit,hns,hnd1.1,by omega,by omega,h8,(by show f1.length<=50;omega),pg,pb,fun y H7 g7 so=>?_⟩
   have g57:=g6.trans g7
   have kl7:=g57 _ _ kl5
   refine⟨_,rfl,_,rfl,tl,_,_,_,rfl,rfl,kl7,ixN_last _ _,?_⟩
   rw [set_last]
   generalize e9:upd H7 tl _=H9
   obtain⟨g9,k9⟩:=chg_facts e9
   exact⟨_,_,_,sa0++[y],_,rfl,(g.trans (But.of (g35.trans g57))).trans g9,k9,((hw5.init.1.same g57).snoc so).but g9 kl7,hst2⟩
 ·obtain⟨o3,o4,o5,sa,T,rfl,g,kl,hw,hst⟩:=z
  rw [zl] at hst
  have eT:=hst.done
  subst eT
  have gH:Same H H':=But.from (g1.trans g2) hq0 g
  rcases List.eq_nil_or_concat T with rfl|⟨T0,s,rfl⟩
  ·exact absurd rfl hne
  ·rw [List.concat_eq_append] at *
   obtain⟨sa0,z,rfl⟩:=snoc_of hw.1
   obtain⟨hw0,dx,t,ps,m1,m2,m3⟩:=hw.init
   have hs:=hW.good.ne T0.length s (by rw [List.getElem?_append_right (Nat.le_refl _),Nat.sub_self];rfl)
   have hps:ps ≠ []:=fun e=>hs (List.length_eq_zero_iff.mp (by rw [← m3.len,e];rfl))
   refine⟨_,rfl,_,rfl,tl,_,_,_,rfl,rfl,SqL.of kl,atI_lastR _ _,z,Ve,_,_,_,rfl,m1,Ue.cl,Ue.na _ (by decide),rfl,true,.inr (.inl ⟨_,m2,by cases ps with|nil=>exact absurd rfl hps|cons _ _=>rfl⟩),iteN (by decide) ⟨_,rfl,?_⟩⟩
   exact fun y dy hy hdy _=>⟨y,dy,tl,_,H',rfl,upd_same,madeS hy hdy,hy,SqL.of kl,fun t H3 g3 k3 k4=>⟨rfl,q y dy t _ H3 (gH.trans g3) k3 k4 (hw.same g3)⟩⟩
theorem ok_law_size {k r:Nat} (F:Fun K "_law_size" "_law_size" s_law_size f fd) {f_law_size:Addr} {fd_law_size:FuncData} (D_law_size:Df K mg "_law_size" f_law_size fd_law_size ["_law_kind_here","_law_shapes_here"]) (G_law_size:FnOk P w K mg base CX0 k f_law_size fd_law_size ["_law_kind_here","_law_shapes_here"] (spLV K vSz r)):FnOk P w K mg base CX0 (k + 2) f fd ["_law_kind_here","_law_shapes_here"] (spLV K vSz (r + 1)):=by
 w_cond sc_law_size
 ·obtain⟨a,sl,kd,S,rfl,_⟩:=h;rfl
 obtain⟨a,sl,kd,S,rfl,hk,hv,hf,hlk,hlx,hg,q⟩:=h
 walk_at "hr"
 refine⟨_,(pss_cons (ps_if (pt_cmpR op_eq (pe_ix ix_tup (pv 0) pe_int (fun _ _=>rfl)) pe_str (nomark _)) (pss_one (ps_ret (pe_ix ix_tup (pv 0) pe_int (fun _ _=>rfl)))) pss_nil)
   (pss_cons (ps_if (pt_cmpR op_eq (pe_ix ix_tup (pv 0) pe_int (fun _ _=>rfl)) pe_str (nomark _)) (pss_one (ps_ret (pe_op op_mul (pe_ix ix_tup (pv 0) pe_int (fun _ _=>rfl)) (pe_call G_law_size hr rfl D_law_size.m D_law_size.k D_law_size.b .nil pass0 (pa_cons (pe_ix ix_tup (pv 0) pe_int (fun _ _=>rfl)) (pa_cons (pv 1) pa_nil)))))) pss_nil)
   (pss_cons (ps_if (pt_cmpR op_eq (pe_ix ix_tup (pv 0) pe_int (fun _ _=>rfl)) pe_str (nomark _)) (pss_one (ps_ret (pe_op op_add pe_int (pe_callB (call_maxL rfl) rfl M.max boot_max (pa_cons (pe_comp ["_law_at"] ["_law_shapes_here"] [1] rfl (pi_list (pe_ix ix_tup (pv 0) pe_int (fun _ _=>rfl))) rfl ⟨rfl,trivial⟩ ⟨⟨rfl,rfl,rfl,_,rfl⟩,trivial⟩ (fun _ _ _ _=>(pg_name (i:=0) (show List.Nodup (["_law_at","_law_shapes_here"]:List Str) from by decide +kernel) rfl (Or.inl rfl))) (fun _ _ _ _=>pif_nil) (fun _ _ _ _=>(pe_call G_law_size hr rfl D_law_size.m D_law_size.k D_law_size.b .nil pass0 (pa_cons (pe_tup (pa_cons pe_str (pa_cons (pv 0) pa_nil))) (pa_cons (pv 1) pa_nil))))) pa_nil))))) pss_nil)
   (pss_one (ps_ret (pe_callB (call_sum rfl) rfl M.sum (show bootBuiltins "sum" = some (.builtin "sum") from by decide +kernel) (pa_cons (pe_comp ["_law_name","_law_inner"] ["_law_shapes_here"] [1] rfl (pi_list (pe_ix ix_tup (pe_ix ix_list (pv 1) (pe_ix ix_tup (pv 0) pe_int (fun _ _=>rfl)) (fun _ _=>rfl)) pe_int (fun _ _=>rfl))) rfl ⟨rfl,trivial⟩ ⟨⟨rfl,rfl,rfl,_,rfl⟩,trivial⟩ (fun _ _ _ _=>(pg_tupK (K:=K) (n:=2) rfl rfl (pgs_cons (pg_name (i:=0) (show List.Nodup (["_law_name","_law_inner","_law_shapes_here"]:List Str) from by decide +kernel) rfl (Or.inl rfl)) (pgs_cons (pg_name (i:=1) (show List.Nodup (["_law_name","_law_inner","_law_shapes_here"]:List Str) from by decide +kernel) rfl (Or.inl rfl)) pgs_nil)))) (fun _ _ _ _=>pif_nil) (fun _ _ _ _=>(pe_call G_law_size hr rfl D_law_size.m D_law_size.k D_law_size.b .nil pass0 (pa_cons (pv 1) (pa_cons (pv 2) pa_nil))))) pa_nil))))))),?_⟩
 have back : 1<=r->∃ r',r=r' + 1:=fun h=>⟨r - 1,by omega⟩
 cases id hlk with
 | @num a w h1=>exact⟨_,rfl,a,_,_,_,rfl,rfl,h1,rfl,rfl,_,rfl,iteP (by decide) ⟨_,rfl,a,_,_,_,rfl,rfl,h1,rfl,q _ (Same.refl _)⟩⟩
 | @many a b n k h1 h2 =>
  have hv' : 1<=r:=hv
  obtain⟨r,rfl⟩:=back hv'
  have hlv:k.lv=0:=by rcases hf.2.2 with⟨w,rfl,_⟩|⟨i,rfl,_⟩ <;> rfl
  refine⟨_,rfl,a,_,_,_,rfl,rfl,h1,rfl,rfl,_,rfl,iteN (by decide) ⟨_,rfl,a,_,_,_,rfl,rfl,h1,rfl,rfl,_,rfl,iteP (by decide) ⟨_,rfl,a,_,_,_,rfl,rfl,h1,rfl,_,rfl,a,_,_,_,rfl,rfl,h1,rfl,_,rfl,b,sl,k,S,rfl,hk.sub,(by omega),hf.sub,h2,hlx,hg,fun H' g=>?_⟩⟩⟩
  refine⟨_,_,rfl,rfl,.inl ⟨by have:=hf.2.1;omega,by have:=hf.2.1;omega⟩,?_⟩
  have q':=q H' g
  rw [show vSz (Kd.many n k) (tabs S)=n * vSz k (tabs S) from rfl,Int.natCast_mul] at q'
  exact q'
 | @pick a l is h1 h2 =>
  have hs:=hf.1
  have hs4:=hf.2.1
  have hne:is ≠ []:=fun z=>by rw [z] at hs;exact absurd hs (by decide)
  have hr3 : 3<=r:=by
   cases is with
   | nil=>exact absurd rfl hne
   | cons i _=>have:=hk i (List.mem_cons_self ..);omega
  obtain⟨r,rfl⟩:=back (by omega)
  have zl:(is.map fun n:Nat=>V.int n).length=is.length:=List.length_map _
  refine⟨_,rfl,a,_,_,_,rfl,rfl,h1,rfl,rfl,_,rfl,iteN (by decide) ⟨_,rfl,a,_,_,_,rfl,rfl,h1,rfl,rfl,_,rfl,iteN (by decide) ⟨_,rfl,a,_,_,_,rfl,rfl,h1,rfl,rfl,_,rfl,iteP (by decide) ⟨_,rfl,a,_,_,_,rfl,rfl,h1,rfl,l,rfl,⟨_,h2⟩,comp_list (xs:=is.map fun n:Nat=>V.int n) (fun j ys H'=>Same H H'/\ys=((is.take j).map fun i=>V.int (vSz (.nest i) (tabs S)))) ⟨Same.refl _,rfl⟩ (fun j ys H' _ z=>⟨z.1.seq h2,by rw [z.2,List.length_map,List.length_take];exact Nat.min_le_left _ _⟩) (small1000 (by omega)) (fun j x ys H' hx z=>?_) (fun ys H' z p hp=>?_)⟩⟩⟩⟩
  ·obtain⟨g,rfl⟩:=z
   obtain⟨i,hi,rfl⟩:=get_nats hx
   have him:=List.mem_of_getElem? hi
   refine⟨_,rfl,szL2,fun t ht=>?_⟩
   generalize e3:upd H' t _=H3
   obtain⟨g3,k3⟩:=new_facts e3 ht
   exact⟨_,rfl,t,sl,.nest i,S,rfl,(by have:=hk i him;show 2 * i + 2<=r;omega),Nat.zero_le _,hf.2.2.2 i him,.nest (SqT.of k3),hlx.same (g.trans g3),hg,fun H4 g4=>⟨⟨(g.trans g3).trans g4,(map_snoc hi).symm⟩,_,rfl⟩⟩
  ·obtain⟨g,rfl⟩:=z
   have g2:=same_new hp (.lst ((is.take (is.map fun n:Nat=>V.int n).length).map fun i=>V.int (vSz (.nest i) (tabs S))))
   have kp:upd H' p (.lst ((is.take (is.map fun n:Nat=>V.int n).length).map fun i=>V.int (vSz (.nest i) (tabs S)))) p=some (.lst (((is.map fun i=>vSz (.nest i) (tabs S)).map fun n:Nat=>(n:Int)).map V.int)):=by
    rw [upd_same,zl,take_len,List.map_map,List.map_map];rfl
   have q':=q _ (g.trans g2)
   refine⟨p,(is.map fun i=>vSz (.nest i) (tabs S)).map fun n:Nat=>(n:Int),rfl,SqL.of kp,(by simpa using hne),fun m h5 h6=>?_⟩
   rw [maxI h5 h6]
   refine⟨_,_,rfl,rfl,?_⟩
   rw [show vSz (Kd.pick is) (tabs S)=1 + maxL (is.map fun i=>vSz (.nest i) (tabs S)) from rfl,Int.natCast_add] at q'
   exact q'
 | @nest a i h1 =>
  have hi:i < S.length:=hf
  have hr2 : 2 * i + 2<=r:=hk
  obtain⟨r,rfl⟩:=back (by omega)
  obtain⟨as,s,l,ps,m1,m2,m3,m4,m5⟩:=hlx.at hi
  have hS:S[i]?=some S[i]:=List.getElem?_eq_getElem hi
  have hfit:=hg.fit i _ hS
  have htab:=tab_at hS fun f hf=>(hfit f hf).1.below
  have zl:(ps.map V.ref).length=S[i].2.length:=by rw [List.length_map];exact m5.len
  refine⟨_,rfl,a,_,_,_,rfl,rfl,h1,rfl,rfl,_,rfl,iteN (by decide) ⟨_,rfl,a,_,_,_,rfl,rfl,h1,rfl,rfl,_,rfl,iteN (by decide) ⟨_,rfl,a,_,_,_,rfl,rfl,h1,rfl,rfl,_,rfl,iteN (by decide) ⟨_,rfl,_,rfl,a,_,_,_,rfl,rfl,h1,rfl,sl,_,_,_,rfl,rfl,m1,at_ref m2,s,_,_,_,rfl,rfl,m3,rfl,l,rfl,⟨_,m4⟩,comp_listM (xs:=ps.map V.ref) (fun j ys H'=>Same H H'/\ys=((S[i].2.take j).map fun f=>V.int (vSz f.2 (tabs S)))) ⟨Same.refl _,rfl⟩ (fun j ys H' _ z=>⟨z.1.seq m4,by rw [z.2,List.length_map,List.length_take];exact Nat.min_le_left _ _⟩) (small1000 (by have:=hg.few i _ hS;omega)) (fun j x ys H' os ho hx z=>?_) (fun ys H' z p hp=>?_)⟩⟩⟩⟩
  ·obtain⟨g,rfl⟩:=z
   obtain⟨o1,o2,rfl⟩:=len2 ho
   obtain⟨u,hu,rfl⟩:=get_refs hx
   obtain⟨nm',kd',kk,hfs,ht,hko⟩:=m5.get hu
   have hm:=hfit _ (List.mem_of_getElem? hfs)
   exact⟨u,_,rfl,g.tp ht,rfl,_,_,rfl,_,_,rfl,rfl,_,rfl,_,rfl,kk,sl,kd',S,rfl,hm.1.rk.mono (by omega),(by have:=kd'.lv_le;omega),hm.1.mono (Nat.le_of_lt hi),hko.same g,hlx.same g,hg,fun H2 g2=>⟨⟨g.trans g2,(map_snoc hfs).symm⟩,[_,_],rfl,rfl⟩⟩
  ·obtain⟨g,rfl⟩:=z
   have g2:=same_new hp (.lst ((S[i].2.take (ps.map V.ref).length).map fun f=>V.int (vSz f.2 (tabs S))))
   have kp:upd H' p (.lst ((S[i].2.take (ps.map V.ref).length).map fun f=>V.int (vSz f.2 (tabs S)))) p=some (.lst (((S[i].2.map fun f=>vSz f.2 (tabs S)).map fun n:Nat=>(n:Int)).map V.int)):=by
    rw [upd_same,zl,take_len,List.map_map,List.map_map];rfl
   have q':=q _ (g.trans g2)
   refine⟨p,(S[i].2.map fun f=>vSz f.2 (tabs S)).map fun n:Nat=>(n:Int),rfl,SqL.of kp,?_⟩
   rw [sumI]
   rw [show vSz (.nest i) (tabs S)=(S[i].2.map fun f=>vSz f.2 (tabs S)).sum from htab.1] at q'
   exact q'
theorem ok_law_depth {k r:Nat} (F:Fun K "_law_depth" "_law_depth" s_law_depth f fd) {f_law_depth:Addr} {fd_law_depth:FuncData} (D_law_depth:Df K mg "_law_depth" f_law_depth fd_law_depth ["_law_kind_here","_law_shapes_here"]) (G_law_depth:FnOk P w K mg base CX0 k f_law_depth fd_law_depth ["_law_kind_here","_law_shapes_here"] (spLV K vDp r)):FnOk P w K mg base CX0 (k + 2) f fd ["_law_kind_here","_law_shapes_here"] (spLV K vDp (r + 1)):=by
 w_cond sc_law_depth
 ·obtain⟨a,sl,kd,S,rfl,_⟩:=h;rfl
 obtain⟨a,sl,kd,S,rfl,hk,hv,hf,hlk,hlx,hg,q⟩:=h
 walk_at "hr"
 refine⟨_,(pss_cons (ps_if (pt_cmpR op_eq (pe_ix ix_tup (pv 0) pe_int (fun _ _=>rfl)) pe_str (nomark _)) (pss_one (ps_ret pe_int)) pss_nil)
   (pss_cons (ps_if (pt_cmpR op_eq (pe_ix ix_tup (pv 0) pe_int (fun _ _=>rfl)) pe_str (nomark _)) (pss_one (ps_ret (pe_call G_law_depth hr rfl D_law_depth.m D_law_depth.k D_law_depth.b .nil pass0 (pa_cons (pe_ix ix_tup (pv 0) pe_int (fun _ _=>rfl)) (pa_cons (pv 1) pa_nil))))) pss_nil)
   (pss_cons (ps_if (pt_cmpR op_eq (pe_ix ix_tup (pv 0) pe_int (fun _ _=>rfl)) pe_str (nomark _)) (pss_one (ps_ret (pe_callB (call_maxL rfl) rfl M.max boot_max (pa_cons (pe_comp ["_law_at"] ["_law_shapes_here"] [1] rfl (pi_list (pe_ix ix_tup (pv 0) pe_int (fun _ _=>rfl))) rfl ⟨rfl,trivial⟩ ⟨⟨rfl,rfl,rfl,_,rfl⟩,trivial⟩ (fun _ _ _ _=>(pg_name (i:=0) (show List.Nodup (["_law_at","_law_shapes_here"]:List Str) from by decide +kernel) rfl (Or.inl rfl))) (fun _ _ _ _=>pif_nil) (fun _ _ _ _=>(pe_call G_law_depth hr rfl D_law_depth.m D_law_depth.k D_law_depth.b .nil pass0 (pa_cons (pe_tup (pa_cons pe_str (pa_cons (pv 0) pa_nil))) (pa_cons (pv 1) pa_nil))))) pa_nil)))) pss_nil)
   (pss_one (ps_ret (pe_op op_add pe_int (pe_callB (call_maxL rfl) rfl M.max boot_max (pa_cons (pe_comp ["_law_name","_law_inner"] ["_law_shapes_here"] [1] rfl (pi_list (pe_ix ix_tup (pe_ix ix_list (pv 1) (pe_ix ix_tup (pv 0) pe_int (fun _ _=>rfl)) (fun _ _=>rfl)) pe_int (fun _ _=>rfl))) rfl ⟨rfl,trivial⟩ ⟨⟨rfl,rfl,rfl,_,rfl⟩,trivial⟩ (fun _ _ _ _=>(pg_tupK (K:=K) (n:=2) rfl rfl (pgs_cons (pg_name (i:=0) (show List.Nodup (["_law_name","_law_inner","_law_shapes_here"]:List Str) from by decide +kernel) rfl (Or.inl rfl)) (pgs_cons (pg_name (i:=1) (show List.Nodup (["_law_name","_law_inner","_law_shapes_here"]:List Str) from by decide +kernel) rfl (Or.inl rfl)) pgs_nil)))) (fun _ _ _ _=>pif_nil) (fun _ _ _ _=>(pe_call G_law_depth hr rfl D_law_depth.m D_law_depth.k D_law_depth.b .nil pass0 (pa_cons (pv 1) (pa_cons (pv 2) pa_nil))))) pa_nil)))))))),?_⟩
 have back : 1<=r->∃ r',r=r' + 1:=fun h=>⟨r - 1,by omega⟩
 cases id hlk with
 | @num a w h1=>exact⟨_,rfl,a,_,_,_,rfl,rfl,h1,rfl,rfl,_,rfl,iteP (by decide) (q _ (Same.refl _))⟩
 | @many a b n k h1 h2 =>
  have hv' : 1<=r:=hv
  obtain⟨r,rfl⟩:=back hv'
  have hlv:k.lv=0:=by rcases hf.2.2 with⟨w,rfl,_⟩|⟨i,rfl,_⟩ <;> rfl
  refine⟨_,rfl,a,_,_,_,rfl,rfl,h1,rfl,rfl,_,rfl,iteN (by decide) ⟨_,rfl,a,_,_,_,rfl,rfl,h1,rfl,rfl,_,rfl,iteP (by decide) ⟨_,rfl,a,_,_,_,rfl,rfl,h1,rfl,_,rfl,b,sl,k,S,rfl,hk.sub,(by omega),hf.sub,h2,hlx,hg,fun H' g=>?_⟩⟩⟩
  exact q H' g
 | @pick a l is h1 h2 =>
  have hs:=hf.1
  have hs4:=hf.2.1
  have hne:is ≠ []:=fun z=>by rw [z] at hs;exact absurd hs (by decide)
  have hr3 : 3<=r:=by
   cases is with
   | nil=>exact absurd rfl hne
   | cons i _=>have:=hk i (List.mem_cons_self ..);omega
  obtain⟨r,rfl⟩:=back (by omega)
  have zl:(is.map fun n:Nat=>V.int n).length=is.length:=List.length_map _
  refine⟨_,rfl,a,_,_,_,rfl,rfl,h1,rfl,rfl,_,rfl,iteN (by decide) ⟨_,rfl,a,_,_,_,rfl,rfl,h1,rfl,rfl,_,rfl,iteN (by decide) ⟨_,rfl,a,_,_,_,rfl,rfl,h1,rfl,rfl,_,rfl,iteP (by decide) ⟨_,rfl,a,_,_,_,rfl,rfl,h1,rfl,l,rfl,⟨_,h2⟩,comp_list (xs:=is.map fun n:Nat=>V.int n) (fun j ys H'=>Same H H'/\ys=((is.take j).map fun i=>V.int (vDp (.nest i) (tabs S)))) ⟨Same.refl _,rfl⟩ (fun j ys H' _ z=>⟨z.1.seq h2,by rw [z.2,List.length_map,List.length_take];exact Nat.min_le_left _ _⟩) (small1000 (by omega)) (fun j x ys H' hx z=>?_) (fun ys H' z p hp=>?_)⟩⟩⟩⟩
  ·obtain⟨g,rfl⟩:=z
   obtain⟨i,hi,rfl⟩:=get_nats hx
   have him:=List.mem_of_getElem? hi
   refine⟨_,rfl,szL2,fun t ht=>?_⟩
   generalize e3:upd H' t _=H3
   obtain⟨g3,k3⟩:=new_facts e3 ht
   exact⟨_,rfl,t,sl,.nest i,S,rfl,(by have:=hk i him;show 2 * i + 2<=r;omega),Nat.zero_le _,hf.2.2.2 i him,.nest (SqT.of k3),hlx.same (g.trans g3),hg,fun H4 g4=>⟨⟨(g.trans g3).trans g4,(map_snoc hi).symm⟩,_,rfl⟩⟩
  ·obtain⟨g,rfl⟩:=z
   have g2:=same_new hp (.lst ((is.take (is.map fun n:Nat=>V.int n).length).map fun i=>V.int (vDp (.nest i) (tabs S))))
   have kp:upd H' p (.lst ((is.take (is.map fun n:Nat=>V.int n).length).map fun i=>V.int (vDp (.nest i) (tabs S)))) p=some (.lst (((is.map fun i=>vDp (.nest i) (tabs S)).map fun n:Nat=>(n:Int)).map V.int)):=by
    rw [upd_same,zl,take_len,List.map_map,List.map_map];rfl
   have q':=q _ (g.trans g2)
   refine⟨p,(is.map fun i=>vDp (.nest i) (tabs S)).map fun n:Nat=>(n:Int),rfl,SqL.of kp,(by simpa using hne),fun m h5 h6=>?_⟩
   rw [maxI h5 h6]
   exact q'
 | @nest a i h1 =>
  have hi:i < S.length:=hf
  have hr2 : 2 * i + 2<=r:=hk
  obtain⟨r,rfl⟩:=back (by omega)
  obtain⟨as,s,l,ps,m1,m2,m3,m4,m5⟩:=hlx.at hi
  have hS:S[i]?=some S[i]:=List.getElem?_eq_getElem hi
  have hfit:=hg.fit i _ hS
  have htab:=tab_at hS fun f hf=>(hfit f hf).1.below
  have zl:(ps.map V.ref).length=S[i].2.length:=by rw [List.length_map];exact m5.len
  refine⟨_,rfl,a,_,_,_,rfl,rfl,h1,rfl,rfl,_,rfl,iteN (by decide) ⟨_,rfl,a,_,_,_,rfl,rfl,h1,rfl,rfl,_,rfl,iteN (by decide) ⟨_,rfl,a,_,_,_,rfl,rfl,h1,rfl,rfl,_,rfl,iteN (by decide) ⟨_,rfl,_,rfl,a,_,_,_,rfl,rfl,h1,rfl,sl,_,_,_,rfl,rfl,m1,at_ref m2,s,_,_,_,rfl,rfl,m3,rfl,l,rfl,⟨_,m4⟩,comp_listM (xs:=ps.map V.ref) (fun j ys H'=>Same H H'/\ys=((S[i].2.take j).map fun f=>V.int (vDp f.2 (tabs S)))) ⟨Same.refl _,rfl⟩ (fun j ys H' _ z=>⟨z.1.seq m4,by rw [z.2,List.length_map,List.length_take];exact Nat.min_le_left _ _⟩) (small1000 (by have:=hg.few i _ hS;omega)) (fun j x ys H' os ho hx z=>?_) (fun ys H' z p hp=>?_)⟩⟩⟩⟩
  ·obtain⟨g,rfl⟩:=z
   obtain⟨o1,o2,rfl⟩:=len2 ho
   obtain⟨u,hu,rfl⟩:=get_refs hx
   obtain⟨nm',kd',kk,hfs,ht,hko⟩:=m5.get hu
   have hm:=hfit _ (List.mem_of_getElem? hfs)
   exact⟨u,_,rfl,g.tp ht,rfl,_,_,rfl,_,_,rfl,rfl,_,rfl,_,rfl,kk,sl,kd',S,rfl,hm.1.rk.mono (by omega),(by have:=kd'.lv_le;omega),hm.1.mono (Nat.le_of_lt hi),hko.same g,hlx.same g,hg,fun H2 g2=>⟨⟨g.trans g2,(map_snoc hfs).symm⟩,[_,_],rfl,rfl⟩⟩
  ·obtain⟨g,rfl⟩:=z
   have g2:=same_new hp (.lst ((S[i].2.take (ps.map V.ref).length).map fun f=>V.int (vDp f.2 (tabs S))))
   have kp:upd H' p (.lst ((S[i].2.take (ps.map V.ref).length).map fun f=>V.int (vDp f.2 (tabs S)))) p=some (.lst (((S[i].2.map fun f=>vDp f.2 (tabs S)).map fun n:Nat=>(n:Int)).map V.int)):=by
    rw [upd_same,zl,take_len,List.map_map,List.map_map];rfl
   have q':=q _ (g.trans g2)
   refine⟨p,(S[i].2.map fun f=>vDp f.2 (tabs S)).map fun n:Nat=>(n:Int),rfl,SqL.of kp,(by simpa using hg.ne i _ hS),fun m h5 h6=>?_⟩
   rw [maxI h5 h6]
   refine⟨_,_,rfl,rfl,?_⟩
   rw [show vDp (.nest i) (tabs S)=1 + maxL (S[i].2.map fun f=>vDp f.2 (tabs S)) from htab.2.1,Int.natCast_add] at q'
   exact q'
theorem ok_law_units {k r:Nat} (F:Fun K "_law_units" "_law_units" s_law_units f fd) {f_law_units:Addr} {fd_law_units:FuncData} (D_law_units:Df K mg "_law_units" f_law_units fd_law_units ["_law_kind_here","_law_shapes_here","_law_path"]) (G_law_units:FnOk P w K mg base CX0 k f_law_units fd_law_units ["_law_kind_here","_law_shapes_here","_law_path"] (spLU K r)) {f_law_size:Addr} {fd_law_size:FuncData} (D_law_size:Df K mg "_law_size" f_law_size fd_law_size ["_law_kind_here","_law_shapes_here"]) (G_law_size:FnOk P w K mg base CX0 k f_law_size fd_law_size ["_law_kind_here","_law_shapes_here"] (spLV K vSz (r + 1))) {f_law_joined:Addr} {fd_law_joined:FuncData} (D_law_joined:Df K mg "_law_joined" f_law_joined fd_law_joined ["_law_path","_law_step"]) (G_law_joined:FnOk P w K mg base CX0 k f_law_joined fd_law_joined ["_law_path","_law_step"] spLJ):FnOk P w K mg base CX0 (k + 2) f fd ["_law_kind_here","_law_shapes_here","_law_path"] (spLU K (r + 1)):=by
 w_cond sc_law_units
 ·obtain⟨a,sl,p,kd,S,rfl,_⟩:=h;rfl
 obtain⟨a,sl,p,kd,S,rfl,hp,hk,hv,hf,hlk,hlx,hg,q⟩:=h
 walk_at "hr"
 refine⟨_,(pss_cons (ps_if (pt_cmpR op_eq (pe_ix ix_tup (pv 0) pe_int (fun _ _=>rfl)) pe_str (nomark _)) (pss_one (ps_ret (pe_lst (pa_cons (pe_tup (pa_cons (pv 2) (pa_cons (pe_ix ix_tup (pv 0) pe_int (fun _ _=>rfl)) (pa_cons pe_str pa_nil)))) pa_nil)))) pss_nil)
   (pss_cons (ps_if (pt_cmpR op_eq (pe_ix ix_tup (pv 0) pe_int (fun _ _=>rfl)) pe_str (nomark _)) (pss_one (ps_ret (pe_lst (pa_cons (pe_tup (pa_cons (pe_call G_law_joined hr rfl D_law_joined.m D_law_joined.k D_law_joined.b .nil pass0 (pa_cons (pv 2) (pa_cons pe_str pa_nil))) (pa_cons pe_int (pa_cons pe_str pa_nil)))) (pa_cons (pe_tup (pa_cons (pv 2) (pa_cons (pe_op op_sub (pe_call G_law_size hr rfl D_law_size.m D_law_size.k D_law_size.b .nil pass0 (pa_cons (pv 0) (pa_cons (pv 1) pa_nil))) pe_int) (pa_cons pe_str pa_nil)))) pa_nil))))) pss_nil)
   (pss_cons (ps_set (i:=3) sc_law_units.nd rfl (by walk_at "o") (pe_lst pa_nil))
   (pss_cons (ps_if (pt_cmpR op_eq (pe_ix ix_tup (pv 0) pe_int (fun _ _=>rfl)) pe_str (nomark _)) (pss_one (ps_for PassesOwn.never rfl (pi_range1 rfl M.range (pa_cons (pe_ix ix_tup (pv 0) pe_int (fun _ _=>rfl)) pa_nil)) (pg_name (i:=4) sc_law_units.nd rfl (Or.inl rfl)) (pss_one (ps_set (i:=3) sc_law_units.nd rfl (by walk_at "o") (pe_op op_cat (pv 3) (pe_call G_law_units hr rfl D_law_units.m D_law_units.k D_law_units.b .nil pass0 (pa_cons (pe_ix ix_tup (pv 0) pe_int (fun _ _=>rfl)) (pa_cons (pv 1) (pa_cons (pe_call G_law_joined hr rfl D_law_joined.m D_law_joined.k D_law_joined.b .nil pass0 (pa_cons (pv 2) (pa_cons (pe_callTy call_str_int rfl M.str boot_str (pa_cons (pv 4) pa_nil)) pa_nil))) pa_nil))))))))) (pss_one (ps_for PassesOwn.never rfl (pi_list (pe_ix ix_tup (pe_ix ix_list (pv 1) (pe_ix ix_tup (pv 0) pe_int (fun _ _=>rfl)) (fun _ _=>rfl)) pe_int (fun _ _=>rfl))) (pg_tup rfl (pgs_cons (pg_name (i:=5) sc_law_units.nd rfl (Or.inl rfl)) (pgs_cons (pg_name (i:=6) sc_law_units.nd rfl (Or.inl rfl)) pgs_nil))) (pss_one (ps_set (i:=3) sc_law_units.nd rfl (by walk_at "o") (pe_op op_cat (pv 3) (pe_call G_law_units hr rfl D_law_units.m D_law_units.k D_law_units.b .nil pass0 (pa_cons (pv 6) (pa_cons (pv 1) (pa_cons (pe_call G_law_joined hr rfl D_law_joined.m D_law_joined.k D_law_joined.b .nil pass0 (pa_cons (pv 2) (pa_cons (pv 5) pa_nil))) pa_nil))))))))))
   (pss_one (ps_ret (pv 3))))))),?_⟩
 have back : 1<=r->∃ r',r=r' + 1:=fun h=>⟨r - 1,by omega⟩
 have bd:=Kd.size_bd hg.sz (by decide) hf
 have lens:((∃ i,kd=.nest i)\/∃ n q,kd=.many n q)->∀ j,(((kd.parts S).take j).flatMap fun f=>un f.2 S (pj p f.1)).length<=6000:=fun hF j=>by
  have h1:(un kd S p).length<=_:=(hg.kd hf).2 p
  rw [Kd.parts_un hg hf hF] at h1
  conv at h1=>lhs;rw [← List.take_append_drop j (kd.parts S)]
  rw [List.flatMap_append,List.length_append] at h1
  omega
 have pjl:∀ y:Str,y.length<=6->(pj p y).length<=p.length + 7:=fun y hy=>by
  have e1:(Str.ofString ".").length=1:=rfl
  unfold pj
  split
  ·omega
  ·rw [strLen_append,strLen_append];omega
 cases id hlk with
 | @num a w h1 =>
  refine⟨_,rfl,a,_,_,_,rfl,rfl,h1,rfl,rfl,_,rfl,iteP (by decide) ⟨_,rfl,_,rfl,a,_,_,_,rfl,rfl,h1,rfl,szL3,fun t ht=>?_⟩⟩
  generalize e1:upd H t _=H1
  obtain⟨g1,k1⟩:=new_facts e1 ht
  refine⟨szL1,fun l hl=>?_⟩
  generalize e2:upd H1 l _=H2
  obtain⟨g2,k2⟩:=new_facts e2 hl
  exact q l H2 (g1.trans g2) (g1.free hl) ⟨[t],k2,.cons (g2.tp (SqT.of k1)) .nil⟩
 | @pick a l is h1 h2 =>
  refine⟨_,rfl,a,_,_,_,rfl,rfl,h1,rfl,rfl,_,rfl,iteN (by decide) ⟨_,rfl,a,_,_,_,rfl,rfl,h1,rfl,rfl,_,rfl,iteP (by decide) ⟨_,rfl,p,_,rfl,(by omega),(by decide),(by decide),szL3,fun t1 ht1=>?_⟩⟩⟩
  generalize e1:upd H t1 _=H1
  obtain⟨g1,k1⟩:=new_facts e1 ht1
  refine⟨_,rfl,_,rfl,_,rfl,a,sl,.pick is,S,rfl,hk,hv,hf,hlk.same g1,hlx.same g1,hg,fun H2 g2=>⟨_,_,rfl,rfl,szL3,fun t2 ht2=>?_⟩⟩
  generalize e3:upd H2 t2 _=H3
  obtain⟨g3,k3⟩:=new_facts e3 ht2
  refine⟨szL2,fun lf hl=>?_⟩
  generalize e4:upd H3 lf _=H4
  obtain⟨g4,k4⟩:=new_facts e4 hl
  have ez:((vSz (Kd.pick is) (tabs S):Nat):Int) - 1=((maxL (is.map fun i=>(tabs S).sz.getD i 0):Nat):Int):=by
   rw [show vSz (Kd.pick is) (tabs S)=1 + maxL (is.map fun i=>(tabs S).sz.getD i 0) from rfl];omega
  have k3':H3 t2=some (.tup [.str p,.int ((vSz (Kd.pick is) (tabs S):Nat) - 1),.str (Str.ofString "pick")]):=k3
  rw [ez] at k3'
  exact q lf H4 (((g1.trans g2).trans g3).trans g4) (((g1.trans g2).trans g3).free hl) ⟨[t1,t2],k4,.cons (((g2.trans g3).trans g4).tp (SqT.of k1)) (.cons (g4.tp (SqT.of k3')) .nil)⟩
 | @many a b n k h1 h2 =>
  have hv' : 1<=r:=hv
  obtain⟨r,rfl⟩:=back hv'
  have hn6:n<=6:=hf.2.1
  have hlv:k.lv=0:=by rcases hf.2.2 with⟨w,rfl,_⟩|⟨i,rfl,_⟩ <;> rfl
  refine⟨_,rfl,a,_,_,_,rfl,rfl,h1,rfl,rfl,_,rfl,iteN (by decide) ⟨_,rfl,a,_,_,_,rfl,rfl,h1,rfl,rfl,_,rfl,iteN (by decide) ⟨szL0,fun l0 hl0=>?_⟩⟩⟩
  generalize e1:upd H l0 _=H1
  obtain⟨g1,k1⟩:=new_facts e1 hl0
  refine⟨_,rfl,a,_,_,_,rfl,rfl,g1.tp h1,rfl,rfl,_,rfl,iteP (by decide) ⟨_,rfl,a,_,_,_,rfl,rfl,g1.tp h1,rfl,n,rfl,by omega,by omega,for_range (n:=n) (fun j σ H'=>∃ (o4 o5 o6:Option V) (lf:Addr),σ = [some (.ref a),some (.ref sl),some (.str p),some (.ref lf),o4,o5,o6]/\Same H H'/\H lf=none/\UL K H' lf ((((Kd.many n k).parts S).take j).flatMap fun f=>un f.2 S (pj p f.1))) ⟨_,_,_,l0,rfl,g1,hl0,[],k1,.nil⟩ (fun j σ H' hj z=>?_) (fun σ H' z=>?_)⟩⟩
  ·obtain⟨o4,o5,o6,lf,rfl,g,hlf,us,ku,ur⟩:=z
   have hps:((Kd.many n k).parts S)[j]?=some (Str.ofString (toString j),k):=by
    show ((List.range n).map _)[j]?=_
    rw [List.getElem?_map,List.getElem?_range hj];rfl
   obtain⟨p1,p2,p3,p4⟩:=Kd.parts_ok hg hf hk (List.mem_of_getElem? hps)
   refine⟨_,rfl,_,rfl,a,_,_,_,rfl,rfl,g.tp h1,rfl,_,rfl,_,rfl,_,rfl,_,rfl,Nat.lt_trans (log2_lt100 (by omega)) (by decide),p,Str.ofString (toString ((0:Int) + (j:Nat))),rfl,by omega,?_,?_,b,sl,pj p (Str.ofString (toString ((0:Int) + (j:Nat)))),k,S,rfl,?_,p1,by omega,p2,h2.same g,hlx.same g,hg,fun l3 H3 g3 hl3 u3=>?_⟩
   ·rw [Int.zero_add];exact Nat.le_trans p4 (by decide)
   ·rw [Int.zero_add];exact p3
   ·rw [Int.zero_add];have:=pjl (Str.ofString (toString j)) p4;show (pj p (Str.ofString (toString j))).length + _<=_;omega
   rw [Int.zero_add] at u3
   obtain⟨us3,k3,ur3⟩:=u3
   have ku3:=g3 _ _ ku
   have h6:=lens (.inr ⟨_,_,rfl⟩) (j + 1)
   rw [fm_snoc hps,List.length_append,← ur.len,show (un k S (pj p (Str.ofString (toString j)))).length=us3.length from ur3.len.symm] at h6
   refine⟨lf,l3,_,_,rfl,rfl,ku3,k3,(by rw [sizeLine_eq,List.length_map,List.length_map];omega),fun l4 hl4=>?_⟩
   generalize e4:upd H3 l4 _=H4
   obtain⟨g4,k4⟩:=new_facts e4 hl4
   refine⟨_,_,_,l4,rfl,(g.trans g3).trans g4,(g.trans g3).free hl4,us++us3,by rw [List.map_append];exact k4,?_⟩
   rw [fm_snoc hps]
   exact (ur.same (g3.trans g4)).app (ur3.same g4)
  ·obtain⟨o4,o5,o6,lf,rfl,g,hlf,u⟩:=z
   refine⟨_,rfl,q lf H' g hlf ?_⟩
   rw [Kd.parts_un hg hf (.inr ⟨_,_,rfl⟩)]
   rw [List.take_of_length_le (by show ((List.range n).map _).length<=n;rw [List.length_map,List.length_range];exact Nat.le_refl _)] at u
   exact u
 | @nest a i h1 =>
  have hi:i < S.length:=hf
  have hr2 : 2 * i + 2<=r:=hk
  obtain⟨r,rfl⟩:=back (by omega)
  obtain⟨as,s,l,ps,m1,m2,m3,m4,m5⟩:=hlx.at hi
  have hS:S[i]?=some S[i]:=List.getElem?_eq_getElem hi
  have ep:(Kd.nest i).parts S=S[i].2:=by show (S.getD i _).2=_;rw [List.getD_eq_getElem?_getD,hS];rfl
  refine⟨_,rfl,a,_,_,_,rfl,rfl,h1,rfl,rfl,_,rfl,iteN (by decide) ⟨_,rfl,a,_,_,_,rfl,rfl,h1,rfl,rfl,_,rfl,iteN (by decide) ⟨szL0,fun l0 hl0=>?_⟩⟩⟩
  generalize e1:upd H l0 _=H1
  obtain⟨g1,k1⟩:=new_facts e1 hl0
  refine⟨_,rfl,a,_,_,_,rfl,rfl,g1.tp h1,rfl,rfl,_,rfl,iteN (by decide) ⟨_,rfl,_,rfl,a,_,_,_,rfl,rfl,g1.tp h1,rfl,sl,_,_,_,rfl,rfl,g1.seq m1,at_ref m2,s,_,_,_,rfl,rfl,g1.tp m3,rfl,l,rfl,⟨_,g1.seq m4⟩,for_list (xs:=ps.map V.ref) (fun j σ H'=>∃ (o4 o5 o6:Option V) (lf:Addr),σ = [some (.ref a),some (.ref sl),some (.str p),some (.ref lf),o4,o5,o6]/\Same H H'/\H lf=none/\UL K H' lf ((((Kd.nest i).parts S).take j).flatMap fun f=>un f.2 S (pj p f.1))) ⟨_,_,_,l0,rfl,g1,hl0,[],k1,.nil⟩ (fun j σ H' _ z=>?_) (fun j x σ H' hx z=>?_) (fun σ H' z=>?_)⟩⟩
  ·obtain⟨o4,o5,o6,lf,rfl,g,_⟩:=z
   exact g.seq m4
  ·obtain⟨o4,o5,o6,lf,rfl,g,hlf,us,ku,ur⟩:=z
   obtain⟨t,ht,rfl⟩:=get_refs hx
   obtain⟨nm',kd',kk,hfs,htt,hko⟩:=m5.get ht
   have hps:((Kd.nest i).parts S)[j]?=some (nm',kd'):=by rw [ep];exact hfs
   obtain⟨p1,p2,p3,p4⟩:=Kd.parts_ok hg hf hk (List.mem_of_getElem? hps)
   have p4':nm'.length<=6:=p4
   have:=pjl nm' p4'
   refine⟨t,_,rfl,g.tp htt,rfl,_,_,rfl,_,_,rfl,rfl,_,rfl,_,rfl,_,rfl,_,rfl,_,rfl,p,nm',rfl,by omega,by omega,p3,kk,sl,pj p nm',kd',S,rfl,by omega,p1,(by have:=kd'.lv_le;omega),p2,hko.same g,hlx.same g,hg,fun l3 H3 g3 hl3 ⟨us3,k3,ur3⟩=>?_⟩
   have ku3:=g3 _ _ ku
   have h6:=lens (.inl ⟨_,rfl⟩) (j + 1)
   rw [fm_snoc hps,List.length_append,← ur.len,← ur3.len] at h6
   refine⟨lf,l3,_,_,rfl,rfl,ku3,k3,(by rw [sizeLine_eq,List.length_map,List.length_map];omega),fun l4 hl4=>?_⟩
   generalize e4:upd H3 l4 _=H4
   obtain⟨g4,k4⟩:=new_facts e4 hl4
   refine⟨_,_,_,l4,rfl,(g.trans g3).trans g4,(g.trans g3).free hl4,us++us3,by rw [List.map_append];exact k4,?_⟩
   rw [fm_snoc hps]
   exact (ur.same (g3.trans g4)).app (ur3.same g4)
  ·obtain⟨o4,o5,o6,lf,rfl,g,hlf,u⟩:=z
   refine⟨_,rfl,q lf H' g hlf ?_⟩
   rw [Kd.parts_un hg hf (.inl ⟨_,rfl⟩)]
   rw [List.take_of_length_le (by rw [ep,List.length_map,m5.len];exact Nat.le_refl _)] at u
   exact u
theorem ok_law_fits {k r:Nat} (F:Fun K "_law_fits" "_law_fits" s_law_fits f fd) {f_law_size:Addr} {fd_law_size:FuncData} (D_law_size:Df K mg "_law_size" f_law_size fd_law_size ["_law_kind_here","_law_shapes_here"]) (G_law_size:FnOk P w K mg base CX0 k f_law_size fd_law_size ["_law_kind_here","_law_shapes_here"] (spLV K vSz (r + 1))) {f_law_units:Addr} {fd_law_units:FuncData} (D_law_units:Df K mg "_law_units" f_law_units fd_law_units ["_law_kind_here","_law_shapes_here","_law_path"]) (G_law_units:FnOk P w K mg base CX0 k f_law_units fd_law_units ["_law_kind_here","_law_shapes_here","_law_path"] (spLU K (r + 1))) {f_law_depth:Addr} {fd_law_depth:FuncData} (D_law_depth:Df K mg "_law_depth" f_law_depth fd_law_depth ["_law_kind_here","_law_shapes_here"]) (G_law_depth:FnOk P w K mg base CX0 k f_law_depth fd_law_depth ["_law_kind_here","_law_shapes_here"] (spLV K vDp (r + 1))):FnOk P w K mg base CX0 (k + 2) f fd ["_law_shapes_here"] (spFits K r):=by
 w_cond sc_law_fits
 ·obtain⟨sl,S,n,rfl,_⟩:=h;rfl
 obtain⟨sl,S,n,rfl,hn,hlx,hg,hr1,h8,q⟩:=h
 walk_at "hr"
 refine⟨_,(pss_cons (ps_set (i:=1) sc_law_fits.nd rfl (by walk_at "o") (pe_tup (pa_cons pe_str (pa_cons (pe_op op_sub (pe_callB call_len_seq rfl M.len PySem.boot_len (pa_cons (pv 0) pa_nil)) pe_int) pa_nil))))
   (pss_cons (ps_if (PW.pt (pw_or (pt_cmpR op_gt (pe_call G_law_size hr rfl D_law_size.m D_law_size.k D_law_size.b .nil pass0 (pa_cons (pv 1) (pa_cons (pv 0) pa_nil))) pe_int (nomark _)) (pw_or1 (pt_cmpR op_gt (pe_callB call_len_seq rfl M.len PySem.boot_len (pa_cons (pe_call G_law_units hr rfl D_law_units.m D_law_units.k D_law_units.b .nil pass0 (pa_cons (pv 1) (pa_cons (pv 0) (pa_cons pe_str pa_nil)))) pa_nil)) pe_int (nomark _))))) (pss_one (ps_ret pe_bl)) pss_nil)
   (pss_one (ps_ret (pe_cmpR op_le (pe_call G_law_depth hr rfl D_law_depth.m D_law_depth.k D_law_depth.b .nil pass0 (pa_cons (pv 1) (pa_cons (pv 0) pa_nil))) pe_int (nomark _)))))),?_⟩
 obtain⟨as,ha,hW⟩:=id hlx
 have hal:((as.map V.ref).length:Int) - 1=((n:Nat):Int):=by rw [List.length_map,hW.len,hn];omega
 refine⟨_,rfl,sl,_,rfl,.inl ha,_,_,rfl,rfl,szL2,fun t ht=>?_⟩
 generalize e1:upd H t _=H1
 obtain⟨g1,k0⟩:=new_facts e1 ht
 have k1:H1 t=some (.tup [.str (Str.ofString "shape"),.int (((as.map V.ref).length:Int) - 1)]):=k0
 rw [hal] at k1
 have hnS:(Kd.nest n).Fit S.length:=by show n < S.length;omega
 have lk:LK K H1 t (.nest n):=.nest (SqT.of k1)
 refine⟨_,rfl,_,rfl,t,sl,.nest n,S,rfl,hr1,Nat.zero_le _,hnS,lk,hlx.same g1,hg,fun H2 g2=>⟨_,_,rfl,rfl,_,rfl,ite2 (fun c=>iteP rfl (q false H2 (g1.trans g2) (fun z=>by cases z))) (fun c=>?_)⟩⟩
 refine⟨_,rfl,_,rfl,t,sl,Str.empty,.nest n,S,rfl,(by show 0 + 8 * r<=200;omega),hr1,Nat.zero_le _,hnS,lk.same g2,hlx.same (g1.trans g2),hg,fun l H3 g3 hl ⟨us,ku,ur⟩=>⟨l,_,rfl,.inl (SqL.of ku),_,_,rfl,rfl,_,rfl,ite2 (fun c2=>q false H3 ((g1.trans g2).trans g3) (fun z=>by cases z)) (fun c2=>?_)⟩⟩
 refine⟨_,rfl,_,rfl,t,sl,.nest n,S,rfl,hr1,Nat.zero_le _,hnS,lk.same (g2.trans g3),hlx.same ((g1.trans g2).trans g3),hg,fun H4 g4=>⟨_,_,rfl,rfl,?_⟩⟩
 refine q _ H4 (((g1.trans g2).trans g3).trans g4) fun c3=>?_
 have c1':¬ (64:Int) < ((vSz (Kd.nest n) (tabs S):Nat):Int):=fun z=>c (decide_eq_true z)
 have c2':¬ (40:Int) < (((us.map V.ref).length:Nat):Int):=fun z=>c2 (decide_eq_true z)
 have c3':((vDp (Kd.nest n) (tabs S):Nat):Int)<=4:=of_decide_eq_true c3
 rw [List.length_map,ur.len] at c2'
 exact⟨by show vSz (Kd.nest n) (tabs S)<=64;omega,by omega,by show vDp (Kd.nest n) (tabs S)<=4;omega⟩
theorem ok_law_kind {k:Nat} (F:Fun K "_law_kind" "_law_kind" s_law_kind f fd) {f_law_take:Addr} {fd_law_take:FuncData} (D_law_take:Df K mg "_law_take" f_law_take fd_law_take ["_law_box_here","_law_many"]) (G_law_take:FnOk P w K mg base CX0 k f_law_take fd_law_take ["_law_box_here","_law_many"] spTake):FnOk P w K mg base CX0 (k + 2) f fd ["_law_box_here","_law_known"] (spLKd K):=by
 w_cond sc_law_kind
 ·obtain⟨p,n,xs,rfl,_⟩:=h;rfl
 obtain⟨p,n,xs,rfl,hn8,hs,hpx,hal,q⟩:=h
 walk_at "hr"
 refine⟨_,(pss_cons (ps_set (i:=2) sc_law_kind.nd rfl (by walk_at "o") (pe_call G_law_take hr rfl D_law_take.m D_law_take.k D_law_take.b .nil pass0 (pa_cons (pv 0) (pa_cons pe_int pa_nil))))
   (pss_cons (ps_set (i:=3) sc_law_kind.nd rfl (by walk_at "o") (pe_op op_add pe_int (pe_call G_law_take hr rfl D_law_take.m D_law_take.k D_law_take.b .nil pass0 (pa_cons (pv 0) (pa_cons pe_int pa_nil)))))
   (pss_cons (ps_if (PW.pt (pw_or (pt_cmpR op_lt (pv 2) pe_int (nomark _)) (pw_or1 (pt_cmpR op_eq (pv 1) pe_int (nomark _))))) (pss_one (ps_ret (pe_ix ix_list (pe_lst (pa_cons (pe_tup (pa_cons pe_str (pa_cons (pv 3) pa_nil))) (pa_cons (pe_tup (pa_cons pe_str (pa_cons (pe_op op_add pe_int (pe_call G_law_take hr rfl D_law_take.m D_law_take.k D_law_take.b .nil pass0 (pa_cons (pv 0) (pa_cons pe_int pa_nil)))) (pa_cons (pe_tup (pa_cons pe_str (pa_cons (pv 3) pa_nil))) pa_nil)))) pa_nil))) (pe_callTy call_int_bl rfl M.int boot_int (pa_cons (pe_cmpR op_eq (pv 2) pe_int (nomark _)) pa_nil)) (fun _ _=>rfl)))) pss_nil)
   (pss_cons (ps_set (i:=4) sc_law_kind.nd rfl (by walk_at "o") (pe_call G_law_take hr rfl D_law_take.m D_law_take.k D_law_take.b .nil pass0 (pa_cons (pv 0) (pa_cons (pv 1) pa_nil))))
   (pss_cons (ps_if (pt_cmpR op_lt (pv 2) pe_int (nomark _)) (pss_one (ps_ret (pe_tup (pa_cons pe_str (pa_cons (pv 4) pa_nil))))) pss_nil)
   (pss_cons (ps_if (pt_cmpR op_eq (pv 2) pe_int (nomark _)) (pss_one (ps_ret (pe_tup (pa_cons pe_str (pa_cons (pe_op op_add pe_int (pe_call G_law_take hr rfl D_law_take.m D_law_take.k D_law_take.b .nil pass0 (pa_cons (pv 0) (pa_cons pe_int pa_nil)))) (pa_cons (pe_tup (pa_cons pe_str (pa_cons (pv 4) pa_nil))) pa_nil)))))) pss_nil)
   (pss_cons (ps_if (pt_cmpR op_eq (pv 1) pe_int (nomark _)) (pss_one (ps_ret (pe_tup (pa_cons pe_str (pa_cons (pv 3) pa_nil))))) pss_nil)
   (pss_one (ps_ret (pe_tup (pa_cons pe_str (pa_cons (pe_comp ["_law_k"] ["_law_known","_law_at"] [1,4] rfl (pi_range1 rfl M.range (pa_cons (pe_callB (call_min2 rfl) rfl M.min boot_min (pa_cons (pv 1) (pa_cons (pe_op op_add pe_int (pe_call G_law_take hr rfl D_law_take.m D_law_take.k D_law_take.b .nil pass0 (pa_cons (pv 0) (pa_cons pe_int pa_nil)))) pa_nil))) pa_nil)) rfl ⟨rfl,⟨rfl,trivial⟩⟩ ⟨⟨rfl,rfl,rfl,_,rfl⟩,⟨⟨rfl,rfl,rfl,_,rfl⟩,trivial⟩⟩ (fun _ _ _ _=>(pg_name (i:=0) (show List.Nodup (["_law_k","_law_known","_law_at"]:List Str) from by decide +kernel) rfl (Or.inl rfl))) (fun _ _ _ _=>pif_nil) (fun _ _ _ _=>(pe_op op_mod (pe_op op_add (pv 2) (pv 0)) (pv 1)))) pa_nil)))))))))))),?_⟩
 refine⟨_,rfl,p,8,rfl,by decide,by decide,hs,fun v1 H1 hv1 d1=>⟨_,rfl,p,4,rfl,by decide,by decide,d1.1,fun v2 H2 hv2 d2=>⟨_,_,rfl,rfl,?_⟩⟩⟩
 have dd:=d1.trans d2
 have al2:=Al.drawn hal dd
 have ew:(1:Int) + (v2:Nat)=((1 + v2:Nat):Int):=by omega
 have tup:∀ {H0 H1:Hp} {t:Addr} {o:HO},Al xs H0->H0 t=none->upd H0 t o=H1->Al xs H1/\Same H0 H1/\offs xs H1 t=some o:=fun al ht e=>by
  obtain⟨g,k⟩:=new_facts e ht
  exact⟨al.same g,g,offs_at (al.new ht) k⟩
 dsimp only [gName]
 refine joinC (decide (v1 < 3\/n=0)) (H':=H2) ?_ (fun Q' hQ=>?_)
 ·by_cases hc:v1 < 3\/n=0
  ·refine iteP (decide_eq_true hc) ⟨_,rfl,szL2,fun t1 ht1=>?_⟩
   generalize e3:upd H2 t1 _=H3
   obtain⟨al3,g3,k3⟩:=tup al2 ht1 e3
   refine⟨_,rfl,p,6,rfl,by decide,by decide,Same.st3 g3 d2.1,fun v3 H4 hv3 d4=>⟨_,_,rfl,rfl,_,rfl,szL2,fun t2 ht2=>?_⟩⟩
   have al4:=Al.drawn al3 d4
   have k34:=d4.offs hpx _ _ k3
   generalize e5:upd H4 t2 _=H5
   obtain⟨al5,g5,k5⟩:=tup al4 ht2 e5
   refine⟨szL3,fun t3 ht3=>?_⟩
   generalize e6:upd H5 t3 _=H6
   obtain⟨al6,g6,k6⟩:=tup al5 ht3 e6
   refine⟨szL2,fun l hl=>?_⟩
   generalize e7:upd H6 l _=H7
   obtain⟨g7,k7⟩:=new_facts e7 hl
   have D7:Drawn p H H7:=(((dd.keep g3).trans d4).keep ((g5.trans g6).trans g7))
   have s57:Same (offs xs H5) (offs xs H7):=offs_mono (g6.trans g7)
   have s67:Same (offs xs H6) (offs xs H7):=offs_mono g7
   have s47:Same (offs xs H4) (offs xs H7):=offs_mono ((g5.trans g6).trans g7)
   rw [ew] at k34 k5
   have e3':(1:Int) + (v3:Nat)=((1 + v3:Nat):Int):=by omega
   dsimp only at k6
   rw [e3'] at k6
   by_cases h2:v1=2
   ·refine⟨_,rfl,rfl,_,rfl,l,_,_,.ref t3,rfl,rfl,SqL.of k7,(by rw [if_pos (by rw [h2];decide)];rfl),q t3 (.many (1 + v3) (.num (1 + v2))) H7 D7 ⟨by omega,by omega,.inl ⟨1 + v2,rfl,by omega,by omega⟩⟩ (.many (SqT.of (s67 _ _ k6)) (.num (SqT.of (s57 _ _ k5))))⟩
   ·refine⟨_,rfl,rfl,_,rfl,l,_,_,.ref t1,rfl,rfl,SqL.of k7,(by rw [if_neg (by simp;omega)];rfl),q t1 (.num (1 + v2)) H7 D7 ⟨by omega,by omega⟩ (.num (SqT.of (s47 _ _ k34)))⟩
  ·have hv3 : 3<=v1:=by omega
   have hn0 : 0 < n:=by omega
   refine iteN (by rw [decide_eq_false hc];decide) ⟨_,rfl,_,rfl,p,n,rfl,by omega,by omega,dd.1,fun v3 H3 hv3' d3=>?_⟩
   have d23:=dd.trans d3
   have al3:=Al.drawn al2 d3
   refine⟨_,rfl,_,_,rfl,rfl,_,rfl,ite2 (fun c=>?_) (fun c=>?_)⟩
   ·refine⟨_,rfl,szL2,fun t ht=>?_⟩
    generalize e4:upd H3 t _=H4
    obtain⟨al4,g4,k4⟩:=tup al3 ht e4
    exact q t (.nest v3) H4 (d23.keep g4) (by show v3 < n;omega) (.nest (SqT.of k4))
   ·refine⟨_,rfl,rfl,_,rfl,ite2 (fun c=>?_) (fun c=>?_)⟩
    ·refine⟨_,rfl,p,6,rfl,by decide,by decide,d3.1,fun v4 H4 hv4 d4=>⟨_,_,rfl,rfl,_,rfl,szL2,fun t2 ht2=>?_⟩⟩
     have al4:=Al.drawn al3 d4
     generalize e5:upd H4 t2 _=H5
     obtain⟨al5,g5,k5⟩:=tup al4 ht2 e5
     refine⟨szL3,fun t3 ht3=>?_⟩
     generalize e6:upd H5 t3 _=H6
     obtain⟨al6,g6,k6⟩:=tup al5 ht3 e6
     have e4':(1:Int) + (v4:Nat)=((1 + v4:Nat):Int):=by omega
     dsimp only at k6
     rw [e4'] at k6
     exact q t3 (.many (1 + v4) (.nest v3)) H6 ((d23.trans d4).keep (g5.trans g6)) ⟨by omega,by omega,.inr ⟨v3,rfl,by omega⟩⟩ (.many (SqT.of k6) (.nest (SqT.of (offs_mono g6 _ _ k5))))
    ·refine⟨_,rfl,rfl,_,rfl,ite2 (fun c=>?_) (fun c=>?_)⟩
     ·refine⟨_,rfl,szL2,fun t ht=>?_⟩
      generalize e4:upd H3 t _=H4
      obtain⟨al4,g4,k4⟩:=tup al3 ht e4
      rw [ew] at k4
      exact q t (.num (1 + v2)) H4 (d23.keep g4) ⟨by omega,by omega⟩ (.num (SqT.of k4))
     ·have hn1:n ≠ 1:=fun z=>c (by rw [z];decide)
      refine⟨_,rfl,_,rfl,p,3,rfl,by decide,by decide,d3.1,fun v4 H4 hv4 d4=>⟨_,_,rfl,rfl,_,_,rfl,?_⟩⟩
      have al4:=Al.drawn al3 d4
      obtain⟨m,hm,hm2,hm4,hmn⟩ : ∃ m:Nat,(if (2:Int) + (v4:Nat) < (n:Nat) then (2:Int) + (v4:Nat) else (n:Nat))=(m:Nat)/\2<=m/\m<=4/\m<=n:=by
       by_cases z:(2:Int) + (v4:Nat) < (n:Nat)
       ·exact⟨2 + v4,by rw [if_pos z];omega,by omega,by omega,by omega⟩
       ·exact⟨n,by rw [if_neg z],by omega,by omega,Nat.le_refl _⟩
      refine⟨_,rfl,(by rw [hm];omega),(by rw [hm];omega),?_⟩
      rw [hm]
      refine comp_range (n:=m) (fun j ys H'=>H'=H4/\ys=((List.range j).map fun k=>(v3 + k) % n).map fun i:Nat=>V.int i) ⟨rfl,rfl⟩ (fun j ys H' _ z=>by rw [z.2,List.length_map,List.length_map,List.length_range];exact Nat.le_refl _) (small1000 (by omega)) (fun j ys H' hj z=>?_) (fun ys H' z l hl=>?_)
      ·obtain⟨rfl,rfl⟩:=z
       refine⟨_,rfl,_,rfl,_,_,rfl,rfl,_,rfl,_,_,rfl,rfl,(by show (0:Int) < (n:Nat);omega),⟨rfl,?_⟩,_,rfl⟩
       rw [List.range_succ,List.map_append,List.map_append]
       congr 1
       show [V.int (((v3:Nat) + (0 + (j:Nat))) % (n:Nat))]=[V.int (((v3 + j) % n:Nat):Int)]
       congr 2
       rw [Int.zero_add,← Int.natCast_add]
       first|exact (Int.natCast_emod _ _).symm|exact (Int.ofNat_emod _ _).symm|rfl
      ·obtain⟨rfl,rfl⟩:=z
       generalize e5:upd H' l _=H5
       obtain⟨al5,g5,k5⟩:=tup al4 hl e5
       refine⟨szL2,fun t ht=>?_⟩
       generalize e6:upd H5 t _=H6
       obtain⟨al6,g6,k6⟩:=tup al5 ht e6
       refine q t (.pick ((List.range m).map fun k=>(v3 + k) % n)) H6 ((d23.trans d4).keep (g5.trans g6)) ⟨by rw [List.length_map,List.length_range];exact hm2,by rw [List.length_map,List.length_range];exact hm4,mod_nodup hmn,fun i hi=>?_⟩ (.pick (SqT.of k6) (SqL.of (offs_mono g6 _ _ k5)))
       obtain⟨k,_,rfl⟩:=List.mem_map.mp hi
       exact Nat.mod_lt _ hn0
 ·refine⟨_,rfl,_,_,rfl,rfl,_,rfl,ite2 (fun c=>?_) (fun c=>?_)⟩
  ·have c':(v1:Int) < 3:=of_decide_eq_true c
   rw [decide_eq_true (show v1 < 3\/n=0 from .inl (by omega))] at hQ
   exact hQ
  ·have c':¬ (v1:Int) < 3:=fun z=>c (decide_eq_true z)
   refine⟨_,rfl,rfl,_,rfl,?_⟩
   rw [show decide (V.int (n:Nat)=V.int 0)=decide (v1 < 3\/n=0) by
    by_cases z:n=0
    ·rw [decide_eq_true (show v1 < 3\/n=0 from .inr z),z];decide
    ·rw [decide_eq_false (show ¬ (v1 < 3\/n=0) by omega),decide_eq_false];intro e;injection e with e;omega]
   exact hQ
theorem ok_law_kind_text {k r:Nat} (F:Fun K "_law_kind_text" "_law_kind_text" s_law_kind_text f fd) {f_law_kind_text:Addr} {fd_law_kind_text:FuncData} (D_law_kind_text:Df K mg "_law_kind_text" f_law_kind_text fd_law_kind_text ["_law_kind_here","_law_shapes_here"]) (G_law_kind_text:FnOk P w K mg base CX0 k f_law_kind_text fd_law_kind_text ["_law_kind_here","_law_shapes_here"] (spKT K r)):FnOk P w K mg base CX0 (k + 2) f fd ["_law_kind_here","_law_shapes_here"] (spKT K (r + 1)):=by
 w_cond sc_law_kind_text
 ·obtain⟨a,sl,kd,S,rfl,_⟩:=h;rfl
 obtain⟨a,sl,kd,S,rfl,hlv,hf,hn,hlk,hlx,q⟩:=h
 walk_at "hr"
 refine⟨_,(pss_cons (ps_if (pt_cmpR op_eq (pe_ix ix_tup (pv 0) pe_int (fun _ _=>rfl)) pe_str (nomark _)) (pss_one (ps_ret (pe_op op_add_str pe_str (pe_callTy call_str_int rfl M.str boot_str (pa_cons (pe_ix ix_tup (pv 0) pe_int (fun _ _=>rfl)) pa_nil))))) pss_nil)
   (pss_cons (ps_if (pt_cmpR op_eq (pe_ix ix_tup (pv 0) pe_int (fun _ _=>rfl)) pe_str (nomark _)) (pss_one (ps_ret (pe_op op_add_str (pe_op op_add_str (pe_op op_add_str pe_str (pe_callTy call_str_int rfl M.str boot_str (pa_cons (pe_ix ix_tup (pv 0) pe_int (fun _ _=>rfl)) pa_nil))) pe_str) (pe_call G_law_kind_text hr rfl D_law_kind_text.m D_law_kind_text.k D_law_kind_text.b .nil pass0 (pa_cons (pe_ix ix_tup (pv 0) pe_int (fun _ _=>rfl)) (pa_cons (pv 1) pa_nil)))))) pss_nil)
   (pss_cons (ps_if (pt_cmpR op_eq (pe_ix ix_tup (pv 0) pe_int (fun _ _=>rfl)) pe_str (nomark _)) (pss_one (ps_ret (pe_bm PySem.F.plainAttrs_str PySem.F.slot_str_join PySem.F.type_str_join mt_joinT pe_str (pa_cons (pe_op op_cat (pe_lst (pa_cons pe_str pa_nil)) (pe_comp ["_law_at"] ["_law_shapes_here"] [1] rfl (pi_list (pe_ix ix_tup (pv 0) pe_int (fun _ _=>rfl))) rfl ⟨rfl,trivial⟩ ⟨⟨rfl,rfl,rfl,_,rfl⟩,trivial⟩ (fun _ _ _ _=>(pg_name (i:=0) (show List.Nodup (["_law_at","_law_shapes_here"]:List Str) from by decide +kernel) rfl (Or.inl rfl))) (fun _ _ _ _=>pif_nil) (fun _ _ _ _=>(pe_ix (ix_tupK K rfl) (pe_ix (ix_listK K rfl) (pv 1) (pv 0) (fun _ _=>rfl)) pe_int (fun _ _=>rfl))))) pa_nil)))) pss_nil)
   (pss_one (ps_ret (pe_ix ix_tup (pe_ix ix_list (pv 1) (pe_ix ix_tup (pv 0) pe_int (fun _ _=>rfl)) (fun _ _=>rfl)) pe_int (fun _ _=>rfl))))))),?_⟩
 have lg:∀ i:Nat,i<=9->(((i:Nat):Int)).natAbs.log2 < 1920:=fun i hi=>Nat.lt_trans (log2_lt100 (by omega)) (by decide)
 have jc:∀ (x:Str) (ys:List Str),ys ≠ []->Str.join L2.spS (x::ys)=x++L2.spS++Str.join L2.spS ys:=fun x ys h=>join_cons h
 obtain⟨w6,w5⟩:=words_len hn hf
 cases id hlk with
 | @num a w h1 =>
  have hw:w<=4:=hf.2
  have d2:=(dig (w:=w) (by omega)).2.1
  refine⟨_,rfl,a,_,_,_,rfl,rfl,h1,rfl,rfl,_,rfl,iteP (by decide) ⟨_,rfl,a,_,_,_,rfl,rfl,h1,rfl,_,rfl,lg w (by omega),_,_,rfl,rfl,(by show 4 + (Str.ofString (toString ((w:Nat):Int))).length<=sizeLine;rw [d2];decide),?_⟩⟩
  have q':=q H (Same.refl _)
  rw [show (Kd.num w).words (nmOf S)=[Str.ofString "num",Str.ofString (toString ((w:Nat):Int))] from rfl,jc _ _ (by simp)] at q'
  exact q'
 | @many a b n k h1 h2 =>
  have hn6:n<=6:=hf.2.1
  have d2:=(dig (w:=n) (by omega)).2.1
  have hlk0:k.lv=0:=by rcases hf.2.2 with⟨w,rfl,_⟩|⟨i,rfl,_⟩ <;> rfl
  have kl:(Str.join L2.spS (k.words (nmOf S))).length<=100:=by
   obtain⟨v6,v5⟩:=words_len hn hf.sub
   have h3:(Str.join L2.spS (k.words (nmOf S))).length<=_:=join_len (c:=32) (m:=6) v6
   omega
  refine⟨_,rfl,a,_,_,_,rfl,rfl,h1,rfl,rfl,_,rfl,iteN (by decide) ⟨_,rfl,a,_,_,_,rfl,rfl,h1,rfl,rfl,_,rfl,iteP (by decide) ⟨_,rfl,a,_,_,_,rfl,rfl,h1,rfl,_,rfl,lg n (by omega),_,_,rfl,rfl,(by show 4 + (Str.ofString (toString ((n:Nat):Int))).length<=sizeLine;rw [d2];decide),_,_,rfl,rfl,(by rw [sizeLine_eq,strLen_append];show 4 + (Str.ofString (toString ((n:Nat):Int))).length + 1<=_;omega),_,rfl,a,_,_,_,rfl,rfl,h1,rfl,_,rfl,b,sl,k,S,rfl,(by rw [hlk0];have : 1 < r + 1:=hlv;omega),hf.sub,hn,h2,hlx,fun H' g=>⟨_,_,rfl,rfl,(by rw [sizeLine_eq,strLen_append,strLen_append];show 4 + (Str.ofString (toString ((n:Nat):Int))).length + 1 + _<=_;omega),?_⟩⟩⟩⟩
  have q':=q H' g
  rw [show (Kd.many n k).words (nmOf S)=Str.ofString "row" :: Str.ofString (toString ((n:Nat):Int))::k.words (nmOf S) from rfl,jc _ _ (by simp),jc _ _ (Kd.words_ne _ _)] at q'
  rw [Str.append_assoc,Str.append_assoc]
  rw [Str.append_assoc,Str.append_assoc,← Str.append_assoc (Str.ofString "row")] at q'
  exact q'
 | @pick a l is h1 h2 =>
  have hs4:=hf.2.1
  have zl:(is.map fun n:Nat=>V.int n).length=is.length:=List.length_map _
  refine⟨_,rfl,a,_,_,_,rfl,rfl,h1,rfl,rfl,_,rfl,iteN (by decide) ⟨_,rfl,a,_,_,_,rfl,rfl,h1,rfl,rfl,_,rfl,iteN (by decide) ⟨_,rfl,a,_,_,_,rfl,rfl,h1,rfl,rfl,_,rfl,iteP (by decide) ⟨rfl,szL1,fun l1 hl1=>?_⟩⟩⟩⟩
  generalize e1:upd H l1 _=H1
  obtain⟨g1,k1⟩:=new_facts e1 hl1
  refine⟨_,rfl,a,_,_,_,rfl,rfl,g1.tp h1,rfl,l,rfl,⟨_,g1.seq h2⟩,comp_list (xs:=is.map fun n:Nat=>V.int n) (fun j ys H'=>H'=H1/\ys=((is.take j).map (nmOf S)).map V.str) ⟨rfl,rfl⟩ (fun j ys H' _ z=>⟨by rw [z.1];exact g1.seq h2,by rw [z.2,List.length_map,List.length_map,List.length_take];exact Nat.min_le_left _ _⟩) (small1000 (by omega)) (fun j x ys H' hx z=>?_) (fun ys H' z p hp=>?_)⟩
  ·obtain⟨rfl,rfl⟩:=z
   obtain⟨i,hi,rfl⟩:=get_nats hx
   have hiS:=hf.2.2.2 i (List.mem_of_getElem? hi)
   obtain⟨as,s,l',ps,m1,m2,m3,m4,m5⟩:=hlx.at hiS
   refine⟨_,rfl,_,rfl,sl,_,_,_,rfl,rfl,g1.seq m1,at_ref m2,s,_,_,_,rfl,rfl,g1.tp m3,rfl,⟨rfl,?_⟩,_,rfl⟩
   rw [map_snoc hi,List.map_append,nmOf_get (List.getElem?_eq_getElem hiS)];rfl
  ·obtain⟨rfl,rfl⟩:=z
   rw [zl,take_len]
   generalize e2:upd H' p _=H2
   obtain⟨g2,k2⟩:=new_facts e2 hp
   refine⟨l1,p,_,_,rfl,rfl,g2 _ _ k1,k2,(by rw [sizeLine_eq,List.length_map,List.length_map];simp;omega),fun l3 hl3=>?_⟩
   generalize e3:upd H2 l3 _=H3
   obtain⟨g3,k3⟩:=new_facts e3 hl3
   refine⟨_,l3,Str.ofString "pick" :: is.map (nmOf S),rfl,rfl,SqL.of k3,?_,q H3 ((g1.trans g2).trans g3)⟩
   have hsum:((Str.ofString "pick" :: is.map (nmOf S)).map (·.length)).sum<=(Str.ofString "pick" :: is.map (nmOf S)).length * 6:=sum_le w6
   have hl5:(Str.ofString "pick" :: is.map (nmOf S)).length<=5:=w5
   have h1l:(Str.ofString " ").length=1:=rfl
   rw [h1l]
   omega
 | @nest a i h1 =>
  obtain⟨as,s,l',ps,m1,m2,m3,m4,m5⟩:=hlx.at hf
  have q':=q H (Same.refl _)
  rw [show Str.join L2.spS ((Kd.nest i).words (nmOf S))=nmOf S i from rfl,nmOf_get (List.getElem?_eq_getElem hf)] at q'
  exact⟨_,rfl,a,_,_,_,rfl,rfl,h1,rfl,rfl,_,rfl,iteN (by decide) ⟨_,rfl,a,_,_,_,rfl,rfl,h1,rfl,rfl,_,rfl,iteN (by decide) ⟨_,rfl,a,_,_,_,rfl,rfl,h1,rfl,rfl,_,rfl,iteN (by decide) ⟨_,rfl,_,rfl,a,_,_,_,rfl,rfl,h1,rfl,sl,_,_,_,rfl,rfl,m1,at_ref m2,s,_,_,_,rfl,rfl,m3,rfl,q'⟩⟩⟩⟩
theorem ok_law_text {k:Nat} (F:Fun K "_law_text" "_law_text" s_law_text f fd) {f_law_kind_text:Addr} {fd_law_kind_text:FuncData} (D_law_kind_text:Df K mg "_law_kind_text" f_law_kind_text fd_law_kind_text ["_law_kind_here","_law_shapes_here"]) (G_law_kind_text:FnOk P w K mg base CX0 k f_law_kind_text fd_law_kind_text ["_law_kind_here","_law_shapes_here"] (spKT K 2)):FnOk P w K mg base CX0 (k + 2) f fd ["_law_shapes_here"] (spTx K):=by
 w_cond sc_law_text
 ·obtain⟨sl,S,rfl,_⟩:=h;rfl
 obtain⟨sl,S,rfl,hlx,hW,hne,q⟩:=h
 walk_at "hr"
 refine⟨_,(pss_cons (ps_set (i:=1) sc_law_text.nd rfl (by walk_at "o") (pe_lst pa_nil))
   (pss_cons (ps_for PassesOwn.never rfl (pi_list (pv 0)) (pg_tup rfl (pgs_cons (pg_name (i:=2) sc_law_text.nd rfl (Or.inl rfl)) (pgs_cons (pg_name (i:=3) sc_law_text.nd rfl (Or.inl rfl)) pgs_nil))) (pss_cons (ps_expr (pe_bm PySem.F.plainAttrs_list PySem.F.slot_list_append PySem.F.type_list_append mt_append (pv 1) (pa_cons (pe_op op_add_str pe_str (pv 2)) pa_nil)))
   (pss_one (ps_for PassesOwn.never rfl (pi_list (pv 3)) (pg_tup rfl (pgs_cons (pg_name (i:=4) sc_law_text.nd rfl (Or.inl rfl)) (pgs_cons (pg_name (i:=5) sc_law_text.nd rfl (Or.inl rfl)) pgs_nil))) (pss_one (ps_expr (pe_bm PySem.F.plainAttrs_list PySem.F.slot_list_append PySem.F.type_list_append mt_append (pv 1) (pa_cons (pe_op op_add_str (pe_op op_add_str (pv 4) pe_str) (pe_call G_law_kind_text hr rfl D_law_kind_text.m D_law_kind_text.k D_law_kind_text.b .nil pass0 (pa_cons (pv 5) (pa_cons (pv 0) pa_nil)))) pa_nil))))))))
   (pss_one (ps_ret (pe_bm PySem.F.plainAttrs_str PySem.F.slot_str_join PySem.F.type_str_join mt_joinT pe_str (pa_cons (pv 1) pa_nil)))))),?_⟩
 obtain⟨as,ha,hLW⟩:=id hlx
 obtain⟨h30,hrow,_⟩:=txt_ok hW hne
 have hn:=nok_of hW.nm
 have jc:∀ (x:Str) (ys:List Str),ys ≠ []->Str.join L2.spS (x::ys)=x++L2.spS++Str.join L2.spS ys:=fun x ys h=>join_cons h
 refine⟨szL0,fun ll hll=>?_⟩
 generalize e1:upd H ll _=H1
 obtain⟨g1,k1⟩:=new_facts e1 hll
 have zl:(as.map V.ref).length=S.length:=by rw [List.length_map];exact hLW.len
 have few:∀ A:List Itm,(∃ B,itms S=A++B)->A.length<=30:=fun A ⟨B,e⟩=>by rw [e,List.length_append] at h30;omega
 refine⟨_,rfl,sl,rfl,⟨_,g1.seq ha⟩,for_list (xs:=as.map V.ref) (fun i σ H'=>∃ o2 o3 o4 o5,σ = [some (.ref sl),some (.ref ll),o2,o3,o4,o5]/\But ll H1 H'/\H' ll=some (.lst (((itms (S.take i)).map (rowT S)).map V.str))) ⟨_,_,_,_,rfl,But.refl,k1⟩ (fun i σ H' _ z=>?_) (fun i x σ H' hx z=>?_) (fun σ H' z=>?_)⟩
 ·obtain⟨o2,o3,o4,o5,rfl,g,_⟩:=z
  exact (But.from g1 hll g).seq ha
 ·obtain⟨o2,o3,o4,o5,rfl,g,kl⟩:=z
  obtain⟨s,hs,rfl⟩:=get_refs hx
  obtain⟨sh,hS,l,ps,m1,m2,m3⟩:=hLW.get hs
  have hsS:=List.mem_of_getElem? hS
  have hi:i < S.length:=(List.getElem?_eq_some_iff.mp hS).1
  have gH:=But.from g1 hll g
  have eS:itms S=itms (S.take i)++(itm1 sh++itms (S.drop (i + 1))):=by
   conv=>lhs;rw [(split_at hS).1]
   rw [itms_app];rfl
  have hnm:=hW.nm sh hsS
  have hsl:=(name_len hnm).2
  have l1:=few (itms (S.take i)) ⟨_,eS⟩
  refine⟨s,_,rfl,gH.tp m1,rfl,_,_,rfl,_,_,rfl,rfl,_,rfl,.inl ⟨rfl,_,SqL.of kl⟩,_,rfl,_,_,rfl,rfl,(by show 6 + sh.1.length<=sizeLine;rw [sizeLine_eq];omega),ll,_,_,rfl,rfl,kl,(by rw [List.length_map,List.length_map];exact Nat.lt_of_le_of_lt l1 (by decide)),?_⟩
  generalize e2:upd H' ll _=H2
  obtain⟨g2,k2⟩:=chg_facts e2
  have gg2:=g.trans g2
  have er:(Str.ofString "shape " ++ sh.1:Str)=rowT S (.sh sh.1):=by
   show _=Str.join L2.spS [Str.ofString "shape",sh.1]
   rw [jc _ _ (by simp)];rfl
  have k2':H2 ll=some (.lst (((itms (S.take i)++(.sh sh.1::(sh.2.take 0).map fun f=>Itm.fd f.1 f.2)).map (rowT S)).map V.str)):=by
   rw [k2,List.map_append,List.map_append]
   show some (HO.lst (_++[V.str (Str.ofString "shape " ++ sh.1)]))=_
   rw [er];rfl
  refine⟨_,rfl,l,rfl,⟨_,(But.from g1 hll gg2).seq m2⟩,for_list (xs:=ps.map V.ref) (fun j σ H3=>∃ o4 o5,σ = [some (.ref sl),some (.ref ll),some (.str sh.1),some (.ref l),o4,o5]/\But ll H1 H3/\H3 ll=some (.lst (((itms (S.take i)++(.sh sh.1::(sh.2.take j).map fun f=>Itm.fd f.1 f.2)).map (rowT S)).map V.str))) ⟨_,_,rfl,gg2,k2'⟩ (fun j σ H3 _ z=>?_) (fun j x σ H3 hx z=>?_) (fun σ H3 z=>?_)⟩
  ·obtain⟨o4,o5,rfl,g3,_⟩:=z
   exact (But.from g1 hll g3).seq m2
  ·obtain⟨o4,o5,rfl,g3,kl3⟩:=z
   obtain⟨t,ht,rfl⟩:=get_refs hx
   obtain⟨nm',kd',kk,hfs,htt,hko⟩:=m3.get ht
   have hfm:=List.mem_of_getElem? hfs
   have hfit:kd'.Fit S.length:=(hW.good.fit i sh hS _ hfm).1.mono (Nat.le_of_lt hi)
   have hfn:=(name_len (hW.fnm sh hsS _ hfm)).2
   have hfn':nm'.length<=6:=hfn
   have gH3:=But.from g1 hll g3
   have hit:Itm.fd nm' kd' ∈ itms S:=by
    rw [eS]
    refine List.mem_append_right _ (List.mem_append_left _ (List.mem_cons_of_mem _ ?_))
    exact List.mem_map.mpr ⟨_,hfm,rfl⟩
   have r100:(Str.join L2.spS (nm'::kd'.words (nmOf S))).length<=100:=(hrow _ hit).1
   rw [jc _ _ (Kd.words_ne _ _),strLen_append,strLen_append] at r100
   refine⟨t,_,rfl,gH3.tp htt,rfl,_,_,rfl,_,_,rfl,rfl,_,rfl,.inl ⟨rfl,_,SqL.of kl3⟩,_,rfl,_,_,rfl,rfl,(by show nm'.length + 1<=sizeLine;rw [sizeLine_eq];omega),_,rfl,_,rfl,kk,sl,kd',S,rfl,(by have:=kd'.lv_le;omega),hfit,hn,hko.same gH3,hlx.same gH3,fun H4 g4=>⟨_,_,rfl,rfl,(by rw [sizeLine_eq,strLen_append];show nm'.length + 1 + _<=_;have:L2.spS.length=1:=rfl;omega),?_⟩⟩
   have kl4:=g4 _ _ kl3
   have l2:(itms (S.take i)++(.sh sh.1::(sh.2.take j).map fun f=>Itm.fd f.1 f.2)).length<=30:=few _ ⟨((sh.2.drop j).map fun f=>Itm.fd f.1 f.2)++itms (S.drop (i + 1)),by
    rw [eS]
    unfold itm1
    conv=>lhs;rw [← List.take_append_drop j sh.2]
    rw [List.map_append]
    simp only [List.append_assoc,List.cons_append]⟩
   refine⟨ll,_,_,rfl,rfl,kl4,(by rw [List.length_map,List.length_map];exact Nat.lt_of_le_of_lt l2 (by decide)),?_⟩
   generalize e5:upd H4 ll _=H5
   obtain⟨g5,k5⟩:=chg_facts e5
   refine⟨_,_,rfl,(g3.trans (But.of g4)).trans g5,?_⟩
   rw [k5,map_snoc hfs,← List.cons_append,← List.append_assoc,List.map_append (l₂:=[Itm.fd nm' kd']),List.map_append (l₂:=List.map (rowT S) [Itm.fd nm' kd'])]
   have er2:(nm'++Str.ofString " " ++ Str.join L2.spS (kd'.words (nmOf S)):Str)=rowT S (.fd nm' kd'):=by
    show _=Str.join L2.spS (nm'::kd'.words (nmOf S))
    rw [jc _ _ (Kd.words_ne _ _)];rfl
   show some (HO.lst (_++[V.str (nm'++Str.ofString " " ++ Str.join L2.spS (kd'.words (nmOf S)))]))=_
   rw [er2];rfl
  ·obtain⟨o4,o5,rfl,g3,kl3⟩:=z
   refine⟨_,_,_,_,rfl,g3,?_⟩
   rw [kl3,List.length_map,m3.len,take_len]
   have e6:S.take (i + 1)=S.take i++[sh]:=by rw [List.take_add_one,hS];rfl
   rw [e6,itms_app,show itms [sh]=itm1 sh from List.flatMap_singleton ..]
   rfl
 ·obtain⟨o2,o3,o4,o5,rfl,g,kl⟩:=z
  rw [zl,take_len] at kl
  refine⟨rfl,_,rfl,_,ll,(itms S).map (rowT S),rfl,rfl,SqL.of kl,?_,?_⟩
  ·have hsum:(((itms S).map (rowT S)).map (·.length)).sum<=((itms S).map (rowT S)).length * 100:=sum_le fun w hw=>by
    obtain⟨it,hit,rfl⟩:=List.mem_map.mp hw
    exact (hrow it hit).1
   have h1l:(Str.ofString "\n").length=1:=rfl
   rw [List.length_map] at hsum
   rw [h1l,List.length_map]
   omega
  ·have q':=q H' (But.from g1 hll g)
   rw [txt_rows] at q'
   exact q'
theorem ok_law_names {k:Nat} (F:Fun K "_law_names" "_law_names" s_law_names f fd) {f_law_take:Addr} {fd_law_take:FuncData} (D_law_take:Df K mg "_law_take" f_law_take fd_law_take ["_law_box_here","_law_many"]) (G_law_take:FnOk P w K mg base CX0 k f_law_take fd_law_take ["_law_box_here","_law_many"] spTake):FnOk P w K mg base CX0 (k + 2) f fd ["_law_box_here"] (spNms K):=by
 w_cond sc_law_names
 ·obtain⟨p,rfl,_⟩:=h;rfl
 obtain⟨p,rfl,hs,q⟩:=h
 walk_at "hr"
 refine⟨_,(PSx.h (psx_cons (pstx_of (ps_set (i:=1) sc_law_names.nd rfl (by walk_at "o") (pe_call G_law_take hr rfl D_law_take.m D_law_take.k D_law_take.b .nil pass0 (pa_cons (pv 0) (pa_cons pe_int pa_nil)))))
   (psx_cons (pstx_of (ps_set (i:=2) sc_law_names.nd rfl (by walk_at "o") (pe_call G_law_take hr rfl D_law_take.m D_law_take.k D_law_take.b .nil pass0 (pa_cons (pv 0) (pa_cons pe_int pa_nil)))))
   (psx_cons (pstx_if (pt_cmpR op_eq (pv 1) pe_int (nomark _)) (psx_cons (pstx_lstC (i:=3) sc_law_names.nd rfl (Or.inr rfl) (pex_lst (pax_cons (pex_of pe_str) (pax_cons (pex_of pe_str) (pax_cons (pex_of pe_str) (pax_cons (pex_of pe_str) (pax_cons (pex_of pe_str) (pax_cons (pex_of pe_str) (pax_cons (pex_of pe_str) (pax_cons (pex_of pe_str) (pax_cons (pex_of pe_str) (pax_cons (pex_of pe_str) (pax_cons (pex_of pe_str) (pax_cons (pex_of pe_str) pax_nil se_const) se_const) se_const) se_const) se_const) se_const) se_const) se_const) se_const) se_const) se_const) se_const)))
   (psx_one (pstx_ret (pex_of (pe_comp ["_law_k"] ["_law_words","_law_at"] [3,2] rfl (pi_range1 rfl M.range (pa_cons pe_int pa_nil)) rfl ⟨rfl,⟨rfl,trivial⟩⟩ ⟨⟨rfl,rfl,rfl,_,rfl⟩,⟨⟨rfl,rfl,rfl,_,rfl⟩,trivial⟩⟩ (fun _ _ _ _=>(pg_name (i:=0) (show List.Nodup (["_law_k","_law_words","_law_at"]:List Str) from by decide +kernel) rfl (Or.inl rfl))) (fun _ _ _ _=>pif_nil) (fun _ _ _ _=>(pe_op op_add_str (pe_ix (ix_listK K rfl) (pv 1) (pe_op op_mod (pe_op op_add (pv 2) (pv 0)) pe_int) (fun _ _=>rfl)) pe_str))))))) pss_nil)
   (psx_cons (pstx_if (pt_cmpR op_eq (pv 1) pe_int (nomark _)) (psx_cons (pstx_of (ps_set (i:=4) sc_law_names.nd rfl (by walk_at "o") (pe_bm PySem.F.plainAttrs_str PySem.F.slot_str_join PySem.F.type_str_join mt_joinT pe_str (pa_cons (pe_comp ["_law_k"] ["_law_box_here"] [0] rfl (pi_range1 rfl M.range (pa_cons (pe_call G_law_take hr rfl D_law_take.m D_law_take.k D_law_take.b .nil pass0 (pa_cons (pv 0) (pa_cons pe_int pa_nil))) pa_nil)) rfl ⟨rfl,trivial⟩ ⟨⟨rfl,rfl,rfl,_,rfl⟩,trivial⟩ (fun _ _ _ _=>(pg_name (i:=0) (show List.Nodup (["_law_k","_law_box_here"]:List Str) from by decide +kernel) rfl (Or.inl rfl))) (fun _ _ _ _=>pif_nil) (fun _ _ _ _=>(pe_ix ix_str pe_str (pe_call G_law_take hr rfl D_law_take.m D_law_take.k D_law_take.b .nil pass0 (pa_cons (pv 1) (pa_cons pe_int pa_nil))) (fun _ _=>rfl)))) pa_nil))))
   (psx_one (pstx_ret (pex_of (pe_comp ["_law_k"] ["_law_tail","_law_at"] [4,2] rfl (pi_range1 rfl M.range (pa_cons pe_int pa_nil)) rfl ⟨rfl,⟨rfl,trivial⟩⟩ ⟨⟨rfl,rfl,rfl,_,rfl⟩,⟨⟨rfl,rfl,rfl,_,rfl⟩,trivial⟩⟩ (fun _ _ _ _=>(pg_name (i:=0) (show List.Nodup (["_law_k","_law_tail","_law_at"]:List Str) from by decide +kernel) rfl (Or.inl rfl))) (fun _ _ _ _=>pif_nil) (fun _ _ _ _=>(pe_op op_add_str (pe_op op_add_str (pe_ix ix_str pe_str (pe_op op_mod (pe_op op_add (pv 2) (pv 0)) pe_int) (fun _ _=>rfl)) (pv 1)) pe_str))))))) pss_nil)
   (psx_one (pstx_ret (pex_of (pe_op op_cat (pe_comp ["_law_k"] ["_law_at"] [2] rfl (pi_range1 rfl M.range (pa_cons pe_int pa_nil)) rfl ⟨rfl,trivial⟩ ⟨⟨rfl,rfl,rfl,_,rfl⟩,trivial⟩ (fun _ _ _ _=>(pg_name (i:=0) (show List.Nodup (["_law_k","_law_at"]:List Str) from by decide +kernel) rfl (Or.inl rfl))) (fun _ _ _ _=>pif_nil) (fun _ _ _ _=>(pe_slice sl_strE pe_str po_none (po_some (pe_op op_add pe_int (pe_op op_mod (pe_op op_add (pv 1) (pv 0)) pe_int)))))) (pe_lst (pa_cons pe_str (pa_cons pe_str (pa_cons pe_str (pa_cons pe_str (pa_cons pe_str (pa_cons pe_str pa_nil se_const) se_const) se_const) se_const) se_const) se_const))))))))))),?_⟩
 refine⟨_,rfl,p,3,rfl,by decide,by decide,hs,fun v1 H1 hv1 d1=>⟨_,rfl,p,12,rfl,by decide,by decide,d1.1,fun v2 H2 hv2 d2=>?_⟩⟩
 have dd:=d1.trans d2
 have h12:v2 < 12:=by omega
 refine⟨_,rfl,rfl,_,rfl,ite2 (fun c=>?_) (fun c=>?_)⟩
 ·refine⟨(by show 12<=sizeLine;decide),fun l0 hl0=>?_⟩
  generalize e3:upd H2 l0 _=H3
  obtain⟨g3,k3⟩:=new_facts e3 hl0
  have k3':H3 l0=some (.lst (w0L.map V.str)):=k3
  refine⟨12,rfl,by decide,by decide,comp_range (n:=12) (fun j ys H'=>H'=H3/\ys=((List.range j).map fun k=>(w0L.getD ((v2 + k) % 12) Str.empty)++Str.ofString "q").map V.str) ⟨rfl,rfl⟩ (fun j ys H' _ z=>by rw [z.2,List.length_map,List.length_map,List.length_range];exact Nat.le_refl _) (by decide) (fun j ys H' hj z=>?_) (fun ys H' z l hl=>?_)⟩
  ·obtain⟨rfl,rfl⟩:=z
   have hlt:(v2 + j) % 12 < w0L.length:=Nat.mod_lt _ (by decide)
   have hw:w0L[(v2 + j) % 12]?=some (w0L.getD ((v2 + j) % 12) Str.empty):=by rw [List.getD_eq_getElem?_getD,List.getElem?_eq_getElem hlt];rfl
   have hlen:∀ i:Fin 12,(w0L.getD i.val Str.empty).length<=5:=by decide +kernel
   have hl5:=hlen ⟨(v2 + j) % 12,hlt⟩
   refine⟨_,rfl,_,rfl,_,rfl,_,_,rfl,rfl,_,_,rfl,rfl,(by show (0:Int) < 12;decide),l0,_,_,_,rfl,rfl,SqL.of k3',(by rw [show (((v2:Nat):Int) + ((0:Int) + (j:Nat))) % 12=(((v2 + j) % 12:Nat):Int) from modc (n:=12)];exact at_str hw),_,_,rfl,rfl,(by rw [sizeLine_eq];have:(Str.ofString "q").length=1:=rfl;have h5:(w0L.getD ((v2 + j) % 12) Str.empty).length<=5:=hl5;omega),⟨rfl,?_⟩,_,rfl⟩
   rw [List.range_succ,List.map_append,List.map_append];rfl
  ·obtain⟨rfl,rfl⟩:=z
   generalize e4:upd H' l _=H4
   obtain⟨g4,k4⟩:=new_facts e4 hl
   exact q l (nm0 v2) H4 (dd.keep (g3.trans g4)) (dd.free (g3.free hl)) k4 (nm0_ok h12)
 ·refine⟨_,rfl,rfl,_,rfl,ite2 (fun c=>?_) (fun c=>?_)⟩
  ·refine⟨rfl,_,rfl,p,5,rfl,by decide,by decide,d2.1,fun v3 H3 hv3 d3=>⟨v3,rfl,by omega,by omega,comp_range (n:=v3) (fun j ys H'=>Drawn p H3 H'/\∃ cs:List Nat,ys=cs.map (fun c=>V.str ⟨#[c]⟩)/\cs.length=j/\∀ c ∈ cs,97<=c/\c<=122) ⟨Drawn.refl d3.1,[],rfl,rfl,fun c hc=>by cases hc⟩ (fun j ys H' _ z=>?_) (small1000 (by omega)) (fun j ys H' hj z=>?_) (fun ys H' z l hl=>?_)⟩⟩
   ·obtain⟨_,cs,rfl,hcl,_⟩:=z
    rw [List.length_map];omega
   ·obtain⟨d4,cs,rfl,hcl,hcs⟩:=z
    refine⟨_,rfl,p,13,rfl,by decide,by decide,d4.1,fun v5 H5 hv5 d5=>?_⟩
    have hz:∀ i:Fin 13,∃ c,(Str.ofString "abdeilmnorstu").cps.toList[i.val]?=some c/\97<=c/\c<=122:=fun i=>by
     have:∀ i:Fin 13,97<=(Str.ofString "abdeilmnorstu").cps.toList.getD i.val 0/\(Str.ofString "abdeilmnorstu").cps.toList.getD i.val 0<=122:=by decide +kernel
     have hl13:i.val < (Str.ofString "abdeilmnorstu").cps.toList.length:=Nat.lt_of_lt_of_le i.isLt (by decide)
     have e:(Str.ofString "abdeilmnorstu").cps.toList[i.val]?=some ((Str.ofString "abdeilmnorstu").cps.toList.getD i.val 0):=by rw [List.getD_eq_getElem?_getD,List.getElem?_eq_getElem hl13];rfl
     exact⟨_,e,this i⟩
    obtain⟨c',hc1,hc2⟩:=hz ⟨v5,by omega⟩
    refine⟨_,_,c',rfl,rfl,by decide,atI_nat hc1,⟨d4.trans d5,cs++[c'],by rw [List.map_append];rfl,by rw [List.length_append,hcl];rfl,fun x hx=>?_⟩,_,rfl⟩
    rcases List.mem_append.mp hx with hx|hx
    ·exact hcs x hx
    ·rw [List.mem_singleton.mp hx];exact hc2
   ·obtain⟨d4,cs,rfl,hcl,hcs⟩:=z
    generalize e5:upd H' l _=H5
    obtain⟨g5,k5⟩:=new_facts e5 hl
    have hcl4:cs.length<=4:=by omega
    have dd5:=(dd.trans (d3.trans d4)).keep g5
    have k5':H5 l=some (.lst ((cs.map fun c=>(⟨#[c]⟩ : Str)).map V.str)):=by rw [k5,List.map_map];rfl
    refine⟨_,l,cs.map fun c=>⟨#[c]⟩,rfl,rfl,SqL.of k5',?_,?_⟩
    ·rw [List.map_map,List.length_map]
     have:(cs.map ((fun x:Str=>x.length) ∘ fun c=>(⟨#[c]⟩ : Str))).sum<=cs.length * 1:=sum_le fun c hc=>Nat.le_refl _
     have h0:(Str.ofString "").length=0:=rfl
     rw [h0];omega
    ·have tc:=tail_cps cs
     generalize Str.join (Str.ofString "") (cs.map fun c=>(⟨#[c]⟩ : Str))=tl at tc
     have htl:tl.length=cs.length:=by rw [← tc];exact (Array.length_toList).symm
     refine⟨12,rfl,by decide,by decide,comp_range (n:=12) (fun j ys H'=>H'=H5/\ys=((List.range j).map fun k=>(⟨#[c1 v2 k]⟩ : Str)++tl++Str.ofString "x").map V.str) ⟨rfl,rfl⟩ (fun j ys H' _ z=>by rw [z.2,List.length_map,List.length_map,List.length_range];exact Nat.le_refl _) (by decide) (fun j ys H' hj z=>?_) (fun ys H' z l hl=>?_)⟩
     ·obtain⟨rfl,rfl⟩:=z
      have hlt:(v2 + j) % 12 < c1L.cps.toList.length:=Nat.lt_of_lt_of_le (Nat.mod_lt _ (by decide)) (by decide)
      have hw:c1L.cps.toList[(v2 + j) % 12]?=some (c1 v2 j):=by unfold c1;rw [List.getD_eq_getElem?_getD,List.getElem?_eq_getElem hlt];rfl
      refine⟨_,rfl,_,rfl,_,_,rfl,rfl,_,_,rfl,rfl,(by show (0:Int) < 12;decide),_,_,c1 v2 j,rfl,rfl,by decide,(by rw [show (((v2:Nat):Int) + ((0:Int) + (j:Nat))) % 12=(((v2 + j) % 12:Nat):Int) from modc (n:=12)];exact atI_nat hw),_,rfl,_,_,rfl,rfl,(by show 1 + tl.length<=sizeLine;rw [sizeLine_eq];omega),_,_,rfl,rfl,(by rw [sizeLine_eq,strLen_append];show 1 + tl.length + 1<=_;omega),⟨rfl,?_⟩,_,rfl⟩
      rw [List.range_succ,List.map_append,List.map_append];rfl
     ·obtain⟨rfl,rfl⟩:=z
      generalize e6:upd H' l _=H6
      obtain⟨g6,k6⟩:=new_facts e6 hl
      exact q l (nm1 tl v2) H6 (dd5.keep g6) (dd5.free hl) k6 (nm1_ok h12 (by omega) (by rw [tc];exact hcs))
  ·refine⟨6,rfl,by decide,by decide,comp_range (n:=6) (fun j ys H'=>H'=H2/\ys=((List.range j).map fun k=>Txt.slice (Str.ofString "zyxwvu") none (some (1 + (((v2 + k) % 6:Nat):Int)))).map V.str) ⟨rfl,rfl⟩ (fun j ys H' _ z=>by rw [z.2,List.length_map,List.length_map,List.length_range];exact Nat.le_refl _) (by decide) (fun j ys H' hj z=>?_) (fun ys H' z l hl=>?_)⟩
   ·obtain⟨rfl,rfl⟩:=z
    refine⟨_,rfl,_,rfl,_,_,rfl,rfl,_,_,rfl,rfl,(by show (0:Int) < 6;decide),_,_,rfl,rfl,_,rfl,_,rfl,by decide,⟨rfl,?_⟩,_,rfl⟩
    rw [List.range_succ,List.map_append,List.map_append,show (((v2:Nat):Int) + ((0:Int) + (j:Nat))) % 6=(((v2 + j) % 6:Nat):Int) from modc (n:=6)];rfl
   ·obtain⟨rfl,rfl⟩:=z
    generalize e3:upd H' l _=H3
    obtain⟨g3,k3⟩:=new_facts e3 hl
    refine⟨(by show 6<=sizeLine;decide),fun l2 hl2=>?_⟩
    generalize e4:upd H3 l2 _=H4
    obtain⟨g4,k4⟩:=new_facts e4 hl2
    refine⟨l,l2,_,_,rfl,rfl,g4 _ _ k3,k4,(by rw [List.length_map,List.length_map,List.length_range];show 6 + 6<=sizeLine;decide),fun l3 hl3=>?_⟩
    generalize e5:upd H4 l3 _=H5
    obtain⟨g5,k5⟩:=new_facts e5 hl3
    refine q l3 (nm2 v2) H5 (dd.keep ((g3.trans g4).trans g5)) (dd.free ((g3.trans g4).free hl3)) ?_ (nm2_ok h12)
    rw [k5]
    unfold nm2
    rw [List.map_append];rfl
theorem ok_law_shapes {k r:Nat} (F:Fun K "_law_shapes" "_law_shapes" s_law_shapes f fd) {f_law_names:Addr} {fd_law_names:FuncData} (D_law_names:Df K mg "_law_names" f_law_names fd_law_names ["_law_box_here"]) (G_law_names:FnOk P w K mg base CX0 k f_law_names fd_law_names ["_law_box_here"] (spNms K)) {f_law_take:Addr} {fd_law_take:FuncData} (D_law_take:Df K mg "_law_take" f_law_take fd_law_take ["_law_box_here","_law_many"]) (G_law_take:FnOk P w K mg base CX0 k f_law_take fd_law_take ["_law_box_here","_law_many"] spTake) {f_law_kind:Addr} {fd_law_kind:FuncData} (D_law_kind:Df K mg "_law_kind" f_law_kind fd_law_kind ["_law_box_here","_law_known"]) (G_law_kind:FnOk P w K mg base CX0 k f_law_kind fd_law_kind ["_law_box_here","_law_known"] (spLKd K)) {f_law_fits:Addr} {fd_law_fits:FuncData} (D_law_fits:Df K mg "_law_fits" f_law_fits fd_law_fits ["_law_shapes_here"]) (G_law_fits:FnOk P w K mg base CX0 k f_law_fits fd_law_fits ["_law_shapes_here"] (spFits K r)):FnOk P w K mg base CX0 (k + 2) f fd ["_law_box_here","_law_most"] (spSh7 K r):=by
 w_cond sc_law_shapes
 ·obtain⟨p,tq,oq,rfl,_⟩:=h;rfl
 obtain⟨p,tq,oq,rfl,hs,ntp,ktq,hr12,h8,q⟩:=h
 walk_at "hr"
 refine⟨_,(pss_cons (ps_set (i:=2) sc_law_shapes.nd rfl (by walk_at "o") (pe_call G_law_names hr rfl D_law_names.m D_law_names.k D_law_names.b .nil pass0 (pa_cons (pv 0) pa_nil)))
   (pss_cons (ps_set (i:=3) sc_law_shapes.nd rfl (by walk_at "o") (pe_call G_law_take hr rfl D_law_take.m D_law_take.k D_law_take.b .nil pass0 (pa_cons (pv 0) (pa_cons pe_int pa_nil))))
   (pss_cons (ps_set (i:=4) sc_law_shapes.nd rfl (by walk_at "o") (pe_lst pa_nil))
   (pss_cons (ps_for PassesOwn.never rfl (pi_range1 rfl M.range (pa_cons (pe_op op_add pe_int (pe_call G_law_take hr rfl D_law_take.m D_law_take.k D_law_take.b .nil pass0 (pa_cons (pv 0) (pa_cons (pv 1) pa_nil)))) pa_nil)) (pg_name (i:=5) sc_law_shapes.nd rfl (Or.inl rfl)) (pss_cons (ps_set (i:=6) sc_law_shapes.nd rfl (by walk_at "o") (pe_lst pa_nil))
   (pss_cons (ps_for PassesOwn.never rfl (pi_range1 rfl M.range (pa_cons (pe_op op_add pe_int (pe_call G_law_take hr rfl D_law_take.m D_law_take.k D_law_take.b .nil pass0 (pa_cons (pv 0) (pa_cons pe_int pa_nil)))) pa_nil)) (pg_name (i:=7) sc_law_shapes.nd rfl (Or.inl rfl)) (pss_cons (ps_set (i:=8) sc_law_shapes.nd rfl (by walk_at "o") (pe_tup (pa_cons (pe_ix ix_list (pv 2) (pe_op op_mod (pe_op op_add (pe_op op_add (pv 3) (pe_op op_mul (pv 7) pe_int)) (pv 5)) pe_int) (fun _ _=>rfl)) (pa_cons (pe_call G_law_kind hr rfl D_law_kind.m D_law_kind.k D_law_kind.b .nil pass0 (pa_cons (pv 0) (pa_cons (pv 5) pa_nil))) pa_nil))))
   (pss_one (ps_if (pt_val (pe_call G_law_fits hr rfl D_law_fits.m D_law_fits.k D_law_fits.b .nil pass0 (pa_cons (pe_op op_cat (pv 4) (pe_lst (pa_cons (pe_tup (pa_cons (pe_ix ix_list (pv 2) (pv 5) (fun _ _=>rfl)) (pa_cons (pe_op op_cat (pv 6) (pe_lst (pa_cons (pv 8) pa_nil))) pa_nil))) pa_nil))) pa_nil))) (pss_one (ps_expr (pe_bm PySem.F.plainAttrs_list PySem.F.slot_list_append PySem.F.type_list_append mt_append (pv 6) (pa_cons (pv 8) pa_nil)))) pss_nil))))
   (pss_cons (ps_if (pt_cmpR (op_eqNil hr.units) (pv 6) (pe_lst pa_nil) (nomark _)) (pss_one (ps_set (i:=6) sc_law_shapes.nd rfl (by walk_at "o") (pe_lst (pa_cons (pe_tup (pa_cons (pe_ix ix_list (pv 2) (pv 3) (fun _ _=>rfl)) (pa_cons (pe_tup (pa_cons pe_str (pa_cons (pe_op op_add pe_int (pe_call G_law_take hr rfl D_law_take.m D_law_take.k D_law_take.b .nil pass0 (pa_cons (pv 0) (pa_cons pe_int pa_nil)))) pa_nil))) pa_nil))) pa_nil)))) pss_nil)
   (pss_one (ps_expr (pe_bm PySem.F.plainAttrs_list PySem.F.slot_list_append PySem.F.type_list_append mt_append (pv 4) (pa_cons (pe_tup (pa_cons (pe_ix ix_list (pv 2) (pv 5) (fun _ _=>rfl)) (pa_cons (pv 6) pa_nil))) pa_nil))))))))
   (pss_one (ps_ret (pv 4))))))),?_⟩
 refine⟨_,rfl,p,rfl,hs,fun nl ns H1 d1 hnl knl ⟨hn12,hnd,hnb⟩=>⟨_,rfl,p,12,rfl,by decide,by decide,d1.1,fun v2 H2 hv2 d2=>⟨szL0,fun sl hsl=>?_⟩⟩⟩
 have nnp:nl ≠ p:=st_ne hs hnl
 have knl2:=d2.2 nl _ nnp knl
 generalize e3:upd H2 sl _=H3
 obtain⟨g3,k3⟩:=new_facts e3 hsl
 have nsp:sl ≠ p:=st_ne d2.1 hsl
 have nns:nl ≠ sl:=ne_of_none knl2 hsl
 have hslH:H sl=none:=(d1.trans d2).free hsl
 have nsAt:∀ i,i < 12->ns[i]?=some (ns.getD i Str.empty):=fun i hi=>by rw [List.getD_eq_getElem?_getD,List.getElem?_eq_getElem (by omega)];rfl
 have nsB:∀ i,i < 12->nameB (ns.getD i Str.empty)=true:=fun i hi=>hnb _ (List.mem_of_getElem? (nsAt i hi))
 have nsI:∀ i j,i < 12->j < 12->ns.getD i Str.empty=ns.getD j Str.empty->i=j:=fun i j hi hj e=>by
  have hp:=List.pairwise_iff_getElem.mp hnd
  have ei:=List.getElem?_eq_some_iff.mp (nsAt i hi)
  have ej:=List.getElem?_eq_some_iff.mp (nsAt j hj)
  obtain⟨ai,bi⟩:=ei
  obtain⟨aj,bj⟩:=ej
  rcases Nat.lt_trichotomy i j with hl|hl|hl
  ·exact absurd (by rw [bi,bj];exact e) (hp i j ai aj hl)
  ·exact hl
  ·exact absurd (by rw [bi,bj];exact e.symm) (hp j i aj ai hl)
 refine⟨_,rfl,_,rfl,p,5,rfl,by decide,by decide,Same.st3 g3 d2.1,fun v3 H4 hv3 d4=>⟨_,_,rfl,rfl,_,rfl,(by omega),(by omega),?_⟩⟩
 have D4:Drawn p H H4:=((d1.trans d2).keep g3).trans d4
 have ktq4:=D4.2 tq _ ntp ktq
 have nts:tq ≠ sl:=ne_of_none ((d1.trans d2).2 tq _ ntp ktq) hsl
 have knl4:=d4.2 nl _ nnp (g3 _ _ knl2)
 have ksl4:=d4.2 sl _ nsp k3
 rw [show ((1:Int) + (v3:Nat)).toNat=1 + v3 by omega]
 refine for_range (n:=1 + v3) (fun i σ H'=>∃ (o5 o6 o7 o8:Option V) (as:List Addr) (S:List Shp),σ = [some (.ref p),some (.int 5),some (.ref nl),some (.int v2),some (.ref sl),o5,o6,o7,o8]/\St3 H' p/\(∀ b o,b ≠ p->b ≠ sl->H4 b=some o->H' b=some o)/\H' sl=some (.lst (as.map V.ref))/\LW K (offs [p,sl,tq] H') as S/\S.length=i/\S.map (·.1)=ns.take i/\Wel S) ⟨_,_,_,_,[],[],rfl,d4.1,fun _ _ _ _ e=>e,ksl4,.nil,rfl,rfl,Wel.nil⟩ (fun i σ H' hi z=>?_) (fun σ H' z=>?_)
 ·obtain⟨o5,o6,o7,o8,as,S,rfl,st,fr,ksl,hLW,hSl,hSn,hWS⟩:=z
  rw [Int.zero_add]
  have hi5:i < 5:=by omega
  have knl':=fr nl _ nnp nns knl4
  refine⟨szL0,fun fl hfl=>?_⟩
  generalize e5:upd H' fl _=H5
  obtain⟨g5,k5⟩:=new_facts e5 hfl
  have nfp:fl ≠ p:=st_ne st hfl
  have nfs:fl ≠ sl:=Ne.symm (ne_of_none ksl hfl)
  have nfn:fl ≠ nl:=Ne.symm (ne_of_none knl' hfl)
  have ktq':=fr tq _ ntp nts ktq4
  have nfq:fl ≠ tq:=Ne.symm (ne_of_none ktq' hfl)
  refine⟨_,rfl,p,5,rfl,by decide,by decide,Same.st3 g5 st,fun v4 H6 hv4 d6=>⟨_,_,rfl,rfl,_,rfl,(by omega),(by omega),?_⟩⟩
  have kfl6:=d6.2 fl _ nfp k5
  have knl6:=d6.2 nl _ nnp (g5 _ _ knl')
  have ksl6:=d6.2 sl _ nsp (g5 _ _ ksl)
  have hsame6:Same (offs [p,sl,tq] H') (offs [p,sl,fl,tq] H6):=fun b o e=>by
   have hb:b ∉ [p,sl,tq]:=fun z=>by unfold offs at e;rw [if_pos z] at e;cases e
   have e':H' b=some o:=offs_same _ _ e
   have hbf:b ≠ fl:=ne_of_none e' hfl
   have hbp:b ≠ p:=fun z=>hb (by rw [z];simp)
   refine offs_at (fun z=>?_) (d6.2 b o hbp (g5 _ _ e'))
   simp only [List.mem_cons,List.not_mem_nil,or_false] at z hb
   rcases z with z|z|z|z
   ·exact hb (.inl z)
   ·exact hb (.inr (.inl z))
   ·exact hbf z
   ·exact hb (.inr (.inr z))
  have hLW6:=hLW.same hsame6
  rw [show ((1:Int) + (v4:Nat)).toNat=1 + v4 by omega]
  have nmi:=nsB i (by omega)
  have nmN:ns.getD i Str.empty ∉ S.map (·.1):=fun z=>by
   rw [hSn] at z
   obtain⟨j,hj⟩:=List.mem_iff_getElem?.mp z
   have hji:j < i:=by have:=(List.getElem?_eq_some_iff.mp hj).1;rw [List.length_take] at this;omega
   rw [List.getElem?_take_of_lt hji,nsAt j (by omega)] at hj
   have:=nsI j i (by omega) (by omega) (Option.some.inj hj)
   omega
  refine for_range (n:=1 + v4) (fun j σ H7=>∃ (o7 o8:Option V) (ps:List Addr) (fs:List (Str × Kd)),σ = [some (.ref p),some (.int 5),some (.ref nl),some (.int v2),some (.ref sl),some (.int i),some (.ref fl),o7,o8]/\St3 H7 p/\(∀ b o,b ≠ p->b ≠ fl->H6 b=some o->H7 b=some o)/\H7 fl=some (.lst (ps.map V.ref))/\LF K (offs [p,sl,fl,tq] H7) ps fs/\fs.length<=j/\(∀ g ∈ fs,(g.2.Fit S.length/\nameB g.1=true)/\∃ m,m < j/\g.1=ns.getD ((v2 + m * 5 + i) % 12) Str.empty)/\(fs.map (·.1)).Nodup/\(fs ≠ []->Smal (S++[(ns.getD i Str.empty,fs)]) S.length)) ⟨_,_,[],[],rfl,d6.1,fun _ _ _ _ e=>e,kfl6,.nil,Nat.le_refl _,(fun g hg=>by cases hg),List.Pairwise.nil,fun z=>absurd rfl z⟩ (fun j σ H7 hj z=>?_) (fun σ H7 z=>?_)
  ·obtain⟨o7,o8,ps,fs,rfl,st7,fr7,kfl7,hLF,hfl7,hfs,hfn,hsm⟩:=z
   rw [Int.zero_add]
   have knl7:=fr7 nl _ nnp (Ne.symm nfn) knl6
   have ksl7:=fr7 sl _ nsp (Ne.symm nfs) ksl6
   have em:(((v2:Nat):Int) + ((j:Nat):Int) * 5 + ((i:Nat):Int)) % 12=(((v2 + j * 5 + i) % 12:Nat):Int):=by omega
   have hm12:(v2 + j * 5 + i) % 12 < 12:=Nat.mod_lt _ (by decide)
   have ktq7:=fr7 tq _ ntp (Ne.symm nfq) (d6.2 tq _ ntp (g5 _ _ ktq'))
   have al7:Al [p,sl,fl,tq] H7:=fun b hb=>by
    simp only [List.mem_cons,List.not_mem_nil,or_false] at hb
    rcases hb with rfl|rfl|rfl|rfl
    ·exact st_ex st7
    ·exact⟨_,ksl7⟩
    ·exact⟨_,kfl7⟩
    ·exact⟨_,ktq7⟩
   refine⟨_,rfl,_,rfl,_,rfl,_,_,rfl,rfl,.inl ⟨by omega,by omega⟩,_,_,rfl,rfl,_,rfl,_,_,rfl,rfl,_,_,rfl,rfl,(by show (0:Int) < 12;decide),nl,_,_,_,rfl,rfl,SqL.of knl7,(by rw [em];exact at_str (nsAt _ hm12)),_,rfl,_,rfl,p,i,[p,sl,fl,tq],rfl,by omega,st7,by simp,al7,fun a kd H8 d8 hfit lk=>?_⟩
   rw [← hSl] at hfit
   have al8:=Al.drawn al7 d8
   refine⟨szL2,fun t ht=>?_⟩
   generalize e9:upd H8 t _=H9
   obtain⟨g9,k9⟩:=new_facts e9 ht
   have al9:=al8.same g9
   have kt:offs [p,sl,fl,tq] H9 t=_:=offs_at (al8.new ht) k9
   have s79:Same (offs [p,sl,fl,tq] H7) (offs [p,sl,fl,tq] H9):=(d8.offs (by simp)).trans (offs_mono g9)
   have knl9:=g9 _ _ (d8.2 nl _ nnp knl7)
   have ksl9:=g9 _ _ (d8.2 sl _ nsp ksl7)
   have kfl9:=g9 _ _ (d8.2 fl _ nfp kfl7)
   have lk9:=lk.same (offs_mono g9)
   have hLF9:=(hLF.same s79).snoc (SqT.of kt) lk9
   have s69:Same (offs [p,sl,fl,tq] H6) (offs [p,sl,fl,tq] H9):=offs_but fun b o hb e=>by
    simp only [List.mem_cons,List.not_mem_nil,or_false,not_or] at hb
    exact g9 _ _ (d8.2 b o hb.1 (fr7 b o hb.1 hb.2.2.1 e))
   have hLW9:=hLW6.same s69
   have hpl:ps.length=fs.length:=hLF.len
   have hal:=hLW.len
   refine⟨_,rfl,_,rfl,_,rfl,nl,_,_,_,rfl,rfl,SqL.of knl9,at_str (nsAt i (by omega)),_,rfl,_,rfl,szL1,fun u1 hu1=>?_⟩
   generalize eA:upd H9 u1 _=HA
   obtain⟨gA,kA⟩:=new_facts eA hu1
   refine⟨fl,u1,_,_,rfl,rfl,gA _ _ kfl9,kA,(by rw [sizeLine_eq,List.length_map];simp;omega),fun u2 hu2=>?_⟩
   generalize eB:upd HA u2 _=HB
   obtain⟨gB,kB⟩:=new_facts eB hu2
   refine⟨szL2,fun u3 hu3=>?_⟩
   generalize eC:upd HB u3 _=HC
   obtain⟨gC,kC⟩:=new_facts eC hu3
   refine⟨szL1,fun u4 hu4=>?_⟩
   generalize eD:upd HC u4 _=HD
   obtain⟨gD,kD⟩:=new_facts eD hu4
   have g9D:=((gA.trans gB).trans gC).trans gD
   refine⟨sl,u4,_,_,rfl,rfl,g9D _ _ ksl9,kD,(by rw [sizeLine_eq,List.length_map];simp;omega),fun u5 hu5=>?_⟩
   generalize eE:upd HD u5 _=HE
   obtain⟨gE,kE⟩:=new_facts eE hu5
   have g9E:=g9D.trans gE
   have sE:Same (offs [p,sl,fl,tq] H9) HE:=offs_same.trans g9E
   have kB':HB u2=some (.lst ((ps++[t]).map V.ref)):=by rw [kB,List.map_append];rfl
   have lsE:LS K HE u3 (ns.getD i Str.empty,fs++[(ns.getD ((v2 + j * 5 + i) % 12) Str.empty,kd)]):=⟨u2,ps++[t],(gD.trans gE).tp (SqT.of kC),SqL.of ((gC.trans (gD.trans gE)) _ _ kB'),hLF9.same sE⟩
   have lxE:LX K HE u5 (S++[(ns.getD i Str.empty,fs++[(ns.getD ((v2 + j * 5 + i) % 12) Str.empty,kd)])]):=⟨as++[u3],SqL.of (by rw [kE,List.map_append];rfl),(hLW9.same sE).snoc lsE⟩
   have hfs':∀ f ∈ fs,f.2.Fit S.length/\nameB f.1=true:=fun f hf=>(hfs f hf).1
   have hnew:=nsB _ hm12
   have hgd:=step_good (nm:=ns.getD i Str.empty) hWS hsm (by omega) hfs' (f:=(ns.getD ((v2 + j * 5 + i) % 12) Str.empty,kd)) hfit hnew
   refine⟨u5,_,S.length,rfl,(by rw [List.length_append];rfl),lxE,hgd,(by omega),h8,fun b HF gF hb=>⟨_,rfl,?_⟩⟩
   have g9F:=g9E.trans gF
   have kflF:=g9F _ _ kfl9
   have frF:∀ b o,b ≠ p->b ≠ fl->H6 b=some o->HF b=some o:=fun b o h1 h2 e=>g9F _ _ (g9 _ _ (d8.2 b o h1 (fr7 b o h1 h2 e)))
   have stF:St3 HF p:=Same.st3 (g9.trans g9F) d8.1
   cases b with
   | false =>
    refine iteN (by decide) ⟨_,_,ps,fs,rfl,stF,frF,kflF,(hLF.same s79).same (offs_mono g9F),by omega,fun g hg=>?_,hfn,hsm⟩
    obtain⟨a1,m,hm,e⟩:=hfs g hg
    exact⟨a1,m,by omega,e⟩
   | true =>
    refine iteP rfl ⟨_,rfl,.inl ⟨rfl,_,SqL.of kflF⟩,_,rfl,fl,_,_,rfl,rfl,kflF,(by rw [List.length_map];exact Nat.lt_of_le_of_lt (show ps.length<=5 by omega) (by decide)),?_⟩
    generalize eG:upd HF fl _=HG
    obtain⟨gG,kG⟩:=chg_facts eG
    have sFG:Same (offs [p,sl,fl,tq] HF) (offs [p,sl,fl,tq] HG):=offs_but fun b o hb e=>by
     simp only [List.mem_cons,List.not_mem_nil,or_false,not_or] at hb
     exact gG b o hb.2.2.1 e
    have hnin:ns.getD ((v2 + j * 5 + i) % 12) Str.empty ∉ fs.map (·.1):=fun z=>by
     obtain⟨g,hg,eg⟩:=List.mem_map.mp z
     obtain⟨_,m,hm,e⟩:=hfs g hg
     rw [e] at eg
     have:=nsI _ _ (Nat.mod_lt _ (by decide)) hm12 eg
     omega
    obtain⟨x3,y3,z3,est⟩:=stF
    refine⟨_,_,ps++[t],fs++[(ns.getD ((v2 + j * 5 + i) % 12) Str.empty,kd)],rfl,⟨x3,y3,z3,gG p _ (Ne.symm nfp) est⟩,fun b o h1 h2 e=>gG b o h2 (frF b o h1 h2 e),by rw [kG,List.map_append];rfl,(hLF9.same (offs_mono g9F)).same sFG,by rw [List.length_append,List.length_singleton];omega,fun g hg=>?_,?_,fun _=>hb rfl⟩
    ·rcases List.mem_append.mp hg with hg|hg
     ·obtain⟨a1,m,hm,e⟩:=hfs g hg
      exact⟨a1,m,by omega,e⟩
     ·rw [List.mem_singleton.mp hg]
      exact⟨⟨hfit,hnew⟩,j,by omega,rfl⟩
    ·rw [List.map_append,List.nodup_append]
     refine⟨hfn,List.pairwise_singleton _ _,fun a ha b hb e=>hnin ?_⟩
     rw [← show b=ns.getD ((v2 + j * 5 + i) % 12) Str.empty from List.mem_singleton.mp hb,← e];exact ha
  ·obtain⟨o7,o8,ps,fs,rfl,st7,fr7,kfl7,hLF,hfl7,hfs,hfn,hsm⟩:=z
   have knl7:=fr7 nl _ nnp (Ne.symm nfn) knl6
   have ksl7:=fr7 sl _ nsp (Ne.symm nfs) ksl6
   have s67:Same (offs [p,sl,fl,tq] H6) (offs [p,sl,fl,tq] H7):=offs_but fun b o hb e=>by
    simp only [List.mem_cons,List.not_mem_nil,or_false,not_or] at hb
    exact fr7 b o hb.1 hb.2.2.1 e
   have sub:Same (offs [p,sl,fl,tq] H7) (offs [p,sl,tq] H7):=offs_sub fun b hb=>by
    simp only [List.mem_cons,List.not_mem_nil,or_false] at hb ⊢
    rcases hb with hb|hb|hb
    ·exact .inl hb
    ·exact .inr (.inl hb)
    ·exact .inr (.inr (.inr hb))
   have hLW7:=(hLW6.same s67).same sub
   have fr47:∀ b o,b ≠ p->b ≠ sl->H' b=some o->H7 b=some o:=fun b o h1 h2 e=>fr7 b o h1 (ne_of_none e hfl) (d6.2 b o h1 (g5 _ _ e))
   dsimp only
   refine joinQ (fun σ' H8=>∃ (o7 o8:Option V) (fl':Addr) (ps':List Addr) (fs':List (Str × Kd)),σ'=[some (.ref p),some (.int 5),some (.ref nl),some (.int v2),some (.ref sl),some (.int i),some (.ref fl'),o7,o8]/\St3 H8 p/\(∀ b o,b ≠ p->b ≠ sl->H' b=some o->H8 b=some o)/\H8 sl=some (.lst (as.map V.ref))/\SqL K (offs [p,sl,tq] H8) fl' (ps'.map V.ref)/\LF K (offs [p,sl,tq] H8) ps' fs'/\LW K (offs [p,sl,tq] H8) as S/\Wel (S++[(ns.getD i Str.empty,fs')])) (fun σ' H8 z=>?_) (fun nx hnx=>?_)
   ·obtain⟨o7,o8,fl',ps',fs',rfl,st8,fr8,ksl8,kfl8,hLF8,hLW8,hW8⟩:=z
    have knl8:=fr8 nl _ nnp nns knl'
    refine⟨_,rfl,.inl ⟨rfl,_,SqL.of ksl8⟩,_,rfl,_,rfl,nl,_,_,_,rfl,rfl,SqL.of knl8,at_str (nsAt i (by omega)),_,rfl,szL2,fun t ht=>?_⟩
    generalize e9:upd H8 t _=H9
    obtain⟨g9,k9⟩:=new_facts e9 ht
    have ktq8:=fr8 tq _ ntp nts ktq'
    have al8:Al [p,sl,tq] H8:=fun b hb=>by
     simp only [List.mem_cons,List.not_mem_nil,or_false] at hb
     rcases hb with rfl|rfl|rfl
     ·exact st_ex st8
     ·exact⟨_,ksl8⟩
     ·exact⟨_,ktq8⟩
    have kt:offs [p,sl,tq] H9 t=_:=offs_at (al8.new ht) k9
    have s89:Same (offs [p,sl,tq] H8) (offs [p,sl,tq] H9):=offs_mono g9
    have hls:LS K (offs [p,sl,tq] H9) t (ns.getD i Str.empty,fs'):=⟨fl',ps',SqT.of kt,s89.seq kfl8,hLF8.same s89⟩
    have ksl9:=g9 _ _ ksl8
    refine⟨sl,_,_,rfl,rfl,ksl9,(by rw [List.length_map,hLW.len];exact Nat.lt_of_le_of_lt (show S.length<=5 by omega) (by decide)),?_⟩
    generalize eA:upd H9 sl _=HA
    obtain⟨gA,kA⟩:=chg_facts eA
    have s9A:Same (offs [p,sl,tq] H9) (offs [p,sl,tq] HA):=offs_but fun b o hb e=>by
     simp only [List.mem_cons,List.not_mem_nil,or_false,not_or] at hb
     exact gA b o hb.2.1 e
    obtain⟨x3,y3,z3,est⟩:=Same.st3 g9 st8
    refine⟨_,_,_,_,as++[t],_,rfl,⟨x3,y3,z3,gA p _ (Ne.symm nsp) est⟩,fun b o h1 h2 e=>gA b o h2 (g9 _ _ (fr8 b o h1 h2 (fr b o h1 h2 e))),by rw [kA,List.map_append];rfl,((hLW8.same s89).snoc hls).same s9A,by rw [List.length_append,hSl];rfl,?_,hW8⟩
    rw [List.map_append,hSn,List.take_add_one,nsAt i (by omega)];rfl
   ·refine⟨_,rfl,szL0,fun e he=>?_⟩
    generalize e8:upd H7 e _=H8
    obtain⟨g8,k8⟩:=new_facts e8 he
    have st8:=Same.st3 g8 st7
    refine⟨fl,e,_,rfl,rfl,SqL.of (g8 _ _ kfl7),SqL.of k8,_,rfl,ite2 (fun c=>?_) (fun c=>?_)⟩
    ·refine⟨_,rfl,_,rfl,nl,_,_,_,rfl,rfl,SqL.of (g8 _ _ knl7),at_str (nsAt v2 (by omega)),_,rfl,p,4,rfl,by decide,by decide,st8,fun v5 H9 hv5 d9=>⟨_,_,rfl,rfl,szL2,fun t1 ht1=>?_⟩⟩
     have ktq9:=d9.2 tq _ ntp (g8 _ _ (fr47 tq _ ntp nts ktq'))
     have al9:Al [p,sl,tq] H9:=fun b hb=>by
      simp only [List.mem_cons,List.not_mem_nil,or_false] at hb
      rcases hb with rfl|rfl|rfl
      ·exact st_ex d9.1
      ·exact⟨_,d9.2 _ _ nsp (g8 _ _ ksl7)⟩
      ·exact⟨_,ktq9⟩
     generalize eA:upd H9 t1 _=HA
     obtain⟨gA,kA⟩:=new_facts eA ht1
     refine⟨szL2,fun t2 ht2=>?_⟩
     generalize eB:upd HA t2 _=HB
     obtain⟨gB,kB⟩:=new_facts eB ht2
     refine⟨szL1,fun l1 hl1=>?_⟩
     generalize eC:upd HB l1 _=HC
     obtain⟨gC,kC⟩:=new_facts eC hl1
     have alA:=al9.same gA
     have alB:=alA.same gB
     have k1:offs [p,sl,tq] HA t1=_:=offs_at (al9.new ht1) kA
     have k2:offs [p,sl,tq] HB t2=_:=offs_at (alA.new ht2) kB
     have k3:offs [p,sl,tq] HC l1=_:=offs_at (alB.new hl1) kC
     dsimp only at k1
     rw [show (1:Int) + (v5:Nat)=((1 + v5:Nat):Int) by omega] at k1
     have sAC:Same (offs [p,sl,tq] HA) (offs [p,sl,tq] HC):=offs_mono (gB.trans gC)
     have sBC:Same (offs [p,sl,tq] HB) (offs [p,sl,tq] HC):=offs_mono gC
     have s7C:Same (offs [p,sl,tq] H7) (offs [p,sl,tq] HC):=(offs_mono g8).trans ((d9.offs (by simp)).trans (offs_mono ((gA.trans gB).trans gC)))
     have g9C:=(gA.trans gB).trans gC
     have hs4:S.length<=4:=by omega
     refine hnx _ _ ⟨_,_,l1,[t2],[(ns.getD v2 Str.empty,Kd.num (1 + v5))],rfl,Same.st3 g9C d9.1,fun b o h1 h2 e=>g9C _ _ (d9.2 b o h1 (g8 _ _ (fr47 b o h1 h2 e))),g9C _ _ (d9.2 _ _ nsp (g8 _ _ ksl7)),SqL.of k3,.cons (SqT.of (sBC _ _ k2)) (.num (SqT.of (sAC _ _ k1))) .nil,hLW7.same s7C,hWS.snoc nmi nmN hs4 (by simp) (by show 1<=5;decide) (fun f hf=>?_) (List.pairwise_singleton _ _) (smal_num (by omega))⟩
     rw [List.mem_singleton.mp hf]
     exact⟨⟨by omega,by omega⟩,nsB v2 (by omega)⟩
    ·have hps:ps ≠ []:=fun z=>c (by rw [z];rfl)
     have hfsne:fs ≠ []:=fun z=>hps (List.length_eq_zero_iff.mp (by rw [hLF.len,z];rfl))
     have hflo:offs [p,sl,tq] H8 fl=_:=offs_at (by simp only [List.mem_cons,List.not_mem_nil,or_false,not_or];exact⟨nfp,nfs,nfq⟩) (g8 _ _ kfl7)
     exact hnx _ _ ⟨_,_,fl,ps,fs,rfl,st8,fun b o h1 h2 e=>g8 _ _ (fr47 b o h1 h2 e),g8 _ _ ksl7,SqL.of hflo,(hLF.same sub).same (offs_mono g8),hLW7.same (offs_mono g8),hWS.snoc nmi nmN (by omega) hfsne (by omega) (fun f hf=>(hfs f hf).1) hfn (hsm hfsne)⟩
 ·obtain⟨o5,o6,o7,o8,as,S,rfl,st,fr,ksl,hLW,hSl,hSn,hWS⟩:=z
  have fD:Drawn p H H':=⟨st,fun b o h e=>by
   have hb:b ≠ sl:=ne_of_none e hslH
   exact fr b o h hb (D4.2 b o h e)⟩
  exact⟨_,rfl,q sl S H' fD hslH ⟨as,SqL.of (offs_at (by simp only [List.mem_cons,List.not_mem_nil,or_false,not_or];exact⟨nsp,Ne.symm nts⟩) ksl),hLW.same (offs_sub (fun b hb=>by simp only [List.mem_cons,List.not_mem_nil,or_false] at hb ⊢;rcases hb with hb|hb;exact .inl hb;exact .inr (.inr hb)))⟩ hWS (fun z=>by rw [z] at hSl;simp at hSl;omega)⟩
theorem ok_Num_word {k r:Nat} (F:Fun K "word" "Num.word" s_Num_word f fd):FnOk P w K mg base CX0 (k + 2) f fd ["self"] (spW (Cl5.mk Va Vb Vc Vd Ve) K r Kd.isNum wdK):=by
 w_cond sc_Num_word
 ·obtain⟨a,kd,sa,S,rfl,_⟩:=h;rfl
 obtain⟨a,kd,sa,S,rfl,hF,hk,hf,ho,hw,hg,q⟩:=h
 walk_at "hr"
 refine⟨_,(pss_one (ps_ret pe_str)),?_⟩
 cases kd <;> first
  | exact absurd hF Bool.false_ne_true
  | exact q H (Same.refl _)
theorem ok_Nested_word {k r:Nat} (F:Fun K "word" "Nested.word" s_Nested_word f fd):FnOk P w K mg base CX0 (k + 2) f fd ["self"] (spW (Cl5.mk Va Vb Vc Vd Ve) K r Kd.isNest wdK):=by
 w_cond sc_Nested_word
 ·obtain⟨a,kd,sa,S,rfl,_⟩:=h;rfl
 obtain⟨a,kd,sa,S,rfl,hF,hk,hf,ho,hw,hg,q⟩:=h
 walk_at "hr"
 refine⟨_,(pss_one (ps_ret pe_str)),?_⟩
 cases kd <;> first
  | exact absurd hF Bool.false_ne_true
  | exact q H (Same.refl _)
theorem ok_Many_word {k r:Nat} (F:Fun K "word" "Many.word" s_Many_word f fd):FnOk P w K mg base CX0 (k + 2) f fd ["self"] (spW (Cl5.mk Va Vb Vc Vd Ve) K r Kd.isMany wdK):=by
 w_cond sc_Many_word
 ·obtain⟨a,kd,sa,S,rfl,_⟩:=h;rfl
 obtain⟨a,kd,sa,S,rfl,hF,hk,hf,ho,hw,hg,q⟩:=h
 walk_at "hr"
 refine⟨_,(pss_one (ps_ret pe_str)),?_⟩
 cases kd <;> first
  | exact absurd hF Bool.false_ne_true
  | exact q H (Same.refl _)
theorem ok_Pick_word {k r:Nat} (F:Fun K "word" "Pick.word" s_Pick_word f fd):FnOk P w K mg base CX0 (k + 2) f fd ["self"] (spW (Cl5.mk Va Vb Vc Vd Ve) K r Kd.isPick wdK):=by
 w_cond sc_Pick_word
 ·obtain⟨a,kd,sa,S,rfl,_⟩:=h;rfl
 obtain⟨a,kd,sa,S,rfl,hF,hk,hf,ho,hw,hg,q⟩:=h
 walk_at "hr"
 refine⟨_,(pss_one (ps_ret pe_str)),?_⟩
 cases kd <;> first
  | exact absurd hF Bool.false_ne_true
  | exact q H (Same.refl _)
theorem ok_Num_text {k r:Nat} (F:Fun K "text" "Num.text" s_Num_text f fd):FnOk P w K mg base CX0 (k + 2) f fd ["self"] (spW (Cl5.mk Va Vb Vc Vd Ve) K r Kd.isNum txK):=by
 w_cond sc_Num_text
 ·obtain⟨a,kd,sa,S,rfl,_⟩:=h;rfl
 obtain⟨a,kd,sa,S,rfl,hF,hk,hf,ho,hw,hg,q⟩:=h
 walk_at "hr"
 refine⟨_,(pss_one (ps_ret (pe_join (pj_str (pj_val (pe_fld (pv 0) rfl) pj_nil))))),?_⟩
 cases id ho with
 | @num a dx n h1 =>
  have hn:n<=9:=by have:=hf.2;omega
  obtain⟨_,d2,_,_⟩:=dig hn
  have q':=q H (Same.refl _)
  have e0:Str.empty++Str.ofString "num " = Str.ofString "num ":=emp_app _
  refine⟨by rw [e0,sizeLine_eq];decide,_,rfl,a,Va,_,_,_,rfl,h1,Ua.cl,Ua.na _ (by decide),rfl,Str.ofString (toString (n:Int)),(by show (if ((n:Int)).natAbs < 2 ^ 100 then some (Str.ofString (toString (n:Int))) else none)=_;rw [if_pos (by rw [Int.natAbs_natCast];exact Nat.lt_of_le_of_lt hn (by decide))]),by rw [d2,sizeLine_eq];decide,by rw [e0,strLen_append,d2,sizeLine_eq];decide,by rw [e0,strLen_append,d2,sizeLine_eq];decide,?_⟩
  rw [e0]
  exact q'
 | _=>cases hF
theorem ok_Nested_text {k r:Nat} (F:Fun K "text" "Nested.text" s_Nested_text f fd):FnOk P w K mg base CX0 (k + 2) f fd ["self"] (spW (Cl5.mk Va Vb Vc Vd Ve) K r Kd.isNest txK):=by
 w_cond sc_Nested_text
 ·obtain⟨a,kd,sa,S,rfl,_⟩:=h;rfl
 obtain⟨a,kd,sa,S,rfl,hF,hk,hf,ho,hw,hg,q⟩:=h
 walk_at "hr"
 refine⟨_,(pss_one (ps_ret (pe_fld (pe_fld (pv 0) rfl) rfl))),?_⟩
 cases id ho with
 | @nest a dx s i e h1 =>
  obtain⟨sh,hS,dx2,t,ps,k1,k2,k3⟩:=hw.at e
  have q':=q H (Same.refl _)
  have e1:txK (Kd.nest i) S=V.str sh.1:=by
   show V.str (nmOf S i)=_
   rw [nmOf_get hS]
  rw [e1] at q'
  exact⟨_,rfl,a,Vb,_,_,_,rfl,h1,Ub.cl,Ub.na _ (by decide),rfl,s,Ve,_,_,_,rfl,k1,Ue.cl,Ue.na _ (by decide),rfl,q'⟩
 | _=>cases hF
theorem ok_Many_text {k r:Nat} (F:Fun K "text" "Many.text" s_Many_text f fd) (VT_text:∀ C sp,TW (Cl5.mk Va Vb Vc Vd Ve) K r txK C sp->VRow P w K mg base CX0 k "text" C sp):FnOk P w K mg base CX0 (k + 2) f fd ["self"] (spW (Cl5.mk Va Vb Vc Vd Ve) K (r + 1) Kd.isMany txK):=by
 w_cond sc_Many_text
 ·obtain⟨a,kd,sa,S,rfl,_⟩:=h;rfl
 obtain⟨a,kd,sa,S,rfl,hF,hk,hf,ho,hw,hg,q⟩:=h
 walk_at "hr"
 refine⟨_,(pss_one (ps_ret (pe_join (pj_str (pj_val (pe_fld (pv 0) rfl) (pj_str (pj_val (pe_methV0 (pe_fld (pv 0) rfl) VT_text hr pass0) pj_nil))))))),?_⟩
 have jc:∀ (x:Str) (ys:List Str),ys ≠ []->Str.join L2.spS (x::ys)=x++L2.spS++Str.join L2.spS ys:=fun x ys h=>join_cons h
 cases id ho with
 | @many a dx b n k h1 h2 =>
  have hn6:n<=6:=hf.2.1
  have d2:=(dig (w:=n) (by omega)).2.1
  have kl:(Str.join L2.spS (k.words (nmOf S))).length<=100:=by
   obtain⟨v6,v5⟩:=words_len hg.2 hf.sub
   have h3:(Str.join L2.spS (k.words (nmOf S))).length<=_:=join_len (c:=32) (m:=6) v6
   omega
  have e0:Str.empty++Str.ofString "row " = Str.ofString "row ":=emp_app _
  have l0:(Str.ofString "row ").length=4:=rfl
  have l1:(Str.ofString " ").length=1:=rfl
  refine⟨by rw [e0,sizeLine_eq];decide,_,rfl,a,Vc,_,_,_,rfl,h1,Uc.cl,Uc.na _ (by decide),rfl,Str.ofString (toString (n:Int)),(by show (if ((n:Int)).natAbs < 2 ^ 100 then some (Str.ofString (toString (n:Int))) else none)=_;rw [if_pos (by rw [Int.natAbs_natCast];exact Nat.lt_of_le_of_lt hn6 (by decide))]),by rw [d2,sizeLine_eq];decide,by rw [e0,strLen_append,d2,sizeLine_eq];decide,by rw [e0,strLen_append,strLen_append,d2,sizeLine_eq];decide,_,rfl,a,Vc,_,_,_,rfl,h1,Uc.cl,Uc.na _ (by decide),rfl,callW (fun _ _=>⟨rfl,rfl,rfl,rfl⟩) hk.sub hf.sub h2 hw hg fun H' g=>⟨_,rfl,by rw [sizeLine_eq];omega,by rw [e0,strLen_append,strLen_append,strLen_append,d2,sizeLine_eq,l0,l1];omega,by rw [e0,strLen_append,strLen_append,strLen_append,d2,sizeLine_eq,l0,l1];omega,?_⟩⟩
  have q':=q H' g
  rw [show txK (Kd.many n k) S=V.str (Str.join spS (Str.ofString "row" :: Str.ofString (toString ((n:Nat):Int))::k.words (nmOf S))) from rfl,jc _ _ (by simp),jc _ _ (Kd.words_ne _ _)] at q'
  rw [e0,Str.append_assoc,Str.append_assoc]
  rw [Str.append_assoc,Str.append_assoc,← Str.append_assoc (Str.ofString "row")] at q'
  exact q'
 | _=>cases hF
theorem ok_Pick_text {k r:Nat} (F:Fun K "text" "Pick.text" s_Pick_text f fd):FnOk P w K mg base CX0 (k + 2) f fd ["self"] (spW (Cl5.mk Va Vb Vc Vd Ve) K r Kd.isPick txK):=by
 w_cond sc_Pick_text
 ·obtain⟨a,kd,sa,S,rfl,_⟩:=h;rfl
 obtain⟨a,kd,sa,S,rfl,hF,hk,hf,ho,hw,hg,q⟩:=h
 walk_at "hr"
 refine⟨_,(pss_one (ps_ret (pe_bm PySem.F.plainAttrs_str PySem.F.slot_str_join PySem.F.type_str_join mt_joinT pe_str (pa_cons (pe_op op_cat (pe_lst (pa_cons pe_str pa_nil)) (pe_comp ["shape"] [] [] rfl (pi_tup (pe_fld (pv 0) rfl)) rfl trivial trivial (fun _ _ _ _=>(pg_name (i:=0) (show List.Nodup (["shape"]:List Str) from by decide +kernel) rfl (Or.inl rfl))) (fun _ _ _ _=>pif_nil) (fun _ _ _ _=>(pe_fldK (K:=K) rfl (pv 0) rfl)))) pa_nil)))),?_⟩
 obtain⟨w6,w5⟩:=words_len hg.2 hf
 cases id ho with
 | @pick a dx t is ss h1 k2 hl hall =>
  have hs4:=hf.2.1
  have zl:(ss.map V.ref).length=is.length:=by rw [List.length_map,hl]
  refine⟨rfl,szL1,fun l1 hl1=>?_⟩
  generalize e1:upd H l1 _=H1
  obtain⟨g1,k1⟩:=new_facts e1 hl1
  refine⟨_,rfl,a,Vd,_,_,_,rfl,g1 _ _ h1,Ud.cl,Ud.na _ (by decide),rfl,t,rfl,⟨_,g1.tp k2⟩,comp_tup (xs:=ss.map V.ref) (fun j ys H'=>H'=H1/\ys=((is.take j).map (nmOf S)).map V.str) ⟨rfl,rfl⟩ (fun j ys H' _ z=>⟨by rw [z.1];exact g1.tp k2,by rw [z.2,List.length_map,List.length_map,List.length_take];exact Nat.min_le_left _ _⟩) (small1000 (by omega)) (fun j x ys H' hx z=>?_) (fun ys H' z p hp=>?_)⟩
  ·obtain⟨e',rfl⟩:=z
   subst e'
   obtain⟨s,hs,rfl⟩:=get_refs hx
   have hj:j < is.length:=by rw [← hl];exact (List.getElem?_eq_some_iff.mp hs).1
   have hi:is[j]?=some is[j]:=List.getElem?_eq_getElem hj
   generalize is[j]=i at hi
   obtain⟨sh,hS,dx2,t2,ps,m1,_⟩:=hw.at (hall j i s hi hs)
   refine⟨_,rfl,s,Ve,_,_,_,rfl,g1 _ _ m1,Ue.cl,Ue.na _ (by decide),rfl,⟨rfl,?_⟩,_,rfl⟩
   rw [map_snoc hi,List.map_append,nmOf_get hS];rfl
  ·obtain⟨e',rfl⟩:=z
   subst e'
   rw [zl,List.take_length]
   generalize e2:upd H' p _=H2
   obtain⟨g2,k2'⟩:=new_facts e2 hp
   refine⟨l1,p,_,_,rfl,rfl,g2 _ _ k1,k2',(by rw [sizeLine_eq,List.length_map,List.length_map];simp;omega),fun l3 hl3=>?_⟩
   generalize e3:upd H2 l3 _=H3
   obtain⟨g3,k3⟩:=new_facts e3 hl3
   refine⟨_,l3,Str.ofString "pick" :: is.map (nmOf S),rfl,rfl,SqL.of k3,?_,q H3 ((g1.trans g2).trans g3)⟩
   have hsum:((Str.ofString "pick" :: is.map (nmOf S)).map (·.length)).sum<=(Str.ofString "pick" :: is.map (nmOf S)).length * 6:=sum_le w6
   have hl5:(Str.ofString "pick" :: is.map (nmOf S)).length<=5:=w5
   have h1l:(Str.ofString " ").length=1:=rfl
   rw [h1l]
   omega
 | _=>cases hF
theorem ok_RoomError_init {k:Nat} (F:Fun K "__init__" "RoomError.__init__" s_RoomError_init f fd):FnOk P w K mg base CX0 (k + 2) f fd ["self","words"] (spRE K):=by
 w_cond sc_RoomError_init
 ·obtain⟨e,v,C',R,fI,dx,rfl,_⟩:=h;rfl
 obtain⟨e,v,C',R,fI,dx,rfl,he,cx,q⟩:=h
 walk_at "hr"
 refine⟨_,(pss_one (ps_expr (pe_vinit VI (pe_bltn (v:=.ty "ValueError") rfl M.ValueError (show bootBuiltins "ValueError" = some (.type "ValueError") from by decide +kernel) rfl) (pa_cons (pv 0) (pa_cons (pv 1) pa_nil))))),?_⟩
 exact⟨_,rfl,_,rfl,e,v,C',R,fI,dx,rfl,he,cx,q⟩
theorem ok_NoPath_init {k:Nat} (F:Fun K "__init__" "NoPath.__init__" s_NoPath_init f fd) {fd_RoomError_init:FuncData} (D_RoomError_init:DfI K fd_RoomError_init ["self","words"]) (G_RoomError_init:FnOk P w K mg base CX0 k fRE fd_RoomError_init ["self","words"] (spRE K)):FnOk P w K mg base (CXE P w) (k + 2) f fd ["self","path"] (spNP cNP):=by
 w_cond sc_NoPath_init
 ·obtain⟨e,v,rfl,_⟩:=h;rfl
 obtain⟨e,v,rfl,he,q⟩:=h
 walk_at "hr"
 refine⟨_,(pss_cons (ps_expr (pe_cinit tRE.i (pe_glob (v:=.ref cRE) rfl tRE.m rfl) G_RoomError_init hr D_RoomError_init.b .nil pass0 (pa_cons (pv 0) (pa_cons pe_str pa_nil))))
   (pss_one (ps_xfld (pv 0) (pv 1) rfl))),?_⟩
 refine⟨_,rfl,e,_,cNP,cRE,fNP,none,rfl,he,tNP.c,?_⟩
 exact⟨_,rfl,_,rfl,e,cNP,cRE,fNP,rfl,tNP.c,tNP.n _ (List.mem_singleton.mpr rfl),.inl ⟨he,fun dx hd=>q dx hd⟩⟩
theorem ok_law_whole {k:Nat} (F:Fun K "_law_whole" "_law_whole" s_law_whole f fd):FnOk P w K mg base CX0 (k + 2) f fd ["_law_found"] spWhole:=by
 w_cond sc_law_whole
 ·obtain⟨i,rfl,_⟩:=h;rfl
 obtain⟨i,rfl,q⟩:=h
 walk_at "hr"
 refine⟨_,(pss_one (ps_ret (pe_and (pe_callB call_isi rfl M.isinstance boot_isinstance (pa_cons (pv 0) (pa_cons (pe_bltn (v:=.ty "int") rfl M.int boot_int rfl) pa_nil))) (pe_one (pe_not (pe_callB call_isi rfl M.isinstance boot_isinstance (pa_cons (pv 0) (pa_cons (pe_bltn (v:=.ty "bool") rfl M.bool boot_bool rfl) pa_nil)))))))),?_⟩
 exact⟨_,rfl,_,_,"int",rfl,by decide,rfl,_,rfl,iteP (by decide) ⟨_,rfl,_,_,"int",rfl,by decide,rfl,_,rfl,q⟩⟩
theorem ok_Shapes_shape_of {k:Nat} (F:Fun K "shape_of" "Shapes.shape_of" s_Shapes_shape_of f fd) {fd_NoPath_init:FuncData} (D_NoPath_init:DfI K fd_NoPath_init ["self","path"]) (G_NoPath_init:FnOk P w K mg base (CXE P w) k fNP fd_NoPath_init ["self","path"] (spNP cNP)):FnOk P w K mg base (CXE P w) (k + 2) f fd ["self","name"] (spSO (Cl5.mk Va Vb Vc Vd Ve) Vf cNP K):=by
 w_cond sc_Shapes_shape_of
 ·obtain⟨ra,x,sa,S,rfl,_⟩:=h;rfl
 obtain⟨ra,x,sa,S,rfl,⟨dx,t,k1,k2,hw⟩,hnd,hq⟩:=h
 walk_at "hr"
 refine⟨_,(pss_cons (ps_for ownE rfl (pi_tup (pe_fld (pv 0) rfl)) (pg_name (i:=2) sc_Shapes_shape_of.nd rfl (Or.inl rfl)) (pss_one (ps_if (pt_cmpR (op_eqX (Nat.lt_of_le_of_lt (Nat.le_add_right _ _) hr.units)) (pe_fld (pv 2) rfl) (pv 1) (nomark _)) (pss_one (ps_ret (pv 2))) pss_nil)))
   (pss_one (ps_raise tNP.c G_NoPath_init hr0 rfl tNP.m D_NoPath_init.b .nil raisesE (pa_cons (pv 1) pa_nil)))),?_⟩
 refine⟨_,rfl,ra,Vf,_,_,_,rfl,k1,Uf.cl,Uf.na _ (by decide),rfl,t,rfl,⟨_,k2⟩,for_tup (xs:=sa.map V.ref) (fun j σ H'=>H'=H/\(∃ o2,σ = [some (.ref ra),some x,o2])/\∀ m s,m < j->S[m]?=some s->x ≠ .str s.1) ⟨rfl,⟨_,rfl⟩,fun m s z=>absurd z (Nat.not_lt_zero _)⟩ (fun j σ H' _ z=>by rw [z.1];exact k2) (fun j y σ H' hy z=>?_) (fun σ H' z=>?_)⟩
 ·obtain⟨e',⟨o2,rfl⟩,hno⟩:=z
  subst e'
  obtain⟨a,ha,rfl⟩:=get_refs hy
  obtain⟨s,hS,dx2,t2,ps,m1,_⟩:=hw.at ha
  refine⟨_,rfl,a,Ve,_,_,_,rfl,m1,Ue.cl,Ue.na _ (by decide),rfl,_,rfl,?_⟩
  by_cases hx:x=.str s.1
  ·subst hx
   refine .inl ⟨rfl,_,rfl,iteP (decide_eq_true rfl) ⟨_,rfl,?_⟩⟩
   rcases hq with⟨i,s',a',e,h1,h2,q⟩|⟨hr,_⟩
   ·have e1:s.1=s'.1:=V.str.inj e
    have eij:i=j:=nm_inj hnd (List.getElem?_eq_some_iff.mp h1).1 (List.getElem?_eq_some_iff.mp hS).1 (by rw [nmOf_get h1,nmOf_get hS,e1])
    subst eij
    rw [ha] at h2
    cases h2
    exact q
   ·exfalso
    rcases hr with⟨p,e,hp⟩|e|⟨_,e⟩|⟨_,e⟩|⟨_,e,_⟩
    ·exact hp (by rw [← V.str.inj e];exact List.mem_map.mpr ⟨s,List.mem_of_getElem? hS,rfl⟩)
    all_goals cases e
  ·have nx:∀ m s',m < j + 1->S[m]?=some s'->x ≠ .str s'.1:=fun m s' hm h e=>by
    by_cases hmj:m < j
    ·exact hno m s' hmj h e
    ·obtain rfl:m=j:=by omega
     rw [hS] at h;cases h
     exact hx e
   have flat:scal (.str s.1) x=true\/∃ b,x=.ref b/\((∃ xs,SqL K H' b xs)\/(∃ xs,SqT K H' b xs)\/∃ kvs,H' b=some (.dK kvs)):=by
    rcases hq with⟨i,s',a',rfl,_⟩|⟨⟨p,rfl,_⟩|rfl|⟨b,rfl⟩|⟨n,rfl⟩|h,_⟩
    ·exact .inl rfl
    ·exact .inl rfl
    ·exact .inl rfl
    ·exact .inl rfl
    ·exact .inl rfl
    ·exact .inr h
   rcases flat with hs|⟨b,rfl,hb⟩
   ·exact .inl ⟨hs,_,rfl,iteN (fun z=>hx (of_decide_eq_true z).symm) ⟨rfl,⟨_,rfl⟩,nx⟩⟩
   ·exact .inr ⟨_,b,rfl,rfl,hb,_,rfl,iteN (by decide) ⟨rfl,⟨_,rfl⟩,nx⟩⟩
 ·obtain⟨e',⟨o2,rfl⟩,hno⟩:=z
  subst e'
  rcases hq with⟨i,s',a',e,h1,h2,q⟩|⟨_,qx⟩
  ·exact absurd e (hno i s' (by rw [List.length_map];exact (List.getElem?_eq_some_iff.mp h2).1) h1)
  ·have fin:∀ e,H' e=none->∀ dx',upd H' e (Ex0 e cNP none) dx'=none->E (.ref e) none (upd (upd (upd (upd H' e (Ex0 e cNP none)) dx' (XD dx' [("path",x)])) e (Ex0 e cNP (some dx'))) e (ExF e cNP (some dx'))):=fun e he dx' hd=>by
    obtain⟨g2,hx⟩:=np_fin (v:=x) (Same.refl H') he hd
    exact qx e _ g2 he hx
   exact⟨True.intro,_,rfl,(by show 1<=1000;decide),fun e he=>⟨e,_,rfl,upd_same,fun dx' hd=>⟨rfl,e,some dx',rfl,upd_same,fin e he dx' hd⟩⟩⟩
theorem ok_Shapes_main {k:Nat} (F:Fun K "main" "Shapes.main" s_Shapes_main f fd):FnOk P w K mg base CX0 (k + 2) f fd ["self"] (spMn (Cl5.mk Va Vb Vc Vd Ve) Vf K):=by
 w_cond sc_Shapes_main
 ·obtain⟨ra,z,sa,S,rfl,_⟩:=h;rfl
 obtain⟨ra,z,sa,S,rfl,⟨dx,t,k1,k2,hw⟩,q⟩:=h
 walk_at "hr"
 refine⟨_,(pss_one (ps_ret (pe_ix ix_tup (pe_fld (pv 0) rfl) (pe_un un_neg pe_int) (fun _ _=>rfl)))),?_⟩
 exact⟨_,rfl,ra,Vf,_,_,_,rfl,k1,Uf.cl,Uf.na _ (by decide),rfl,_,rfl,t,_,_,_,rfl,rfl,k2,atI_lastR _ _,q⟩
theorem ok_Shapes_text {k r:Nat} (F:Fun K "text" "Shapes.text" s_Shapes_text f fd) (VT_text:∀ C sp,TW (Cl5.mk Va Vb Vc Vd Ve) K r txK C sp->VRow P w K mg base CX0 k "text" C sp):FnOk P w K mg base CX0 (k + 2) f fd ["self"] (spTT (Cl5.mk Va Vb Vc Vd Ve) Vf K r):=by
 w_cond sc_Shapes_text
 ·obtain⟨ra,sa,S,rfl,_⟩:=h;rfl
 obtain⟨ra,sa,S,rfl,⟨dx,t,k1,k2,hw⟩,hW,hne,hr12,q⟩:=h
 walk_at "hr"
 refine⟨_,(pss_cons (ps_set (i:=1) sc_Shapes_text.nd rfl (by walk_at "o") (pe_lst pa_nil))
   (pss_cons (ps_for PassesOwn.never rfl (pi_tup (pe_fld (pv 0) rfl)) (pg_name (i:=2) sc_Shapes_text.nd rfl (Or.inl rfl)) (pss_cons (ps_expr (pe_bm PySem.F.plainAttrs_list PySem.F.slot_list_append PySem.F.type_list_append mt_append (pv 1) (pa_cons (pe_join (pj_str (pj_val (pe_fld (pv 2) rfl) pj_nil))) pa_nil)))
   (pss_one (ps_expr (pe_bm PySem.F.plainAttrs_list PySem.F.slot_list_extend PySem.F.type_list_extend mt_extend (pv 1) (pa_cons (pe_comp ["name","kind"] [] [] rfl (pi_tup (pe_fld (pv 2) rfl)) rfl trivial trivial (fun _ _ _ _=>(pg_tupK (K:=K) (n:=2) rfl rfl (pgs_cons (pg_name (i:=0) (show List.Nodup (["name","kind"]:List Str) from by decide +kernel) rfl (Or.inl rfl)) (pgs_cons (pg_name (i:=1) (show List.Nodup (["name","kind"]:List Str) from by decide +kernel) rfl (Or.inl rfl)) pgs_nil)))) (fun _ _ _ _=>pif_nil) (fun _ _ _ _=>(pe_join (pj_val (pv 0) (pj_str (pj_val (pe_methV0 (pv 1) VT_text hr pass0) pj_nil)))))) pa_nil))))))
   (pss_one (ps_ret (pe_bm PySem.F.plainAttrs_str PySem.F.slot_str_join PySem.F.type_str_join mt_joinT pe_str (pa_cons (pv 1) pa_nil)))))),?_⟩
 obtain⟨h30,hrow,_⟩:=txt_ok hW hne
 have hn:=nok_of hW.nm
 have hSl:=hW.len
 have jc:∀ (x:Str) (ys:List Str),ys ≠ []->Str.join L2.spS (x::ys)=x++L2.spS++Str.join L2.spS ys:=fun x ys h=>join_cons h
 refine⟨szL0,fun ll hll=>?_⟩
 generalize e1:upd H ll _=H1
 obtain⟨g1,kl1⟩:=new_facts e1 hll
 have zl:(sa.map V.ref).length=S.length:=by rw [List.length_map];exact hw.1
 have few:∀ A:List Itm,(∃ B,itms S=A++B)->A.length<=30:=fun A ⟨B,e⟩=>by rw [e,List.length_append] at h30;omega
 refine⟨_,rfl,ra,Vf,_,_,_,rfl,(g1 _ _ k1),Uf.cl,Uf.na _ (by decide),rfl,t,rfl,⟨_,g1.tp k2⟩,for_tup (xs:=sa.map V.ref) (fun i σ H'=>∃ o2,σ = [some (.ref ra),some (.ref ll),o2]/\But ll H1 H'/\H' ll=some (.lst (((itms (S.take i)).map (rowT S)).map V.str))) ⟨_,rfl,But.refl,kl1⟩ (fun i σ H' _ z=>?_) (fun i x σ H' hx z=>?_) (fun σ H' z=>?_)⟩
 ·obtain⟨o2,rfl,g,_⟩:=z
  exact (But.from g1 hll g).tp k2
 ·obtain⟨o2,rfl,g,kl⟩:=z
  obtain⟨a,ha,rfl⟩:=get_refs hx
  obtain⟨sh,hS,dx2,t2,ps,m1,m2,m3⟩:=hw.at ha
  have hsS:=List.mem_of_getElem? hS
  have hi:i < S.length:=(List.getElem?_eq_some_iff.mp hS).1
  have gH:=But.from g1 hll g
  have eS:itms S=itms (S.take i)++(itm1 sh++itms (S.drop (i + 1))):=by
   conv=>lhs;rw [(split_at hS).1]
   rw [itms_app];rfl
  have hnm:=hW.nm sh hsS
  have hsl:=(name_len hnm).2
  have l1:=few (itms (S.take i)) ⟨_,eS⟩
  have e0:Str.empty++Str.ofString "shape " = Str.ofString "shape ":=emp_app _
  have l6:(Str.ofString "shape ").length=6:=rfl
  refine⟨_,rfl,.inl ⟨rfl,_,SqL.of kl⟩,(by rw [e0,sizeLine_eq];decide),_,rfl,a,Ve,_,_,_,rfl,(gH _ _ m1),Ue.cl,Ue.na _ (by decide),rfl,sh.1,rfl,(by rw [sizeLine_eq];omega),(by rw [e0,strLen_append,l6,sizeLine_eq];omega),(by rw [e0,strLen_append,l6,sizeLine_eq];omega),ll,_,_,rfl,rfl,kl,(by rw [List.length_map,List.length_map];exact Nat.lt_of_le_of_lt l1 (by decide)),?_⟩
  rw [e0]
  generalize e2:upd H' ll _=H2
  obtain⟨g2,k2x⟩:=chg_facts e2
  have gg2:=g.trans g2
  have gH2:=But.from g1 hll gg2
  have er:(Str.ofString "shape " ++ sh.1:Str)=rowT S (.sh sh.1):=by
   show _=Str.join L2.spS [Str.ofString "shape",sh.1]
   rw [jc _ _ (by simp)];rfl
  have k2':H2 ll=some (.lst (((itms (S.take i)++[Itm.sh sh.1]).map (rowT S)).map V.str)):=by
   rw [k2x,List.map_append,List.map_append]
   show some (HO.lst (_++[V.str (Str.ofString "shape " ++ sh.1)]))=_
   rw [er];rfl
  have zp:(ps.map V.ref).length=sh.2.length:=by rw [List.length_map];exact m3.len
  have h5:=hW.good.few i sh hS
  refine⟨_,rfl,.inl ⟨rfl,_,SqL.of k2'⟩,_,rfl,a,Ve,_,_,_,rfl,(gH2 _ _ m1),Ue.cl,Ue.na _ (by decide),rfl,t2,rfl,⟨_,gH2.tp m2⟩,comp_tupM (xs:=ps.map V.ref) (fun j ys H3=>Same H2 H3/\ys=(((sh.2.take j).map fun f=>rowT S (Itm.fd f.1 f.2))).map V.str) ⟨Same.refl _,rfl⟩ (fun j ys H3 _ z=>⟨z.1.tp (gH2.tp m2),by rw [z.2,List.length_map,List.length_map,List.length_take];exact Nat.min_le_left _ _⟩) (small1000 (by omega)) (fun j x ys H3 os ho hx z=>?_) (fun ys H3 z p hp=>?_)⟩
  ·obtain⟨g3,rfl⟩:=z
   obtain⟨o1,o2',rfl⟩:=len2 ho
   obtain⟨u,hu,rfl⟩:=get_refs hx
   obtain⟨nm',kd',kk,hfs,hq2,hko⟩:=m3.get hu
   have hfm:=List.mem_of_getElem? hfs
   have hfit:kd'.Fit S.length:=(hW.good.fit i sh hS _ hfm).1.mono (Nat.le_of_lt hi)
   have hfn':nm'.length<=6:=(name_len (hW.fnm sh hsS _ hfm)).2
   have gH3:=gH2.trans g3
   have kl100:(Str.join L2.spS (kd'.words (nmOf S))).length<=100:=by
    obtain⟨v6,v5⟩:=words_len hn hfit
    have h3:(Str.join L2.spS (kd'.words (nmOf S))).length<=_:=join_len (c:=32) (m:=6) v6
    omega
   have l1':(Str.ofString " ").length=1:=rfl
   have hr':kd'.Rk r:=Kd.Rk.mono (by omega) hfit.rk
   have hko':KO (Cl5.mk Va Vb Vc Vd Ve) K H3 sa kk kd':=by have:=(hko.more (sa.drop i)).same gH3;rwa [List.take_append_drop] at this
   refine⟨u,_,rfl,gH3.tp hq2,rfl,_,_,rfl,_,_,rfl,rfl,_,rfl,nm',rfl,(by rw [sizeLine_eq];omega),(by rw [emp_app,sizeLine_eq];omega),(by rw [emp_app,strLen_append,l1',sizeLine_eq];omega),_,rfl,callW (fun _ _=>⟨rfl,rfl,rfl,rfl⟩) hr' hfit hko' (hw.same gH3) ⟨hW.good,hn⟩ fun H4 g4=>⟨_,rfl,by rw [sizeLine_eq];omega,by rw [emp_app,strLen_append,strLen_append,l1',sizeLine_eq];omega,by rw [emp_app,strLen_append,strLen_append,l1',sizeLine_eq];omega,⟨g3.trans g4,?_⟩,[_,_],rfl,rfl⟩⟩
   rw [map_snoc hfs,List.map_append,emp_app]
   show _=_++[V.str (Str.join L2.spS (nm'::kd'.words (nmOf S)))]
   rw [jc _ _ (Kd.words_ne _ _)]
   rfl
  ·obtain⟨g3,rfl⟩:=z
   rw [zp,take_len]
   generalize e4:upd H3 p _=H4
   obtain⟨g4,k4⟩:=new_facts e4 hp
   have g24:=g3.trans g4
   have kll4:=g24 _ _ k2'
   refine⟨ll,p,_,_,rfl,rfl,kll4,k4,(by simp only [List.length_map,List.length_append,List.length_cons,List.length_nil,sizeLine_eq];omega),?_⟩
   generalize e5:upd H4 ll _=H5
   obtain⟨g5,k5⟩:=chg_facts e5
   refine⟨_,rfl,(gg2.trans (But.of g24)).trans g5,?_⟩
   rw [k5,show S.take (i + 1)=S.take i++[sh] from by rw [List.take_add_one,hS];rfl,itms_app]
   show some (HO.lst _)=some (HO.lst (((itms (S.take i)++(itm1 sh++[])).map (rowT S)).map V.str))
   rw [List.append_nil]
   unfold itm1
   congr 2
   simp only [List.map_append,List.map_cons,List.map_nil,List.append_assoc,List.map_map]
   rfl
 ·obtain⟨o2,rfl,g,kl⟩:=z
  rw [zl,take_len] at kl
  refine⟨rfl,_,rfl,_,ll,(itms S).map (rowT S),rfl,rfl,SqL.of kl,?_,?_⟩
  ·have hs:(((itms S).map (rowT S)).map (·.length)).sum<=((itms S).map (rowT S)).length * 100:=sum_le (fun x hx=>by
    obtain⟨it,hit,rfl⟩:=List.mem_map.mp hx
    exact (hrow it hit).1)
   have h1l:(Str.ofString "\n").length=1:=rfl
   rw [List.length_map] at hs
   rw [h1l,List.length_map]
   omega
  ·have:=q H' (But.from g1 hll g)
   rw [txt_rows] at this
   exact this
theorem ok_law_number {k:Nat} (F:Fun K "_law_number" "_law_number" s_law_number f fd) {f_law_whole:Addr} {fd_law_whole:FuncData} (D_law_whole:Df K mg "_law_whole" f_law_whole fd_law_whole ["_law_found"]) (G_law_whole:FnOk P w K mg base CX0 k f_law_whole fd_law_whole ["_law_found"] spWhole):FnOk P w K mg base CX0 (k + 2) f fd ["_law_found","_law_due"] spNb:=by
 w_cond sc_law_number
 ·obtain⟨a,rfl,_⟩:=h;rfl
 obtain⟨a,rfl,q⟩:=h
 walk_at "hr"
 refine⟨_,(pss_one (ps_ret (pe_and (pe_call G_law_whole hr rfl D_law_whole.m D_law_whole.k D_law_whole.b .nil pass0 (pa_cons (pv 0) pa_nil)) (pe_one (pe_cmpR op_eq (pv 0) (pv 1) (nomark _)))))),?_⟩
 refine⟨_,rfl,a,rfl,_,rfl,iteP rfl ⟨_,rfl,_,rfl,rfl,?_⟩⟩
 rw [decide_eq_true rfl]
 exact q
theorem ok_law_no_shape {k:Nat} (F:Fun K "_law_no_shape" "_law_no_shape" s_law_no_shape f fd) {f_Shapes_shape_of:Addr} {fd_Shapes_shape_of:FuncData} (D_Shapes_shape_of:DfM K Vf "shape_of" f_Shapes_shape_of fd_Shapes_shape_of ["self","name"]) (G_Shapes_shape_of:FnOk P w K mg base (CXE P w) k f_Shapes_shape_of fd_Shapes_shape_of ["self","name"] (spSO (Cl5.mk Va Vb Vc Vd Ve) Vf cNP K)):FnOk P w K mg base CX0 (k + 2) f fd ["_law_read","_law_thing"] (spNS (Cl5.mk Va Vb Vc Vd Ve) Vf K):=by
 w_cond sc_law_no_shape
 ·obtain⟨ra,x,sa,S,rfl,_⟩:=h;rfl
 obtain⟨ra,x,sa,S,rfl,hro,hnd,hno,q⟩:=h
 walk_at "hr"
 refine⟨_,(pss_cons (ps_set (i:=2) sc_law_no_shape.nd rfl (by walk_at "o") pe_non)
   (pss_cons (ps_try (i:=3) rfl rfl rfl rfl tNP.m tNP.x sc_law_no_shape.nd rfl rfl (fun _ _ _=>(pss_one (ps_expr (pe_methS (pv 0) Uf.cl D_Shapes_shape_of.me G_Shapes_shape_of hr D_Shapes_shape_of.b .nil passT (pa_cons (pv 1) pa_nil))))) (fun _=>(pss_one (ps_set (i:=2) sc_law_no_shape.nd rfl (by walk_at "o") (pe_lst (pa_cons (pe_xfldK (K:=K) rfl (pv 3) rfl) pa_nil))))))
   (pss_one (ps_ret (pe_and (pe_cmpR (op_eqSame hr.units) (pv 2) (pe_lst (pa_cons (pv 1) pa_nil)) (nomark _)) (pe_one (pe_cmpR op_eq (pe_callB call_isiM rfl M.isinstance boot_isinstance (pa_cons (pe_ix ix_list (pv 2) pe_int (fun _ _=>rfl)) (pa_cons (pe_bltn (v:=.ty "bool") rfl M.bool boot_bool rfl) pa_nil))) (pe_callB call_isiM rfl M.isinstance boot_isinstance (pa_cons (pv 1) (pa_cons (pe_bltn (v:=.ty "bool") rfl M.bool boot_bool rfl) pa_nil))) (nomark _)))))))),?_⟩
 obtain⟨dx,t,k1,k2,hw⟩:=id hro
 obtain⟨⟨ty,hty⟩,hse⟩:=NoNm_ty hno
 refine⟨fun σ=>σ = [some (.ref ra),some x,some .non,none],fun v _ H'=>∃ e,v=.ref e/\Same H H'/\NPx cNP H' e x,?_,fun σ' e H' hS hW=>?_⟩
 ·exact⟨_,rfl,ra,dx,_,rfl,k1,rfl,_,rfl,rfl,ra,x,sa,S,rfl,hro,hnd,.inr ⟨hno,fun e H1 g1 he hx=>⟨e,rfl,g1,hx⟩⟩⟩
 ·subst hS
  obtain⟨e2,ee,g,dx',hE,hX⟩:=hW
  cases ee
  refine⟨cNP,some dx',_,hE,tNP.x,(by simp),?_⟩
  refine⟨_,rfl,e,cNP,cRE,fNP,dx',_,_,rfl,.inl hE,hX,tNP.c,tNP.n _ (List.mem_singleton.mpr rfl),rfl,szL1,fun p hp=>?_⟩
  generalize e1:upd H' p _=H1
  obtain⟨g1,m1⟩:=new_facts e1 hp
  refine⟨_,rfl,_,rfl,szL1,fun p2 hp2=>?_⟩
  generalize e2:upd H1 p2 _=H2
  obtain⟨g2,m2⟩:=new_facts e2 hp2
  have gg:=g.trans (g1.trans g2)
  have m1':=g2 _ _ m1
  refine⟨p,p2,_,rfl,rfl,SqL.of m1',SqL.of m2,(fun v hv=>by rw [List.mem_singleton.mp hv];exact hse),_,rfl,iteP rfl ⟨_,rfl,p,_,_,_,rfl,rfl,SqL.of m1',rfl,x,"bool",ty,rfl,by decide,tyM_same gg hty,_,rfl,x,"bool",ty,rfl,by decide,tyM_same gg hty,rfl,?_⟩⟩
  rw [decide_eq_true rfl]
  exact q _ gg
theorem ok_law_kind_right {k r:Nat} {m:Nat} (hR : 12<=r) (F:Fun K "_law_kind_right" "_law_kind_right" s_law_kind_right f fd) {C_Kind:Addr} (KC:KdM K mg (Cl5.mk Va Vb Vc Vd Ve) C_Kind Vf) (VT_word:∀ C sp,TW (Cl5.mk Va Vb Vc Vd Ve) K r wdK C sp->VRow P w K mg base CX0 k "word" C sp) (VT_text:∀ C sp,TW (Cl5.mk Va Vb Vc Vd Ve) K r txK C sp->VRow P w K mg base CX0 k "text" C sp) {f_law_kind_text:Addr} {fd_law_kind_text:FuncData} (D_law_kind_text:Df K mg "_law_kind_text" f_law_kind_text fd_law_kind_text ["_law_kind_here","_law_shapes_here"]) (G_law_kind_text:FnOk P w K mg base CX0 k f_law_kind_text fd_law_kind_text ["_law_kind_here","_law_shapes_here"] (spKT K 2)) (VT_size:∀ C sp,TV (Cl5.mk Va Vb Vc Vd Ve) K r vSz C sp->VRow P w K mg base CX0 k "size" C sp) {f_law_size:Addr} {fd_law_size:FuncData} (D_law_size:Df K mg "_law_size" f_law_size fd_law_size ["_law_kind_here","_law_shapes_here"]) (G_law_size:FnOk P w K mg base CX0 k f_law_size fd_law_size ["_law_kind_here","_law_shapes_here"] (spLV K vSz (r + 1))) (VT_depth:∀ C sp,TV (Cl5.mk Va Vb Vc Vd Ve) K r vDp C sp->VRow P w K mg base CX0 k "depth" C sp) {f_law_depth:Addr} {fd_law_depth:FuncData} (D_law_depth:Df K mg "_law_depth" f_law_depth fd_law_depth ["_law_kind_here","_law_shapes_here"]) (G_law_depth:FnOk P w K mg base CX0 k f_law_depth fd_law_depth ["_law_kind_here","_law_shapes_here"] (spLV K vDp (r + 1))) {f_law_number:Addr} {fd_law_number:FuncData} (D_law_number:Df K mg "_law_number" f_law_number fd_law_number ["_law_found","_law_due"]) (G_law_number:FnOk P w K mg base CX0 k f_law_number fd_law_number ["_law_found","_law_due"] spNb) {f_law_kind_right:Addr} {fd_law_kind_right:FuncData} (D_law_kind_right:Df K mg "_law_kind_right" f_law_kind_right fd_law_kind_right ["_law_found","_law_kind_here","_law_shapes_here"]) (G_law_kind_right:FnOk P w K mg base CX0 k f_law_kind_right fd_law_kind_right ["_law_found","_law_kind_here","_law_shapes_here"] (spKR (Cl5.mk Va Vb Vc Vd Ve) K m)):FnOk P w K mg base CX0 (k + 2) f fd ["_law_found","_law_kind_here","_law_shapes_here"] (spKR (Cl5.mk Va Vb Vc Vd Ve) K (m + 1)):=by
 w_cond sc_law_kind_right
 ·obtain⟨fo,t,sl,kd,sa,S,rfl,_⟩:=h;rfl
 obtain⟨fo,t,sl,kd,sa,S,rfl,hlv,ho,lk,hw,hlx,hg,hn,hf,h5,q⟩:=h
 walk_at "hr"
 refine⟨_,(pss_cons (ps_set (i:=3) sc_law_kind_right.nd rfl (by walk_at "o") (pe_disp (pps_cons pe_str pe_str (pps_cons pe_str pe_str (pps_cons pe_str pe_str (pps_cons pe_str pe_str pps_nil)))) rfl rfl (fun z=>nomatch z) (by decide)))
   (pss_cons (ps_set (i:=4) sc_law_kind_right.nd rfl (by walk_at "o") (pe_lst (pa_cons (pe_callB (call_isO (K:=K) rfl) rfl M.isinstance boot_isinstance (pa_cons (pv 0) (pa_cons (pe_glob (v:=.ref Va) rfl Ua.m rfl) pa_nil))) (pa_cons (pe_callB (call_isO (K:=K) rfl) rfl M.isinstance boot_isinstance (pa_cons (pv 0) (pa_cons (pe_glob (v:=.ref Vb) rfl Ub.m rfl) pa_nil))) (pa_cons (pe_callB (call_isO (K:=K) rfl) rfl M.isinstance boot_isinstance (pa_cons (pv 0) (pa_cons (pe_glob (v:=.ref Vc) rfl Uc.m rfl) pa_nil))) (pa_cons (pe_callB (call_isO (K:=K) rfl) rfl M.isinstance boot_isinstance (pa_cons (pv 0) (pa_cons (pe_glob (v:=.ref Vd) rfl Ud.m rfl) pa_nil))) pa_nil))))))
   (pss_cons (ps_if (PW.pt (pw_or (pt_not (pt_val (pe_callB (call_isO (K:=K) rfl) rfl M.isinstance boot_isinstance (pa_cons (pv 0) (pa_cons (pe_glob (v:=.ref C_Kind) rfl KC.m rfl) pa_nil))))) (pw_or1 (pt_cmpR (op_neE hr.units) (pv 4) (pe_comp ["_law_word"] ["_law_kind_here"] [1] rfl (pi_list (pe_lst (pa_cons pe_str (pa_cons pe_str (pa_cons pe_str (pa_cons pe_str pa_nil)))))) rfl ⟨rfl,trivial⟩ ⟨⟨rfl,rfl,rfl,_,rfl⟩,trivial⟩ (fun _ _ _ _=>(pg_name (i:=0) (show List.Nodup (["_law_word","_law_kind_here"]:List Str) from by decide +kernel) rfl (Or.inl rfl))) (fun _ _ _ _=>pif_nil) (fun _ _ _ _=>(pe_cmpR op_eq (pe_ix (ix_tupK K rfl) (pv 1) pe_int (fun _ _=>rfl)) (pv 0) (nomark _)))) (nomark _))))) (pss_one (ps_ret pe_bl)) pss_nil)
   (pss_cons (ps_if (PW.pt (pw_or (pt_cmpR op_ne (pe_methV0 (pv 0) VT_word hr pass0) (pe_dget hr.units1 (pv 3) (pe_ix (ix_tupK K rfl) (pv 1) pe_int (fun _ _=>rfl)) (fun _ _=>rfl)) (nomark _)) (pw_or1 (pt_cmpR op_ne (pe_methV0 (pv 0) VT_text hr pass0) (pe_call G_law_kind_text hr rfl D_law_kind_text.m D_law_kind_text.k D_law_kind_text.b .nil pass0 (pa_cons (pv 1) (pa_cons (pv 2) pa_nil))) (nomark _))))) (pss_one (ps_ret pe_bl)) pss_nil)
   (pss_cons (ps_if (pt_not (pt_val (pe_call G_law_number hr rfl D_law_number.m D_law_number.k D_law_number.b .nil pass0 (pa_cons (pe_methV0 (pv 0) VT_size hr pass0) (pa_cons (pe_call G_law_size hr rfl D_law_size.m D_law_size.k D_law_size.b .nil pass0 (pa_cons (pv 1) (pa_cons (pv 2) pa_nil))) pa_nil))))) (pss_one (ps_ret pe_bl)) pss_nil)
   (pss_cons (ps_if (pt_not (pt_val (pe_call G_law_number hr rfl D_law_number.m D_law_number.k D_law_number.b .nil pass0 (pa_cons (pe_methV0 (pv 0) VT_depth hr pass0) (pa_cons (pe_call G_law_depth hr rfl D_law_depth.m D_law_depth.k D_law_depth.b .nil pass0 (pa_cons (pv 1) (pa_cons (pv 2) pa_nil))) pa_nil))))) (pss_one (ps_ret pe_bl)) pss_nil)
   (pss_cons (ps_if (pt_val (pe_callB (call_isO (K:=K) rfl) rfl M.isinstance boot_isinstance (pa_cons (pv 0) (pa_cons (pe_glob (v:=.ref Va) rfl Ua.m rfl) pa_nil)))) (pss_one (ps_ret (pe_call G_law_number hr rfl D_law_number.m D_law_number.k D_law_number.b .nil pass0 (pa_cons (pe_fld (pv 0) rfl) (pa_cons (pe_ix ix_tup (pv 1) pe_int (fun _ _=>rfl)) pa_nil))))) pss_nil)
   (pss_cons (ps_if (pt_val (pe_callB (call_isO (K:=K) rfl) rfl M.isinstance boot_isinstance (pa_cons (pv 0) (pa_cons (pe_glob (v:=.ref Vb) rfl Ub.m rfl) pa_nil)))) (pss_one (ps_ret (pe_cmpR op_eq (pe_fld (pe_fld (pv 0) rfl) rfl) (pe_ix ix_tup (pe_ix ix_list (pv 2) (pe_ix ix_tup (pv 1) pe_int (fun _ _=>rfl)) (fun _ _=>rfl)) pe_int (fun _ _=>rfl)) (nomark _)))) pss_nil)
   (pss_cons (ps_if (pt_val (pe_callB (call_isO (K:=K) rfl) rfl M.isinstance boot_isinstance (pa_cons (pv 0) (pa_cons (pe_glob (v:=.ref Vc) rfl Uc.m rfl) pa_nil)))) (pss_one (ps_ret (pe_and (pe_call G_law_number hr rfl D_law_number.m D_law_number.k D_law_number.b .nil pass0 (pa_cons (pe_fld (pv 0) rfl) (pa_cons (pe_ix ix_tup (pv 1) pe_int (fun _ _=>rfl)) pa_nil))) (pe_one (pe_call G_law_kind_right hr rfl D_law_kind_right.m D_law_kind_right.k D_law_kind_right.b .nil pass0 (pa_cons (pe_fld (pv 0) rfl) (pa_cons (pe_ix ix_tup (pv 1) pe_int (fun _ _=>rfl)) (pa_cons (pv 2) pa_nil)))))))) pss_nil)
   (pss_cons (ps_if (PW.pt (pw_or (pt_not (pt_val (pe_callB (call_isO (K:=K) rfl) rfl M.isinstance boot_isinstance (pa_cons (pv 0) (pa_cons (pe_glob (v:=.ref Vd) rfl Ud.m rfl) pa_nil))))) (pw_or1 (pt_not (pt_val (pe_callB call_isiM rfl M.isinstance boot_isinstance (pa_cons (pe_fld (pv 0) rfl) (pa_cons (pe_bltn (v:=.ty "tuple") rfl M.tuple boot_tuple rfl) pa_nil)))))))) (pss_one (ps_ret pe_bl)) pss_nil)
   (pss_one (ps_ret (pe_cmpR (op_eqS (Nat.lt_of_le_of_lt (Nat.le_add_right _ _) hr.units)) (pe_comp ["_law_shape"] [] [] rfl (pi_tup (pe_fld (pv 0) rfl)) rfl trivial trivial (fun _ _ _ _=>(pg_name (i:=0) (show List.Nodup (["_law_shape"]:List Str) from by decide +kernel) rfl (Or.inl rfl))) (fun _ _ _ _=>pif_nil) (fun _ _ _ _=>(pe_fldK (K:=K) rfl (pv 0) rfl))) (pe_comp ["_law_at"] ["_law_shapes_here"] [2] rfl (pi_list (pe_ix ix_tup (pv 1) pe_int (fun _ _=>rfl))) rfl ⟨rfl,trivial⟩ ⟨⟨rfl,rfl,rfl,_,rfl⟩,trivial⟩ (fun _ _ _ _=>(pg_name (i:=0) (show List.Nodup (["_law_at","_law_shapes_here"]:List Str) from by decide +kernel) rfl (Or.inl rfl))) (fun _ _ _ _=>pif_nil) (fun _ _ _ _=>(pe_ix (ix_tupK K rfl) (pe_ix (ix_listK K rfl) (pv 1) (pv 0) (fun _ _=>rfl)) pe_int (fun _ _=>rfl)))) (nomark _)))))))))))))),?_⟩
 have hr':kd.Rk r:=Kd.Rk.mono (by omega) hf.rk
 have hlv1:=kd.lv_le
 obtain⟨Co,dxo,fso,hC,hix⟩:=KO_cls ho
 have hmem:=List.mem_of_getElem? hix
 obtain⟨rest,hhd⟩:=LKhd lk
 refine fun pd hpd=>⟨upd_same,wdsD,rfl,(by decide),?_⟩
 generalize e1:upd (upd H pd _) pd _=H1
 have kd1:H1 pd=some (.dK (mergeK [] wdsD)):=by rw [← e1];exact upd_same
 have g1:Same H H1:=fun b o e=>by rw [← e1,upd_ne (ne_of_none e hpd),upd_ne (ne_of_none e hpd)];exact e
 clear e1
 have ty1:=(KC.i4 _ hmem).ty (g1 _ _ hC)
 refine⟨_,rfl,.ref fo,Va,_,_,rfl,ty1,KC.kd _ 0 _ _ hix rfl,_,rfl,.ref fo,Vb,_,_,rfl,ty1,KC.kd _ 1 _ _ hix rfl,_,rfl,.ref fo,Vc,_,_,rfl,ty1,KC.kd _ 2 _ _ hix rfl,_,rfl,.ref fo,Vd,_,_,rfl,ty1,KC.kd _ 3 _ _ hix rfl,szL4,fun l1 hl1=>?_⟩
 generalize e2:upd H1 l1 _=H2
 obtain⟨g2,k2⟩:=new_facts e2 hl1
 have ty2:=(KC.i4 _ hmem).ty (g2 _ _ (g1 _ _ hC))
 refine⟨_,rfl,.ref fo,C_Kind,_,true,rfl,ty2,KC.kk _ hmem,_,rfl,iteN (by decide) ⟨_,rfl,szL4,fun l2 hl2=>?_⟩⟩
 generalize e3:upd H2 l2 _=H3
 obtain⟨g3,k3'⟩:=new_facts e3 hl2
 have k3:H3 l2=some (.lst ((["num","shape","row","pick"]:List Str).map V.str)):=k3'
 have g03:=g1.trans (g2.trans g3)
 refine⟨l2,rfl,⟨_,SqL.of k3⟩,comp_list (xs:=(["num","shape","row","pick"]:List Str).map V.str) (fun j ys H'=>H'=H3/\ys=(((["num","shape","row","pick"]:List Str).take j).map fun w=>V.bl (decide (V.str (kdWord kd)=V.str w)))) ⟨rfl,rfl⟩ (fun j ys H' _ z=>⟨by rw [z.1];exact SqL.of k3,by rw [z.2,List.length_map,List.length_take];exact Nat.min_le_left _ _⟩) (by show 4 < sizeLine;decide) (fun j x ys H' hx z=>?_) (fun ys H' z l3 hl3=>?_)⟩
 ·obtain⟨e',rfl⟩:=z
  subst e'
  obtain⟨y,hy,rfl⟩:=get_strs hx
  exact⟨_,rfl,t,_,_,_,rfl,rfl,g03.tp hhd,at0,_,rfl,rfl,⟨rfl,(mapT hy).symm⟩,_,rfl⟩
 obtain⟨e',rfl⟩:=z
 subst e'
 rw [show (((["num","shape","row","pick"]:List Str).take ((["num","shape","row","pick"]:List Str).map V.str).length).map fun w=>V.bl (decide (V.str (kdWord kd)=V.str w)))=_ from (sorts_eq kd).symm]
 generalize e4:upd H' l3 _=H4
 obtain⟨g4,k4⟩:=new_facts e4 hl3
 have g04:=g03.trans g4
 refine⟨l1,l3,_,_,rfl,rfl,SqL.of (g4 _ _ (g3 _ _ k2)),SqL.of k4,rfl,(fun j x y h1 h2=>?_),_,rfl,iteN (by decide) ?_⟩
 ·rw [h1] at h2
  cases h2
  refine EqS.same (.inl ?_)
  match j,h1 with
  | 0,h1=>cases h1;rfl
  | 1,h1=>cases h1;rfl
  | 2,h1=>cases h1;rfl
  | 3,h1=>cases h1;rfl
  | j + 4,h1=>simp at h1
 have kd4:=g4 _ _ (g3 _ _ (g2 _ _ kd1))
 have ho4:=ho.same g04
 have dg:∀ {G:Hp},Same H4 G->DGet G pd (.str (kdWord kd)) (some (.str (kdWord kd))):=fun g=>by
  have:=DGet.k (k:=Sum.inr (kdWord kd)) (g _ _ kd4)
  rw [words_get kd] at this
  exact this
 refine⟨_,rfl,callW (fun _ _=>⟨rfl,rfl,rfl,rfl⟩) hr' hf ho4 (hw.same g04) ⟨hg,hn⟩ fun H5 g5=>⟨_,rfl,_,rfl,t,_,_,_,rfl,rfl,g5.tp (g04.tp hhd),at0,pd,_,rfl,dg g5,rfl,_,rfl,iteN (by simp) ?_⟩⟩
 have g05:=g04.trans g5
 refine⟨_,rfl,callW (fun _ _=>⟨rfl,rfl,rfl,rfl⟩) hr' hf (ho.same g05) (hw.same g05) ⟨hg,hn⟩ fun H6 g6=>⟨_,rfl,_,rfl,t,sl,kd,S,rfl,by omega,hf,hn,lk.same (g05.trans g6),hlx.same (g05.trans g6),fun H7 g7=>⟨rfl,_,rfl,iteN (by simp) ?_⟩⟩⟩
 have g07:=g05.trans (g6.trans g7)
 refine⟨_,rfl,callV (nolk (.inl rfl)) hr' hf (ho.same g07) (hw.same g07) hg fun H8 g8=>⟨_,rfl,_,rfl,t,sl,kd,S,rfl,hr',by omega,hf,lk.same (g07.trans g8),hlx.same (g07.trans g8),hg,fun H9 g9=>⟨_,rfl,_,rfl,iteN (by decide) ?_⟩⟩⟩
 have g09:=g07.trans (g8.trans g9)
 refine⟨_,rfl,callV (nolk (.inr (.inl rfl))) hr' hf (ho.same g09) (hw.same g09) hg fun HA gA=>⟨_,rfl,_,rfl,t,sl,kd,S,rfl,hr',by omega,hf,lk.same (g09.trans gA),hlx.same (g09.trans gA),hg,fun HB gB=>⟨_,rfl,_,rfl,iteN (by decide) ?_⟩⟩⟩
 have g0:=g09.trans (gA.trans gB)
 clear g09 g07 g05 dg kd4 ho4 g04 g03
 have tyB:=(KC.i4 _ hmem).ty (g0 _ _ hC)
 have hwB:=hw.same g0
 have hlxB:=hlx.same g0
 have hoB:=ho.same g0
 have lkB:=lk.same g0
 have qB:∀ {G:Hp},Same HB G->Q (.bl true) G:=fun g=>q _ (g0.trans g)
 clear q lk hlx hw ho ty1 ty2 hhd rest
 cases id hoB with
 | @num _ dx w h1 =>
  cases lkB with
  | num h2 =>
   exact⟨_,rfl,.ref fo,Va,_,_,rfl,tyB,KC.kd _ 0 _ _ hix rfl,_,rfl,iteP rfl ⟨_,rfl,fo,Va,_,_,_,rfl,h1,Ua.cl,Ua.na _ (by decide),rfl,_,rfl,t,_,_,_,rfl,rfl,h2,rfl,_,rfl,qB (Same.refl _)⟩⟩
 | @nest _ dx s i e h1 =>
  cases lkB with
  | nest h2 =>
   have hi:i < S.length:=hf
   obtain⟨sh,hS,dx2,t2,ps,m1,_⟩:=hwB.at e
   obtain⟨as,s',l',ps',n1,n2,n3,n4,n5⟩:=hlxB.at hi
   have eS:S[i]=sh:=by rw [List.getElem?_eq_getElem hi] at hS;exact Option.some.inj hS
   rw [eS] at n3
   refine⟨_,rfl,.ref fo,Va,_,_,rfl,tyB,KC.kd _ 0 _ _ hix rfl,_,rfl,iteN (fun z=>by cases z) ⟨_,rfl,.ref fo,Vb,_,_,rfl,tyB,KC.kd _ 1 _ _ hix rfl,_,rfl,iteP rfl ⟨_,rfl,fo,Vb,_,_,_,rfl,h1,Ub.cl,Ub.na _ (by decide),rfl,s,Ve,_,_,_,rfl,m1,Ue.cl,Ue.na _ (by decide),rfl,_,rfl,_,rfl,t,_,_,_,rfl,rfl,h2,rfl,sl,_,_,_,rfl,rfl,n1,at_ref n2,s',_,_,_,rfl,rfl,n3,rfl,rfl,?_⟩⟩⟩
   rw [decide_eq_true rfl]
   exact qB (Same.refl _)
 | @many _ dx b n k h1 hk =>
  cases lkB with
  | @many _ b' _ _ h2 hk' =>
   have hlk:k.lv=0:=by rcases hf.2.2 with⟨w,rfl,_⟩|⟨i,rfl,_⟩ <;> rfl
   refine⟨_,rfl,.ref fo,Va,_,_,rfl,tyB,KC.kd _ 0 _ _ hix rfl,_,rfl,iteN (fun z=>by cases z) ⟨_,rfl,.ref fo,Vb,_,_,rfl,tyB,KC.kd _ 1 _ _ hix rfl,_,rfl,iteN (fun z=>by cases z) ⟨_,rfl,.ref fo,Vc,_,_,rfl,tyB,KC.kd _ 2 _ _ hix rfl,_,rfl,iteP rfl ⟨_,rfl,fo,Vc,_,_,_,rfl,h1,Uc.cl,Uc.na _ (by decide),rfl,_,rfl,t,_,_,_,rfl,rfl,h2,rfl,_,rfl,_,rfl,iteP rfl ⟨_,rfl,fo,Vc,_,_,_,rfl,h1,Uc.cl,Uc.na _ (by decide),rfl,_,rfl,t,_,_,_,rfl,rfl,h2,rfl,_,rfl,b,b',sl,k,sa,S,rfl,(by rw [hlk];have : 1 < m + 1:=hlv;omega),hk,hk',hwB,hlxB,hg,hn,hf.sub,h5,fun G g=>qB g⟩⟩⟩⟩⟩
 | @pick _ dx tt is ss h1 ht hss hall =>
  cases lkB with
  | @pick _ li _ h2 hli =>
   have hs4:=hf.2.1
   refine⟨_,rfl,.ref fo,Va,_,_,rfl,tyB,KC.kd _ 0 _ _ hix rfl,_,rfl,iteN (fun z=>by cases z) ⟨_,rfl,.ref fo,Vb,_,_,rfl,tyB,KC.kd _ 1 _ _ hix rfl,_,rfl,iteN (fun z=>by cases z) ⟨_,rfl,.ref fo,Vc,_,_,rfl,tyB,KC.kd _ 2 _ _ hix rfl,_,rfl,iteN (fun z=>by cases z) ⟨_,rfl,.ref fo,Vd,_,_,rfl,tyB,KC.kd _ 3 _ _ hix rfl,_,rfl,iteN (fun z=>by cases z) ⟨_,rfl,fo,Vd,_,_,_,rfl,h1,Ud.cl,Ud.na _ (by decide),rfl,.ref tt,"tuple","tuple",rfl,by decide,.inl (.inr ⟨rfl,_,ht⟩),_,rfl,iteN (by decide) ⟨_,rfl,fo,Vd,_,_,_,rfl,h1,Ud.cl,Ud.na _ (by decide),rfl,tt,rfl,⟨_,ht⟩,comp_tup (xs:=ss.map V.ref) (fun j ys G=>G=HB/\ys=((is.take j).map (nmOf S)).map V.str) ⟨rfl,rfl⟩ (fun j ys G _ z=>⟨by rw [z.1];exact ht,by rw [z.2,List.length_map,List.length_map,List.length_take];exact Nat.min_le_left _ _⟩) (small1000 (by rw [List.length_map];omega)) (fun j x ys G hx z=>?_) (fun ys G z p hp=>?_)⟩⟩⟩⟩⟩⟩
   ·obtain⟨e',rfl⟩:=z
    subst e'
    obtain⟨s,hs,rfl⟩:=get_refs hx
    have hj:j < is.length:=by rw [← hss];exact (List.getElem?_eq_some_iff.mp hs).1
    have hi:is[j]?=some is[j]:=List.getElem?_eq_getElem hj
    generalize is[j]=i at hi
    obtain⟨sh,hS,dx2,t2,ps,m1,_⟩:=hwB.at (hall j i s hi hs)
    refine⟨_,rfl,s,Ve,_,_,_,rfl,m1,Ue.cl,Ue.na _ (by decide),rfl,⟨rfl,?_⟩,_,rfl⟩
    rw [map_snoc hi,List.map_append,nmOf_get hS];rfl
   ·obtain⟨e',rfl⟩:=z
    subst e'
    rw [show (ss.map V.ref).length=is.length from by rw [List.length_map,hss],take_len]
    generalize eC:upd G p _=HC
    obtain⟨gC,kC⟩:=new_facts eC hp
    refine⟨_,rfl,t,_,_,_,rfl,rfl,gC.tp h2,rfl,li,rfl,⟨_,gC.seq hli⟩,comp_list (xs:=is.map fun n:Nat=>V.int n) (fun j ys G'=>G'=HC/\ys=((is.take j).map (nmOf S)).map V.str) ⟨rfl,rfl⟩ (fun j ys G' _ z=>⟨by rw [z.1];exact gC.seq hli,by rw [z.2,List.length_map,List.length_map,List.length_take];exact Nat.min_le_left _ _⟩) (small1000 (by rw [List.length_map];omega)) (fun j x ys G' hx z=>?_) (fun ys G' z p2 hp2=>?_)⟩
    ·obtain⟨e',rfl⟩:=z
     subst e'
     obtain⟨i,hi,rfl⟩:=get_nats hx
     have hiS:=hf.2.2.2 i (List.mem_of_getElem? hi)
     obtain⟨as,s',l',ps',n1,n2,n3,n4,n5⟩:=hlxB.at hiS
     refine⟨_,rfl,_,rfl,sl,_,_,_,rfl,rfl,gC.seq n1,at_ref n2,s',_,_,_,rfl,rfl,gC.tp n3,rfl,⟨rfl,?_⟩,_,rfl⟩
     rw [map_snoc hi,List.map_append,nmOf_get (List.getElem?_eq_getElem hiS)];rfl
    ·obtain⟨e',rfl⟩:=z
     subst e'
     rw [show (is.map fun n:Nat=>V.int n).length=is.length from List.length_map _,take_len]
     generalize eD:upd G' p2 _=HD
     obtain⟨gD,kD⟩:=new_facts eD hp2
     exact⟨p,p2,is.map (nmOf S),rfl,rfl,SqL.of (gD _ _ kC),SqL.of kD,qB (gC.trans gD)⟩
theorem ok_law_shape_right {k r:Nat} (hR : 12<=r) (F:Fun K "_law_shape_right" "_law_shape_right" s_law_shape_right f fd) {C_Kind:Addr} (KC:KdM K mg (Cl5.mk Va Vb Vc Vd Ve) C_Kind Vf) {f_Shape_size:Addr} {fd_Shape_size:FuncData} (D_Shape_size:DfM K Ve "size" f_Shape_size fd_Shape_size ["self"]) (G_Shape_size:FnOk P w K mg base CX0 k f_Shape_size fd_Shape_size ["self"] (spShV (Cl5.mk Va Vb Vc Vd Ve) K r sSz)) {f_law_size:Addr} {fd_law_size:FuncData} (D_law_size:Df K mg "_law_size" f_law_size fd_law_size ["_law_kind_here","_law_shapes_here"]) (G_law_size:FnOk P w K mg base CX0 k f_law_size fd_law_size ["_law_kind_here","_law_shapes_here"] (spLV K vSz (r + 1))) {f_Shape_depth:Addr} {fd_Shape_depth:FuncData} (D_Shape_depth:DfM K Ve "depth" f_Shape_depth fd_Shape_depth ["self"]) (G_Shape_depth:FnOk P w K mg base CX0 k f_Shape_depth fd_Shape_depth ["self"] (spShV (Cl5.mk Va Vb Vc Vd Ve) K r sDp)) {f_law_depth:Addr} {fd_law_depth:FuncData} (D_law_depth:Df K mg "_law_depth" f_law_depth fd_law_depth ["_law_kind_here","_law_shapes_here"]) (G_law_depth:FnOk P w K mg base CX0 k f_law_depth fd_law_depth ["_law_kind_here","_law_shapes_here"] (spLV K vDp (r + 1))) {f_law_number:Addr} {fd_law_number:FuncData} (D_law_number:Df K mg "_law_number" f_law_number fd_law_number ["_law_found","_law_due"]) (G_law_number:FnOk P w K mg base CX0 k f_law_number fd_law_number ["_law_found","_law_due"] spNb) {f_law_kind_right:Addr} {fd_law_kind_right:FuncData} (D_law_kind_right:Df K mg "_law_kind_right" f_law_kind_right fd_law_kind_right ["_law_found","_law_kind_here","_law_shapes_here"]) (G_law_kind_right:FnOk P w K mg base CX0 k f_law_kind_right fd_law_kind_right ["_law_found","_law_kind_here","_law_shapes_here"] (spKR (Cl5.mk Va Vb Vc Vd Ve) K 2)):FnOk P w K mg base CX0 (k + 2) f fd ["_law_found","_law_at","_law_shapes_here"] (spSR (Cl5.mk Va Vb Vc Vd Ve) K):=by
 w_cond sc_law_shape_right
 ·obtain⟨fo,sl,i,sa,S,rfl,_⟩:=h;rfl
 obtain⟨fo,sl,i,sa,S,rfl,hsa,hw,hlx,hg,hn,h5,q⟩:=h
 walk_at "hr"
 refine⟨_,(pss_cons (ps_asg (pe_ix ix_list (pv 2) (pv 1) (fun _ _=>rfl)) (pg_tup rfl (pgs_cons (pg_name (i:=3) sc_law_shape_right.nd rfl (Or.inl rfl)) (pgs_cons (pg_name (i:=4) sc_law_shape_right.nd rfl (Or.inl rfl)) pgs_nil))))
   (pss_cons (ps_if (PW.pt (pw_or (pt_not (pt_val (pe_callB (call_isO (K:=K) rfl) rfl M.isinstance boot_isinstance (pa_cons (pv 0) (pa_cons (pe_glob (v:=.ref Ve) rfl Ue.m rfl) pa_nil))))) (pw_or (pt_cmpR op_ne (pe_fld (pv 0) rfl) (pv 3) (nomark _)) (pw_or1 (pt_not (pt_val (pe_callB call_isiM rfl M.isinstance boot_isinstance (pa_cons (pe_fld (pv 0) rfl) (pa_cons (pe_bltn (v:=.ty "tuple") rfl M.tuple boot_tuple rfl) pa_nil))))))))) (pss_one (ps_ret pe_bl)) pss_nil)
   (pss_cons (ps_set (i:=5) sc_law_shape_right.nd rfl (by walk_at "o") (pe_tup (pa_cons pe_str (pa_cons (pv 1) pa_nil))))
   (pss_cons (ps_if (pt_not (pt_val (pe_call G_law_number hr rfl D_law_number.m D_law_number.k D_law_number.b .nil pass0 (pa_cons (pe_meth0 (pv 0) Ue.cl D_Shape_size.me G_Shape_size hr D_Shape_size.b .nil pass0) (pa_cons (pe_call G_law_size hr rfl D_law_size.m D_law_size.k D_law_size.b .nil pass0 (pa_cons (pv 5) (pa_cons (pv 2) pa_nil))) pa_nil))))) (pss_one (ps_ret pe_bl)) pss_nil)
   (pss_cons (ps_if (pt_not (pt_val (pe_call G_law_number hr rfl D_law_number.m D_law_number.k D_law_number.b .nil pass0 (pa_cons (pe_meth0 (pv 0) Ue.cl D_Shape_depth.me G_Shape_depth hr D_Shape_depth.b .nil pass0) (pa_cons (pe_call G_law_depth hr rfl D_law_depth.m D_law_depth.k D_law_depth.b .nil pass0 (pa_cons (pv 5) (pa_cons (pv 2) pa_nil))) pa_nil))))) (pss_one (ps_ret pe_bl)) pss_nil)
   (pss_cons (ps_if (pt_cmpR (op_neE hr.units) (pe_comp ["_law_one"] [] [] rfl (pi_tup (pe_fld (pv 0) rfl)) rfl trivial trivial (fun _ _ _ _=>(pg_name (i:=0) (show List.Nodup (["_law_one"]:List Str) from by decide +kernel) rfl (Or.inl rfl))) (fun _ _ _ _=>pif_nil) (fun _ _ _ _=>(pe_ix (ix_tupK K rfl) (pv 0) pe_int (fun _ _=>rfl)))) (pe_comp ["_law_one"] [] [] rfl (pi_list (pv 4)) rfl trivial trivial (fun _ _ _ _=>(pg_name (i:=0) (show List.Nodup (["_law_one"]:List Str) from by decide +kernel) rfl (Or.inl rfl))) (fun _ _ _ _=>pif_nil) (fun _ _ _ _=>(pe_ix (ix_tupK K rfl) (pv 0) pe_int (fun _ _=>rfl)))) (nomark _)) (pss_one (ps_ret pe_bl)) pss_nil)
   (pss_cons (ps_for PassesOwn.never rfl (pi_zipM rfl M.zip (pa_cons (pe_fld (pv 0) rfl) (pa_cons (pv 4) pa_nil))) (pg_tup rfl (pgs_cons (pg_tup rfl (pgs_cons (pg_name (i:=6) sc_law_shape_right.nd rfl (Or.inl rfl)) (pgs_cons (pg_name (i:=7) sc_law_shape_right.nd rfl (Or.inl rfl)) pgs_nil))) (pgs_cons (pg_tup rfl (pgs_cons (pg_name (i:=8) sc_law_shape_right.nd rfl (Or.inl rfl)) (pgs_cons (pg_name (i:=9) sc_law_shape_right.nd rfl (Or.inl rfl)) pgs_nil))) pgs_nil))) (pss_one (ps_if (pt_not (pt_val (pe_call G_law_kind_right hr rfl D_law_kind_right.m D_law_kind_right.k D_law_kind_right.b .nil pass0 (pa_cons (pv 7) (pa_cons (pv 9) (pa_cons (pv 2) pa_nil)))))) (pss_one (ps_ret pe_bl)) pss_nil)))
   (pss_one (ps_ret pe_bl))))))))),?_⟩
 have hi:i < S.length:=by have:=(List.getElem?_eq_some_iff.mp hsa).1;rw [hw.1] at this;exact this
 obtain⟨sh,hS,dx2,tf,ps,k1,k2,k3⟩:=hw.at hsa
 obtain⟨as,s',l',ps',n1,n2,n3,n4,n5⟩:=hlx.at hi
 have eS:S[i]=sh:=by rw [List.getElem?_eq_getElem hi] at hS;exact Option.some.inj hS
 rw [eS] at n3 n5
 have zp:(ps.map V.ref).length=sh.2.length:=by rw [List.length_map];exact k3.len
 have zp':(ps'.map V.ref).length=sh.2.length:=by rw [List.length_map];exact n5.len
 have h6:=hg.few i sh hS
 refine⟨_,rfl,_,rfl,sl,_,_,_,rfl,rfl,n1,at_ref n2,s',_,rfl,n3,rfl,_,_,rfl,_,_,rfl,rfl,?_⟩
 refine⟨_,rfl,.ref fo,Ve,_,true,rfl,KC.i5.ty k1,KC.k5,_,rfl,iteN (by decide) ⟨_,rfl,fo,Ve,_,_,_,rfl,k1,Ue.cl,Ue.na _ (by decide),rfl,_,rfl,rfl,_,rfl,iteN (by simp) ⟨_,rfl,fo,Ve,_,_,_,rfl,k1,Ue.cl,Ue.na _ (by decide),rfl,.ref tf,"tuple","tuple",rfl,by decide,.inl (.inr ⟨rfl,_,k2⟩),_,rfl,iteN (by decide) ?_⟩⟩⟩
 refine⟨_,rfl,szL2,fun t ht=>?_⟩
 generalize e1:upd H t _=H1
 obtain⟨g1,kt⟩:=new_facts e1 ht
 have lk1:LK K H1 t (.nest i):=.nest (SqT.of kt)
 have hr1:(Kd.nest i).Rk r:=by show 2 * i + 2<=r;omega
 refine⟨_,rfl,fo,dx2,_,rfl,g1 _ _ k1,rfl,fo,i,sa,S,rfl,hsa,by omega,hw.same g1,hg,fun H2 g2=>⟨_,rfl,_,rfl,t,sl,.nest i,S,rfl,hr1,Nat.zero_le _,hi,lk1.same g2,hlx.same (g1.trans g2),hg,fun H3 g3=>⟨_,rfl,_,rfl,iteN (by decide) ?_⟩⟩⟩
 have g03:=g1.trans (g2.trans g3)
 refine⟨_,rfl,fo,dx2,_,rfl,g03 _ _ k1,rfl,fo,i,sa,S,rfl,hsa,by omega,hw.same g03,hg,fun H4 g4=>⟨_,rfl,_,rfl,t,sl,.nest i,S,rfl,hr1,Nat.zero_le _,hi,lk1.same (g2.trans (g3.trans g4)),hlx.same (g03.trans g4),hg,fun H5 g5=>⟨_,rfl,_,rfl,iteN (by decide) ?_⟩⟩⟩
 have g05:=g03.trans (g4.trans g5)
 refine⟨_,rfl,fo,Ve,_,_,_,rfl,(g05 _ _ k1),Ue.cl,Ue.na _ (by decide),rfl,tf,rfl,⟨_,g05.tp k2⟩,comp_tup (xs:=ps.map V.ref) (fun j ys G=>G=H5/\ys=((sh.2.take j).map (·.1)).map V.str) ⟨rfl,rfl⟩ (fun j ys G _ z=>⟨by rw [z.1];exact g05.tp k2,by rw [z.2,List.length_map,List.length_map,List.length_take];exact Nat.min_le_left _ _⟩) (small1000 (by omega)) (fun j x ys G hx z=>?_) (fun ys G z p hp=>?_)⟩
 ·obtain⟨e',rfl⟩:=z
  subst e'
  obtain⟨u,hu,rfl⟩:=get_refs hx
  obtain⟨nm',kd',kk,hfs,hq,_⟩:=k3.get hu
  refine⟨_,rfl,u,_,_,_,rfl,rfl,g05.tp hq,rfl,⟨rfl,?_⟩,_,rfl⟩
  rw [map_snoc hfs,List.map_append];rfl
 obtain⟨e',rfl⟩:=z
 subst e'
 rw [zp,take_len]
 generalize e6:upd G p _=H6
 obtain⟨g6,k6⟩:=new_facts e6 hp
 have g06:=g05.trans g6
 refine⟨_,rfl,l',rfl,⟨_,g06.seq n4⟩,comp_list (xs:=ps'.map V.ref) (fun j ys G'=>G'=H6/\ys=((sh.2.take j).map (·.1)).map V.str) ⟨rfl,rfl⟩ (fun j ys G' _ z=>⟨by rw [z.1];exact g06.seq n4,by rw [z.2,List.length_map,List.length_map,List.length_take];exact Nat.min_le_left _ _⟩) (small1000 (by omega)) (fun j x ys G' hx z=>?_) (fun ys G' z p2 hp2=>?_)⟩
 ·obtain⟨e',rfl⟩:=z
  subst e'
  obtain⟨u,hu,rfl⟩:=get_refs hx
  obtain⟨nm',kd',kk,hfs,hq,_⟩:=n5.get hu
  refine⟨_,rfl,u,_,_,_,rfl,rfl,g06.tp hq,rfl,⟨rfl,?_⟩,_,rfl⟩
  rw [map_snoc hfs,List.map_append];rfl
 obtain⟨e',rfl⟩:=z
 subst e'
 rw [zp',take_len]
 generalize e7:upd G' p2 _=H7
 obtain⟨g7,k7⟩:=new_facts e7 hp2
 have g07:=g06.trans g7
 refine⟨p,p2,_,_,rfl,rfl,SqL.of (g7 _ _ k6),SqL.of k7,rfl,(fun j x y h1 h2=>?_),_,rfl,iteN (by decide) ?_⟩
 ·rw [h1] at h2
  cases h2
  obtain⟨y,_,rfl⟩:=get_strs h1
  exact EqS.same (.inl rfl)
 have k2':=g07.tp k2
 have n4':=g07.seq n4
 refine⟨true,false,_,rfl,fo,Ve,_,_,_,rfl,(g07 _ _ k1),Ue.cl,Ue.na _ (by decide),rfl,_,rfl,tf,l',ps.map V.ref,ps'.map V.ref,rfl,k2',n4',for_zipM (xs:=ps.map V.ref) (ys:=ps'.map V.ref) (fun j σ G=>∃ o6 o7 o8 o9,σ = [some (.ref fo),some (.int i),some (.ref sl),some (.str sh.1),some (.ref l'),some (.ref t),o6,o7,o8,o9]/\Same H7 G) (by rw [zp,zp']) ⟨_,_,_,_,rfl,Same.refl _⟩ (fun j σ G _ z=>?_) (fun j x y σ G p hx hy z hp=>?_) (fun σ G z=>?_)⟩
 ·obtain⟨o6,o7,o8,o9,rfl,g⟩:=z
  exact⟨g.tp k2',g.seq n4'⟩
 ·obtain⟨o6,o7,o8,o9,rfl,g⟩:=z
  obtain⟨x,hx1,rfl⟩:=get_refs hx
  obtain⟨y,hy1,rfl⟩:=get_refs hy
  obtain⟨nm1,kd1,kk1,hf1,hq1,ho1⟩:=k3.get hx1
  obtain⟨nm2,kd2,kk2,hf2,hq2,hl2⟩:=n5.get hy1
  rw [hf1] at hf2
  cases hf2
  generalize e8:upd G p _=H8
  obtain⟨g8,k8⟩:=new_facts e8 hp
  have g08:=g07.trans (g.trans g8)
  have hfit:kd1.Fit S.length:=(hg.fit i sh hS _ (List.mem_of_getElem? hf1)).1.mono (Nat.le_of_lt hi)
  have hko:KO (Cl5.mk Va Vb Vc Vd Ve) K H8 sa kk1 kd1:=by have:=(ho1.more (sa.drop i)).same g08;rwa [List.take_append_drop] at this
  exact⟨p,_,rfl,SqT.of k8,rfl,_,_,rfl,x,_,rfl,g08.tp hq1,rfl,_,_,rfl,_,_,rfl,rfl,_,_,rfl,y,_,rfl,g08.tp hq2,rfl,_,_,rfl,_,_,rfl,rfl,rfl,_,rfl,_,rfl,_,rfl,kk1,kk2,sl,kd1,sa,S,rfl,(by have:=kd1.lv_le;omega),hko,hl2.same g08,hw.same g08,hlx.same g08,hg,hn,hfit,h5,fun H9 g9=>⟨_,rfl,iteN (by decide) ⟨_,_,_,_,rfl,g.trans (g8.trans g9)⟩⟩⟩
 ·obtain⟨o6,o7,o8,o9,rfl,g⟩:=z
  exact q G (g07.trans g)
theorem ok_law_kind_made {k r:Nat} {m:Nat} (F:Fun K "_law_kind_made" "_law_kind_made" s_law_kind_made f fd) {f_law_kind_made:Addr} {fd_law_kind_made:FuncData} (D_law_kind_made:Df K mg "_law_kind_made" f_law_kind_made fd_law_kind_made ["_law_kind_here","_law_made"]) (G_law_kind_made:FnOk P w K mg base CX0 k f_law_kind_made fd_law_kind_made ["_law_kind_here","_law_made"] (spKM (Cl5.mk Va Vb Vc Vd Ve) K m)) {fd_Num_init:FuncData} (D_Num_init:DfI K fd_Num_init ["self","width"]) (G_Num_init:FnOk P w K mg base CX0 k cIu fd_Num_init ["self","width"] (spI1 Va "width")) {fd_Nested_init:FuncData} (D_Nested_init:DfI K fd_Nested_init ["self","shape"]) (G_Nested_init:FnOk P w K mg base CX0 k cIv fd_Nested_init ["self","shape"] (spI1 Vb "shape")) {fd_Many_init:FuncData} (D_Many_init:DfI K fd_Many_init ["self","count","kind"]) (G_Many_init:FnOk P w K mg base CX0 k cIx fd_Many_init ["self","count","kind"] (spI2 Vc "count" "kind")) {fd_Pick_init:FuncData} (D_Pick_init:DfI K fd_Pick_init ["self","shapes"]) (G_Pick_init:FnOk P w K mg base CX0 k cIy fd_Pick_init ["self","shapes"] (spIT K Vd "shapes")):FnOk P w K mg base CX0 (k + 2) f fd ["_law_kind_here","_law_made"] (spKM (Cl5.mk Va Vb Vc Vd Ve) K (m + 1)):=by
 w_cond sc_law_kind_made
 ·obtain⟨t,ml,kd,sa,rfl,_⟩:=h;rfl
 obtain⟨t,ml,kd,sa,rfl,hlv,lk,hml,hf,q⟩:=h
 walk_at "hr"
 refine⟨_,(pss_cons (ps_if (pt_cmpR op_eq (pe_ix ix_tup (pv 0) pe_int (fun _ _=>rfl)) pe_str (nomark _)) (pss_one (ps_ret (pe_make Ua.ma G_Num_init hr0 rfl Ua.m D_Num_init.b .nil pass0 (pa_cons (pe_ix ix_tup (pv 0) pe_int (fun _ _=>rfl)) pa_nil)))) pss_nil)
   (pss_cons (ps_if (pt_cmpR op_eq (pe_ix ix_tup (pv 0) pe_int (fun _ _=>rfl)) pe_str (nomark _)) (pss_one (ps_ret (pe_make Ub.ma G_Nested_init hr0 rfl Ub.m D_Nested_init.b .nil pass0 (pa_cons (pe_ix ix_list (pv 1) (pe_ix ix_tup (pv 0) pe_int (fun _ _=>rfl)) (fun _ _=>rfl)) pa_nil)))) pss_nil)
   (pss_cons (ps_if (pt_cmpR op_eq (pe_ix ix_tup (pv 0) pe_int (fun _ _=>rfl)) pe_str (nomark _)) (pss_one (ps_ret (pe_make Uc.ma G_Many_init hr0 rfl Uc.m D_Many_init.b .nil pass0 (pa_cons (pe_ix ix_tup (pv 0) pe_int (fun _ _=>rfl)) (pa_cons (pe_call G_law_kind_made hr rfl D_law_kind_made.m D_law_kind_made.k D_law_kind_made.b .nil pass0 (pa_cons (pe_ix ix_tup (pv 0) pe_int (fun _ _=>rfl)) (pa_cons (pv 1) pa_nil))) pa_nil))))) pss_nil)
   (pss_cons (ps_setC (i:=2) ["_law_at"] ["_law_made"] [1] sc_law_kind_made.nd rfl rfl rfl (pi_list (pe_ix ix_tup (pv 0) pe_int (fun _ _=>rfl))) rfl ⟨rfl,trivial⟩ ⟨⟨rfl,rfl,rfl,_,rfl⟩,trivial⟩ (fun _ _ _ _=>(pg_name (i:=0) (show List.Nodup (["_law_at","_law_made"]:List Str) from by decide +kernel) rfl (Or.inl rfl))) (fun _ _ _ _=>pif_nil) (fun _ _ _ _=>(pe_ix (ix_listK K rfl) (pv 1) (pv 0) (fun _ _=>rfl))))
   (pss_cons (ps_set (i:=3) sc_law_kind_made.nd rfl (by walk_at "o") (pe_make Ud.ma G_Pick_init hr0 rfl Ud.m D_Pick_init.b .nil pass0 (pa_cons (pv 2) pa_nil)))
   (pss_cons (ps_expr (pe_bm0 PySem.F.plainAttrs_list PySem.F.slot_list_clear PySem.F.type_list_clear mt_clear (pv 2)))
   (pss_one (ps_ret (pv 3))))))))),?_⟩
 cases id lk with
 | @num _ w h1 =>
  exact⟨_,rfl,t,_,_,_,rfl,rfl,h1,rfl,rfl,_,rfl,iteP (by decide) ⟨_,rfl,t,_,_,_,rfl,rfl,h1,rfl,fun x dx hx hdx _=>⟨x,dx,.int w,H,rfl,upd_same,madeS hx hdx,hx,fun H1 g1 k1=>⟨rfl,q x H1 g1 (.num k1)⟩⟩⟩⟩
 | @nest _ i h1 =>
  have hi:i < sa.length:=hf
  have hs:sa[i]?=some sa[i]:=List.getElem?_eq_getElem hi
  generalize sa[i]=s at hs
  exact⟨_,rfl,t,_,_,_,rfl,rfl,h1,rfl,rfl,_,rfl,iteN (by decide) ⟨_,rfl,t,_,_,_,rfl,rfl,h1,rfl,rfl,_,rfl,iteP (by decide) ⟨_,rfl,_,rfl,t,_,_,_,rfl,rfl,h1,rfl,ml,_,_,_,rfl,rfl,SqL.of hml,at_ref hs,fun x dx hx hdx _=>⟨x,dx,.ref s,H,rfl,upd_same,madeS hx hdx,hx,fun H1 g1 k1=>⟨rfl,q x H1 g1 (.nest hs k1)⟩⟩⟩⟩⟩
 | @many _ b n k h1 h2 =>
  have hlk:k.lv=0:=by rcases hf.2.2 with⟨w,rfl,_⟩|⟨i,rfl,_⟩ <;> rfl
  exact⟨_,rfl,t,_,_,_,rfl,rfl,h1,rfl,rfl,_,rfl,iteN (by decide) ⟨_,rfl,t,_,_,_,rfl,rfl,h1,rfl,rfl,_,rfl,iteN (by decide) ⟨_,rfl,t,_,_,_,rfl,rfl,h1,rfl,rfl,_,rfl,iteP (by decide) ⟨_,rfl,t,_,_,_,rfl,rfl,h1,rfl,_,rfl,t,_,_,_,rfl,rfl,h1,rfl,_,rfl,b,ml,k,sa,rfl,(by rw [hlk];have : 1 < m + 1:=hlv;omega),h2,hml,hf.sub,fun bk H1 g1 ko=>fun x dx hx hdx _=>⟨x,dx,.int n,.ref bk,H1,rfl,upd_same,madeS hx hdx,hx,fun H3 g3 k3=>⟨rfl,q x H3 (g1.trans g3) (.many k3 (ko.same g3))⟩⟩⟩⟩⟩⟩
 | @pick _ li is h1 h2 =>
  have hs4:=hf.2.1
  have zl:(is.map fun n:Nat=>V.int n).length=is.length:=List.length_map _
  refine⟨_,rfl,t,_,_,_,rfl,rfl,h1,rfl,rfl,_,rfl,iteN (by decide) ⟨_,rfl,t,_,_,_,rfl,rfl,h1,rfl,rfl,_,rfl,iteN (by decide) ⟨_,rfl,t,_,_,_,rfl,rfl,h1,rfl,rfl,_,rfl,iteN (by decide) ⟨_,rfl,t,_,_,_,rfl,rfl,h1,rfl,li,rfl,⟨_,h2⟩,comp_list (xs:=is.map fun n:Nat=>V.int n) (fun j ys H'=>H'=H/\∃ ss:List Addr,ys=ss.map V.ref/\ss.length=j/\∀ (b i:Nat) (s:Addr),is[b]?=some i->ss[b]?=some s->sa[i]?=some s) ⟨rfl,[],rfl,rfl,fun b i s _ z=>by simp at z⟩ (fun j ys H' _ z=>?_) (small1000 (by omega)) (fun j x ys H' hx z=>?_) (fun ys H' z p2 hp2=>?_)⟩⟩⟩⟩
  ·obtain⟨e',ss,rfl,hss,_⟩:=z
   rw [e']
   exact⟨h2,by rw [List.length_map];omega⟩
  ·obtain⟨e',ss,rfl,hss,hall⟩:=z
   subst e'
   obtain⟨i,hi,rfl⟩:=get_nats hx
   have hiS:=hf.2.2.2 i (List.mem_of_getElem? hi)
   have hs:sa[i]?=some sa[i]:=List.getElem?_eq_getElem hiS
   generalize sa[i]=s at hs
   refine⟨_,rfl,_,rfl,ml,_,_,_,rfl,rfl,SqL.of hml,at_ref hs,⟨rfl,ss++[s],by rw [List.map_append];rfl,by rw [List.length_append,hss];rfl,fun b i' s' hb1 hb2=>?_⟩,_,rfl⟩
   rcases get_snoc hb2 with hb2|⟨eb,es⟩
   ·exact hall b i' s' hb1 hb2
   ·rw [eb,hss,hi] at hb1
    cases hb1
    rw [es];exact hs
  ·obtain⟨e',ss,rfl,hss,hall⟩:=z
   subst e'
   generalize e2:upd H' p2 _=H2
   obtain⟨g2,k2⟩:=new_facts e2 hp2
   refine⟨_,rfl,fun x dx hx hdx _=>⟨x,dx,p2,_,H2,rfl,upd_same,madeS hx hdx,hx,SqL.of k2,fun tt H3 g3 k3 k4=>⟨rfl,_,rfl,.inl ⟨rfl,_,SqL.of (g3 _ _ k2)⟩,p2,_,rfl,rfl,g3 _ _ k2,?_⟩⟩⟩
   generalize e4:upd H3 p2 _=H4
   obtain⟨g4,k5⟩:=chg_facts e4
   have ko:KO (Cl5.mk Va Vb Vc Vd Ve) K H3 sa x (.pick is):=.pick k3 k4 (by rw [hss,zl]) hall
   exact⟨_,rfl,q x H4 (But.from (g2.trans g3) hp2 g4) (ko.but g4 (g3 _ _ k2))⟩
theorem ok_law_by_hand {k:Nat} (F:Fun K "_law_by_hand" "_law_by_hand" s_law_by_hand f fd) {f_law_kind_made:Addr} {fd_law_kind_made:FuncData} (D_law_kind_made:Df K mg "_law_kind_made" f_law_kind_made fd_law_kind_made ["_law_kind_here","_law_made"]) (G_law_kind_made:FnOk P w K mg base CX0 k f_law_kind_made fd_law_kind_made ["_law_kind_here","_law_made"] (spKM (Cl5.mk Va Vb Vc Vd Ve) K 2)) {fd_Shape_init:FuncData} (D_Shape_init:DfI K fd_Shape_init ["self","name","fields"]) (G_Shape_init:FnOk P w K mg base CX0 k cIz fd_Shape_init ["self","name","fields"] (spShI (Cl5.mk Va Vb Vc Vd Ve) K)) {fd_Num_init:FuncData} (D_Num_init:DfI K fd_Num_init ["self","width"]) (G_Num_init:FnOk P w K mg base CX0 k cIu fd_Num_init ["self","width"] (spI1 Va "width")) {fd_Shapes_init:FuncData} (D_Shapes_init:DfI K fd_Shapes_init ["self","shapes"]) (G_Shapes_init:FnOk P w K mg base CX0 k cIw fd_Shapes_init ["self","shapes"] (spIT K Vf "shapes")):FnOk P w K mg base CX0 (k + 2) f fd ["_law_shapes_here"] (spBH (Cl5.mk Va Vb Vc Vd Ve) Vf K):=by
 w_cond sc_law_by_hand
 ·obtain⟨sl,S,rfl,_⟩:=h;rfl
 obtain⟨sl,S,rfl,hlx,hW,q⟩:=h
 walk_at "hr"
 refine⟨_,(pss_cons (ps_set (i:=1) sc_law_by_hand.nd rfl (by walk_at "o") (pe_lst pa_nil))
   (pss_cons (ps_for PassesOwn.never rfl (pi_list (pv 0)) (pg_tup rfl (pgs_cons (pg_name (i:=2) sc_law_by_hand.nd rfl (Or.inl rfl)) (pgs_cons (pg_name (i:=3) sc_law_by_hand.nd rfl (Or.inl rfl)) pgs_nil))) (pss_cons (ps_setC (i:=4) ["_law_field","_law_kind_here"] ["_law_made"] [1] sc_law_by_hand.nd rfl rfl rfl (pi_list (pv 3)) rfl ⟨rfl,trivial⟩ ⟨⟨rfl,rfl,rfl,_,rfl⟩,trivial⟩ (fun _ _ _ _=>(pg_tupK (K:=K) (n:=2) rfl rfl (pgs_cons (pg_name (i:=0) (show List.Nodup (["_law_field","_law_kind_here","_law_made"]:List Str) from by decide +kernel) rfl (Or.inl rfl)) (pgs_cons (pg_name (i:=1) (show List.Nodup (["_law_field","_law_kind_here","_law_made"]:List Str) from by decide +kernel) rfl (Or.inl rfl)) pgs_nil)))) (fun _ _ _ _=>pif_nil) (fun _ _ _ _=>(pe_tup (pa_cons (pv 0) (pa_cons (pe_call G_law_kind_made hr rfl D_law_kind_made.m D_law_kind_made.k D_law_kind_made.b .nil pass0 (pa_cons (pv 1) (pa_cons (pv 2) pa_nil))) pa_nil)))))
   (pss_cons (ps_expr (pe_bm PySem.F.plainAttrs_list PySem.F.slot_list_append PySem.F.type_list_append mt_append (pv 1) (pa_cons (pe_make Ue.ma G_Shape_init hr0 rfl Ue.m D_Shape_init.b .nil pass0 (pa_cons (pv 2) (pa_cons (pv 4) pa_nil))) pa_nil)))
   (pss_one (ps_expr (pe_bm PySem.F.plainAttrs_list PySem.F.slot_list_append PySem.F.type_list_append mt_append (pv 4) (pa_cons (pe_tup (pa_cons pe_str (pa_cons (pe_make Ua.ma G_Num_init hr0 rfl Ua.m D_Num_init.b .nil pass0 (pa_cons pe_int pa_nil)) pa_nil))) pa_nil)))))))
   (pss_cons (ps_set (i:=5) sc_law_by_hand.nd rfl (by walk_at "o") (pe_make Uf.ma G_Shapes_init hr0 rfl Uf.m D_Shapes_init.b .nil pass0 (pa_cons (pv 1) pa_nil)))
   (pss_cons (ps_expr (pe_bm0 PySem.F.plainAttrs_list PySem.F.slot_list_clear PySem.F.type_list_clear mt_clear (pv 1)))
   (pss_one (ps_ret (pv 5))))))),?_⟩
 obtain⟨as,ha,hLW⟩:=id hlx
 have hSl:=hW.len
 have zl:(as.map V.ref).length=S.length:=by rw [List.length_map];exact hLW.len
 refine⟨szL0,fun ml hml=>?_⟩
 generalize e1:upd H ml _=H1
 obtain⟨g1,k1⟩:=new_facts e1 hml
 refine⟨_,rfl,sl,rfl,⟨_,g1.seq ha⟩,for_list (xs:=as.map V.ref) (fun i σ H'=>∃ (o2 o3 o4 o5:Option V) (sa:List Addr),σ = [some (.ref sl),some (.ref ml),o2,o3,o4,o5]/\But ml H1 H'/\H' ml=some (.lst (sa.map V.ref))/\SW (Cl5.mk Va Vb Vc Vd Ve) K H' sa (S.take i)) ⟨_,_,_,_,[],rfl,But.refl,k1,SW.nil⟩ (fun i σ H' _ z=>?_) (fun i x σ H' hx z=>?_) (fun σ H' z=>?_)⟩
 ·obtain⟨o2,o3,o4,o5,sa,rfl,g,_⟩:=z
  exact (But.from g1 hml g).seq ha
 ·obtain⟨o2,o3,o4,o5,sa,rfl,g,kml,hw⟩:=z
  obtain⟨s,hs,rfl⟩:=get_refs hx
  obtain⟨sh,hS,l,ps,m1,m2,m3⟩:=hLW.get hs
  have gH:=But.from g1 hml g
  have hi:i < S.length:=(List.getElem?_eq_some_iff.mp hS).1
  have hsal:sa.length=i:=by rw [hw.1,List.length_take];omega
  have zp:(ps.map V.ref).length=sh.2.length:=by rw [List.length_map];exact m3.len
  have h6:=hW.good.few i sh hS
  refine⟨s,_,rfl,gH.tp m1,rfl,_,_,rfl,_,_,rfl,rfl,?_⟩
  refine⟨_,rfl,l,rfl,⟨_,gH.seq m2⟩,comp_listM (xs:=ps.map V.ref) (fun j ys G=>Same H' G/\∃ qs:List Addr,ys=qs.map V.ref/\qs.length=j/\FO (Cl5.mk Va Vb Vc Vd Ve) K G sa qs (sh.2.take j)) ⟨Same.refl _,[],rfl,rfl,.nil⟩ (fun j ys G _ z=>?_) (small1000 (by omega)) (fun j x ys G os ho hx z=>?_) (fun ys G z p hp=>?_)⟩
  ·obtain⟨gG,qs,rfl,hql,_⟩:=z
   exact⟨gG.seq (gH.seq m2),by rw [List.length_map,hql];exact Nat.le_refl _⟩
  ·obtain⟨gG,qs,rfl,hql,fo⟩:=z
   obtain⟨o6,o7,rfl⟩:=len2 ho
   obtain⟨u,hu,rfl⟩:=get_refs hx
   obtain⟨nm',kd',kk,hfs,hq,hlk⟩:=m3.get hu
   have hfit:kd'.Fit sa.length:=by rw [hsal];exact (hW.good.fit i sh hS _ (List.mem_of_getElem? hfs)).1
   refine⟨u,_,rfl,gG.tp (gH.tp hq),rfl,_,_,rfl,_,_,rfl,rfl,_,rfl,_,rfl,_,rfl,kk,ml,kd',sa,rfl,(by have:=kd'.lv_le;omega),hlk.same (gH.trans gG),gG _ _ kml,hfit,fun k G2 g2 ko=>⟨szL2,fun tp htp=>?_⟩⟩
   generalize e3:upd G2 tp _=G3
   obtain⟨g3,k3⟩:=new_facts e3 htp
   refine⟨⟨gG.trans (g2.trans g3),qs++[tp],by rw [List.map_append];rfl,by rw [List.length_append,hql];rfl,?_⟩,[_,_],rfl,rfl⟩
   rw [show sh.2.take (j + 1)=sh.2.take j++[(nm',kd')] from by rw [List.take_add_one,hfs];rfl]
   exact (fo.same (g2.trans g3)).snoc (SqT.of k3) (ko.same g3)
  ·obtain⟨gG,qs,rfl,hql,fo⟩:=z
   rw [zp,take_len] at fo
   generalize e2:upd G p _=H2
   obtain⟨g2,kp⟩:=new_facts e2 hp
   have gH2:=gG.trans g2
   have kml2:=gH2 _ _ kml
   refine⟨_,rfl,.inl ⟨rfl,_,SqL.of kml2⟩,_,rfl,_,rfl,fun x dx hx hdx _=>⟨x,dx,p,sh.1,qs,sh.2,sa,H2,rfl,upd_same,madeS hx hdx,hx,.inl (SqL.of kp),fo.same g2,by omega,fun tf ps' H3 g3 k3 k4 fo3=>⟨rfl,ml,_,_,rfl,rfl,g3 _ _ kml2,(by rw [List.length_map];exact Nat.lt_of_le_of_lt (show sa.length<=5 by omega) (by decide)),?_⟩⟩⟩
   generalize e4:upd H3 ml _=H4
   obtain⟨g4,kml4⟩:=chg_facts e4
   have npm:p ≠ ml:=Ne.symm (ne_of_none (gG _ _ kml) hp)
   have kp4:=g4 _ _ npm (g3 _ _ kp)
   refine⟨_,rfl,.inl ⟨rfl,_,SqL.of kp4⟩,fun y dy hy hdy _=>⟨y,dy,.int 1,H4,rfl,upd_same,madeS hy hdy,hy,fun H5 g5 k5=>⟨rfl,szL2,fun tp htp=>?_⟩⟩⟩
   generalize e6:upd H5 tp _=H6
   obtain⟨g6,k6⟩:=new_facts e6 htp
   have g46:=g5.trans g6
   refine⟨p,_,_,rfl,rfl,g46 _ _ kp4,(by rw [List.length_map];exact Nat.lt_of_le_of_lt (show qs.length<=6 by rw [hql,zp];exact h6) (by decide)),?_⟩
   generalize e7:upd H6 p _=H7
   obtain⟨g7,k7⟩:=chg_facts e7
   have sw3:SW (Cl5.mk Va Vb Vc Vd Ve) K H3 (sa++[x]) (S.take i++[sh]):=(hw.same (gH2.trans g3)).snoc ⟨dx,tf,ps',k3,k4,fo3⟩
   have sw7:=((sw3.but g4 (g3 _ _ kml2)).same g46).but g7 (g46 _ _ kp4)
   refine⟨_,_,_,_,sa++[x],rfl,fun b o nb e=>?_,?_,?_⟩
   ·have e1:=gG b o (g b o nb e)
    exact g7 b o (ne_of_none e1 hp) (g46 b o (g4 b o nb (g3 b o (g2 b o e1))))
   ·rw [List.map_append]
    exact g7 ml _ (Ne.symm npm) (g46 _ _ kml4)
   ·rw [show S.take (i + 1)=S.take i++[sh] from by rw [List.take_add_one,hS];rfl]
    exact sw7
 ·obtain⟨o2,o3,o4,o5,sa,rfl,g,kml,hw⟩:=z
  rw [zl,take_len] at hw
  refine⟨_,rfl,fun x dx hx hdx _=>⟨x,dx,ml,_,H',rfl,upd_same,madeS hx hdx,hx,SqL.of kml,fun tt H2 g2 k2 k3=>⟨rfl,_,rfl,.inl ⟨rfl,_,SqL.of (g2 _ _ kml)⟩,ml,_,rfl,rfl,g2 _ _ kml,?_⟩⟩⟩
  generalize e3:upd H2 ml _=H3
  obtain⟨g3,k4⟩:=chg_facts e3
  have kml2:=g2 _ _ kml
  exact⟨_,rfl,q x sa H3 (But.from g1 hml ((g.trans (But.of g2)).trans g3)) ⟨dx,tt,g3 _ _ (Ne.symm (ne_of_none kml hx)) k2,but_tp g3 kml2 k3,(hw.same g2).but g3 kml2⟩⟩
theorem ok_law_right {k r:Nat} (hR : 12<=r) (F:Fun K "_law_right" "_law_right" s_law_right f fd) {C_Kind:Addr} (KC:KdM K mg (Cl5.mk Va Vb Vc Vd Ve) C_Kind Vf) {f_law_shape_right:Addr} {fd_law_shape_right:FuncData} (D_law_shape_right:Df K mg "_law_shape_right" f_law_shape_right fd_law_shape_right ["_law_found","_law_at","_law_shapes_here"]) (G_law_shape_right:FnOk P w K mg base CX0 k f_law_shape_right fd_law_shape_right ["_law_found","_law_at","_law_shapes_here"] (spSR (Cl5.mk Va Vb Vc Vd Ve) K)) {f_Shapes_shape_of:Addr} {fd_Shapes_shape_of:FuncData} (D_Shapes_shape_of:DfM K Vf "shape_of" f_Shapes_shape_of fd_Shapes_shape_of ["self","name"]) (G_Shapes_shape_of:FnOk P w K mg base (CXE P w) k f_Shapes_shape_of fd_Shapes_shape_of ["self","name"] (spSO (Cl5.mk Va Vb Vc Vd Ve) Vf cNP K)) {f_law_no_shape:Addr} {fd_law_no_shape:FuncData} (D_law_no_shape:Df K mg "_law_no_shape" f_law_no_shape fd_law_no_shape ["_law_read","_law_thing"]) (G_law_no_shape:FnOk P w K mg base CX0 k f_law_no_shape fd_law_no_shape ["_law_read","_law_thing"] (spNS (Cl5.mk Va Vb Vc Vd Ve) Vf K)) {f_Shapes_main:Addr} {fd_Shapes_main:FuncData} (D_Shapes_main:DfM K Vf "main" f_Shapes_main fd_Shapes_main ["self"]) (G_Shapes_main:FnOk P w K mg base CX0 k f_Shapes_main fd_Shapes_main ["self"] (spMn (Cl5.mk Va Vb Vc Vd Ve) Vf K)) {f_Shapes_text:Addr} {fd_Shapes_text:FuncData} (D_Shapes_text:DfM K Vf "text" f_Shapes_text fd_Shapes_text ["self"]) (G_Shapes_text:FnOk P w K mg base CX0 k f_Shapes_text fd_Shapes_text ["self"] (spTT (Cl5.mk Va Vb Vc Vd Ve) Vf K r)) {f_law_text:Addr} {fd_law_text:FuncData} (D_law_text:Df K mg "_law_text" f_law_text fd_law_text ["_law_shapes_here"]) (G_law_text:FnOk P w K mg base CX0 k f_law_text fd_law_text ["_law_shapes_here"] (spTx K)):FnOk P w K mg base CX0 (k + 2) f fd ["_law_read","_law_shapes_here"] (spR7 (Cl5.mk Va Vb Vc Vd Ve) Vf K):=by
 w_cond sc_law_right
 ·obtain⟨ra,sl,sa,S,rfl,_⟩:=h;rfl
 obtain⟨ra,sl,sa,S,rfl,hro,hlx,hW,hne,q⟩:=h
 walk_at "hr"
 refine⟨_,(PSx.h (psx_cons (pstx_if (PW.pt (pw_or (pt_not (pt_val (pe_callB (call_isO (K:=K) rfl) rfl M.isinstance boot_isinstance (pa_cons (pv 0) (pa_cons (pe_glob (v:=.ref Vf) rfl Uf.m rfl) pa_nil))))) (pw_or (pt_not (pt_val (pe_callB call_isiM rfl M.isinstance boot_isinstance (pa_cons (pe_fld (pv 0) rfl) (pa_cons (pe_bltn (v:=.ty "tuple") rfl M.tuple boot_tuple rfl) pa_nil))))) (pw_or1 (pt_cmpR op_ne (pe_callB call_len_seq rfl M.len PySem.boot_len (pa_cons (pe_fld (pv 0) rfl) pa_nil)) (pe_callB call_len_seq rfl M.len PySem.boot_len (pa_cons (pv 1) pa_nil)) (nomark _)))))) (psx_one (pstx_ret (pex_of pe_bl))) pss_nil)
   (psx_cons (pstx_of (ps_for PassesOwn.never rfl (pi_range1 rfl M.range (pa_cons (pe_callB call_len_seq rfl M.len PySem.boot_len (pa_cons (pv 1) pa_nil)) pa_nil)) (pg_name (i:=2) sc_law_right.nd rfl (Or.inl rfl)) (pss_cons (ps_if (pt_not (pt_val (pe_call G_law_shape_right hr rfl D_law_shape_right.m D_law_shape_right.k D_law_shape_right.b .nil pass0 (pa_cons (pe_ix ix_tup (pe_fld (pv 0) rfl) (pv 2) (fun _ _=>rfl)) (pa_cons (pv 2) (pa_cons (pv 1) pa_nil)))))) (pss_one (ps_ret pe_bl)) pss_nil)
   (pss_one (ps_if (pt_not (pt_val (pe_call G_law_shape_right hr rfl D_law_shape_right.m D_law_shape_right.k D_law_shape_right.b .nil pass0 (pa_cons (pe_meth (pv 0) Uf.cl D_Shapes_shape_of.me G_Shapes_shape_of hr D_Shapes_shape_of.b .nil passX (pa_cons (pe_ix ix_tup (pe_ix ix_list (pv 1) (pv 2) (fun _ _=>rfl)) pe_int (fun _ _=>rfl)) pa_nil)) (pa_cons (pv 2) (pa_cons (pv 1) pa_nil)))))) (pss_one (ps_ret pe_bl)) pss_nil)))))
   (psx_cons (pstx_of (ps_for PassesOwn.never rfl (pi_list (pe_lst (pa_cons pe_non (pa_cons pe_bl (pa_cons pe_int (pa_cons pe_str (pa_cons (pe_op op_add_str (pe_ix ix_tup (pe_ix ix_list (pv 1) pe_int (fun _ _=>rfl)) pe_int (fun _ _=>rfl)) (pe_op op_rep6 pe_str pe_int)) (pa_cons (pe_lst (pa_cons (pe_ix ix_tup (pe_ix ix_list (pv 1) pe_int (fun _ _=>rfl)) pe_int (fun _ _=>rfl)) pa_nil)) (pa_cons (pe_tup (pa_cons (pe_ix ix_tup (pe_ix ix_list (pv 1) pe_int (fun _ _=>rfl)) pe_int (fun _ _=>rfl)) pa_nil)) (pa_cons pe_dnewK pa_nil se_dict) se_tuple) se_list) se_bin) se_const) se_const) se_const) se_const))) (pg_name (i:=3) sc_law_right.nd rfl (Or.inl rfl)) (pss_one (ps_if (pt_not (pt_val (pe_call G_law_no_shape hr rfl D_law_no_shape.m D_law_no_shape.k D_law_no_shape.b .nil pass0 (pa_cons (pv 0) (pa_cons (pv 3) pa_nil))))) (pss_one (ps_ret pe_bl)) pss_nil))))
   (psx_one (pstx_ret (pex_of (pe_and (pe_cmpR op_eq (pe_fld (pe_meth0 (pv 0) Uf.cl D_Shapes_main.me G_Shapes_main hr D_Shapes_main.b .nil pass0) rfl) (pe_ix ix_tup (pe_ix ix_list (pv 1) (pe_un un_neg pe_int) (fun _ _=>rfl)) pe_int (fun _ _=>rfl)) (nomark _)) (pe_one (pe_cmpR op_eq (pe_meth0 (pv 0) Uf.cl D_Shapes_text.me G_Shapes_text hr D_Shapes_text.b .nil pass0) (pe_call G_law_text hr rfl D_law_text.m D_law_text.k D_law_text.b .nil pass0 (pa_cons (pv 1) pa_nil)) (nomark _))))))))))),?_⟩
 obtain⟨dx,t,k1,k2,hw⟩:=id hro
 obtain⟨as,ha,hLW⟩:=id hlx
 have hSl:=hW.len
 have hn:=nok_of hW.nm
 have hg:=hW.good
 have zl:(as.map V.ref).length=S.length:=by rw [List.length_map];exact hLW.len
 have zs:(sa.map V.ref).length=S.length:=by rw [List.length_map];exact hw.1
 refine⟨_,rfl,.ref ra,Vf,_,true,rfl,KC.i6.ty k1,KC.k6,_,rfl,iteN (by decide) ⟨_,rfl,ra,Vf,_,_,_,rfl,k1,Uf.cl,Uf.na _ (by decide),rfl,.ref t,"tuple","tuple",rfl,by decide,.inl (.inr ⟨rfl,_,k2⟩),_,rfl,iteN (by decide) ⟨_,rfl,ra,Vf,_,_,_,rfl,k1,Uf.cl,Uf.na _ (by decide),rfl,t,_,rfl,.inr k2,_,rfl,sl,_,rfl,.inl ha,rfl,_,rfl,iteN (by rw [zs,zl];simp) ?_⟩⟩⟩
 refine⟨_,rfl,sl,_,rfl,.inl ha,_,rfl,by rw [zl];omega,by rw [zl];omega,?_⟩
 rw [zl]
 refine for_range (n:=S.length) (fun b σ H'=>∃ o2 o3,σ = [some (.ref ra),some (.ref sl),o2,o3]/\Same H H') ⟨_,_,rfl,Same.refl _⟩ (fun b σ H' hb z=>?_) (fun σ H' z=>?_)
 ·obtain⟨o2,o3,rfl,g⟩:=z
  rw [Int.zero_add]
  have hsa:sa[b]?=some (sa[b]'(by rw [hw.1];exact hb)):=List.getElem?_eq_getElem _
  generalize sa[b]'(by rw [hw.1];exact hb)=s at hsa
  have hSb:S[b]?=some (S[b]'hb):=List.getElem?_eq_getElem hb
  obtain⟨as2,s',l',ps',n1,n2,n3,n4,n5⟩:=hlx.at hb
  refine⟨_,rfl,ra,Vf,_,_,_,rfl,(g _ _ k1),Uf.cl,Uf.na _ (by decide),rfl,_,rfl,t,_,_,_,rfl,rfl,g.tp k2,at_ref hsa,_,rfl,_,rfl,s,sl,b,sa,S,rfl,hsa,hw.same g,hlx.same g,hg,hn,hSl,fun H2 g2=>⟨_,rfl,iteN (by decide) ?_⟩⟩
  have gg:=g.trans g2
  exact⟨_,rfl,ra,dx,_,rfl,gg _ _ k1,rfl,_,rfl,_,rfl,sl,_,_,_,rfl,rfl,gg.seq n1,at_ref n2,s',_,_,_,rfl,rfl,gg.tp n3,rfl,ra,_,sa,S,rfl,RO_same hro gg,hW.nd,.inl ⟨b,_,s,rfl,hSb,hsa,_,rfl,_,rfl,s,sl,b,sa,S,rfl,hsa,hw.same gg,hlx.same gg,hg,hn,hSl,fun H3 g3=>⟨_,rfl,iteN (by decide) ⟨_,_,rfl,gg.trans g3⟩⟩⟩⟩
 obtain⟨o2,o3,rfl,g⟩:=z
 obtain⟨s0,S',eS⟩ : ∃ s0 S',S=s0::S':=by
  cases S with
  | nil=>exact absurd rfl hne
  | cons a b=>exact⟨a,b,rfl⟩
 obtain⟨a0,as',ea⟩ : ∃ a0 as',as=a0::as':=by
  cases as with
  | nil=>rw [eS] at zl;simp at zl
  | cons a b=>exact⟨a,b,rfl⟩
 obtain⟨sh0,hS0,l0,ps0,m1,_⟩:=hLW.get (i:=0) (a:=a0) (by rw [ea];rfl)
 have hm0:sh0 ∈ S:=List.mem_of_getElem? hS0
 obtain⟨b1,b0⟩:=name_len (hW.nm sh0 hm0)
 have ha':∀ {G:Hp},Same H G->SqL K G sl ((a0::as').map V.ref):=fun g=>by rw [← ea];exact g.seq ha
 have nolen:∀ w:Str,(w.length=0\/7<=w.length)->w ∉ S.map (·.1):=fun w h z=>by
  obtain⟨s,hs,rfl⟩:=List.mem_map.mp z
  have:=name_len (hW.nm s hs)
  omega
 refine⟨_,rfl,sl,_,_,_,rfl,rfl,ha' g,at0,a0,_,_,_,rfl,rfl,g.tp m1,rfl,rfl,rfl,_,_,rfl,rfl,(by show sh0.1.length + 6<=sizeLine;rw [sizeLine_eq];omega),_,rfl,sl,_,_,_,rfl,rfl,ha' g,at0,a0,_,_,_,rfl,rfl,g.tp m1,rfl,szL1,fun q1 hq1=>?_⟩
 generalize e1:upd H' q1 _=H1
 obtain⟨g1,kq1⟩:=new_facts e1 hq1
 refine⟨_,rfl,sl,_,_,_,rfl,rfl,ha' (g.trans g1),at0,a0,_,_,_,rfl,rfl,(g.trans g1).tp m1,rfl,szL1,fun q2 hq2=>?_⟩
 generalize e2:upd H1 q2 _=H2
 obtain⟨g2,kq2⟩:=new_facts e2 hq2
 intro q3 hq3
 generalize e3:upd H2 q3 _=H3
 obtain⟨g3,kq3⟩:=new_facts e3 hq3
 refine⟨(by show 8<=sizeLine;decide),fun lt hlt=>?_⟩
 generalize e4:upd H3 lt _=H4
 obtain⟨g4,klt⟩:=new_facts e4 hlt
 have gH4:=g.trans (g1.trans (g2.trans (g3.trans g4)))
 have hxs:∀ (m:Nat) (x:V),([.non,.bl true,.int 0,.str "",.str (sh0.1++Str.ofString "qqqqqq"),.ref q1,.ref q2,.ref q3]:List V)[m]?=some x->NoNm K H4 S x:=fun m x e=>by
  match m,e with
  | 0,e=>cases e;exact .inr (.inl rfl)
  | 1,e=>cases e;exact .inr (.inr (.inl ⟨_,rfl⟩))
  | 2,e=>cases e;exact .inr (.inr (.inr (.inl ⟨_,rfl⟩)))
  | 3,e=>cases e;exact .inl ⟨_,rfl,nolen _ (.inl rfl)⟩
  | 4,e=>cases e;exact .inl ⟨_,rfl,nolen _ (.inr (by rw [strLen_append];show 7<=sh0.1.length + 6;omega))⟩
  | 5,e=>cases e;exact .inr (.inr (.inr (.inr ⟨q1,rfl,.inl ⟨_,SqL.of ((g2.trans (g3.trans g4)) _ _ kq1)⟩⟩)))
  | 6,e=>cases e;exact .inr (.inr (.inr (.inr ⟨q2,rfl,.inr (.inl ⟨_,SqT.of ((g3.trans g4) _ _ kq2)⟩)⟩)))
  | 7,e=>cases e;exact .inr (.inr (.inr (.inr ⟨q3,rfl,.inr (.inr ⟨_,g4 _ _ kq3⟩)⟩)))
  | m + 8,e=>simp at e
 refine⟨lt,rfl,⟨_,SqL.of klt⟩,for_list (xs:=[.non,.bl true,.int 0,.str "",.str (sh0.1++Str.ofString "qqqqqq"),.ref q1,.ref q2,.ref q3]) (fun m σ G=>∃ o2 o3,σ = [some (.ref ra),some (.ref sl),o2,o3]/\Same H4 G) ⟨_,_,rfl,Same.refl _⟩ (fun m σ G _ z=>?_) (fun m x σ G hx z=>?_) (fun σ G z=>?_)⟩
 ·obtain⟨o2,o3,rfl,gG⟩:=z
  exact SqL.of (gG _ _ klt)
 ·obtain⟨o2,o3,rfl,gG⟩:=z
  exact⟨_,rfl,_,rfl,ra,x,sa,S,rfl,RO_same hro (gH4.trans gG),hW.nd,NoNm_same (hxs m x hx) gG,fun G' g'=>⟨_,rfl,iteN (by decide) ⟨_,_,rfl,gG.trans g'⟩⟩⟩
 obtain⟨o2',o3',rfl,gG⟩:=z
 have gg:=gH4.trans gG
 clear hxs nolen
 obtain⟨sa0,z,ez⟩ : ∃ sa0 z,sa=sa0++[z]:=by
  rcases List.eq_nil_or_concat sa with h|⟨x,y,h⟩
  ·rw [h,eS] at zs;simp at zs
  ·exact⟨x,y,by rw [h,List.concat_eq_append]⟩
 obtain⟨as0,z',ez'⟩ : ∃ as0 z',as=as0++[z']:=by
  rcases List.eq_nil_or_concat as with h|⟨x,y,h⟩
  ·rw [h] at ea;cases ea
  ·exact⟨x,y,by rw [h,List.concat_eq_append]⟩
 have el:sa0.length=as0.length:=by
  rw [List.length_map,ez,List.length_append] at zs
  rw [List.length_map,ez',List.length_append] at zl
  simp only [List.length_singleton] at zs zl
  omega
 obtain⟨shz,hSz,dz,tz,pz,kz,_⟩:=hw.at (i:=sa0.length) (a:=z) (by rw [ez];simp)
 obtain⟨shz',hSz',lz,psz,nz,_⟩:=hLW.get (i:=as0.length) (a:=z') (by rw [ez'];simp)
 rw [el,hSz'] at hSz
 cases hSz
 have hro':RO (Cl5.mk Va Vb Vc Vd Ve) Vf K G ra (sa0++[z]) S:=by rw [← ez];exact RO_same hro gg
 refine⟨_,rfl,ra,dx,_,rfl,gg _ _ k1,rfl,ra,z,sa0,S,rfl,hro',z,Ve,_,_,_,rfl,gg _ _ kz,Ue.cl,Ue.na _ (by decide),rfl,_,rfl,_,rfl,sl,_,_,_,rfl,rfl,gg.seq ha,(by rw [ez'];exact atI_lastR _ _),z',_,_,_,rfl,rfl,gg.tp nz,rfl,rfl,_,rfl,iteP (decide_eq_true rfl) ⟨_,rfl,ra,dx,_,rfl,gg _ _ k1,rfl,ra,sa,S,rfl,RO_same hro gg,hW,hne,hR,fun G1 h1=>⟨_,rfl,sl,S,rfl,hlx.same (gg.trans h1),hW,hne,fun G2 h2=>⟨rfl,?_⟩⟩⟩⟩
 rw [decide_eq_true rfl]
 exact q G2 (gg.trans (h1.trans h2))
theorem ok_law {k r:Nat} (hR : 12<=r/\8 * r<=200) (F:Fun K "law" "law" s_law f fd) {f_law_cell:Addr} {fd_law_cell:FuncData} (D_law_cell:Df K mg "_law_cell" f_law_cell fd_law_cell ["_law_script","_law_k"]) (G_law_cell:FnOk P w K mg base CX0 k f_law_cell fd_law_cell ["_law_script","_law_k"] (spCell K)) {f_law_box:Addr} {fd_law_box:FuncData} (D_law_box:Df K mg "_law_box" f_law_box fd_law_box ["_law_cell_here"]) (G_law_box:FnOk P w K mg base CX0 k f_law_box fd_law_box ["_law_cell_here"] spBox) {f_law_shapes:Addr} {fd_law_shapes:FuncData} (D_law_shapes:Df K mg "_law_shapes" f_law_shapes fd_law_shapes ["_law_box_here","_law_most"]) (G_law_shapes:FnOk P w K mg base CX0 k f_law_shapes fd_law_shapes ["_law_box_here","_law_most"] (spSh7 K r)) {f_law_text:Addr} {fd_law_text:FuncData} (D_law_text:Df K mg "_law_text" f_law_text fd_law_text ["_law_shapes_here"]) (G_law_text:FnOk P w K mg base CX0 k f_law_text fd_law_text ["_law_shapes_here"] (spTx K)) {f_read_shapes:Addr} {fd_read_shapes:FuncData} (D_read_shapes:Df K mg "read_shapes" f_read_shapes fd_read_shapes ["text"]) (G_read_shapes:FnOk P w K mg base CX0 k f_read_shapes fd_read_shapes ["text"] (spRd (Cl5.mk Va Vb Vc Vd Ve) Vf K r)) {f_law_right:Addr} {fd_law_right:FuncData} (D_law_right:Df K mg "_law_right" f_law_right fd_law_right ["_law_read","_law_shapes_here"]) (G_law_right:FnOk P w K mg base CX0 k f_law_right fd_law_right ["_law_read","_law_shapes_here"] (spR7 (Cl5.mk Va Vb Vc Vd Ve) Vf K)) {f_Shapes_text:Addr} {fd_Shapes_text:FuncData} (D_Shapes_text:DfM K Vf "text" f_Shapes_text fd_Shapes_text ["self"]) (G_Shapes_text:FnOk P w K mg base CX0 k f_Shapes_text fd_Shapes_text ["self"] (spTT (Cl5.mk Va Vb Vc Vd Ve) Vf K r)) {f_law_by_hand:Addr} {fd_law_by_hand:FuncData} (D_law_by_hand:Df K mg "_law_by_hand" f_law_by_hand fd_law_by_hand ["_law_shapes_here"]) (G_law_by_hand:FnOk P w K mg base CX0 k f_law_by_hand fd_law_by_hand ["_law_shapes_here"] (spBH (Cl5.mk Va Vb Vc Vd Ve) Vf K)):FnOk P w K mg base CX0 (k + 2) f fd ["_law_script"] (spLaw K):=by
 w_cond sc_law
 ·obtain⟨a,ns,rfl,_⟩:=h;rfl
 obtain⟨a,ns,rfl,hS,hlen,q⟩:=h
 walk_at "hr"
 refine⟨_,(pss_cons (ps_set (i:=1) sc_law.nd rfl (by walk_at "o") (pe_lst pa_nil))
   (pss_cons (ps_for PassesOwn.never rfl (pi_range1 rfl M.range (pa_cons (pe_callB (call_max2 rfl) rfl M.max boot_max (pa_cons pe_int (pa_cons (pe_callB (call_min2 rfl) rfl M.min boot_min (pa_cons (pe_callB call_len_seq rfl M.len PySem.boot_len (pa_cons (pv 0) pa_nil)) (pa_cons pe_int pa_nil))) pa_nil))) pa_nil)) (pg_name (i:=2) sc_law.nd rfl (Or.inl rfl)) (pss_cons (ps_set (i:=3) sc_law.nd rfl (by walk_at "o") (pe_call G_law_shapes hr rfl D_law_shapes.m D_law_shapes.k D_law_shapes.b .nil pass0 (pa_cons (pe_call G_law_box hr rfl D_law_box.m D_law_box.k D_law_box.b .nil pass0 (pa_cons (pe_call G_law_cell hr rfl D_law_cell.m D_law_cell.k D_law_cell.b .nil pass0 (pa_cons (pv 0) (pa_cons (pv 2) pa_nil))) pa_nil)) (pa_cons pe_int pa_nil))))
   (pss_cons (ps_set (i:=4) sc_law.nd rfl (by walk_at "o") (pe_call G_read_shapes hr rfl D_read_shapes.m D_read_shapes.k D_read_shapes.b .nil pass0 (pa_cons (pe_call G_law_text hr rfl D_law_text.m D_law_text.k D_law_text.b .nil pass0 (pa_cons (pv 3) pa_nil)) pa_nil)))
   (pss_cons (ps_if (PW.pt (pw_or (pt_not (pt_val (pe_call G_law_right hr rfl D_law_right.m D_law_right.k D_law_right.b .nil pass0 (pa_cons (pv 4) (pa_cons (pv 3) pa_nil))))) (pw_or1 (pt_not (pt_val (pe_call G_law_right hr rfl D_law_right.m D_law_right.k D_law_right.b .nil pass0 (pa_cons (pe_call G_read_shapes hr rfl D_read_shapes.m D_read_shapes.k D_read_shapes.b .nil pass0 (pa_cons (pe_meth0 (pv 4) Uf.cl D_Shapes_text.me G_Shapes_text hr D_Shapes_text.b .nil pass0) pa_nil)) (pa_cons (pv 3) pa_nil)))))))) (pss_one (ps_ret pe_bl)) pss_nil)
   (pss_cons (ps_if (pt_not (pt_val (pe_call G_law_right hr rfl D_law_right.m D_law_right.k D_law_right.b .nil pass0 (pa_cons (pe_call G_law_by_hand hr rfl D_law_by_hand.m D_law_by_hand.k D_law_by_hand.b .nil pass0 (pa_cons (pv 3) pa_nil)) (pa_cons (pv 3) pa_nil))))) (pss_one (ps_ret pe_bl)) pss_nil)
   (pss_one (ps_expr (pe_bm PySem.F.plainAttrs_list PySem.F.slot_list_append PySem.F.type_list_append mt_append (pv 1) (pa_cons (pe_tup (pa_cons (pv 4) (pa_cons (pv 3) pa_nil))) pa_nil)))))))))
   (pss_cons (ps_for PassesOwn.never rfl (pi_list (pv 1)) (pg_tup rfl (pgs_cons (pg_name (i:=4) sc_law.nd rfl (Or.inl rfl)) (pgs_cons (pg_name (i:=3) sc_law.nd rfl (Or.inl rfl)) pgs_nil))) (pss_one (ps_if (pt_not (pt_val (pe_call G_law_right hr rfl D_law_right.m D_law_right.k D_law_right.b .nil pass0 (pa_cons (pv 4) (pa_cons (pv 3) pa_nil))))) (pss_one (ps_ret pe_bl)) pss_nil)))
   (pss_one (ps_ret pe_bl))))),?_⟩
 have hl:(ns.map V.int).length=ns.length:=List.length_map _
 refine⟨szL0,fun tl htl=>?_⟩
 generalize e0:upd H tl _=H0
 obtain⟨g0,k0⟩:=new_facts e0 htl
 refine⟨_,rfl,a,_,rfl,.inl (g0.seq hS),_,_,rfl,_,_,rfl,_,rfl,?_,?_,?_⟩
 ·rw [hl];split <;> split <;> omega
 ·rw [hl];split <;> split <;> omega
 refine for_range (fun i σ H'=>∃ (o2 o3 o4:Option V) (us:List Addr),σ = [some (.ref a),some (.ref tl),o2,o3,o4]/\But tl H0 H'/\H' tl=some (.lst (us.map V.ref))/\us.length<=i/\∀ u ∈ us,Prs (Cl5.mk Va Vb Vc Vd Ve) Vf K (offs [tl] H') u) ⟨_,_,_,[],rfl,But.refl,k0,Nat.le_refl _,fun u h=>by cases h⟩ (fun i σ H' hi z=>?_) (fun σ H' z=>?_)
 ·obtain⟨o2,o3,o4,us,rfl,g,ktl,hul,hall⟩:=z
  have hi12:i < 12:=by
   refine Nat.lt_of_lt_of_le hi ?_
   rw [hl];split <;> split <;> omega
  have gH:=But.from g0 htl g
  refine⟨_,rfl,_,rfl,a,ns,_,rfl,gH.seq hS,by omega,by omega,fun v=>⟨v,rfl,fun p H1 hp d1=>?_⟩⟩
  have ntp:tl ≠ p:=ne_of_none ktl hp
  refine⟨p,tl,_,rfl,d1.1,ntp,d1.2 _ _ ntp ktl,hR.1,hR.2,fun l S H2 d2 hl2 lx hW hne=>?_⟩
  have s2:Same H' H2:=(d1.trans d2).same hp
  have lxT:LX K (offs [tl] H2) l S:=lx.same (offs_sub (fun b hb=>by rw [List.mem_singleton.mp hb];simp))
  refine⟨_,rfl,l,S,rfl,lx.same offs_same,hW,hne,fun H3 g3=>⟨S,rfl,hW,hne,hR.1,hR.2,fun ra dx t sa H4 g4 kr kt sw=>?_⟩⟩
  have g24:=g3.trans g4
  have lx4:LX K H4 l S:=(lx.same offs_same).same g24
  have hro4:RO (Cl5.mk Va Vb Vc Vd Ve) Vf K H4 ra sa S:=⟨dx,t,kr,kt,sw⟩
  have ktl4:=g24 _ _ (s2 _ _ ktl)
  refine⟨_,rfl,_,rfl,ra,l,sa,S,rfl,hro4,lx4,hW,hne,fun H5 g5=>⟨_,rfl,iteN (by decide) ⟨_,rfl,ra,dx,_,rfl,g5 _ _ kr,rfl,ra,sa,S,rfl,RO_same hro4 g5,hW,hne,hR.1,fun H6 g6=>⟨S,rfl,hW,hne,hR.1,hR.2,fun ra2 dx2 t2 sa2 H7 g7 kr2 kt2 sw2=>⟨_,rfl,ra2,l,sa2,S,rfl,⟨dx2,t2,kr2,kt2,sw2⟩,lx4.same (g5.trans (g6.trans g7)),hW,hne,fun H8 g8=>⟨_,rfl,iteN (by decide) ?_⟩⟩⟩⟩⟩⟩
  have g48:=g5.trans (g6.trans (g7.trans g8))
  refine⟨_,rfl,l,S,rfl,lx4.same g48,hW,fun ra3 sa3 H9 g9 hro9=>⟨_,rfl,ra3,l,sa3,S,rfl,hro9,lx4.same (g48.trans g9),hW,hne,fun HA gA=>⟨_,rfl,iteN (by decide) ?_⟩⟩⟩
  have g4A:=g48.trans (g9.trans gA)
  have ktlA:=g4A _ _ ktl4
  refine⟨_,rfl,.inl ⟨rfl,_,SqL.of ktlA⟩,_,rfl,_,rfl,szL2,fun u hu=>?_⟩
  generalize eB:upd HA u _=HB
  obtain⟨gB,kB⟩:=new_facts eB hu
  have nut:u ≠ tl:=Ne.symm (ne_of_none ktlA hu)
  refine⟨tl,_,_,rfl,rfl,gB _ _ ktlA,(by rw [List.length_map];exact Nat.lt_of_le_of_lt (show us.length<=12 by omega) (by decide)),?_⟩
  generalize eC:upd HB tl _=HC
  obtain⟨gC,kC⟩:=chg_facts eC
  have sBC:Same (offs [tl] HB) (offs [tl] HC):=offs_but fun b o nb e=>gC b o (fun z=>nb (by rw [z];simp)) e
  have g4B:=g4A.trans gB
  have s4C:Same (offs [tl] H4) (offs [tl] HC):=(offs_mono g4B).trans sBC
  have s2C:Same (offs [tl] H2) (offs [tl] HC):=(offs_mono g24).trans s4C
  have sHC:Same (offs [tl] H') (offs [tl] HC):=(offs_mono s2).trans s2C
  refine⟨_,_,_,us++[u],rfl,fun b o nb e=>gC b o nb (g4B b o (g24 b o (s2 b o (g b o nb e)))),by rw [kC,List.map_append];rfl,by rw [List.length_append];exact Nat.succ_le_succ hul,fun w hw=>?_⟩
  rcases List.mem_append.mp hw with hw|hw
  ·exact Prs_same (hall w hw) sHC
  ·rw [List.mem_singleton.mp hw]
   exact⟨ra,l,sa,S,SqT.of (sBC _ _ (offs_at (by simpa using nut) kB)),RO_same (RO_off ktl4 hro4) s4C,lxT.same s2C,hW,hne⟩
 ·obtain⟨o2,o3,o4,us,rfl,g,ktl,hul,hall⟩:=z
  refine⟨_,rfl,tl,rfl,⟨_,SqL.of ktl⟩,for_list (xs:=us.map V.ref) (fun j σ G=>∃ o2 o3 o4,σ = [some (.ref a),some (.ref tl),o2,o3,o4]/\Same H' G) ⟨_,_,_,rfl,Same.refl _⟩ (fun j σ G _ z=>?_) (fun j x σ G hx z=>?_) (fun σ G z=>q G)⟩
  ·obtain⟨o2,o3,o4,rfl,gG⟩:=z
   exact SqL.of (gG _ _ ktl)
  ·obtain⟨o2,o3,o4,rfl,gG⟩:=z
   obtain⟨u,hu,rfl⟩:=get_refs hx
   obtain⟨ra,l,sa,S,h1,h2,h3,hW,hne⟩:=hall u (List.mem_of_getElem? hu)
   have gg:Same (offs [tl] H') G:=offs_same.trans gG
   exact⟨u,_,rfl,gg.tp h1,rfl,_,_,rfl,_,_,rfl,rfl,_,rfl,_,rfl,ra,l,sa,S,rfl,RO_same h2 gg,h3.same gg,hW,hne,fun G' g'=>⟨_,rfl,iteN (by decide) ⟨_,_,_,rfl,gG.trans g'⟩⟩⟩
end
end K07
namespace K07
open PySem L2 PyProof.Rows
set_option hygiene false in
local macro_rules | `(tactic| walk_at "sc") => `(tactic| exact ⟨rfl, rfl, rfl, by decide +kernel, rfl, by decide +kernel, by decide +kernel⟩)
set_option hygiene false in
local macro_rules | `(tactic| walk_at "hr") => `(tactic| have hr := hr0.mono (Nat.le_succ _))
set_option hygiene false in
local macro_rules | `(tactic| walk_at "b1") => `(tactic| exact fun _ _ _ _ _ _ us hl => match us, hl with | [_], _ => rfl)
set_option hygiene false in
local macro_rules | `(tactic| walk_at "b2") => `(tactic| exact fun _ _ _ _ _ _ us hl => match us, hl with | [_, _], _ => rfl)
set_option hygiene false in
local macro_rules | `(tactic| walk_at "b3") => `(tactic| exact fun _ _ _ _ _ _ us hl => match us, hl with | [_, _, _], _ => rfl)
set_option hygiene false in
local macro_rules | `(tactic| walk_at "o") => `(tactic| first | exact Or.inl rfl | exact Or.inr rfl)
set_option hygiene false in
local macro_rules | `(tactic| w_cond $s:ident) => `(tactic| first | refine F.ok $s (fun vs H Q E h => ?_) (fun cdv A outer s0 H vs Q E hr0 h => ?_) | refine F.okE $s (fun vs H Q E h => ?_) (fun cdv A outer s0 H vs Q E hr0 h => ?_))
theorem mO {P:Program} {w:World} {K:Frag} {mg:Str->Option Value} {base:Heap} {CX:CXT} {j k:Nat} {f:Addr} {fd:FuncData} {ps:List Str} {sp:Sp} (h:FnOk P w K mg base CX j f fd ps sp) (hk:j<=k:=by decide):FnOk P w K mg base CX k f fd ps sp:=FnOk.mono h hk
set_option autoImplicit true in
set_option relaxedAutoImplicit true in
theorem all_mk {l:PySem.W.OpenLaw} {w:World} {K:Frag} {h:Heap} {mg:Str->Option Value} {fa f0 f1 f2 f3 f4 f5 f6 f7 f8 f9 f10 f11 f12 f13 f14 f15 f16 f17 f18 f19 f20 f21 f22 f23 f24 f25 f26 f27 f28 f29 f30 f31 f32 f33 f34 f35 f36 f37 f38 f39 f40 f41 f42 f43 f44 f45 f46 f47 f48 f49 f50 f51 f52 f53 f54 f55 f56 f57 f58 f59 f60 f61 f62 f63 f64 f65 f66 f67 f68 f69 f70 f71 f72 f73 Va Vb Vc Vd Ve Vf cRE cNP:Addr} (X:K.In h) (G:h.Ns mainGlobals mg) (hfa:mg "law" = some (.ref fa))
   {t1 t2 t3 t4 t5 t6 t7 t8 t9 t10 t11 t12 t13 u0 u1 u2 u3 u4 u5 u6 u7 u8 u9 u10 u11 u12 u13 u14 u15 u16 u17 u18 u19 u20 u21 u22:Tok} {ts:Addr} {odt:Option Addr} {nt:Nat} {slt:Array (Option Value)} {xn0 xq0:Str} {xN0:Addr} {xb0 xs0:List Value} {xl0:List Str} {xa0:Bool} {xc0:Option Bool} {xd0:Option Addr} {x00 x10 x20 x30 x50:Option Value} {xn1 xq1:Str} {xN1:Addr} {xb1 xs1:List Value} {xl1:List Str} {xa1:Bool} {xc1:Option Bool} {xd1:Option Addr} {x01 x11 x21 x31 x51:Option Value}
  (g_Num:nsIn K mainGlobals "Num" = some (some (.ref Va)))
  (g_Nested:nsIn K mainGlobals "Nested" = some (some (.ref Vb)))
  (g_Many:nsIn K mainGlobals "Many" = some (some (.ref Vc)))
  (g_Pick:nsIn K mainGlobals "Pick" = some (some (.ref Vd)))
  (g_Shape:nsIn K mainGlobals "Shape" = some (some (.ref Ve)))
  (g_Shapes:nsIn K mainGlobals "Shapes" = some (some (.ref Vf)))
  (g_RoomError:nsIn K mainGlobals "RoomError" = some (some (.ref cRE)))
  (g_NoPath:nsIn K mainGlobals "NoPath" = some (some (.ref cNP)))
  (a0:findIn K (.ref cRE) "__init__" = some (some (.ref f0)))
  (i0:isFn K (.ref f0)=true)
  (l0:K.lookup f0=some ⟨oc0,od0,.func (fnOf "__init__" "RoomError.__init__" (defArgs s_RoomError_init) (defBody s_RoomError_init) (defScope s_RoomError_init) .none kV0 dc0 pm0 an0 cd0 ct0),sl0⟩)
  (c0:codeIn K cd0 "RoomError.__init__" = true)
  (k0:keepIn K (.ref f0)=true)
  (a1:findIn K (.ref cNP) "__init__" = some (some (.ref f1)))
  (i1:isFn K (.ref f1)=true)
  (l1:K.lookup f1=some ⟨oc1,od1,.func (fnOf "__init__" "NoPath.__init__" (defArgs s_NoPath_init) (defBody s_NoPath_init) (defScope s_NoPath_init) .none kV1 dc1 pm1 an1 cd1 ct1),sl1⟩)
  (c1:codeIn K cd1 "NoPath.__init__" = true)
  (k1:keepIn K (.ref f1)=true)
  (a2:nsIn K mainGlobals "is_name" = some (some (.ref f2)))
  (l2:K.lookup f2=some ⟨oc2,od2,.func (fnOf "is_name" "is_name" (defArgs s_is_name) (defBody s_is_name) (defScope s_is_name) .none kV2 dc2 pm2 an2 cd2 ct2),sl2⟩)
  (c2:codeIn K cd2 "is_name" = true)
  (k2:keepIn K (.ref f2)=true)
  (a3:nsIn K mainGlobals "is_text_of" = some (some (.ref f3)))
  (l3:K.lookup f3=some ⟨oc3,od3,.func (fnOf "is_text_of" "is_text_of" (defArgs s_is_text_of) (defBody s_is_text_of) (defScope s_is_text_of) .none kV3 dc3 pm3 an3 cd3 ct3),sl3⟩)
  (c3:codeIn K cd3 "is_text_of" = true)
  (k3:keepIn K (.ref f3)=true)
  (a4:nsIn K mainGlobals "number_in" = some (some (.ref f4)))
  (l4:K.lookup f4=some ⟨oc4,od4,.func (fnOf "number_in" "number_in" (defArgs s_number_in) (defBody s_number_in) (defScope s_number_in) .none kV4 dc4 pm4 an4 cd4 ct4),sl4⟩)
  (c4:codeIn K cd4 "number_in" = true)
  (k4:keepIn K (.ref f4)=true)
  (a5:nsIn K mainGlobals "joined" = some (some (.ref f5)))
  (l5:K.lookup f5=some ⟨oc5,od5,.func (fnOf "joined" "joined" (defArgs s_joined) (defBody s_joined) (defScope s_joined) .none kV5 dc5 pm5 an5 cd5 ct5),sl5⟩)
  (c5:codeIn K cd5 "joined" = true)
  (k5:keepIn K (.ref f5)=true)
  (a6:findIn K (.ref Vb) "units_at" = some (some (.ref f6)))
  (i6:isFn K (.ref f6)=true)
  (l6:K.lookup f6=some ⟨oc6,od6,.func (fnOf "units_at" "Kind.units_at" (defArgs s_Kind_units_at) (defBody s_Kind_units_at) (defScope s_Kind_units_at) .none kV6 dc6 pm6 an6 cd6 ct6),sl6⟩)
  (c6:codeIn K cd6 "Kind.units_at" = true)
  (k6:keepIn K (.ref f6)=true)
  (a7:findIn K (.ref Va) "__init__" = some (some (.ref f7)))
  (i7:isFn K (.ref f7)=true)
  (l7:K.lookup f7=some ⟨oc7,od7,.func (fnOf "__init__" "Num.__init__" (defArgs s_Num_init) (defBody s_Num_init) (defScope s_Num_init) .none kV7 dc7 pm7 an7 cd7 ct7),sl7⟩)
  (c7:codeIn K cd7 "Num.__init__" = true)
  (k7:keepIn K (.ref f7)=true)
  (a8:findIn K (.ref Va) "word" = some (some (.ref f8)))
  (i8:isFn K (.ref f8)=true)
  (l8:K.lookup f8=some ⟨oc8,od8,.func (fnOf "word" "Num.word" (defArgs s_Num_word) (defBody s_Num_word) (defScope s_Num_word) .none kV8 dc8 pm8 an8 cd8 ct8),sl8⟩)
  (c8:codeIn K cd8 "Num.word" = true)
  (k8:keepIn K (.ref f8)=true)
  (a9:findIn K (.ref Va) "text" = some (some (.ref f9)))
  (i9:isFn K (.ref f9)=true)
  (l9:K.lookup f9=some ⟨oc9,od9,.func (fnOf "text" "Num.text" (defArgs s_Num_text) (defBody s_Num_text) (defScope s_Num_text) .none kV9 dc9 pm9 an9 cd9 ct9),sl9⟩)
  (c9:codeIn K cd9 "Num.text" = true)
  (k9:keepIn K (.ref f9)=true)
  (a10:findIn K (.ref Va) "size" = some (some (.ref f10)))
  (i10:isFn K (.ref f10)=true)
  (l10:K.lookup f10=some ⟨oc10,od10,.func (fnOf "size" "Num.size" (defArgs s_Num_size) (defBody s_Num_size) (defScope s_Num_size) .none kV10 dc10 pm10 an10 cd10 ct10),sl10⟩)
  (c10:codeIn K cd10 "Num.size" = true)
  (k10:keepIn K (.ref f10)=true)
  (a11:findIn K (.ref Va) "depth" = some (some (.ref f11)))
  (i11:isFn K (.ref f11)=true)
  (l11:K.lookup f11=some ⟨oc11,od11,.func (fnOf "depth" "Num.depth" (defArgs s_Num_depth) (defBody s_Num_depth) (defScope s_Num_depth) .none kV11 dc11 pm11 an11 cd11 ct11),sl11⟩)
  (c11:codeIn K cd11 "Num.depth" = true)
  (k11:keepIn K (.ref f11)=true)
  (a12:findIn K (.ref Va) "units_at" = some (some (.ref f12)))
  (i12:isFn K (.ref f12)=true)
  (l12:K.lookup f12=some ⟨oc12,od12,.func (fnOf "units_at" "Num.units_at" (defArgs s_Num_units_at) (defBody s_Num_units_at) (defScope s_Num_units_at) .none kV12 dc12 pm12 an12 cd12 ct12),sl12⟩)
  (c12:codeIn K cd12 "Num.units_at" = true)
  (k12:keepIn K (.ref f12)=true)
  (a13:findIn K (.ref Vb) "__init__" = some (some (.ref f13)))
  (i13:isFn K (.ref f13)=true)
  (l13:K.lookup f13=some ⟨oc13,od13,.func (fnOf "__init__" "Nested.__init__" (defArgs s_Nested_init) (defBody s_Nested_init) (defScope s_Nested_init) .none kV13 dc13 pm13 an13 cd13 ct13),sl13⟩)
  (c13:codeIn K cd13 "Nested.__init__" = true)
  (k13:keepIn K (.ref f13)=true)
  (a14:findIn K (.ref Vb) "word" = some (some (.ref f14)))
  (i14:isFn K (.ref f14)=true)
  (l14:K.lookup f14=some ⟨oc14,od14,.func (fnOf "word" "Nested.word" (defArgs s_Nested_word) (defBody s_Nested_word) (defScope s_Nested_word) .none kV14 dc14 pm14 an14 cd14 ct14),sl14⟩)
  (c14:codeIn K cd14 "Nested.word" = true)
  (k14:keepIn K (.ref f14)=true)
  (a15:findIn K (.ref Vb) "text" = some (some (.ref f15)))
  (i15:isFn K (.ref f15)=true)
  (l15:K.lookup f15=some ⟨oc15,od15,.func (fnOf "text" "Nested.text" (defArgs s_Nested_text) (defBody s_Nested_text) (defScope s_Nested_text) .none kV15 dc15 pm15 an15 cd15 ct15),sl15⟩)
  (c15:codeIn K cd15 "Nested.text" = true)
  (k15:keepIn K (.ref f15)=true)
  (a16:findIn K (.ref Vb) "size" = some (some (.ref f16)))
  (i16:isFn K (.ref f16)=true)
  (l16:K.lookup f16=some ⟨oc16,od16,.func (fnOf "size" "Nested.size" (defArgs s_Nested_size) (defBody s_Nested_size) (defScope s_Nested_size) .none kV16 dc16 pm16 an16 cd16 ct16),sl16⟩)
  (c16:codeIn K cd16 "Nested.size" = true)
  (k16:keepIn K (.ref f16)=true)
  (a17:findIn K (.ref Vb) "depth" = some (some (.ref f17)))
  (i17:isFn K (.ref f17)=true)
  (l17:K.lookup f17=some ⟨oc17,od17,.func (fnOf "depth" "Nested.depth" (defArgs s_Nested_depth) (defBody s_Nested_depth) (defScope s_Nested_depth) .none kV17 dc17 pm17 an17 cd17 ct17),sl17⟩)
  (c17:codeIn K cd17 "Nested.depth" = true)
  (k17:keepIn K (.ref f17)=true)
  (a18:findIn K (.ref Vb) "parted" = some (some (.ref f18)))
  (i18:isFn K (.ref f18)=true)
  (l18:K.lookup f18=some ⟨oc18,od18,.func (fnOf "parted" "Nested.parted" (defArgs s_Nested_parted) (defBody s_Nested_parted) (defScope s_Nested_parted) .none kV18 dc18 pm18 an18 cd18 ct18),sl18⟩)
  (c18:codeIn K cd18 "Nested.parted" = true)
  (k18:keepIn K (.ref f18)=true)
  (a19:findIn K (.ref Vc) "__init__" = some (some (.ref f19)))
  (i19:isFn K (.ref f19)=true)
  (l19:K.lookup f19=some ⟨oc19,od19,.func (fnOf "__init__" "Many.__init__" (defArgs s_Many_init) (defBody s_Many_init) (defScope s_Many_init) .none kV19 dc19 pm19 an19 cd19 ct19),sl19⟩)
  (c19:codeIn K cd19 "Many.__init__" = true)
  (k19:keepIn K (.ref f19)=true)
  (a20:findIn K (.ref Vc) "word" = some (some (.ref f20)))
  (i20:isFn K (.ref f20)=true)
  (l20:K.lookup f20=some ⟨oc20,od20,.func (fnOf "word" "Many.word" (defArgs s_Many_word) (defBody s_Many_word) (defScope s_Many_word) .none kV20 dc20 pm20 an20 cd20 ct20),sl20⟩)
  (c20:codeIn K cd20 "Many.word" = true)
  (k20:keepIn K (.ref f20)=true)
  (a21:findIn K (.ref Vc) "text" = some (some (.ref f21)))
  (i21:isFn K (.ref f21)=true)
  (l21:K.lookup f21=some ⟨oc21,od21,.func (fnOf "text" "Many.text" (defArgs s_Many_text) (defBody s_Many_text) (defScope s_Many_text) .none kV21 dc21 pm21 an21 cd21 ct21),sl21⟩)
  (c21:codeIn K cd21 "Many.text" = true)
  (k21:keepIn K (.ref f21)=true)
  (a22:findIn K (.ref Vc) "size" = some (some (.ref f22)))
  (i22:isFn K (.ref f22)=true)
  (l22:K.lookup f22=some ⟨oc22,od22,.func (fnOf "size" "Many.size" (defArgs s_Many_size) (defBody s_Many_size) (defScope s_Many_size) .none kV22 dc22 pm22 an22 cd22 ct22),sl22⟩)
  (c22:codeIn K cd22 "Many.size" = true)
  (k22:keepIn K (.ref f22)=true)
  (a23:findIn K (.ref Vc) "depth" = some (some (.ref f23)))
  (i23:isFn K (.ref f23)=true)
  (l23:K.lookup f23=some ⟨oc23,od23,.func (fnOf "depth" "Many.depth" (defArgs s_Many_depth) (defBody s_Many_depth) (defScope s_Many_depth) .none kV23 dc23 pm23 an23 cd23 ct23),sl23⟩)
  (c23:codeIn K cd23 "Many.depth" = true)
  (k23:keepIn K (.ref f23)=true)
  (a24:findIn K (.ref Vc) "parted" = some (some (.ref f24)))
  (i24:isFn K (.ref f24)=true)
  (l24:K.lookup f24=some ⟨oc24,od24,.func (fnOf "parted" "Many.parted" (defArgs s_Many_parted) (defBody s_Many_parted) (defScope s_Many_parted) .none kV24 dc24 pm24 an24 cd24 ct24),sl24⟩)
  (c24:codeIn K cd24 "Many.parted" = true)
  (k24:keepIn K (.ref f24)=true)
  (a25:findIn K (.ref Vd) "__init__" = some (some (.ref f25)))
  (i25:isFn K (.ref f25)=true)
  (l25:K.lookup f25=some ⟨oc25,od25,.func (fnOf "__init__" "Pick.__init__" (defArgs s_Pick_init) (defBody s_Pick_init) (defScope s_Pick_init) .none kV25 dc25 pm25 an25 cd25 ct25),sl25⟩)
  (c25:codeIn K cd25 "Pick.__init__" = true)
  (k25:keepIn K (.ref f25)=true)
  (a26:findIn K (.ref Vd) "word" = some (some (.ref f26)))
  (i26:isFn K (.ref f26)=true)
  (l26:K.lookup f26=some ⟨oc26,od26,.func (fnOf "word" "Pick.word" (defArgs s_Pick_word) (defBody s_Pick_word) (defScope s_Pick_word) .none kV26 dc26 pm26 an26 cd26 ct26),sl26⟩)
  (c26:codeIn K cd26 "Pick.word" = true)
  (k26:keepIn K (.ref f26)=true)
  (a27:findIn K (.ref Vd) "text" = some (some (.ref f27)))
  (i27:isFn K (.ref f27)=true)
  (l27:K.lookup f27=some ⟨oc27,od27,.func (fnOf "text" "Pick.text" (defArgs s_Pick_text) (defBody s_Pick_text) (defScope s_Pick_text) .none kV27 dc27 pm27 an27 cd27 ct27),sl27⟩)
  (c27:codeIn K cd27 "Pick.text" = true)
  (k27:keepIn K (.ref f27)=true)
  (a28:findIn K (.ref Vd) "size" = some (some (.ref f28)))
  (i28:isFn K (.ref f28)=true)
  (l28:K.lookup f28=some ⟨oc28,od28,.func (fnOf "size" "Pick.size" (defArgs s_Pick_size) (defBody s_Pick_size) (defScope s_Pick_size) .none kV28 dc28 pm28 an28 cd28 ct28),sl28⟩)
  (c28:codeIn K cd28 "Pick.size" = true)
  (k28:keepIn K (.ref f28)=true)
  (a29:findIn K (.ref Vd) "greatest" = some (some (.ref f29)))
  (i29:isFn K (.ref f29)=true)
  (l29:K.lookup f29=some ⟨oc29,od29,.func (fnOf "greatest" "Pick.greatest" (defArgs s_Pick_greatest) (defBody s_Pick_greatest) (defScope s_Pick_greatest) .none kV29 dc29 pm29 an29 cd29 ct29),sl29⟩)
  (c29:codeIn K cd29 "Pick.greatest" = true)
  (k29:keepIn K (.ref f29)=true)
  (a30:findIn K (.ref Vd) "depth" = some (some (.ref f30)))
  (i30:isFn K (.ref f30)=true)
  (l30:K.lookup f30=some ⟨oc30,od30,.func (fnOf "depth" "Pick.depth" (defArgs s_Pick_depth) (defBody s_Pick_depth) (defScope s_Pick_depth) .none kV30 dc30 pm30 an30 cd30 ct30),sl30⟩)
  (c30:codeIn K cd30 "Pick.depth" = true)
  (k30:keepIn K (.ref f30)=true)
  (a31:findIn K (.ref Vd) "units_at" = some (some (.ref f31)))
  (i31:isFn K (.ref f31)=true)
  (l31:K.lookup f31=some ⟨oc31,od31,.func (fnOf "units_at" "Pick.units_at" (defArgs s_Pick_units_at) (defBody s_Pick_units_at) (defScope s_Pick_units_at) .none kV31 dc31 pm31 an31 cd31 ct31),sl31⟩)
  (c31:codeIn K cd31 "Pick.units_at" = true)
  (k31:keepIn K (.ref f31)=true)
  (a32:findIn K (.ref Ve) "__init__" = some (some (.ref f32)))
  (i32:isFn K (.ref f32)=true)
  (l32:K.lookup f32=some ⟨oc32,od32,.func (fnOf "__init__" "Shape.__init__" (defArgs s_Shape_init) (defBody s_Shape_init) (defScope s_Shape_init) .none kV32 dc32 pm32 an32 cd32 ct32),sl32⟩)
  (c32:codeIn K cd32 "Shape.__init__" = true)
  (k32:keepIn K (.ref f32)=true)
  (a33:findIn K (.ref Ve) "size" = some (some (.ref f33)))
  (i33:isFn K (.ref f33)=true)
  (l33:K.lookup f33=some ⟨oc33,od33,.func (fnOf "size" "Shape.size" (defArgs s_Shape_size) (defBody s_Shape_size) (defScope s_Shape_size) .none kV33 dc33 pm33 an33 cd33 ct33),sl33⟩)
  (c33:codeIn K cd33 "Shape.size" = true)
  (k33:keepIn K (.ref f33)=true)
  (a34:findIn K (.ref Ve) "depth" = some (some (.ref f34)))
  (i34:isFn K (.ref f34)=true)
  (l34:K.lookup f34=some ⟨oc34,od34,.func (fnOf "depth" "Shape.depth" (defArgs s_Shape_depth) (defBody s_Shape_depth) (defScope s_Shape_depth) .none kV34 dc34 pm34 an34 cd34 ct34),sl34⟩)
  (c34:codeIn K cd34 "Shape.depth" = true)
  (k34:keepIn K (.ref f34)=true)
  (a35:findIn K (.ref Ve) "units" = some (some (.ref f35)))
  (i35:isFn K (.ref f35)=true)
  (l35:K.lookup f35=some ⟨oc35,od35,.func (fnOf "units" "Shape.units" (defArgs s_Shape_units) (defBody s_Shape_units) (defScope s_Shape_units) .none kV35 dc35 pm35 an35 cd35 ct35),sl35⟩)
  (c35:codeIn K cd35 "Shape.units" = true)
  (k35:keepIn K (.ref f35)=true)
  (a36:findIn K (.ref Vf) "__init__" = some (some (.ref f36)))
  (i36:isFn K (.ref f36)=true)
  (l36:K.lookup f36=some ⟨oc36,od36,.func (fnOf "__init__" "Shapes.__init__" (defArgs s_Shapes_init) (defBody s_Shapes_init) (defScope s_Shapes_init) .none kV36 dc36 pm36 an36 cd36 ct36),sl36⟩)
  (c36:codeIn K cd36 "Shapes.__init__" = true)
  (k36:keepIn K (.ref f36)=true)
  (a37:findIn K (.ref Vf) "shape_of" = some (some (.ref f37)))
  (i37:isFn K (.ref f37)=true)
  (l37:K.lookup f37=some ⟨oc37,od37,.func (fnOf "shape_of" "Shapes.shape_of" (defArgs s_Shapes_shape_of) (defBody s_Shapes_shape_of) (defScope s_Shapes_shape_of) .none kV37 dc37 pm37 an37 cd37 ct37),sl37⟩)
  (c37:codeIn K cd37 "Shapes.shape_of" = true)
  (k37:keepIn K (.ref f37)=true)
  (a38:findIn K (.ref Vf) "main" = some (some (.ref f38)))
  (i38:isFn K (.ref f38)=true)
  (l38:K.lookup f38=some ⟨oc38,od38,.func (fnOf "main" "Shapes.main" (defArgs s_Shapes_main) (defBody s_Shapes_main) (defScope s_Shapes_main) .none kV38 dc38 pm38 an38 cd38 ct38),sl38⟩)
  (c38:codeIn K cd38 "Shapes.main" = true)
  (k38:keepIn K (.ref f38)=true)
  (a39:findIn K (.ref Vf) "text" = some (some (.ref f39)))
  (i39:isFn K (.ref f39)=true)
  (l39:K.lookup f39=some ⟨oc39,od39,.func (fnOf "text" "Shapes.text" (defArgs s_Shapes_text) (defBody s_Shapes_text) (defScope s_Shapes_text) .none kV39 dc39 pm39 an39 cd39 ct39),sl39⟩)
  (c39:codeIn K cd39 "Shapes.text" = true)
  (k39:keepIn K (.ref f39)=true)
  (a40:nsIn K mainGlobals "read_shapes" = some (some (.ref f40)))
  (l40:K.lookup f40=some ⟨oc40,od40,.func (fnOf "read_shapes" "read_shapes" (defArgs s_read_shapes) (defBody s_read_shapes) (defScope s_read_shapes) .none kV40 dc40 pm40 an40 cd40 ct40),sl40⟩)
  (c40:codeIn K cd40 "read_shapes" = true)
  (k40:keepIn K (.ref f40)=true)
  (a41:nsIn K mainGlobals "is_shape_line" = some (some (.ref f41)))
  (l41:K.lookup f41=some ⟨oc41,od41,.func (fnOf "is_shape_line" "is_shape_line" (defArgs s_is_shape_line) (defBody s_is_shape_line) (defScope s_is_shape_line) .none kV41 dc41 pm41 an41 cd41 ct41),sl41⟩)
  (c41:codeIn K cd41 "is_shape_line" = true)
  (k41:keepIn K (.ref f41)=true)
  (a42:nsIn K mainGlobals "is_field_line" = some (some (.ref f42)))
  (l42:K.lookup f42=some ⟨oc42,od42,.func (fnOf "is_field_line" "is_field_line" (defArgs s_is_field_line) (defBody s_is_field_line) (defScope s_is_field_line) .none kV42 dc42 pm42 an42 cd42 ct42),sl42⟩)
  (c42:codeIn K cd42 "is_field_line" = true)
  (k42:keepIn K (.ref f42)=true)
  (a43:nsIn K mainGlobals "is_kind" = some (some (.ref f43)))
  (l43:K.lookup f43=some ⟨oc43,od43,.func (fnOf "is_kind" "is_kind" (defArgs s_is_kind) (defBody s_is_kind) (defScope s_is_kind) .none kV43 dc43 pm43 an43 cd43 ct43),sl43⟩)
  (c43:codeIn K cd43 "is_kind" = true)
  (k43:keepIn K (.ref f43)=true)
  (a44:nsIn K mainGlobals "is_single" = some (some (.ref f44)))
  (l44:K.lookup f44=some ⟨oc44,od44,.func (fnOf "is_single" "is_single" (defArgs s_is_single) (defBody s_is_single) (defScope s_is_single) .none kV44 dc44 pm44 an44 cd44 ct44),sl44⟩)
  (c44:codeIn K cd44 "is_single" = true)
  (k44:keepIn K (.ref f44)=true)
  (a45:nsIn K mainGlobals "need_new_shape" = some (some (.ref f45)))
  (l45:K.lookup f45=some ⟨oc45,od45,.func (fnOf "need_new_shape" "need_new_shape" (defArgs s_need_new_shape) (defBody s_need_new_shape) (defScope s_need_new_shape) .none kV45 dc45 pm45 an45 cd45 ct45),sl45⟩)
  (c45:codeIn K cd45 "need_new_shape" = true)
  (k45:keepIn K (.ref f45)=true)
  (a46:nsIn K mainGlobals "need_field" = some (some (.ref f46)))
  (l46:K.lookup f46=some ⟨oc46,od46,.func (fnOf "need_field" "need_field" (defArgs s_need_field) (defBody s_need_field) (defScope s_need_field) .none kV46 dc46 pm46 an46 cd46 ct46),sl46⟩)
  (c46:codeIn K cd46 "need_field" = true)
  (k46:keepIn K (.ref f46)=true)
  (a47:nsIn K mainGlobals "shapes_named" = some (some (.ref f47)))
  (l47:K.lookup f47=some ⟨oc47,od47,.func (fnOf "shapes_named" "shapes_named" (defArgs s_shapes_named) (defBody s_shapes_named) (defScope s_shapes_named) .none kV47 dc47 pm47 an47 cd47 ct47),sl47⟩)
  (c47:codeIn K cd47 "shapes_named" = true)
  (k47:keepIn K (.ref f47)=true)
  (a48:nsIn K mainGlobals "whole_shapes" = some (some (.ref f48)))
  (l48:K.lookup f48=some ⟨oc48,od48,.func (fnOf "whole_shapes" "whole_shapes" (defArgs s_whole_shapes) (defBody s_whole_shapes) (defScope s_whole_shapes) .none kV48 dc48 pm48 an48 cd48 ct48),sl48⟩)
  (c48:codeIn K cd48 "whole_shapes" = true)
  (k48:keepIn K (.ref f48)=true)
  (a49:nsIn K mainGlobals "with_field" = some (some (.ref f49)))
  (l49:K.lookup f49=some ⟨oc49,od49,.func (fnOf "with_field" "with_field" (defArgs s_with_field) (defBody s_with_field) (defScope s_with_field) .none kV49 dc49 pm49 an49 cd49 ct49),sl49⟩)
  (c49:codeIn K cd49 "with_field" = true)
  (k49:keepIn K (.ref f49)=true)
  (a50:nsIn K mainGlobals "kind_in" = some (some (.ref f50)))
  (l50:K.lookup f50=some ⟨oc50,od50,.func (fnOf "kind_in" "kind_in" (defArgs s_kind_in) (defBody s_kind_in) (defScope s_kind_in) .none kV50 dc50 pm50 an50 cd50 ct50),sl50⟩)
  (c50:codeIn K cd50 "kind_in" = true)
  (k50:keepIn K (.ref f50)=true)
  (a51:nsIn K mainGlobals "is_too_much" = some (some (.ref f51)))
  (l51:K.lookup f51=some ⟨oc51,od51,.func (fnOf "is_too_much" "is_too_much" (defArgs s_is_too_much) (defBody s_is_too_much) (defScope s_is_too_much) .none kV51 dc51 pm51 an51 cd51 ct51),sl51⟩)
  (c51:codeIn K cd51 "is_too_much" = true)
  (k51:keepIn K (.ref f51)=true)
  (a52:nsIn K mainGlobals "_law_cell" = some (some (.ref f52)))
  (l52:K.lookup f52=some ⟨oc52,od52,.func (fnOf "_law_cell" "_law_cell" (defArgs s_law_cell) (defBody s_law_cell) (defScope s_law_cell) .none kV52 dc52 pm52 an52 cd52 ct52),sl52⟩)
  (c52:codeIn K cd52 "_law_cell" = true)
  (k52:keepIn K (.ref f52)=true)
  (a53:nsIn K mainGlobals "_law_box" = some (some (.ref f53)))
  (l53:K.lookup f53=some ⟨oc53,od53,.func (fnOf "_law_box" "_law_box" (defArgs s_law_box) (defBody s_law_box) (defScope s_law_box) .none kV53 dc53 pm53 an53 cd53 ct53),sl53⟩)
  (c53:codeIn K cd53 "_law_box" = true)
  (k53:keepIn K (.ref f53)=true)
  (a54:nsIn K mainGlobals "_law_take" = some (some (.ref f54)))
  (l54:K.lookup f54=some ⟨oc54,od54,.func (fnOf "_law_take" "_law_take" (defArgs s_law_take) (defBody s_law_take) (defScope s_law_take) .none kV54 dc54 pm54 an54 cd54 ct54),sl54⟩)
  (c54:codeIn K cd54 "_law_take" = true)
  (k54:keepIn K (.ref f54)=true)
  (a55:nsIn K mainGlobals "_law_names" = some (some (.ref f55)))
  (l55:K.lookup f55=some ⟨oc55,od55,.func (fnOf "_law_names" "_law_names" (defArgs s_law_names) (defBody s_law_names) (defScope s_law_names) .none kV55 dc55 pm55 an55 cd55 ct55),sl55⟩)
  (c55:codeIn K cd55 "_law_names" = true)
  (k55:keepIn K (.ref f55)=true)
  (a56:nsIn K mainGlobals "_law_size" = some (some (.ref f56)))
  (l56:K.lookup f56=some ⟨oc56,od56,.func (fnOf "_law_size" "_law_size" (defArgs s_law_size) (defBody s_law_size) (defScope s_law_size) .none kV56 dc56 pm56 an56 cd56 ct56),sl56⟩)
  (c56:codeIn K cd56 "_law_size" = true)
  (k56:keepIn K (.ref f56)=true)
  (a57:nsIn K mainGlobals "_law_units" = some (some (.ref f57)))
  (l57:K.lookup f57=some ⟨oc57,od57,.func (fnOf "_law_units" "_law_units" (defArgs s_law_units) (defBody s_law_units) (defScope s_law_units) .none kV57 dc57 pm57 an57 cd57 ct57),sl57⟩)
  (c57:codeIn K cd57 "_law_units" = true)
  (k57:keepIn K (.ref f57)=true)
  (a58:nsIn K mainGlobals "_law_joined" = some (some (.ref f58)))
  (l58:K.lookup f58=some ⟨oc58,od58,.func (fnOf "_law_joined" "_law_joined" (defArgs s_law_joined) (defBody s_law_joined) (defScope s_law_joined) .none kV58 dc58 pm58 an58 cd58 ct58),sl58⟩)
  (c58:codeIn K cd58 "_law_joined" = true)
  (k58:keepIn K (.ref f58)=true)
  (a59:nsIn K mainGlobals "_law_depth" = some (some (.ref f59)))
  (l59:K.lookup f59=some ⟨oc59,od59,.func (fnOf "_law_depth" "_law_depth" (defArgs s_law_depth) (defBody s_law_depth) (defScope s_law_depth) .none kV59 dc59 pm59 an59 cd59 ct59),sl59⟩)
  (c59:codeIn K cd59 "_law_depth" = true)
  (k59:keepIn K (.ref f59)=true)
  (a60:nsIn K mainGlobals "_law_kind" = some (some (.ref f60)))
  (l60:K.lookup f60=some ⟨oc60,od60,.func (fnOf "_law_kind" "_law_kind" (defArgs s_law_kind) (defBody s_law_kind) (defScope s_law_kind) .none kV60 dc60 pm60 an60 cd60 ct60),sl60⟩)
  (c60:codeIn K cd60 "_law_kind" = true)
  (k60:keepIn K (.ref f60)=true)
  (a61:nsIn K mainGlobals "_law_fits" = some (some (.ref f61)))
  (l61:K.lookup f61=some ⟨oc61,od61,.func (fnOf "_law_fits" "_law_fits" (defArgs s_law_fits) (defBody s_law_fits) (defScope s_law_fits) .none kV61 dc61 pm61 an61 cd61 ct61),sl61⟩)
  (c61:codeIn K cd61 "_law_fits" = true)
  (k61:keepIn K (.ref f61)=true)
  (a62:nsIn K mainGlobals "_law_shapes" = some (some (.ref f62)))
  (l62:K.lookup f62=some ⟨oc62,od62,.func (fnOf "_law_shapes" "_law_shapes" (defArgs s_law_shapes) (defBody s_law_shapes) (defScope s_law_shapes) .none kV62 dc62 pm62 an62 cd62 ct62),sl62⟩)
  (c62:codeIn K cd62 "_law_shapes" = true)
  (k62:keepIn K (.ref f62)=true)
  (a63:nsIn K mainGlobals "_law_kind_text" = some (some (.ref f63)))
  (l63:K.lookup f63=some ⟨oc63,od63,.func (fnOf "_law_kind_text" "_law_kind_text" (defArgs s_law_kind_text) (defBody s_law_kind_text) (defScope s_law_kind_text) .none kV63 dc63 pm63 an63 cd63 ct63),sl63⟩)
  (c63:codeIn K cd63 "_law_kind_text" = true)
  (k63:keepIn K (.ref f63)=true)
  (a64:nsIn K mainGlobals "_law_text" = some (some (.ref f64)))
  (l64:K.lookup f64=some ⟨oc64,od64,.func (fnOf "_law_text" "_law_text" (defArgs s_law_text) (defBody s_law_text) (defScope s_law_text) .none kV64 dc64 pm64 an64 cd64 ct64),sl64⟩)
  (c64:codeIn K cd64 "_law_text" = true)
  (k64:keepIn K (.ref f64)=true)
  (a65:nsIn K mainGlobals "_law_whole" = some (some (.ref f65)))
  (l65:K.lookup f65=some ⟨oc65,od65,.func (fnOf "_law_whole" "_law_whole" (defArgs s_law_whole) (defBody s_law_whole) (defScope s_law_whole) .none kV65 dc65 pm65 an65 cd65 ct65),sl65⟩)
  (c65:codeIn K cd65 "_law_whole" = true)
  (k65:keepIn K (.ref f65)=true)
  (a66:nsIn K mainGlobals "_law_number" = some (some (.ref f66)))
  (l66:K.lookup f66=some ⟨oc66,od66,.func (fnOf "_law_number" "_law_number" (defArgs s_law_number) (defBody s_law_number) (defScope s_law_number) .none kV66 dc66 pm66 an66 cd66 ct66),sl66⟩)
  (c66:codeIn K cd66 "_law_number" = true)
  (k66:keepIn K (.ref f66)=true)
  (a67:nsIn K mainGlobals "_law_kind_right" = some (some (.ref f67)))
  (l67:K.lookup f67=some ⟨oc67,od67,.func (fnOf "_law_kind_right" "_law_kind_right" (defArgs s_law_kind_right) (defBody s_law_kind_right) (defScope s_law_kind_right) .none kV67 dc67 pm67 an67 cd67 ct67),sl67⟩)
  (c67:codeIn K cd67 "_law_kind_right" = true)
  (k67:keepIn K (.ref f67)=true)
  (a68:nsIn K mainGlobals "_law_shape_right" = some (some (.ref f68)))
  (l68:K.lookup f68=some ⟨oc68,od68,.func (fnOf "_law_shape_right" "_law_shape_right" (defArgs s_law_shape_right) (defBody s_law_shape_right) (defScope s_law_shape_right) .none kV68 dc68 pm68 an68 cd68 ct68),sl68⟩)
  (c68:codeIn K cd68 "_law_shape_right" = true)
  (k68:keepIn K (.ref f68)=true)
  (a69:nsIn K mainGlobals "_law_no_shape" = some (some (.ref f69)))
  (l69:K.lookup f69=some ⟨oc69,od69,.func (fnOf "_law_no_shape" "_law_no_shape" (defArgs s_law_no_shape) (defBody s_law_no_shape) (defScope s_law_no_shape) .none kV69 dc69 pm69 an69 cd69 ct69),sl69⟩)
  (c69:codeIn K cd69 "_law_no_shape" = true)
  (k69:keepIn K (.ref f69)=true)
  (a70:nsIn K mainGlobals "_law_right" = some (some (.ref f70)))
  (l70:K.lookup f70=some ⟨oc70,od70,.func (fnOf "_law_right" "_law_right" (defArgs s_law_right) (defBody s_law_right) (defScope s_law_right) .none kV70 dc70 pm70 an70 cd70 ct70),sl70⟩)
  (c70:codeIn K cd70 "_law_right" = true)
  (k70:keepIn K (.ref f70)=true)
  (a71:nsIn K mainGlobals "_law_kind_made" = some (some (.ref f71)))
  (l71:K.lookup f71=some ⟨oc71,od71,.func (fnOf "_law_kind_made" "_law_kind_made" (defArgs s_law_kind_made) (defBody s_law_kind_made) (defScope s_law_kind_made) .none kV71 dc71 pm71 an71 cd71 ct71),sl71⟩)
  (c71:codeIn K cd71 "_law_kind_made" = true)
  (k71:keepIn K (.ref f71)=true)
  (a72:nsIn K mainGlobals "_law_by_hand" = some (some (.ref f72)))
  (l72:K.lookup f72=some ⟨oc72,od72,.func (fnOf "_law_by_hand" "_law_by_hand" (defArgs s_law_by_hand) (defBody s_law_by_hand) (defScope s_law_by_hand) .none kV72 dc72 pm72 an72 cd72 ct72),sl72⟩)
  (c72:codeIn K cd72 "_law_by_hand" = true)
  (k72:keepIn K (.ref f72)=true)
  (a73:nsIn K mainGlobals "law" = some (some (.ref f73)))
  (l73:K.lookup f73=some ⟨oc73,od73,.func (fnOf "law" "law" (defArgs s_law) (defBody s_law) (defScope s_law) .none kV73 dc73 pm73 an73 cd73 ct73),sl73⟩)
  (c73:codeIn K cd73 "law" = true)
  (k73:keepIn K (.ref f73)=true)
  (pg_Num:PySem.W.plainGet K Va Str.empty=true)
  (hd_Num:PySem.W.hasDictIn K Va=true)
  (po_Num:PySem.W.plainOver K Va=true)
  (sa_Num:findIn K (.ref Va) "__setattr__" = some (some (.builtin "object.__setattr__")))
  (mk_Num:PySem.W.makesIn K Va=true)
  (kc_Num:keepIn K (.ref Va)=true)
  (n_Num_width:findIn K (.ref Va) "width" = some none)
  (pg_Nested:PySem.W.plainGet K Vb Str.empty=true)
  (hd_Nested:PySem.W.hasDictIn K Vb=true)
  (po_Nested:PySem.W.plainOver K Vb=true)
  (sa_Nested:findIn K (.ref Vb) "__setattr__" = some (some (.builtin "object.__setattr__")))
  (mk_Nested:PySem.W.makesIn K Vb=true)
  (kc_Nested:keepIn K (.ref Vb)=true)
  (n_Nested_shape:findIn K (.ref Vb) "shape" = some none)
  (pg_Many:PySem.W.plainGet K Vc Str.empty=true)
  (hd_Many:PySem.W.hasDictIn K Vc=true)
  (po_Many:PySem.W.plainOver K Vc=true)
  (sa_Many:findIn K (.ref Vc) "__setattr__" = some (some (.builtin "object.__setattr__")))
  (mk_Many:PySem.W.makesIn K Vc=true)
  (kc_Many:keepIn K (.ref Vc)=true)
  (n_Many_count:findIn K (.ref Vc) "count" = some none)
  (n_Many_kind:findIn K (.ref Vc) "kind" = some none)
  (pg_Pick:PySem.W.plainGet K Vd Str.empty=true)
  (hd_Pick:PySem.W.hasDictIn K Vd=true)
  (po_Pick:PySem.W.plainOver K Vd=true)
  (sa_Pick:findIn K (.ref Vd) "__setattr__" = some (some (.builtin "object.__setattr__")))
  (mk_Pick:PySem.W.makesIn K Vd=true)
  (kc_Pick:keepIn K (.ref Vd)=true)
  (n_Pick_shapes:findIn K (.ref Vd) "shapes" = some none)
  (pg_Shape:PySem.W.plainGet K Ve Str.empty=true)
  (hd_Shape:PySem.W.hasDictIn K Ve=true)
  (po_Shape:PySem.W.plainOver K Ve=true)
  (sa_Shape:findIn K (.ref Ve) "__setattr__" = some (some (.builtin "object.__setattr__")))
  (mk_Shape:PySem.W.makesIn K Ve=true)
  (kc_Shape:keepIn K (.ref Ve)=true)
  (n_Shape_name:findIn K (.ref Ve) "name" = some none)
  (n_Shape_fields:findIn K (.ref Ve) "fields" = some none)
  (pg_Shapes:PySem.W.plainGet K Vf Str.empty=true)
  (hd_Shapes:PySem.W.hasDictIn K Vf=true)
  (po_Shapes:PySem.W.plainOver K Vf=true)
  (sa_Shapes:findIn K (.ref Vf) "__setattr__" = some (some (.builtin "object.__setattr__")))
  (mk_Shapes:PySem.W.makesIn K Vf=true)
  (kc_Shapes:keepIn K (.ref Vf)=true)
  (n_Shapes_shapes:findIn K (.ref Vf) "shapes" = some none)
  (xo_RoomError:K.lookup cRE=some (xcls xn0 xq0 cRE xN0 xb0 VB true xl0 xs0 xa0 xc0 xd0 x00 x10 x20 x30 x50))
  (xk_RoomError:keepIn K (.ref cRE)=true)
  (xr:PySem.W.readsIn K cRE (.type "type")=true)
  (xf:PySem.W.findCls K (.ref cRE) (.type "type") "__init__" = some (.val (.ref f0)))
  (xp:PySem.W.specialIn K (.ref cRE) "__getattribute__" = some (some (.builtin "type.__getattribute__")))
  (xo_NoPath:K.lookup cNP=some (xcls xn1 xq1 cNP xN1 xb1 (.ref cRE::VB) true xl1 xs1 xa1 xc1 xd1 x01 x11 x21 x31 x51))
  (xk_NoPath:keepIn K (.ref cNP)=true)
  (xn_NoPath:PySem.W.nsOkIn K xN1=true)
  (xi_NoPath:nsIn K xN1 "__init__" = some (some (.ref f1)))
  (xs_NoPath:findIn K (.ref cNP) "__setattr__" = some (some (.builtin "object.__setattr__")))
  (xg_NoPath:findIn K (.ref cNP) "__getattribute__" = some (some (.builtin "BaseException.__getattribute__")))
  (xh_NoPath:findIn K (.ref cNP) "__getattr__" = some none)
  (n_NoPath_path:findIn K (.ref cNP) "path" = some none)
  (vi1:findIn K (.type "type") "__getattribute__" = some (some (.builtin "type.__getattribute__")))
  (vi2:PySem.W.subIn K (.type "type") (.type "type")=some true)
  (vi3:PySem.W.findCls K (.type "ValueError") (.type "type") "__init__" = some (.val (.builtin "ValueError.__init__")))
  (z0:nsIn K mainGlobals "range" = some none)
  (z1:nsIn K mainGlobals "len" = some none)
  (z2:nsIn K mainGlobals "isinstance" = some none)
  (z3:nsIn K mainGlobals "int" = some none)
  (z4:nsIn K mainGlobals "bool" = some none)
  (z5:nsIn K mainGlobals "list" = some none)
  (z6:nsIn K mainGlobals "all" = some none)
  (z7:nsIn K mainGlobals "max" = some none)
  (z8:nsIn K mainGlobals "min" = some none)
  (z9:nsIn K mainGlobals "reversed" = some none)
  (z10:nsIn K mainGlobals "tuple" = some none)
  (z11:nsIn K mainGlobals "divmod" = some none)
  (z12:nsIn K mainGlobals "str" = some none)
  (z13:nsIn K mainGlobals "sum" = some none)
  (z14:nsIn K mainGlobals "zip" = some none)
  (z15:nsIn K mainGlobals "enumerate" = some none)
  (z16:nsIn K mainGlobals "ValueError" = some none)
  (z17:nsIn K mainGlobals "repr" = some none)
  (v1:nsIn K mainGlobals "SMALL_LETTERS" = some (some (.str "abcdefghijklmnopqrstuvwxyz" t1))) (v2:nsIn K mainGlobals "FIGURES" = some (some (.str "0123456789" t2))) (v3:nsIn K mainGlobals "MOST_LETTERS" = some (some (.int 6 t3))) (v4:nsIn K mainGlobals "MOST_FIGURES" = some (some (.int 10 t4))) (v5:nsIn K mainGlobals "MOST_SHAPES" = some (some (.int 8 t5))) (v6:nsIn K mainGlobals "MOST_FIELDS" = some (some (.int 6 t6))) (v7:nsIn K mainGlobals "MOST_CELLS" = some (some (.int 64 t7))) (v8:nsIn K mainGlobals "MOST_UNITS" = some (some (.int 40 t8))) (v9:nsIn K mainGlobals "MOST_DEPTH" = some (some (.int 4 t9))) (v10:nsIn K mainGlobals "MOST_WIDTH" = some (some (.int 4 t10))) (v11:nsIn K mainGlobals "MOST_COUNT" = some (some (.int 6 t11))) (v12:nsIn K mainGlobals "LEAST_PICKED" = some (some (.int 2 t12))) (v13:nsIn K mainGlobals "MOST_PICKED" = some (some (.int 4 t13)))
  (w1:nsIn K mainGlobals "OWN_WORDS" = some (some (.ref ts))) (w2:K.lookup ts=some ⟨.type "tuple",odt,.seq #[.str "shape" u0,.str "num" u1,.str "row" u2,.str "pick" u3,.str "tag" u4,.str "room" u5,.str "things" u6,.str "part" u7,.str "tags" u8,.str "put" u9,.str "take" u10,.str "many" u11,.str "look" u12,.str "which" u13,.str "store" u14,.str "choose" u15,.str "copy" u16,.str "each" u17,.str "span" u18,.str "if" u19,.str "else" u20,.str "end" u21,.str "out" u22] nt,slt⟩)
  (w3:findIn K (.ref Vc) "units_at" = some (some (.ref f6)))
  {C_Kd:Addr} (q0:nsIn K mainGlobals "Kind" = some (some (.ref C_Kd))) (q1:PySem.W.specialIn K (.builtin "object.__class__") "__get__" = some (some (.builtin "getset_descriptor.__get__"))) (q2:PySem.W.takesIn K (.builtin "object.__class__")=some true)
  (qa0:findIn K (.ref Va) "__class__" = some (some (.builtin "object.__class__"))) (qb0:PySem.W.mroIn K Va (.type "object")=some true) (qc0:PySem.W.kitOne K (.ref Va) (.ref C_Kd)=some true)
  (qa1:findIn K (.ref Vb) "__class__" = some (some (.builtin "object.__class__"))) (qb1:PySem.W.mroIn K Vb (.type "object")=some true) (qc1:PySem.W.kitOne K (.ref Vb) (.ref C_Kd)=some true)
  (qa2:findIn K (.ref Vc) "__class__" = some (some (.builtin "object.__class__"))) (qb2:PySem.W.mroIn K Vc (.type "object")=some true) (qc2:PySem.W.kitOne K (.ref Vc) (.ref C_Kd)=some true)
  (qa3:findIn K (.ref Vd) "__class__" = some (some (.builtin "object.__class__"))) (qb3:PySem.W.mroIn K Vd (.type "object")=some true) (qc3:PySem.W.kitOne K (.ref Vd) (.ref C_Kd)=some true)
  (qa4:findIn K (.ref Ve) "__class__" = some (some (.builtin "object.__class__"))) (qb4:PySem.W.mroIn K Ve (.type "object")=some true) (qc4:PySem.W.kitOne K (.ref Ve) (.ref Ve)=some true)
  (qa5:findIn K (.ref Vf) "__class__" = some (some (.builtin "object.__class__"))) (qb5:PySem.W.mroIn K Vf (.type "object")=some true) (qc5:PySem.W.kitOne K (.ref Vf) (.ref Vf)=some true) (qd00:PySem.W.kitOne K (.ref Va) (.ref Va)=some true) (qd01:PySem.W.kitOne K (.ref Va) (.ref Vb)=some false) (qd02:PySem.W.kitOne K (.ref Va) (.ref Vc)=some false) (qd03:PySem.W.kitOne K (.ref Va) (.ref Vd)=some false) (qd10:PySem.W.kitOne K (.ref Vb) (.ref Va)=some false) (qd11:PySem.W.kitOne K (.ref Vb) (.ref Vb)=some true) (qd12:PySem.W.kitOne K (.ref Vb) (.ref Vc)=some false) (qd13:PySem.W.kitOne K (.ref Vb) (.ref Vd)=some false) (qd20:PySem.W.kitOne K (.ref Vc) (.ref Va)=some false) (qd21:PySem.W.kitOne K (.ref Vc) (.ref Vb)=some false) (qd22:PySem.W.kitOne K (.ref Vc) (.ref Vc)=some true) (qd23:PySem.W.kitOne K (.ref Vc) (.ref Vd)=some false) (qd30:PySem.W.kitOne K (.ref Vd) (.ref Va)=some false) (qd31:PySem.W.kitOne K (.ref Vd) (.ref Vb)=some false) (qd32:PySem.W.kitOne K (.ref Vd) (.ref Vc)=some false) (qd33:PySem.W.kitOne K (.ref Vd) (.ref Vd)=some true) :
  ∃ fd:FuncData,(∀ (s:Shared) (v:Value),BindsTo s fd ⟨[v],[]⟩ [("_law_script",v)])/\∀ base:Heap,K.In base->base.Ns mainGlobals mg->FnOk l.prog w K mg base CX0 86 fa fd ["_law_script"] (spLaw K):=by
 have e:=hfa.symm.trans (mg_of X G a73)
 cases e
 have F0:=fun_mk (st:=s_RoomError_init) l0 c0 k0
 have D0:DfI K _ ["self","words"]:=⟨F0.binds (by walk_at "b2")⟩
 have F1:=fun_mk (st:=s_NoPath_init) l1 c1 k1
 have D1:DfI K _ ["self","path"]:=⟨F1.binds (by walk_at "b2")⟩
 have F2:=fun_mk (st:=s_is_name) l2 c2 k2
 have D2:Df K mg "is_name" f2 _ ["thing"]:=⟨mg_of X G a2,k2,F2.binds (by walk_at "b1")⟩
 have F3:=fun_mk (st:=s_is_text_of) l3 c3 k3
 have D3:Df K mg "is_text_of" f3 _ ["thing","signs","most"]:=⟨mg_of X G a3,k3,F3.binds (by walk_at "b3")⟩
 have F4:=fun_mk (st:=s_number_in) l4 c4 k4
 have D4:Df K mg "number_in" f4 _ ["text","low","high"]:=⟨mg_of X G a4,k4,F4.binds (by walk_at "b3")⟩
 have F5:=fun_mk (st:=s_joined) l5 c5 k5
 have D5:Df K mg "joined" f5 _ ["path","step"]:=⟨mg_of X G a5,k5,F5.binds (by walk_at "b2")⟩
 have F6:=fun_mk (st:=s_Kind_units_at) l6 c6 k6
 have D6:DfM K Vb "units_at" f6 _ ["self","path"]:=⟨⟨a6,i6,k6⟩,F6.binds (by walk_at "b2")⟩
 have F7:=fun_mk (st:=s_Num_init) l7 c7 k7
 have D7:DfI K _ ["self","width"]:=⟨F7.binds (by walk_at "b2")⟩
 have F8:=fun_mk (st:=s_Num_word) l8 c8 k8
 have D8:DfM K Va "word" f8 _ ["self"]:=⟨⟨a8,i8,k8⟩,F8.binds (by walk_at "b1")⟩
 have F9:=fun_mk (st:=s_Num_text) l9 c9 k9
 have D9:DfM K Va "text" f9 _ ["self"]:=⟨⟨a9,i9,k9⟩,F9.binds (by walk_at "b1")⟩
 have F10:=fun_mk (st:=s_Num_size) l10 c10 k10
 have D10:DfM K Va "size" f10 _ ["self"]:=⟨⟨a10,i10,k10⟩,F10.binds (by walk_at "b1")⟩
 have F11:=fun_mk (st:=s_Num_depth) l11 c11 k11
 have D11:DfM K Va "depth" f11 _ ["self"]:=⟨⟨a11,i11,k11⟩,F11.binds (by walk_at "b1")⟩
 have F12:=fun_mk (st:=s_Num_units_at) l12 c12 k12
 have D12:DfM K Va "units_at" f12 _ ["self","path"]:=⟨⟨a12,i12,k12⟩,F12.binds (by walk_at "b2")⟩
 have F13:=fun_mk (st:=s_Nested_init) l13 c13 k13
 have D13:DfI K _ ["self","shape"]:=⟨F13.binds (by walk_at "b2")⟩
 have F14:=fun_mk (st:=s_Nested_word) l14 c14 k14
 have D14:DfM K Vb "word" f14 _ ["self"]:=⟨⟨a14,i14,k14⟩,F14.binds (by walk_at "b1")⟩
 have F15:=fun_mk (st:=s_Nested_text) l15 c15 k15
 have D15:DfM K Vb "text" f15 _ ["self"]:=⟨⟨a15,i15,k15⟩,F15.binds (by walk_at "b1")⟩
 have F16:=fun_mk (st:=s_Nested_size) l16 c16 k16
 have D16:DfM K Vb "size" f16 _ ["self"]:=⟨⟨a16,i16,k16⟩,F16.binds (by walk_at "b1")⟩
 have F17:=fun_mk (st:=s_Nested_depth) l17 c17 k17
 have D17:DfM K Vb "depth" f17 _ ["self"]:=⟨⟨a17,i17,k17⟩,F17.binds (by walk_at "b1")⟩
 have F18:=fun_mk (st:=s_Nested_parted) l18 c18 k18
 have D18:DfM K Vb "parted" f18 _ ["self"]:=⟨⟨a18,i18,k18⟩,F18.binds (by walk_at "b1")⟩
 have F19:=fun_mk (st:=s_Many_init) l19 c19 k19
 have D19:DfI K _ ["self","count","kind"]:=⟨F19.binds (by walk_at "b3")⟩
 have F20:=fun_mk (st:=s_Many_word) l20 c20 k20
 have D20:DfM K Vc "word" f20 _ ["self"]:=⟨⟨a20,i20,k20⟩,F20.binds (by walk_at "b1")⟩
 have F21:=fun_mk (st:=s_Many_text) l21 c21 k21
 have D21:DfM K Vc "text" f21 _ ["self"]:=⟨⟨a21,i21,k21⟩,F21.binds (by walk_at "b1")⟩
 have F22:=fun_mk (st:=s_Many_size) l22 c22 k22
 have D22:DfM K Vc "size" f22 _ ["self"]:=⟨⟨a22,i22,k22⟩,F22.binds (by walk_at "b1")⟩
 have F23:=fun_mk (st:=s_Many_depth) l23 c23 k23
 have D23:DfM K Vc "depth" f23 _ ["self"]:=⟨⟨a23,i23,k23⟩,F23.binds (by walk_at "b1")⟩
 have F24:=fun_mk (st:=s_Many_parted) l24 c24 k24
 have D24:DfM K Vc "parted" f24 _ ["self"]:=⟨⟨a24,i24,k24⟩,F24.binds (by walk_at "b1")⟩
 have F25:=fun_mk (st:=s_Pick_init) l25 c25 k25
 have D25:DfI K _ ["self","shapes"]:=⟨F25.binds (by walk_at "b2")⟩
 have F26:=fun_mk (st:=s_Pick_word) l26 c26 k26
 have D26:DfM K Vd "word" f26 _ ["self"]:=⟨⟨a26,i26,k26⟩,F26.binds (by walk_at "b1")⟩
 have F27:=fun_mk (st:=s_Pick_text) l27 c27 k27
 have D27:DfM K Vd "text" f27 _ ["self"]:=⟨⟨a27,i27,k27⟩,F27.binds (by walk_at "b1")⟩
 have F28:=fun_mk (st:=s_Pick_size) l28 c28 k28
 have D28:DfM K Vd "size" f28 _ ["self"]:=⟨⟨a28,i28,k28⟩,F28.binds (by walk_at "b1")⟩
 have F29:=fun_mk (st:=s_Pick_greatest) l29 c29 k29
 have D29:DfM K Vd "greatest" f29 _ ["self"]:=⟨⟨a29,i29,k29⟩,F29.binds (by walk_at "b1")⟩
 have F30:=fun_mk (st:=s_Pick_depth) l30 c30 k30
 have D30:DfM K Vd "depth" f30 _ ["self"]:=⟨⟨a30,i30,k30⟩,F30.binds (by walk_at "b1")⟩
 have F31:=fun_mk (st:=s_Pick_units_at) l31 c31 k31
 have D31:DfM K Vd "units_at" f31 _ ["self","path"]:=⟨⟨a31,i31,k31⟩,F31.binds (by walk_at "b2")⟩
 have F32:=fun_mk (st:=s_Shape_init) l32 c32 k32
 have D32:DfI K _ ["self","name","fields"]:=⟨F32.binds (by walk_at "b3")⟩
 have F33:=fun_mk (st:=s_Shape_size) l33 c33 k33
 have D33:DfM K Ve "size" f33 _ ["self"]:=⟨⟨a33,i33,k33⟩,F33.binds (by walk_at "b1")⟩
 have F34:=fun_mk (st:=s_Shape_depth) l34 c34 k34
 have D34:DfM K Ve "depth" f34 _ ["self"]:=⟨⟨a34,i34,k34⟩,F34.binds (by walk_at "b1")⟩
 have F35:=fun_mk (st:=s_Shape_units) l35 c35 k35
 have D35:DfM K Ve "units" f35 _ ["self"]:=⟨⟨a35,i35,k35⟩,F35.binds (by walk_at "b1")⟩
 have F36:=fun_mk (st:=s_Shapes_init) l36 c36 k36
 have D36:DfI K _ ["self","shapes"]:=⟨F36.binds (by walk_at "b2")⟩
 have F37:=fun_mk (st:=s_Shapes_shape_of) l37 c37 k37
 have D37:DfM K Vf "shape_of" f37 _ ["self","name"]:=⟨⟨a37,i37,k37⟩,F37.binds (by walk_at "b2")⟩
 have F38:=fun_mk (st:=s_Shapes_main) l38 c38 k38
 have D38:DfM K Vf "main" f38 _ ["self"]:=⟨⟨a38,i38,k38⟩,F38.binds (by walk_at "b1")⟩
 have F39:=fun_mk (st:=s_Shapes_text) l39 c39 k39
 have D39:DfM K Vf "text" f39 _ ["self"]:=⟨⟨a39,i39,k39⟩,F39.binds (by walk_at "b1")⟩
 have F40:=fun_mk (st:=s_read_shapes) l40 c40 k40
 have D40:Df K mg "read_shapes" f40 _ ["text"]:=⟨mg_of X G a40,k40,F40.binds (by walk_at "b1")⟩
 have F41:=fun_mk (st:=s_is_shape_line) l41 c41 k41
 have D41:Df K mg "is_shape_line" f41 _ ["words"]:=⟨mg_of X G a41,k41,F41.binds (by walk_at "b1")⟩
 have F42:=fun_mk (st:=s_is_field_line) l42 c42 k42
 have D42:Df K mg "is_field_line" f42 _ ["words"]:=⟨mg_of X G a42,k42,F42.binds (by walk_at "b1")⟩
 have F43:=fun_mk (st:=s_is_kind) l43 c43 k43
 have D43:Df K mg "is_kind" f43 _ ["words"]:=⟨mg_of X G a43,k43,F43.binds (by walk_at "b1")⟩
 have F44:=fun_mk (st:=s_is_single) l44 c44 k44
 have D44:Df K mg "is_single" f44 _ ["words"]:=⟨mg_of X G a44,k44,F44.binds (by walk_at "b1")⟩
 have F45:=fun_mk (st:=s_need_new_shape) l45 c45 k45
 have D45:Df K mg "need_new_shape" f45 _ ["told","line","name"]:=⟨mg_of X G a45,k45,F45.binds (by walk_at "b3")⟩
 have F46:=fun_mk (st:=s_need_field) l46 c46 k46
 have D46:Df K mg "need_field" f46 _ ["told","line","words"]:=⟨mg_of X G a46,k46,F46.binds (by walk_at "b3")⟩
 have F47:=fun_mk (st:=s_shapes_named) l47 c47 k47
 have D47:Df K mg "shapes_named" f47 _ ["words"]:=⟨mg_of X G a47,k47,F47.binds (by walk_at "b1")⟩
 have F48:=fun_mk (st:=s_whole_shapes) l48 c48 k48
 have D48:Df K mg "whole_shapes" f48 _ ["told"]:=⟨mg_of X G a48,k48,F48.binds (by walk_at "b1")⟩
 have F49:=fun_mk (st:=s_with_field) l49 c49 k49
 have D49:Df K mg "with_field" f49 _ ["told","line","words"]:=⟨mg_of X G a49,k49,F49.binds (by walk_at "b3")⟩
 have F50:=fun_mk (st:=s_kind_in) l50 c50 k50
 have D50:Df K mg "kind_in" f50 _ ["words","shapes"]:=⟨mg_of X G a50,k50,F50.binds (by walk_at "b2")⟩
 have F51:=fun_mk (st:=s_is_too_much) l51 c51 k51
 have D51:Df K mg "is_too_much" f51 _ ["shape"]:=⟨mg_of X G a51,k51,F51.binds (by walk_at "b1")⟩
 have F52:=fun_mk (st:=s_law_cell) l52 c52 k52
 have D52:Df K mg "_law_cell" f52 _ ["_law_script","_law_k"]:=⟨mg_of X G a52,k52,F52.binds (by walk_at "b2")⟩
 have F53:=fun_mk (st:=s_law_box) l53 c53 k53
 have D53:Df K mg "_law_box" f53 _ ["_law_cell_here"]:=⟨mg_of X G a53,k53,F53.binds (by walk_at "b1")⟩
 have F54:=fun_mk (st:=s_law_take) l54 c54 k54
 have D54:Df K mg "_law_take" f54 _ ["_law_box_here","_law_many"]:=⟨mg_of X G a54,k54,F54.binds (by walk_at "b2")⟩
 have F55:=fun_mk (st:=s_law_names) l55 c55 k55
 have D55:Df K mg "_law_names" f55 _ ["_law_box_here"]:=⟨mg_of X G a55,k55,F55.binds (by walk_at "b1")⟩
 have F56:=fun_mk (st:=s_law_size) l56 c56 k56
 have D56:Df K mg "_law_size" f56 _ ["_law_kind_here","_law_shapes_here"]:=⟨mg_of X G a56,k56,F56.binds (by walk_at "b2")⟩
 have F57:=fun_mk (st:=s_law_units) l57 c57 k57
 have D57:Df K mg "_law_units" f57 _ ["_law_kind_here","_law_shapes_here","_law_path"]:=⟨mg_of X G a57,k57,F57.binds (by walk_at "b3")⟩
 have F58:=fun_mk (st:=s_law_joined) l58 c58 k58
 have D58:Df K mg "_law_joined" f58 _ ["_law_path","_law_step"]:=⟨mg_of X G a58,k58,F58.binds (by walk_at "b2")⟩
 have F59:=fun_mk (st:=s_law_depth) l59 c59 k59
 have D59:Df K mg "_law_depth" f59 _ ["_law_kind_here","_law_shapes_here"]:=⟨mg_of X G a59,k59,F59.binds (by walk_at "b2")⟩
 have F60:=fun_mk (st:=s_law_kind) l60 c60 k60
 have D60:Df K mg "_law_kind" f60 _ ["_law_box_here","_law_known"]:=⟨mg_of X G a60,k60,F60.binds (by walk_at "b2")⟩
 have F61:=fun_mk (st:=s_law_fits) l61 c61 k61
 have D61:Df K mg "_law_fits" f61 _ ["_law_shapes_here"]:=⟨mg_of X G a61,k61,F61.binds (by walk_at "b1")⟩
 have F62:=fun_mk (st:=s_law_shapes) l62 c62 k62
 have D62:Df K mg "_law_shapes" f62 _ ["_law_box_here","_law_most"]:=⟨mg_of X G a62,k62,F62.binds (by walk_at "b2")⟩
 have F63:=fun_mk (st:=s_law_kind_text) l63 c63 k63
 have D63:Df K mg "_law_kind_text" f63 _ ["_law_kind_here","_law_shapes_here"]:=⟨mg_of X G a63,k63,F63.binds (by walk_at "b2")⟩
 have F64:=fun_mk (st:=s_law_text) l64 c64 k64
 have D64:Df K mg "_law_text" f64 _ ["_law_shapes_here"]:=⟨mg_of X G a64,k64,F64.binds (by walk_at "b1")⟩
 have F65:=fun_mk (st:=s_law_whole) l65 c65 k65
 have D65:Df K mg "_law_whole" f65 _ ["_law_found"]:=⟨mg_of X G a65,k65,F65.binds (by walk_at "b1")⟩
 have F66:=fun_mk (st:=s_law_number) l66 c66 k66
 have D66:Df K mg "_law_number" f66 _ ["_law_found","_law_due"]:=⟨mg_of X G a66,k66,F66.binds (by walk_at "b2")⟩
 have F67:=fun_mk (st:=s_law_kind_right) l67 c67 k67
 have D67:Df K mg "_law_kind_right" f67 _ ["_law_found","_law_kind_here","_law_shapes_here"]:=⟨mg_of X G a67,k67,F67.binds (by walk_at "b3")⟩
 have F68:=fun_mk (st:=s_law_shape_right) l68 c68 k68
 have D68:Df K mg "_law_shape_right" f68 _ ["_law_found","_law_at","_law_shapes_here"]:=⟨mg_of X G a68,k68,F68.binds (by walk_at "b3")⟩
 have F69:=fun_mk (st:=s_law_no_shape) l69 c69 k69
 have D69:Df K mg "_law_no_shape" f69 _ ["_law_read","_law_thing"]:=⟨mg_of X G a69,k69,F69.binds (by walk_at "b2")⟩
 have F70:=fun_mk (st:=s_law_right) l70 c70 k70
 have D70:Df K mg "_law_right" f70 _ ["_law_read","_law_shapes_here"]:=⟨mg_of X G a70,k70,F70.binds (by walk_at "b2")⟩
 have F71:=fun_mk (st:=s_law_kind_made) l71 c71 k71
 have D71:Df K mg "_law_kind_made" f71 _ ["_law_kind_here","_law_made"]:=⟨mg_of X G a71,k71,F71.binds (by walk_at "b2")⟩
 have F72:=fun_mk (st:=s_law_by_hand) l72 c72 k72
 have D72:Df K mg "_law_by_hand" f72 _ ["_law_shapes_here"]:=⟨mg_of X G a72,k72,F72.binds (by walk_at "b1")⟩
 have F73:=fun_mk (st:=s_law) l73 c73 k73
 have Ua:TCls K mg "Num" Va f7 ["width"]:=⟨mg_of X G g_Num,⟨pg_Num,hd_Num,po_Num,sa_Num⟩,⟨mk_Num,a7,i7,kc_Num⟩,fun a ha=>by
   rw [List.mem_singleton.mp ha];exact n_Num_width⟩
 have Ub:TCls K mg "Nested" Vb f13 ["shape"]:=⟨mg_of X G g_Nested,⟨pg_Nested,hd_Nested,po_Nested,sa_Nested⟩,⟨mk_Nested,a13,i13,kc_Nested⟩,fun a ha=>by
   rw [List.mem_singleton.mp ha];exact n_Nested_shape⟩
 have Uc:TCls K mg "Many" Vc f19 ["count","kind"]:=⟨mg_of X G g_Many,⟨pg_Many,hd_Many,po_Many,sa_Many⟩,⟨mk_Many,a19,i19,kc_Many⟩,fun a ha=>by
   simp only [List.mem_cons,List.not_mem_nil,or_false] at ha
   rcases ha with rfl|rfl
   ·exact n_Many_count
   ·exact n_Many_kind⟩
 have Ud:TCls K mg "Pick" Vd f25 ["shapes"]:=⟨mg_of X G g_Pick,⟨pg_Pick,hd_Pick,po_Pick,sa_Pick⟩,⟨mk_Pick,a25,i25,kc_Pick⟩,fun a ha=>by
   rw [List.mem_singleton.mp ha];exact n_Pick_shapes⟩
 have Ue:TCls K mg "Shape" Ve f32 ["name","fields"]:=⟨mg_of X G g_Shape,⟨pg_Shape,hd_Shape,po_Shape,sa_Shape⟩,⟨mk_Shape,a32,i32,kc_Shape⟩,fun a ha=>by
   simp only [List.mem_cons,List.not_mem_nil,or_false] at ha
   rcases ha with rfl|rfl
   ·exact n_Shape_name
   ·exact n_Shape_fields⟩
 have Uf:TCls K mg "Shapes" Vf f36 ["shapes"]:=⟨mg_of X G g_Shapes,⟨pg_Shapes,hd_Shapes,po_Shapes,sa_Shapes⟩,⟨mk_Shapes,a36,i36,kc_Shapes⟩,fun a ha=>by
   rw [List.mem_singleton.mp ha];exact n_Shapes_shapes⟩
 have tRE:TXB K mg cRE f0:=⟨mg_of X G g_RoomError,⟨xr,xf,xp,k0⟩,⟨⟨_,_,_,_,_,_,_,_,_,_,_,_,_,_,_,_,xo_RoomError⟩,rfl⟩⟩
 have VI:VInit K:=⟨vi1,vi2,vi3⟩
 have tNP:TX K mg "NoPath" cNP cRE f1 ["path"]:=⟨mg_of X G g_NoPath,⟨⟨_,_,_,_,_,_,_,_,_,_,_,_,_,_,xo_NoPath,xn_NoPath,xi_NoPath⟩,i1,xk_NoPath,xs_NoPath,xg_NoPath,xh_NoPath⟩,⟨⟨_,_,_,_,_,_,_,_,_,_,_,_,_,_,_,_,xo_NoPath⟩,rfl⟩,fun a ha=>by
   rw [List.mem_singleton.mp ha];exact n_NoPath_path⟩
 have M:Blt mg:=⟨mg_none_of X G z0,mg_none_of X G z1,mg_none_of X G z2,mg_none_of X G z3,mg_none_of X G z4,mg_none_of X G z5,mg_none_of X G z6,mg_none_of X G z7,mg_none_of X G z8,mg_none_of X G z9,mg_none_of X G z10,mg_none_of X G z11,mg_none_of X G z12,mg_none_of X G z13,mg_none_of X G z14,mg_none_of X G z15,mg_none_of X G z16,mg_none_of X G z17⟩
 have C:Cst K mg t1 t2 t3 t4 t5 t6 t7 t8 t9 t10 t11 t12 t13 ts:=⟨mg_of X G v1,mg_of X G v2,mg_of X G v3,mg_of X G v4,mg_of X G v5,mg_of X G v6,mg_of X G v7,mg_of X G v8,mg_of X G v9,mg_of X G v10,mg_of X G v11,mg_of X G v12,mg_of X G v13,mg_of X G w1,fun H=>.inr ⟨_,_,_,w2,rfl,rfl,(by show 23<=sizeLine;decide),(.cons ⟨_,rfl⟩ (.cons ⟨_,rfl⟩ (.cons ⟨_,rfl⟩ (.cons ⟨_,rfl⟩ (.cons ⟨_,rfl⟩ (.cons ⟨_,rfl⟩ (.cons ⟨_,rfl⟩ (.cons ⟨_,rfl⟩ (.cons ⟨_,rfl⟩ (.cons ⟨_,rfl⟩ (.cons ⟨_,rfl⟩ (.cons ⟨_,rfl⟩ (.cons ⟨_,rfl⟩ (.cons ⟨_,rfl⟩ (.cons ⟨_,rfl⟩ (.cons ⟨_,rfl⟩ (.cons ⟨_,rfl⟩ (.cons ⟨_,rfl⟩ (.cons ⟨_,rfl⟩ (.cons ⟨_,rfl⟩ (.cons ⟨_,rfl⟩ (.cons ⟨_,rfl⟩ (.cons ⟨_,rfl⟩ .nil)))))))))))))))))))))))⟩⟩
 have KC:KdM K mg (Cl5.mk Va Vb Vc Vd Ve) C_Kd Vf:=by
  refine⟨mg_of X G q0,fun C h=>?_,⟨Ue.cl,qa4,q1,q2,qb4⟩,⟨Uf.cl,qa5,q1,q2,qb5⟩,fun C h=>?_,fun i j C D h1 h2=>?_,qc4,qc5⟩
  ·simp only [Cl5.four,List.mem_cons,List.not_mem_nil,or_false] at h
   rcases h with rfl|rfl|rfl|rfl
   ·exact⟨Ua.cl,qa0,q1,q2,qb0⟩
   ·exact⟨Ub.cl,qa1,q1,q2,qb1⟩
   ·exact⟨Uc.cl,qa2,q1,q2,qb2⟩
   ·exact⟨Ud.cl,qa3,q1,q2,qb3⟩
  ·simp only [Cl5.four,List.mem_cons,List.not_mem_nil,or_false] at h
   rcases h with rfl|rfl|rfl|rfl
   ·exact qc0
   ·exact qc1
   ·exact qc2
   ·exact qc3
  ·match i,j,h1,h2 with
   | 0,0,h1,h2=>cases h1;cases h2;exact qd00
   | 0,1,h1,h2=>cases h1;cases h2;exact qd01
   | 0,2,h1,h2=>cases h1;cases h2;exact qd02
   | 0,3,h1,h2=>cases h1;cases h2;exact qd03
   | 1,0,h1,h2=>cases h1;cases h2;exact qd10
   | 1,1,h1,h2=>cases h1;cases h2;exact qd11
   | 1,2,h1,h2=>cases h1;cases h2;exact qd12
   | 1,3,h1,h2=>cases h1;cases h2;exact qd13
   | 2,0,h1,h2=>cases h1;cases h2;exact qd20
   | 2,1,h1,h2=>cases h1;cases h2;exact qd21
   | 2,2,h1,h2=>cases h1;cases h2;exact qd22
   | 2,3,h1,h2=>cases h1;cases h2;exact qd23
   | 3,0,h1,h2=>cases h1;cases h2;exact qd30
   | 3,1,h1,h2=>cases h1;cases h2;exact qd31
   | 3,2,h1,h2=>cases h1;cases h2;exact qd32
   | 3,3,h1,h2=>cases h1;cases h2;exact qd33
   | n + 4,_,h1,_=>simp [Cl5.four] at h1
   | _,n + 4,_,h2=>simp [Cl5.four] at h2
 refine⟨fnOf "law" "law" (defArgs s_law) (defBody s_law) (defScope s_law) .none kV73 dc73 pm73 an73 cd73 ct73,fun s v=>.of_eq rfl,fun base _ _=>?_⟩
 have G3:=(ok_is_text_of l.prog w base (k:=0) M C Ua Ub Uc Ud Ue Uf tRE VI tNP F3 )
 have G2:=(ok_is_name l.prog w base (k:=2) M C Ua Ub Uc Ud Ue Uf tRE VI tNP F2 D3 (mO G3))
 have G4:=(ok_number_in l.prog w base (k:=2) M C Ua Ub Uc Ud Ue Uf tRE VI tNP F4 D3 (mO G3))
 have G5:=(ok_joined l.prog w base (k:=0) M C Ua Ub Uc Ud Ue Uf tRE VI tNP F5 )
 have G53:=(ok_law_box l.prog w base (k:=0) M C Ua Ub Uc Ud Ue Uf tRE VI tNP F53 )
 have G54:=(ok_law_take l.prog w base (k:=0) M C Ua Ub Uc Ud Ue Uf tRE VI tNP F54 )
 have G52:=(ok_law_cell l.prog w base (k:=0) M C Ua Ub Uc Ud Ue Uf tRE VI tNP F52 )
 have G41:=(ok_is_shape_line l.prog w base (k:=4) M C Ua Ub Uc Ud Ue Uf tRE VI tNP F41 D2 (mO G2))
 have G44:=(ok_is_single l.prog w base (k:=4) M C Ua Ub Uc Ud Ue Uf tRE VI tNP F44 D4 (mO G4) D2 (mO G2))
 have G43:=(ok_is_kind l.prog w base (k:=6) M C Ua Ub Uc Ud Ue Uf tRE VI tNP F43 D4 (mO G4) D44 (mO G44) D2 (mO G2))
 have G42:=(ok_is_field_line l.prog w base (k:=8) M C Ua Ub Uc Ud Ue Uf tRE VI tNP F42 D2 (mO G2) D43 (mO G43))
 have G47:=(ok_shapes_named l.prog w base (k:=4) M C Ua Ub Uc Ud Ue Uf tRE VI tNP F47 D2 (mO G2))
 have G45:=(ok_need_new_shape l.prog w base (k:=0) M C Ua Ub Uc Ud Ue Uf tRE VI tNP F45 )
 have G48:=(ok_whole_shapes l.prog w base (k:=0) M C Ua Ub Uc Ud Ue Uf tRE VI tNP F48 )
 have G46:=(ok_need_field l.prog w base (k:=10) M C Ua Ub Uc Ud Ue Uf tRE VI tNP F46 D42 (mO G42) D47 (mO G47) D48 (mO G48))
 have G58:=(ok_law_joined l.prog w base (k:=0) M C Ua Ub Uc Ud Ue Uf tRE VI tNP F58 )
 have G7:=(ok_Num_init l.prog w base (k:=0) M C Ua Ub Uc Ud Ue Uf tRE VI tNP F7 )
 have G13:=(ok_Nested_init l.prog w base (k:=0) M C Ua Ub Uc Ud Ue Uf tRE VI tNP F13 )
 have G19:=(ok_Many_init l.prog w base (k:=0) M C Ua Ub Uc Ud Ue Uf tRE VI tNP F19 )
 have G25:=(ok_Pick_init l.prog w base (k:=0) M C Ua Ub Uc Ud Ue Uf tRE VI tNP F25 )
 have G36:=(ok_Shapes_init l.prog w base (k:=0) M C Ua Ub Uc Ud Ue Uf tRE VI tNP F36 )
 have G32:=(ok_Shape_init l.prog w base (k:=0) M C Ua Ub Uc Ud Ue Uf tRE VI tNP F32 )
 have G60:=(ok_law_kind l.prog w base (k:=2) M C Ua Ub Uc Ud Ue Uf tRE VI tNP F60 D54 (mO G54))
 have G55:=(ok_law_names l.prog w base (k:=2) M C Ua Ub Uc Ud Ue Uf tRE VI tNP F55 D54 (mO G54))
 have G0:=(ok_RoomError_init l.prog w base (k:=0) M C Ua Ub Uc Ud Ue Uf tRE VI tNP F0 )
 have G1:=(ok_NoPath_init l.prog w base (k:=2) M C Ua Ub Uc Ud Ue Uf tRE VI tNP F1 D0 (mO G0))
 have G65:=(ok_law_whole l.prog w base (k:=0) M C Ua Ub Uc Ud Ue Uf tRE VI tNP F65 )
 have G66:=(ok_law_number l.prog w base (k:=2) M C Ua Ub Uc Ud Ue Uf tRE VI tNP F66 D65 (mO G65))
 have G37:=(ok_Shapes_shape_of l.prog w base (k:=4) M C Ua Ub Uc Ud Ue Uf tRE VI tNP F37 D1 (mO G1))
 have G69:=(ok_law_no_shape l.prog w base (k:=6) M C Ua Ub Uc Ud Ue Uf tRE VI tNP F69 D37 (mO G37))
 have G38:=(ok_Shapes_main l.prog w base (k:=0) M C Ua Ub Uc Ud Ue Uf tRE VI tNP F38 )
 have t_size:∀ r C sp,TV (Cl5.mk Va Vb Vc Vd Ve) K r vSz C sp->VRow l.prog w K mg base CX0 (6 * r + 4) "size" C sp:=by
  intro r
  induction r with
  | zero =>
   rintro C' sp (⟨rfl,rfl⟩|⟨rfl,rfl⟩|⟨rfl,rfl⟩|⟨rfl,rfl⟩)
   ·exact⟨Ua.cl,_,_,_,D10.me,FnOk.mono (ok_Num_size l.prog w base (k:=0) (r:=0) M C Ua Ub Uc Ud Ue Uf tRE VI tNP F10 ) (by omega),D10.b⟩
   ·exact⟨Ub.cl,_,_,_,D16.me,noFn (noV nn1),D16.b⟩
   ·exact⟨Uc.cl,_,_,_,D22.me,noFn (noV nn2),D22.b⟩
   ·exact⟨Ud.cl,_,_,_,D28.me,noFn (noV nn3),D28.b⟩
  | succ r ih =>
   have gS:=(ok_Shape_size l.prog w base (k:=6 * r + 4) (r:=r) M C Ua Ub Uc Ud Ue Uf tRE VI tNP F33 ih)
   have gG:=(ok_Pick_greatest l.prog w base (k:=6 * r + 6) (r:=r) M C Ua Ub Uc Ud Ue Uf tRE VI tNP F29 D33 gS)
   rintro C' sp (⟨rfl,rfl⟩|⟨rfl,rfl⟩|⟨rfl,rfl⟩|⟨rfl,rfl⟩)
   ·exact⟨Ua.cl,_,_,_,D10.me,FnOk.mono (ok_Num_size l.prog w base (k:=0) (r:=r + 1) M C Ua Ub Uc Ud Ue Uf tRE VI tNP F10 ) (by omega),D10.b⟩
   ·exact⟨Ub.cl,_,_,_,D16.me,FnOk.mono (ok_Nested_size l.prog w base (k:=6 * r + 6) (r:=r) M C Ua Ub Uc Ud Ue Uf tRE VI tNP F16 D33 gS) (by omega),D16.b⟩
   ·exact⟨Uc.cl,_,_,_,D22.me,FnOk.mono (ok_Many_size l.prog w base (k:=6 * r + 4) (r:=r) M C Ua Ub Uc Ud Ue Uf tRE VI tNP F22 ih) (by omega),D22.b⟩
   ·exact⟨Ud.cl,_,_,_,D28.me,FnOk.mono (ok_Pick_size l.prog w base (k:=6 * r + 8) (r:=r) M C Ua Ub Uc Ud Ue Uf tRE VI tNP F28 D29 gG) (by omega),D28.b⟩
 have s_size:=fun r=>(ok_Shape_size l.prog w base (k:=6 * r + 4) (r:=r) M C Ua Ub Uc Ud Ue Uf tRE VI tNP F33 (t_size r))
 have s_gr:=fun r=>(ok_Pick_greatest l.prog w base (k:=6 * r + 6) (r:=r) M C Ua Ub Uc Ud Ue Uf tRE VI tNP F29 D33 (s_size r))
 have t_depth:∀ r C sp,TV (Cl5.mk Va Vb Vc Vd Ve) K r vDp C sp->VRow l.prog w K mg base CX0 (6 * r + 4) "depth" C sp:=by
  intro r
  induction r with
  | zero =>
   rintro C' sp (⟨rfl,rfl⟩|⟨rfl,rfl⟩|⟨rfl,rfl⟩|⟨rfl,rfl⟩)
   ·exact⟨Ua.cl,_,_,_,D11.me,FnOk.mono (ok_Num_depth l.prog w base (k:=0) (r:=0) M C Ua Ub Uc Ud Ue Uf tRE VI tNP F11 ) (by omega),D11.b⟩
   ·exact⟨Ub.cl,_,_,_,D17.me,noFn (noV nn1),D17.b⟩
   ·exact⟨Uc.cl,_,_,_,D23.me,noFn (noV nn2),D23.b⟩
   ·exact⟨Ud.cl,_,_,_,D30.me,noFn (noV nn3),D30.b⟩
  | succ r ih =>
   have gS:=(ok_Shape_depth l.prog w base (k:=6 * r + 4) (r:=r) M C Ua Ub Uc Ud Ue Uf tRE VI tNP F34 ih)
   rintro C' sp (⟨rfl,rfl⟩|⟨rfl,rfl⟩|⟨rfl,rfl⟩|⟨rfl,rfl⟩)
   ·exact⟨Ua.cl,_,_,_,D11.me,FnOk.mono (ok_Num_depth l.prog w base (k:=0) (r:=r + 1) M C Ua Ub Uc Ud Ue Uf tRE VI tNP F11 ) (by omega),D11.b⟩
   ·exact⟨Ub.cl,_,_,_,D17.me,FnOk.mono (ok_Nested_depth l.prog w base (k:=6 * r + 6) (r:=r) M C Ua Ub Uc Ud Ue Uf tRE VI tNP F17 D34 gS) (by omega),D17.b⟩
   ·exact⟨Uc.cl,_,_,_,D23.me,FnOk.mono (ok_Many_depth l.prog w base (k:=6 * r + 4) (r:=r) M C Ua Ub Uc Ud Ue Uf tRE VI tNP F23 ih) (by omega),D23.b⟩
   ·exact⟨Ud.cl,_,_,_,D30.me,FnOk.mono (ok_Pick_depth l.prog w base (k:=6 * r + 6) (r:=r) M C Ua Ub Uc Ud Ue Uf tRE VI tNP F30 D34 gS) (by omega),D30.b⟩
 have s_depth:=fun r=>(ok_Shape_depth l.prog w base (k:=6 * r + 4) (r:=r) M C Ua Ub Uc Ud Ue Uf tRE VI tNP F34 (t_depth r))
 have t_parted:∀ C sp,TPt (Cl5.mk Va Vb Vc Vd Ve) K C sp->VRow l.prog w K mg base CX0 2 "parted" C sp:=by
  rintro C' sp (⟨rfl,rfl⟩|⟨rfl,rfl⟩)
  ·exact⟨Ub.cl,_,_,_,D18.me,(ok_Nested_parted l.prog w base (k:=0) M C Ua Ub Uc Ud Ue Uf tRE VI tNP F18 ),D18.b⟩
  ·exact⟨Uc.cl,_,_,_,D24.me,(ok_Many_parted l.prog w base (k:=0) M C Ua Ub Uc Ud Ue Uf tRE VI tNP F24 ),D24.b⟩
 have DM:DfM K Vc "units_at" f6 (fnOf "units_at" "Kind.units_at" (defArgs s_Kind_units_at) (defBody s_Kind_units_at) (defScope s_Kind_units_at) .none kV6 dc6 pm6 an6 cd6 ct6) ["self","path"]:=⟨⟨w3,i6,k6⟩,D6.b⟩
 have t_units:∀ r C sp,TU (Cl5.mk Va Vb Vc Vd Ve) K r C sp->VRow l.prog w K mg base CX0 (6 * r + 4) "units_at" C sp:=by
  intro r
  induction r with
  | zero =>
   rintro C' sp (⟨rfl,rfl⟩|⟨rfl,rfl⟩|⟨rfl,rfl⟩|⟨rfl,rfl⟩)
   ·exact⟨Ua.cl,_,_,_,D12.me,FnOk.mono (ok_Num_units_at l.prog w base (k:=0) (r:=0) M C Ua Ub Uc Ud Ue Uf tRE VI tNP F12 ) (by omega),D12.b⟩
   ·exact⟨Ub.cl,_,_,_,D6.me,noFn (noU nn1),D6.b⟩
   ·exact⟨Uc.cl,_,_,_,DM.me,noFn (noU nn2),DM.b⟩
   ·exact⟨Ud.cl,_,_,_,D31.me,noFn (noU nn3),D31.b⟩
  | succ r ih =>
   rintro C' sp (⟨rfl,rfl⟩|⟨rfl,rfl⟩|⟨rfl,rfl⟩|⟨rfl,rfl⟩)
   ·exact⟨Ua.cl,_,_,_,D12.me,FnOk.mono (ok_Num_units_at l.prog w base (k:=0) (r:=r + 1) M C Ua Ub Uc Ud Ue Uf tRE VI tNP F12 ) (by omega),D12.b⟩
   ·exact⟨Ub.cl,_,_,_,D6.me,FnOk.mono (ok_Kind_units_at l.prog w base (k:=6 * r + 4) (r:=r) M C Ua Ub Uc Ud Ue Uf tRE VI tNP ff1 F6 (fun C' sp h=>VRow.mono (t_parted C' sp h) (by omega)) ih D5 (FnOk.mono G5 (by omega))) (by omega),D6.b⟩
   ·exact⟨Uc.cl,_,_,_,DM.me,FnOk.mono (ok_Kind_units_at l.prog w base (k:=6 * r + 4) (r:=r) M C Ua Ub Uc Ud Ue Uf tRE VI tNP ff2 F6 (fun C' sp h=>VRow.mono (t_parted C' sp h) (by omega)) ih D5 (FnOk.mono G5 (by omega))) (by omega),DM.b⟩
   ·exact⟨Ud.cl,_,_,_,D31.me,FnOk.mono (ok_Pick_units_at l.prog w base (k:=6 * r + 8) (r:=r) M C Ua Ub Uc Ud Ue Uf tRE VI tNP F31 D5 (FnOk.mono G5 (by omega)) D29 (s_gr r)) (by omega),D31.b⟩
 have t_word:∀ r C sp,TW (Cl5.mk Va Vb Vc Vd Ve) K r wdK C sp->VRow l.prog w K mg base CX0 2 "word" C sp:=by
  intro r
  rintro C' sp (⟨rfl,rfl⟩|⟨rfl,rfl⟩|⟨rfl,rfl⟩|⟨rfl,rfl⟩)
  ·exact⟨Ua.cl,_,_,_,D8.me,(ok_Num_word l.prog w base (k:=0) (r:=r) M C Ua Ub Uc Ud Ue Uf tRE VI tNP F8 ),D8.b⟩
  ·exact⟨Ub.cl,_,_,_,D14.me,(ok_Nested_word l.prog w base (k:=0) (r:=r) M C Ua Ub Uc Ud Ue Uf tRE VI tNP F14 ),D14.b⟩
  ·exact⟨Uc.cl,_,_,_,D20.me,(ok_Many_word l.prog w base (k:=0) (r:=r) M C Ua Ub Uc Ud Ue Uf tRE VI tNP F20 ),D20.b⟩
  ·exact⟨Ud.cl,_,_,_,D26.me,(ok_Pick_word l.prog w base (k:=0) (r:=r) M C Ua Ub Uc Ud Ue Uf tRE VI tNP F26 ),D26.b⟩
 have t_text:∀ r C sp,TW (Cl5.mk Va Vb Vc Vd Ve) K r txK C sp->VRow l.prog w K mg base CX0 (2 * r + 2) "text" C sp:=by
  intro r
  induction r with
  | zero =>
   rintro C' sp (⟨rfl,rfl⟩|⟨rfl,rfl⟩|⟨rfl,rfl⟩|⟨rfl,rfl⟩)
   ·exact⟨Ua.cl,_,_,_,D9.me,FnOk.mono (ok_Num_text l.prog w base (k:=0) (r:=0) M C Ua Ub Uc Ud Ue Uf tRE VI tNP F9 ) (by omega),D9.b⟩
   ·exact⟨Ub.cl,_,_,_,D15.me,FnOk.mono (ok_Nested_text l.prog w base (k:=0) (r:=0) M C Ua Ub Uc Ud Ue Uf tRE VI tNP F15 ) (by omega),D15.b⟩
   ·exact⟨Uc.cl,_,_,_,D21.me,noFn (noW nn2),D21.b⟩
   ·exact⟨Ud.cl,_,_,_,D27.me,FnOk.mono (ok_Pick_text l.prog w base (k:=0) (r:=0) M C Ua Ub Uc Ud Ue Uf tRE VI tNP F27 ) (by omega),D27.b⟩
  | succ r ih =>
   rintro C' sp (⟨rfl,rfl⟩|⟨rfl,rfl⟩|⟨rfl,rfl⟩|⟨rfl,rfl⟩)
   ·exact⟨Ua.cl,_,_,_,D9.me,FnOk.mono (ok_Num_text l.prog w base (k:=0) (r:=(r + 1)) M C Ua Ub Uc Ud Ue Uf tRE VI tNP F9 ) (by omega),D9.b⟩
   ·exact⟨Ub.cl,_,_,_,D15.me,FnOk.mono (ok_Nested_text l.prog w base (k:=0) (r:=(r + 1)) M C Ua Ub Uc Ud Ue Uf tRE VI tNP F15 ) (by omega),D15.b⟩
   ·exact⟨Uc.cl,_,_,_,D21.me,FnOk.mono (ok_Many_text l.prog w base (k:=2 * r + 2) (r:=r) M C Ua Ub Uc Ud Ue Uf tRE VI tNP F21 ih) (by omega),D21.b⟩
   ·exact⟨Ud.cl,_,_,_,D27.me,FnOk.mono (ok_Pick_text l.prog w base (k:=0) (r:=(r + 1)) M C Ua Ub Uc Ud Ue Uf tRE VI tNP F27 ) (by omega),D27.b⟩
 have G33:=s_size 12
 have G34:=s_depth 12
 have G35:=(ok_Shape_units l.prog w base (k:=76) (r:=12) M C Ua Ub Uc Ud Ue Uf tRE VI tNP F35 D13 (mO G13) (t_units 12))
 have G51:=(ok_is_too_much l.prog w base (k:=78) (r:=12) M C Ua Ub Uc Ud Ue Uf tRE VI tNP F51 D33 (mO G33) D35 (mO G35) D34 (mO G34))
 have r_kin:∀ n,FnOk l.prog w K mg base CX0 (2 * n + 2) f50 (fnOf "kind_in" "kind_in" (defArgs s_kind_in) (defBody s_kind_in) (defScope s_kind_in) .none kV50 dc50 pm50 an50 cd50 ct50) ["words","shapes"] (spKin (Cl5.mk Va Vb Vc Vd Ve) K n):=by
  intro n
  induction n with
  | zero=>exact noFn fun vs H Q E ⟨_,_,_,_,_,_,h,_⟩=>absurd h (Nat.not_lt_zero _)
  | succ n ih=>exact FnOk.mono (ok_kind_in l.prog w base (k:=2 * n + 2) (r:=n) M C Ua Ub Uc Ud Ue Uf tRE VI tNP F50 D50 ih D7 (FnOk.mono G7 (by omega)) D13 (FnOk.mono G13 (by omega)) D19 (FnOk.mono G19 (by omega)) D25 (FnOk.mono G25 (by omega))) (by omega)
 have G50:=r_kin 2
 have G49:=(ok_with_field l.prog w base (k:=80) (r:=12) M C Ua Ub Uc Ud Ue Uf tRE VI tNP F49 D50 (mO G50) D48 (mO G48) D32 (mO G32) D51 (mO G51))
 have G40:=(ok_read_shapes l.prog w base (k:=82) (r:=12) M C Ua Ub Uc Ud Ue Uf tRE VI tNP F40 D41 (mO G41) D45 (mO G45) D32 (mO G32) D46 (mO G46) D49 (mO G49) D36 (mO G36))
 have r__law_size:∀ n,FnOk l.prog w K mg base CX0 (2 * n + 2) f56 (fnOf "_law_size" "_law_size" (defArgs s_law_size) (defBody s_law_size) (defScope s_law_size) .none kV56 dc56 pm56 an56 cd56 ct56) ["_law_kind_here","_law_shapes_here"] (spLV K vSz n):=by
  intro n
  induction n with
  | zero=>exact noFn fun _ _ _ _ h=>h
  | succ n ih=>exact FnOk.mono (ok_law_size l.prog w base (k:=2 * n + 2) (r:=n) M C Ua Ub Uc Ud Ue Uf tRE VI tNP F56 D56 ih) (by omega)
 have G56:=r__law_size 13
 have r__law_depth:∀ n,FnOk l.prog w K mg base CX0 (2 * n + 2) f59 (fnOf "_law_depth" "_law_depth" (defArgs s_law_depth) (defBody s_law_depth) (defScope s_law_depth) .none kV59 dc59 pm59 an59 cd59 ct59) ["_law_kind_here","_law_shapes_here"] (spLV K vDp n):=by
  intro n
  induction n with
  | zero=>exact noFn fun _ _ _ _ h=>h
  | succ n ih=>exact FnOk.mono (ok_law_depth l.prog w base (k:=2 * n + 2) (r:=n) M C Ua Ub Uc Ud Ue Uf tRE VI tNP F59 D59 ih) (by omega)
 have G59:=r__law_depth 13
 have r_lu:∀ n,FnOk l.prog w K mg base CX0 (2 * n + 4) f57 (fnOf "_law_units" "_law_units" (defArgs s_law_units) (defBody s_law_units) (defScope s_law_units) .none kV57 dc57 pm57 an57 cd57 ct57) ["_law_kind_here","_law_shapes_here","_law_path"] (spLU K n):=by
  intro n
  induction n with
  | zero=>exact noFn fun _ _ _ _ h=>h
  | succ n ih=>exact FnOk.mono (ok_law_units l.prog w base (k:=2 * n + 4) (r:=n) M C Ua Ub Uc Ud Ue Uf tRE VI tNP F57 D57 ih D56 (r__law_size (n + 1)) D58 (FnOk.mono G58 (by omega))) (by omega)
 have G57:=r_lu 13
 have G61:=(ok_law_fits l.prog w base (k:=30) (r:=12) M C Ua Ub Uc Ud Ue Uf tRE VI tNP F61 D56 (mO G56) D57 (mO G57) D59 (mO G59))
 have r_kt:∀ n,FnOk l.prog w K mg base CX0 (2 * n + 2) f63 (fnOf "_law_kind_text" "_law_kind_text" (defArgs s_law_kind_text) (defBody s_law_kind_text) (defScope s_law_kind_text) .none kV63 dc63 pm63 an63 cd63 ct63) ["_law_kind_here","_law_shapes_here"] (spKT K n):=by
  intro n
  induction n with
  | zero=>exact noFn fun vs H Q E ⟨_,_,_,_,_,h,_⟩=>absurd h (Nat.not_lt_zero _)
  | succ n ih=>exact FnOk.mono (ok_law_kind_text l.prog w base (k:=2 * n + 2) (r:=n) M C Ua Ub Uc Ud Ue Uf tRE VI tNP F63 D63 ih) (by omega)
 have G63:=r_kt 2
 have G64:=(ok_law_text l.prog w base (k:=6) M C Ua Ub Uc Ud Ue Uf tRE VI tNP F64 D63 (mO G63))
 have G62:=(ok_law_shapes l.prog w base (k:=32) (r:=12) M C Ua Ub Uc Ud Ue Uf tRE VI tNP F62 D55 (mO G55) D54 (mO G54) D60 (mO G60) D61 (mO G61))
 have G39:=(ok_Shapes_text l.prog w base (k:=26) (r:=12) M C Ua Ub Uc Ud Ue Uf tRE VI tNP F39 (fun C' sp h=>VRow.mono (t_text 12 C' sp h) (by decide)))
 have r_kr:∀ n,FnOk l.prog w K mg base CX0 (2 * n + 76) f67 (fnOf "_law_kind_right" "_law_kind_right" (defArgs s_law_kind_right) (defBody s_law_kind_right) (defScope s_law_kind_right) .none kV67 dc67 pm67 an67 cd67 ct67) ["_law_found","_law_kind_here","_law_shapes_here"] (spKR (Cl5.mk Va Vb Vc Vd Ve) K n):=by
  intro n
  induction n with
  | zero=>exact noFn fun vs H Q E ⟨_,_,_,_,_,_,_,h,_⟩=>absurd h (Nat.not_lt_zero _)
  | succ n ih=>exact FnOk.mono (ok_law_kind_right l.prog w base (k:=2 * n + 76) (r:=12) (m:=n) M C Ua Ub Uc Ud Ue Uf tRE VI tNP (by decide) F67 KC (fun C' sp h=>VRow.mono (t_word 12 C' sp h) (by omega)) (fun C' sp h=>VRow.mono (t_text 12 C' sp h) (by omega)) D63 (FnOk.mono G63 (by omega)) (fun C' sp h=>VRow.mono (t_size 12 C' sp h) (by omega)) D56 (FnOk.mono G56 (by omega)) (fun C' sp h=>VRow.mono (t_depth 12 C' sp h) (by omega)) D59 (FnOk.mono G59 (by omega)) D66 (FnOk.mono G66 (by omega)) D67 ih) (by omega)
 have G67:=r_kr 2
 have G68:=(ok_law_shape_right l.prog w base (k:=80) (r:=12) M C Ua Ub Uc Ud Ue Uf tRE VI tNP (by decide) F68 KC D33 (mO G33) D56 (mO G56) D34 (mO G34) D59 (mO G59) D66 (mO G66) D67 (mO G67))
 have r_km:∀ n,FnOk l.prog w K mg base CX0 (2 * n + 2) f71 (fnOf "_law_kind_made" "_law_kind_made" (defArgs s_law_kind_made) (defBody s_law_kind_made) (defScope s_law_kind_made) .none kV71 dc71 pm71 an71 cd71 ct71) ["_law_kind_here","_law_made"] (spKM (Cl5.mk Va Vb Vc Vd Ve) K n):=by
  intro n
  induction n with
  | zero=>exact noFn fun vs H Q E ⟨_,_,_,_,_,h,_⟩=>absurd h (Nat.not_lt_zero _)
  | succ n ih=>exact FnOk.mono (ok_law_kind_made l.prog w base (k:=2 * n + 2) (r:=0) (m:=n) M C Ua Ub Uc Ud Ue Uf tRE VI tNP F71 D71 ih D7 (FnOk.mono G7 (by omega)) D13 (FnOk.mono G13 (by omega)) D19 (FnOk.mono G19 (by omega)) D25 (FnOk.mono G25 (by omega))) (by omega)
 have G71:=r_km 2
 have G72:=(ok_law_by_hand l.prog w base (k:=6) M C Ua Ub Uc Ud Ue Uf tRE VI tNP F72 D71 (mO G71) D32 (mO G32) D7 (mO G7) D36 (mO G36))
 have G70:=(ok_law_right l.prog w base (k:=82) (r:=12) M C Ua Ub Uc Ud Ue Uf tRE VI tNP (by decide) F70 KC D68 (mO G68) D37 (mO G37) D69 (mO G69) D38 (mO G38) D39 (mO G39) D64 (mO G64))
 have G73:=(ok_law l.prog w base (k:=84) (r:=12) M C Ua Ub Uc Ud Ue Uf tRE VI tNP ⟨by decide,by decide⟩ F73 D52 (mO G52) D53 (mO G53) D62 (mO G62) D64 (mO G64) D40 (mO G40) D70 (mO G70) D39 (mO G39) D72 (mO G72))
 exact G73
theorem walk {l:PySem.W.OpenLaw} {q:Program} {loose:List Str} {XP:(Str->Option Value)->Heap->Prop} {YP:World->Heap->Prop} {d:DefRec} {K:Params->Frag} (hn:l.most=some 63) (hdf:d.params.defaults=[])
  (hY:∀ (w:World) (h:Heap),YP w h->(K w.params).In h)
  (F:∀ (w:World) (mg:Str->Option Value) (fa:Addr) (h:Heap),(K w.params).In h->h.Ns mainGlobals mg->mg d.name=some (.ref fa) →
   ∃ fd:FuncData,(∀ (s:Shared) (u:Value),BindsTo s fd ⟨[u],[]⟩ [("_law_script",u)])/\∀ base:Heap,(K w.params).In base->base.Ns mainGlobals mg->FnOk l.prog w (K w.params) mg base CX0 86 fa fd ["_law_script"] (spLaw (K w.params))) :
  PySem.W.WalkO q loose XP YP l.row.toRowW d [] (fun f vs=>PySem.call f vs) :=
 L2.walk_of (n:=63) (k:=86) (x:="_law_script") (CX:=fun _=>CX0) (sp:=fun w=>spLaw (K w.params)) hn (by decide) hdf ⟨rfl,by decide,by decide,rfl⟩ hY F (fun _ _ a ns hl _ hS=>⟨a,ns,rfl,hS,hl,fun _=>rfl⟩) fun _ _ _ _ _ z=>z
end K07
namespace PySem.W.Fast
def tw7146801286637790415:=0
def tw1365038933117819042:=0
def tw4099184787466772754:=0
def tw1450045003767096912:=0
def tw13936833842005231390:=0
def tw2494377764669179761:=0
def tw5902656911445292790:=0
def tw5145937750663764917:=0
def tw6213965758144078231:=0
def tw13767148229186713049:=0
def tw2755950703586991224:=0
def tw835745222783613799:=0
def tw11471837881152919336:=0
def tw6424324100586802297:=0
def tw7566894652759648254:=0
def tw6961249677755986011:=0
def tw13319523809638234209:=0
def tw15914900843714880086:=0
def tw11977886435395658628:=0
def tw9504915332147100839:=0
def tw8642686090445050464:=0
def tw12073534719025466084:=0
def tw12431830723281372323:=0
def tw5229449825031639178:=0
def tw18255293335742670723:=0
def tw1124660760602800536:=0
def tw18000069846939247357:=0
def tw16143543641639275821:=0
def tw6554441826041376621:=0
def tw17420529025920496178:=0
def tw7353581343049972830:=0
def tw4020353234964157127:=0
def tw17635864766176315667:=0
def tw983626338000957411:=0
def tw4573023781181691171:=0
def tw11657347888509785670:=0
def tw6831854272210895758:=0
def tw2480012664224938924:=0
def tw3644903453824789016:=0
def tw12354089812820294328:=0
def tw4824906459972938676:=0
def tw12268608069201965875:=0
def tw14643691450094786025:=0
def tw10186345926837250343:=0
def tw3840234943950081592:=0
def tw384627844257439606:=0
def tw13690485217720862435:=0
def tw9548746843114412254:=0
def tw16024983843388868791:=0
def tw5693882683745670393:=0
def tw16094050379782230965:=0
def tw3139645740072153529:=0
def tw15361698234556714328:=0
def tw6283552020602418844:=0
def tw13513385715718788175:=0
def tw11288458980738035165:=0
def tw15243561669134101569:=0
def tw8926013405548408099:=0
def tw7626715474974586620:=0
def tw6809048595925491175:=0
def tw1808563349622521257:=0
def tw4260702979116288078:=0
def tw9210875444583105495:=0
def tw2375946365636089036:=0
def tw6376204015680836396:=0
def tw14423761088049428921:=0
def tw4936242765173408105:=0
def tw7160914282708394127:=0
def tw5455472583205789315:=0
def tw14292747263969265552:=0
def tw7143208675034532368:=0
def tw14174415978489517811:=0
def tw6905850151209529106:=0
def tw8792425259236593038:=0
def tw15757374351257570507:=0
def tw1497475259875373412:=0
def tw18114141800354212623:=0
def tw1362447457518313875:=0
def tw2566690167295106341:=0
def tw14803081221695491381:=0
def tw9823286031413772839:=0
def tw11571879076956923500:=0
def tw8516104363120399274:=0
def tw10797736717804159673:=0
def tw12258842662397956519:=0
def tw13234228412308215280:=0
def tw15595894087664528696:=0
def tw16584806133111896926:=0
def tw13528022675692221047:=0
def tw3549190029404528936:=0
def tw5087772630946978653:=0
def tw15105579696993697902:=0
def tw16687884673539608408:=0
def tw12801124830307589335:=0
def tw17209059930735481137:=0
def tw5125872409330672517:=0
def tw3255084183570197032:=0
def tw4473686515005802793:=0
def tw7268183904046890321:=0
def tw6465421838899226876:=0
def tw11510750360261388938:=0
def tw16617835346055737644:=0
def tw12209912312518998063:=0
def tw6701308646917069720:=0
def tw12990857969861205347:=0
def tw4428870797282903003:=0
def tw16288266392866602919:=0
def tw1454624048799338959:=0
def tw17816376448123516515:=0
def tw9856892475557219495:=0
def tw15693980907769446674:=0
def tw17605732366030506900:=0
def tw2772442715082040722:=0
def tw9010371203721493540:=0
def tw9657205373483247937:=0
def tw4370456697639372183:=0
def tw3668810629695950942:=0
def tw10322758546252534502:=0
def tw13342159902678791641:=0
def tw11634560801807888446:=0
def tw12943806639900450949:=0
def tw410671913039772726:=0
def tw2383120002808546058:=0
def tw13121852195613866143:=0
def tw10246129426710453509:=0
def tw5363173718931220910:=0
def tw7404237202714802043:=0
def tw14899869542561879635:=0
def tw3267308718553759493:=0
def tw777387090240020144:=0
def tw12600182832131052129:=0
def tw3422369206771298393:=0
def tw10701770741083935183:=0
def tw2069664525350242584:=0
def tw14893487029232148512:=0
def tw1570991783904583727:=0
def tw12371140674005295818:=0
def tw18123205337541937400:=0
def tw3721244170711225939:=0
def tw11938413585611010437:=0
def tw14494589138929508087:=0
def tw9635492935204444763:=0
def tw16831567432653861979:=0
def tw2980540400276676643:=0
def tw17952559466860358661:=0
def tw1684107654961426920:=0
def tw7180414632486735027:=0
def tw1986888787551997874:=0
def tw11196638322974345723:=0
def tw16057935099910213198:=0
def tw17000167814244143446:=0
def tw790029507603723528:=0
def tw2136756894393270023:=0
def tw4164217935875393329:=0
def tw5764260001222653421:=0
def tw12865502624944826718:=0
def tw15880663248754426976:=0
def tw14146803325898885968:=0
def tw7392876230434272816:=0
def tw13347891997160339338:=0
def tw291255159022313855:=0
def tw5100517622189565412:=0
def tw6591639728947724013:=0
def tw4131384383290024983:=0
def tw2118496883484526119:=0
def tw5381501729070132506:=0
def tw6801375291399620204:=0
def tw12407469548035489531:=0
def tw9079257996657614119:=0
def tw13573617924195930834:=0
def tw5988549230680998637:=0
def tw7334851445359871917:=0
def tw7935453476294759985:=0
def tw12809388110607721848:=0
def tw14538976747236394010:=0
def tw2797604420248180342:=0
def tw5720587422394026566:=0
def tw15353968135582249949:=0
def tw8309958567253016083:=0
def tw12904344127095035603:=0
def tw13099516626770650422:=0
def tw15454338137272397936:=0
def tw10115553258624360464:=0
def tw15854248556903830565:=0
def tw9859189583203211020:=0
def tw13004751697648704196:=0
def tw5627653159033678620:=0
def tw9568969533078473804:=0
def tw7387830296172776359:=0
def tw5599789926414823457:=0
def tw12092893411105974636:=0
def tw16102554372263231362:=0
def tw15427758147967962573:=0
def tw13496918461117848894:=0
def tw3761774280870123440:=0
def tw8011264254666757712:=0
def tw8773835282215019190:=0
def tw9862227728205301592:=0
def tw147615653568398466:=0
def tw11762577358033215436:=0
end PySem.W.Fast
open PySem PySem.W PyProof.Rows
set_option maxRecDepth 100000 in
set_option maxHeartbeats 0 in
theorem PySem.Challenge.cw_roomslaid_k07_shapes_read_and_written_holds : PySem.Challenge.rw_roomslaid_k07_shapes_read_and_written.Holds := by
 w_on;o_law;k_head; (case hw=>w_witness2)
 k_fill
 refine K07.walk (l := PySem.Challenge.rw_roomslaid_k07_shapes_read_and_written) rfl rfl (fun w h Y => PySem.W.kIn_of Y) ?F
 case F =>
  intro w mg fa h KX G hmg
  refine' K07.all_mk KX G hmg ?_ ?_ ?_ ?_ ?_ ?_ ?_ ?_ ?_ ?_ ?_ ?_ ?_ ?_ ?_ ?_ ?_ ?_ ?_ ?_ ?_ ?_ ?_ ?_ ?_ ?_ ?_ ?_ ?_ ?_ ?_ ?_ ?_ ?_ ?_ ?_ ?_ ?_ ?_ ?_ ?_ ?_ ?_ ?_ ?_ ?_ ?_ ?_ ?_ ?_ ?_ ?_ ?_ ?_ ?_ ?_ ?_ ?_ ?_ ?_ ?_ ?_ ?_ ?_ ?_ ?_ ?_ ?_ ?_ ?_ ?_ ?_ ?_ ?_ ?_ ?_ ?_ ?_ ?_ ?_ ?_ ?_ ?_ ?_ ?_ ?_ ?_ ?_ ?_ ?_ ?_ ?_ ?_ ?_ ?_ ?_ ?_ ?_ ?_ ?_ ?_ ?_ ?_ ?_ ?_ ?_ ?_ ?_ ?_ ?_ ?_ ?_ ?_ ?_ ?_ ?_ ?_ ?_ ?_ ?_ ?_ ?_ ?_ ?_ ?_ ?_ ?_ ?_ ?_ ?_ ?_ ?_ ?_ ?_ ?_ ?_ ?_ ?_ ?_ ?_ ?_ ?_ ?_ ?_ ?_ ?_ ?_ ?_ ?_ ?_ ?_ ?_ ?_ ?_ ?_ ?_ ?_ ?_ ?_ ?_ ?_ ?_ ?_ ?_ ?_ ?_ ?_ ?_ ?_ ?_ ?_ ?_ ?_ ?_ ?_ ?_ ?_ ?_ ?_ ?_ ?_ ?_ ?_ ?_ ?_ ?_ ?_ ?_ ?_ ?_ ?_ ?_ ?_ ?_ ?_ ?_ ?_ ?_ ?_ ?_ ?_ ?_ ?_ ?_ ?_ ?_ ?_ ?_ ?_ ?_ ?_ ?_ ?_ ?_ ?_ ?_ ?_ ?_ ?_ ?_ ?_ ?_ ?_ ?_ ?_ ?_ ?_ ?_ ?_ ?_ ?_ ?_ ?_ ?_ ?_ ?_ ?_ ?_ ?_ ?_ ?_ ?_ ?_ ?_ ?_ ?_ ?_ ?_ ?_ ?_ ?_ ?_ ?_ ?_ ?_ ?_ ?_ ?_ ?_ ?_ ?_ ?_ ?_ ?_ ?_ ?_ ?_ ?_ ?_ ?_ ?_ ?_ ?_ ?_ ?_ ?_ ?_ ?_ ?_ ?_ ?_ ?_ ?_ ?_ ?_ ?_ ?_ ?_ ?_ ?_ ?_ ?_ ?_ ?_ ?_ ?_ ?_ ?_ ?_ ?_ ?_ ?_ ?_ ?_ ?_ ?_ ?_ ?_ ?_ ?_ ?_ ?_ ?_ ?_ ?_ ?_ ?_ ?_ ?_ ?_ ?_ ?_ ?_ ?_ ?_ ?_ ?_ ?_ ?_ ?_ ?_ ?_ ?_ ?_ ?_ ?_ ?_ ?_ ?_ ?_ ?_ ?_ ?_ ?_ ?_ ?_ ?_ ?_ ?_ ?_ ?_ ?_ ?_ ?_ ?_ ?_ ?_ ?_ ?_ ?_ ?_ ?_ ?_ ?_ ?_ ?_ ?_ ?_ ?_ ?_ ?_ ?_ ?_ ?_ ?_ ?_ ?_ ?_ ?_ ?_ ?_ ?_ ?_ ?_ ?_ ?_ ?_ ?_ ?_ ?_ ?_ ?_ ?_ ?_ ?_ ?_ ?_ ?_ ?_ ?_ ?_ ?_ ?_ ?_ ?_ ?_ ?_ ?_ ?_ ?_ ?_ ?_ ?_ ?_ ?_ ?_ ?_ ?_ ?_ ?_ ?_ ?_ ?_ ?_ ?_ ?_ ?_ ?_ ?_ ?_ ?_ ?_ ?_ ?_ ?_ ?_ ?_ ?_ ?_ ?_ ?_ ?_ ?_ ?_ ?_ ?_ ?_ ?_ ?_ ?_ ?_ ?_ ?_ ?_ ?_ ?_ ?_ ?_ ?_ ?_ ?_ ?_ ?_ ?_ ?_ ?_ ?_ ?_ ?_ ?_ ?_
  all_goals (first|k_is|exact Eq.refl true|exact Eq.refl (some true)|exact Eq.refl (some false)|kernel_rfl|decide +kernel|skip)
