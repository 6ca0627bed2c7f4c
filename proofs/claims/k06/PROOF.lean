import PyProof.Rows.All
import Wide.All
import OpenK.AllK
import Wide.FinOn
import Lean
import PyProof.EqAt
import PyProof.EqKinds
import PyProof.TupleCall
import PyProof.LongRange
import PyProof.ListRange
import PyProof.RaisesMany
import PyProof.ExcBaseAll.ValueError
import PyProof.ExcArgs
import PyProof.InstStoreFacts
import PyProof.ExcAttrAll.ValueError
import PyProof.RulesAs
import PyProof.RulesDel
import PyProof.ReprRoads
import PyProof.CallFns
import PyProof.InstSpecial
import PyProof.Rows.RuleN_isinstance
import KE.KIsNot
import PyProof.ReprLen
import PySem.Challenge.RW_roomslaid_k06_refused_everywhere
set_option Elab.async false
set_option linter.all false
set_option maxRecDepth 100000
/-! THE HAND LAYER, for ints, bools, texts, own classes, LISTS and tuples (index, slices, in, append, pop ..), calls, loops. Paste it whole ahead of your own text; what your proof does not reach may be deleted. -/
namespace L2
open PySem PySem.Spec PyProof.Rows

/-- a key: an int or a str -/
abbrev Key := Sum Int Str
def keyIs : Key → Value → Bool
  | .inl k, v => Value.isInt k v
  | .inr x, v => Value.isStrOf x v
def keyH (w : World) : Key → Int
  | .inl k => hashInt k
  | .inr x => hashStr w x
theorem keyIs_shape : ∀ {k : Key} {v : Value}, keyIs k v = true → (∃ i t, k = Sum.inl i ∧ v = Value.int i t) ∨ (∃ x t, k = Sum.inr x ∧ v = Value.str x t)
  | .inl i, v, h => by
    obtain ⟨t, e⟩ := Value.isInt_shape (k := i) (v := v) h
    exact .inl ⟨i, t, rfl, e⟩
  | .inr x, v, h => by
    obtain ⟨t, e⟩ := Value.isStrOf_shape (x := x) (v := v) h
    exact .inr ⟨x, t, rfl, e⟩
theorem keyIs_int (i : Int) (t : Tok) : keyIs (.inl i) (.int i t) = true := by simp [keyIs, Value.isInt]
theorem keyIs_str (x : Str) (t : Tok) : keyIs (.inr x) (.str x t) = true := by simp [keyIs, Value.isStrOf]
theorem key_ll (a b : Int) : decide ((Sum.inl a : Key) = Sum.inl b) = (a == b) := by
  by_cases e : a = b
  · subst e; simp
  · have h : ¬ (Sum.inl a : Key) = Sum.inl b := fun q => e (Sum.inl.inj q)
    rw [decide_eq_false h]
    exact (beq_eq_false_iff_ne.mpr e).symm
theorem key_rr (a b : Str) : decide ((Sum.inr a : Key) = Sum.inr b) = decide (a = b) := by
  by_cases e : a = b
  · subst e; simp
  · have h : ¬ (Sum.inr a : Key) = Sum.inr b := fun q => e (Sum.inr.inj q)
    rw [decide_eq_false h, decide_eq_false e]
theorem key_lr (a : Int) (b : Str) : decide ((Sum.inl a : Key) = Sum.inr b) = false := decide_eq_false (fun q => nomatch q)
theorem key_rl (a : Str) (b : Int) : decide ((Sum.inr a : Key) = Sum.inl b) = false := decide_eq_false (fun q => nomatch q)

def mixKind (prog : Program) (w : World) : PySem.KeyKind prog w Key where
  is := keyIs
  hash := keyH w
  inj := fun v a b ha hb => by
    rcases keyIs_shape ha with ⟨i, t, rfl, rfl⟩ | ⟨x, t, rfl, rfl⟩
    · rcases keyIs_shape hb with ⟨j, u, rfl, e⟩ | ⟨y, u, rfl, e⟩
      · injection e with e1 _; rw [e1]
      · exact nomatch e
    · rcases keyIs_shape hb with ⟨j, u, rfl, e⟩ | ⟨y, u, rfl, e⟩
      · exact nomatch e
      · injection e with e1 _; rw [e1]
  byValue := fun k v h => by
    rcases keyIs_shape h with ⟨i, t, rfl, rfl⟩ | ⟨x, t, rfl, rfl⟩ <;> rfl
  pyHash := fun hv h => by
    rcases keyIs_shape hv with ⟨i, t, rfl, rfl⟩ | ⟨x, t, rfl, rfl⟩
    · exact wpAny_pyHash_int h
    · exact wpAny_pyHash_str h
  eqBool := fun hu hv h => by
    rcases keyIs_shape hu with ⟨i, t, rfl, rfl⟩ | ⟨x, t, rfl, rfl⟩
    · rcases keyIs_shape hv with ⟨j, u, rfl, rfl⟩ | ⟨y, u, rfl, rfl⟩
      · rw [key_ll] at h; exact wpAny_eqBool_int h
      · rw [key_lr] at h; exact SeqAt.EqAt.int_str i t y u _ _ _ _ h
    · rcases keyIs_shape hv with ⟨j, u, rfl, rfl⟩ | ⟨y, u, rfl, rfl⟩
      · rw [key_rl] at h; exact SeqAt.EqAt.str_int x t j u _ _ _ _ h
      · rw [key_rr] at h; exact wpAny_eqBool_str h
  «strs» := fun k x t v h => by
    rcases keyIs_shape h with ⟨i, u, rfl, e⟩ | ⟨y, u, rfl, e⟩
    · exact nomatch e
    · injection e with e1 _
      subst e1
      cases v <;> rfl

theorem mixKind_int (prog : Program) (w : World) (i : Int) (t : Tok) : (mixKind prog w).is (.inl i) (.int i t) = true := keyIs_int i t
theorem mixKind_str (prog : Program) (w : World) (x : Str) (t : Tok) : (mixKind prog w).is (.inr x) (.str x t) = true := keyIs_str x t
end L2

namespace L2
open PySem PySem.Spec PyProof.Rows

/-- a value, without the heap -/
inductive V where
  | non | bl (b : Bool) | int (i : Int) | str (x : Str) | byt (b : Array UInt8) | flt (b : UInt64) | ref (a : Addr) | ty (n : String)
  deriving DecidableEq

def RelV : V → Value → Prop
  | .non, u => u = Value.none
  | .bl b, u => u = Value.bool b
  | .int i, u => ∃ t, u = Value.int i t
  | .str x, u => ∃ t, u = Value.str x t
  | .byt b, u => ∃ t, u = Value.bytes b t
  | .flt b, u => ∃ t, u = Value.float b t
  | .ref a, u => u = Value.ref a
  | .ty n, u => u = Value.type n

abbrev Vals : List V → List Value → Prop := Paired RelV
theorem Vals.length {xs : List V} {us : List Value} (r : Vals xs us) : xs.length = us.length := Paired.length r
theorem Vals.get : ∀ {xs : List V} {us : List Value} {i : Nat} {x : V}, Vals xs us → xs[i]? = some x → ∃ u, us[i]? = some u ∧ RelV x u
  | _, _, _, _, .nil, e => by simp at e
  | _, _, 0, _, .cons r _, e => by simp at e; subst e; exact ⟨_, rfl, r⟩
  | _, _, i + 1, x, .cons _ t, e => by
    obtain ⟨u, h1, h2⟩ := Vals.get (i := i) (x := x) t (by simpa using e)
    exact ⟨u, by simpa using h1, h2⟩
theorem Vals.set {x : V} {u : Value} (r : RelV x u) : ∀ {xs : List V} {us : List Value} (i : Nat), Vals xs us → Vals (xs.set i x) (us.set i u)
  | _, _, _, .nil => .nil
  | _, _, 0, .cons _ t => .cons r t
  | _, _, i + 1, .cons q t => .cons q (Vals.set r i t)
theorem Vals.append : ∀ {xs ys : List V} {us ws : List Value}, Vals xs us → Vals ys ws → Vals (xs ++ ys) (us ++ ws)
  | _, _, _, _, .nil, s => s
  | _, _, _, _, .cons r t, s => .cons r (Vals.append t s)
theorem Vals.take : ∀ {xs : List V} {us : List Value} (n : Nat), Vals xs us → Vals (xs.take n) (us.take n)
  | _, _, 0, _ => .nil
  | _, _, _ + 1, .nil => .nil
  | _, _, n + 1, .cons r t => .cons r (Vals.take n t)
theorem Vals.drop : ∀ {xs : List V} {us : List Value} (n : Nat), Vals xs us → Vals (xs.drop n) (us.drop n)
  | _, _, 0, r => r
  | _, _, _ + 1, .nil => .nil
  | _, _, n + 1, .cons _ t => Vals.drop n t
def RelO : Option V → Option Value → Prop
  | some v, some u => RelV v u
  | none, none => True
  | _, _ => False
def KV {κ : Type} : List (κ × V) → List (κ × Value) → Prop := Paired fun (p : κ × V) (q : κ × Value) => p.1 = q.1 ∧ RelV p.2 q.2

/-- a key of a dict (00_mix): an int or a text -/
def kV : Key → V
  | .inl i => .int i
  | .inr x => .str x

/-- what stands at a tracked address -/
inductive HO where
  /-- a list -/
  | lst (xs : List V)
  /-- a tuple (never changes) -/
  | tup (xs : List V)
  /-- a dict whose keys are ints and texts; one whose keys are tuples of ints and texts (the empty one is both) -/
  | dK (kvs : List (Key × V)) | dT (kvs : List (List Key × V))
  /-- a set of ints: its members, its size -/
  | set (S : Int → Bool) (n : Nat)
  /-- an instance of the class at C, its dict at dx, its attributes -/
  | ins (C dx : Addr) (fs : List (Str × V))
  /-- the dict of the instance at x -/
  | own (x : Addr)
  /-- the dict of an exception -/
  | xd (fs : List (Str × V))
  /-- a bound method, f of x -/
  | met (f x : Addr)
  /-- a range object lo, lo + 1, .. below hi -/
  | rng (lo hi : Int)
  /-- a thing that is known to the object (the script; a dict while a loop walks it): read, never written while it is so -/
  | frz (o : Obj) (u : HO)
  /-- a code object's table -/
  | tbl (ps : Array Value)
  /-- any other thing, by what is true of its one object (a def of one's own: SetO a S n := HO.ext fun h => ..) -/
  | ext (φ : Heap → Prop)

abbrev Hp := Addr → Option HO
def upd (H : Hp) (a : Addr) (o : HO) : Hp := fun b => if b = a then some o else H b
theorem upd_same {H : Hp} {a : Addr} {o : HO} : upd H a o a = some o := by unfold upd; rw [if_pos rfl]
theorem upd_ne {H : Hp} {a b : Addr} {o : HO} (h : b ≠ a) : upd H a o b = H b := by unfold upd; rw [if_neg h]
theorem upd_upd {H : Hp} {a : Addr} {o u : HO} : upd (upd H a o) a u = upd H a u := by
  funext b; unfold upd; split <;> rfl
/-- two objects of different content stand apart -/
theorem ne_of {H : Hp} {a b : Addr} {o u : HO} (h : H a = some o) (h' : H b = some u) (d : o ≠ u) : a ≠ b := by
  intro e; subst e; rw [h] at h'; exact d (Option.some.inj h')
theorem ne_of_none {H : Hp} {a b : Addr} {o : HO} (h : H a = some o) (h' : H b = none) : a ≠ b := by
  intro e; subst e; rw [h] at h'; cases h'

section
variable (P : Program) (w : World)
def ObjOk (H : Hp) (h : Heap) (a : Addr) : HO → Prop
  | .lst xs => xs.length ≤ sizeLine ∧ ∃ (its : List Value) (n : Nat), Vals xs its ∧ h.get? a = some { cls := .type "list", data := .seq its.toArray n }
  | .tup xs => xs.length ≤ sizeLine ∧ ∃ its : List Value, Vals xs its ∧ IsTup h a its.toArray
  | .dK kvs => kvs.length ≤ sizeLine ∧ (a == sysModules) = false ∧ ∃ vs, KV kvs vs ∧ h.DictOf (mixKind P w) a vs
  | .dT kvs => kvs.length ≤ sizeLine ∧ (a == sysModules) = false ∧ ∃ xs : List (List Key × Addr × Value),
      Paired (fun (p : List Key × V) (q : List Key × Addr × Value) => p.1 = q.1 ∧ H q.2.1 = some (.tup (p.1.map kV)) ∧ RelV p.2 q.2.2) kvs xs ∧
      ∃ o es ep, h.get? a = some o ∧ o.ExactDict ∧ o.data = .dict es ep ∧ es.toList = xs.map (entryOfKey (tupleKind (mixKind P w))) ∧ (xs.map (·.1)).Nodup
  | .set S n => h.SetOf (intKind P w) a S n
  | .ins C dx fs => H dx = some (.own a) ∧ fs.length ≤ 1000 ∧ dx ≠ a ∧ h.get? a = some (PySem.W.instObj C dx) ∧
      ∃ mA, h.Ns1 dx mA ∧ (∀ f, RelO (fs.lookup f) (mA f)) ∧ PySem.Within mA (fs.map (·.1))
  | .own _ => ∃ o, h.get? a = some o
  | .xd fs => ∃ mA, h.Ns1 a mA ∧ ∀ f, RelO (fs.lookup f) (mA f)
  | .rng lo hi => ∃ t u v, h.get? a = some { cls := .type "range", data := .fields #[.int lo t, .int hi u, .int 1 v] }
  | .frz o u => h.get? a = some o ∧ ObjOk H h a u
  | .tbl ps => h.get? a = some { cls := .none, data := .fields ps }
  | .met f x => h.get? a = some (PySem.W.methodObj (.ref f) (.ref x))
  | .ext φ => φ h ∧ (∃ o, h.get? a = some o) ∧ ∀ h1 h2 : Heap, φ h1 → (∀ o, h1.get? a = some o → h2.get? a = some o) → φ h2
/-- the abstract heap is held -/
def HOk (H : Hp) (h : Heap) : Prop := ∀ a o, H a = some o → ObjOk P w H h a o
end

section
variable {P : Program} {w : World} {H H' : Hp} {h h' : Heap} {a : Addr} {o : HO}
theorem ObjOk.lt (x : ObjOk P w H h a o) : a < h.objs.size := by
  cases o with
  | lst xs => obtain ⟨_, _, _, _, e⟩ := x; exact Heap.lt_size e
  | tup xs => obtain ⟨_, _, _, p⟩ := x; exact p.lt
  | dK kvs => obtain ⟨_, _, _, _, o, _, _, e, _⟩ := x; exact Heap.lt_size e
  | dT kvs => obtain ⟨_, _, _, _, o, _, _, e, _⟩ := x; exact Heap.lt_size e
  | set S n => obtain ⟨o, _, _, _, e, _⟩ := x; exact Heap.lt_size e
  | ins C dx fs => obtain ⟨_, _, _, e, _⟩ := x; exact Heap.lt_size e
  | own y => obtain ⟨_, e⟩ := x; exact Heap.lt_size e
  | xd fs => obtain ⟨_, ⟨_, _, _, e, _⟩, _⟩ := x; exact Heap.lt_size e
  | rng lo hi => obtain ⟨_, _, _, e⟩ := x; exact Heap.lt_size e
  | frz ob u => obtain ⟨e, _⟩ := x; exact Heap.lt_size e
  | tbl ps => exact Heap.lt_size (show h.get? a = some _ from x)
  | met f y => exact Heap.lt_size (show h.get? a = some _ from x)
  | ext φ => obtain ⟨_, ⟨_, e⟩, _⟩ := x; exact Heap.lt_size e
theorem Paired.mapP {α β : Type} {F G : α → β → Prop} : ∀ {l₁ : List α} {l₂ : List β}, Paired F l₁ l₂ → (∀ a b, F a b → G a b) → Paired G l₁ l₂
  | _, _, .nil, _ => .nil
  | _, _, .cons r t, f => .cons (f _ _ r) (Paired.mapP t f)
/-- what an object's description leans on: its own object, its own dict, the tuples -/
theorem ObjOk.stay (x : ObjOk P w H h a o) (k : ∀ b u, (b = a ∨ H b = some (.own a)) → h.get? b = some u → h'.get? b = some u)
    (ho : ∀ b, H b = some (.own a) → H' b = some (.own a)) (ht : ∀ b xs, H b = some (.tup xs) → H' b = some (.tup xs)) : ObjOk P w H' h' a o := by
  induction o with
  | lst xs => obtain ⟨z, its, n, r, e⟩ := x; exact ⟨z, its, n, r, k _ _ (.inl rfl) e⟩
  | tup xs => obtain ⟨z, its, r, ob, e, c⟩ := x; exact ⟨z, its, r, ob, k _ _ (.inl rfl) e, c⟩
  | dK kvs => obtain ⟨z, y, vs, r, ob, es, ep, e, c⟩ := x; exact ⟨z, y, vs, r, ob, es, ep, k _ _ (.inl rfl) e, c⟩
  | dT kvs =>
    obtain ⟨z, y, xs, r, ob, es, ep, e, c⟩ := x
    exact ⟨z, y, xs, Paired.mapP r fun p q z => ⟨z.1, ht _ _ z.2.1, z.2.2⟩, ob, es, ep, k _ _ (.inl rfl) e, c⟩
  | set S n => obtain ⟨ob, es, ep, t, e, c⟩ := x; exact ⟨ob, es, ep, t, k _ _ (.inl rfl) e, c⟩
  | ins C dx fs =>
    obtain ⟨d, z, ne, e, mA, ⟨od, es, ep, e2, c⟩, r⟩ := x
    exact ⟨ho _ d, z, ne, k _ _ (.inl rfl) e, mA, ⟨od, es, ep, k _ _ (.inr d) e2, c⟩, r⟩
  | own y => obtain ⟨ob, e⟩ := x; exact ⟨ob, k _ _ (.inl rfl) e⟩
  | xd fs => obtain ⟨mA, ⟨od, es, ep, e, c⟩, r⟩ := x; exact ⟨mA, ⟨od, es, ep, k _ _ (.inl rfl) e, c⟩, r⟩
  | rng lo hi => obtain ⟨t, u, v, e⟩ := x; exact ⟨t, u, v, k _ _ (.inl rfl) e⟩
  | frz ob u ih => obtain ⟨e, q⟩ := x; exact ⟨k _ _ (.inl rfl) e, ih q⟩
  | tbl ps =>
    have e : h.get? a = some { cls := .none, data := .fields ps } := x
    show h'.get? a = some { cls := .none, data := .fields ps }
    exact k a _ (.inl rfl) e
  | met f y =>
    have e : h.get? a = some (PySem.W.methodObj (.ref f) (.ref y)) := x
    show h'.get? a = some (PySem.W.methodObj (.ref f) (.ref y))
    exact k a _ (.inl rfl) e
  | ext φ => obtain ⟨p, ⟨o, e⟩, st⟩ := x; exact ⟨st _ _ p fun o q => k _ _ (.inl rfl) q, ⟨o, k _ _ (.inl rfl) e⟩, st⟩
theorem HOk.lt (x : HOk P w H h) (e : H a = some o) : a < h.objs.size := (x a o e).lt
theorem HOk.fresh (x : HOk P w H h) (e : h.objs.size ≤ a) : H a = none := by
  cases q : H a with
  | none => rfl
  | some u => exact absurd (Nat.lt_of_lt_of_le (x.lt q) e) (Nat.lt_irrefl _)
/-- every object of the heap is kept -/
theorem HOk.kept (x : HOk P w H h) (k : ∀ b u, h.get? b = some u → h'.get? b = some u) : HOk P w H h' := fun a o e =>
  (x a o e).stay (fun b u _ q => k b u q) (fun _ q => q) fun _ _ q => q
/-- a new object is laid and tracked -/
theorem HOk.laid (x : HOk P w H h) (k : ∀ b u, h.get? b = some u → h'.get? b = some u) (hp : h.objs.size ≤ a) (new : ObjOk P w (upd H a o) h' a o) : HOk P w (upd H a o) h' := fun b u e => by
  have hn := x.fresh hp
  by_cases hb : b = a
  · subst hb; rw [upd_same] at e; cases e; exact new
  · rw [upd_ne hb] at e
    exact (x b u e).stay (fun c v _ q => k c v q) (fun c q => by rw [upd_ne (ne_of_none q hn)]; exact q) fun c xs q => by rw [upd_ne (ne_of_none q hn)]; exact q
end

/-- what may be read as u: it is u, or a known u -/
def Rd (H : Hp) (a : Addr) (u : HO) : Prop := H a = some u ∨ ∃ o, H a = some (.frz o u)
theorem Rd.ok {P : Program} {w : World} {H : Hp} {h : Heap} {a : Addr} {u : HO} (r : Rd H a u) (x : HOk P w H h) : ObjOk P w H h a u := by
  rcases r with r | ⟨o, r⟩
  · exact x a u r
  · obtain ⟨_, q⟩ := x a _ r
    exact q
/-- what may be written -/
def Mut : Option HO → Prop
  | some (.lst _) => True
  | some (.dK _) => True
  | some (.dT _) => True
  | some (.set _ _) => True
  | some (.ins _ _ _) => True
  | some (.ext _) => True
  | _ => False
section
variable {P : Program} {w : World} {H : Hp} {h h' : Heap} {x e : Addr} {o' : HO}
/-- the object at e is changed: x itself, or the dict of the instance x -/
theorem HOk.write (ok : HOk P w H h) (mu : Mut (H x)) (he : e = x ∨ H e = some (.own x)) (k : ∀ b u, b ≠ e → h.get? b = some u → h'.get? b = some u) (heo : ∃ u, h'.get? e = some u)
    (new : ObjOk P w (upd H x o') h' x o') : HOk P w (upd H x o') h' := fun b u q => by
  have nown : ∀ c y, H c = some (.own y) → c ≠ x := fun c y r z => by subst z; rw [r] at mu; exact mu
  have ntup : ∀ c xs, H c = some (.tup xs) → c ≠ x := fun c xs r z => by subst z; rw [r] at mu; exact mu
  by_cases hb : b = x
  · subst hb; rw [upd_same] at q; cases q; exact new
  · rw [upd_ne hb] at q
    by_cases hbe : b = e
    · have q' : H b = some (.own x) := by
        rcases he with z | z
        · exact absurd (hbe.trans z) hb
        · rw [hbe]; exact z
      rw [q] at q'; cases q'
      obtain ⟨v, hv⟩ := heo
      exact ⟨v, by rw [hbe]; exact hv⟩
    · refine (ok b u q).stay (fun c v hc r => k c v ?_ r) (fun c r => by rw [upd_ne (nown c b r)]; exact r) fun c xs r => by rw [upd_ne (ntup c xs r)]; exact r
      rcases hc with rfl | hc
      · exact hbe
      · rintro rfl
        rcases he with z | z
        · exact nown c b hc z
        · rw [hc] at z; cases z; exact hb rfl
end

/-! ### kept unless tracked; of the frames at fs (the callers') the slots may change (an exception that passes writes there); of the records at ex (iterators) nothing is said -/
structure Un (fs ex : List Addr) (H H' : Hp) (h h' : Heap) : Prop where
  keep : ∀ b o, h.get? b = some o → H b = none → b ∉ fs → b ∉ ex → h'.get? b = some o
  slot : ∀ b o, h.get? b = some o → H b = none → b ∈ fs → b ∉ ex → ∃ sl, h'.get? b = some { o with slots := sl }
  free : ∀ b o, h.get? b = some o → H b = none → b ∉ ex → H' b = none
  there : ∀ b o, h.get? b = some o → b ∉ ex → ∃ o', h'.get? b = some o'
  tups : ∀ b xs, H b = some (.tup xs) → H' b = some (.tup xs)
  frzs : ∀ b o u, H b = some (.frz o u) → H' b = some (.frz o u)
  tbls : ∀ b ps, H b = some (.tbl ps) → ∃ more, H' b = some (.tbl (ps ++ more))
section
variable {fs fs' ex ex' : List Addr} {H H1 H2 : Hp} {h h1 h2 h' : Heap} {a x e : Addr} {o : HO}
theorem Un.any (u : Un fs ex H H1 h h1) {b : Addr} {ob : Obj} (q : h.get? b = some ob) (n : H b = none) (hx : b ∉ ex) : ∃ sl, h1.get? b = some { ob with slots := sl } := by
  by_cases hb : b ∈ fs
  · exact u.slot b ob q n hb hx
  · exact ⟨ob.slots, u.keep b ob q n hb hx⟩
theorem Un.kept (k : ∀ b u, h.get? b = some u → h'.get? b = some u) : Un fs ex H H h h' :=
  ⟨fun b ob q _ _ _ => k b ob q, fun b ob q _ _ _ => ⟨ob.slots, k b ob q⟩, fun _ _ _ n _ => n, fun b ob q _ => ⟨ob, k b ob q⟩, fun _ _ q => q, fun _ _ _ q => q, fun _ ps q => ⟨#[], by rw [q]; simp⟩⟩
theorem Un.refl : Un fs ex H H h h := Un.kept fun _ _ q => q
theorem Un.laid (k : ∀ b u, h.get? b = some u → h'.get? b = some u) (hp : h.objs.size ≤ a) (hn : H a = none) : Un fs ex H (upd H a o) h h' where
  keep := fun b u q _ _ _ => k b u q
  slot := fun b u q _ _ _ => ⟨u.slots, k b u q⟩
  free := fun b u q n _ => by rw [upd_ne (Nat.ne_of_lt (Nat.lt_of_lt_of_le (Heap.lt_size q) hp))]; exact n
  there := fun b u q _ => ⟨u, k b u q⟩
  tups := fun b xs q => by rw [upd_ne (ne_of_none q hn)]; exact q
  frzs := fun b u xs q => by rw [upd_ne (ne_of_none q hn)]; exact q
  tbls := fun b ps q => ⟨#[], by rw [upd_ne (ne_of_none q hn), q]; simp⟩
theorem Un.write (mu : Mut (H x)) (he : e = x ∨ H e = some (.own x)) (k : ∀ b u, b ≠ e → h.get? b = some u → h'.get? b = some u) (heo : ∃ u, h'.get? e = some u) : Un fs ex H (upd H x o) h h' := by
  have hx : ∀ b, H b = none → b ≠ x := fun b n z => by subst z; rw [n] at mu; exact mu
  have hb : ∀ b, H b = none → b ≠ e := fun b n z => by
    subst z
    rcases he with r | r
    · exact hx b n r
    · rw [n] at r; cases r
  have hm : ∀ b u, H b = some u → ¬ Mut (some u) → b ≠ x := fun b u q nm z => by subst z; rw [q] at mu; exact nm mu
  refine ⟨fun b u q n _ _ => k b u (hb b n) q, fun b u q n _ _ => ⟨u.slots, k b u (hb b n) q⟩, fun b u q n _ => by rw [upd_ne (hx b n)]; exact n, fun b u q _ => ?_,
    fun b xs q => by rw [upd_ne (hm b _ q fun z => z)]; exact q, fun b u xs q => by rw [upd_ne (hm b _ q fun z => z)]; exact q, fun b ps q => ⟨#[], by rw [upd_ne (hm b _ q fun z => z), q]; simp⟩⟩
  by_cases hbe : b = e
  · subst hbe; exact heo
  · exact ⟨u, k b u hbe q⟩
end

/-! ### the heap without what is tracked -/
def trk (h : Heap) (H : Hp) : List Addr := (List.range h.objs.size).filter fun a => (H a).isSome
def hidT (h : Heap) (H : Hp) : Heap := PySem.W.hideAll h (trk h H)
theorem hidT_size (h : Heap) (H : Hp) : (hidT h H).objs.size = h.objs.size := PySem.W.hideAll_size _ _
theorem hidT_get {h : Heap} {H : Hp} {b : Addr} {o : Obj} (e : h.get? b = some o) (n : H b = none) : (hidT h H).get? b = some o :=
  PySem.W.hideAll_get _ e fun hm => by
    have q : (H b).isSome = true := (List.mem_filter.mp hm).2
    rw [n] at q; simp at q
theorem of_hidT {h : Heap} {H : Hp} {b : Addr} {o : Obj} (e : (hidT h H).get? b = some o) : h.get? b = some o ∧ H b = none := by
  have e' : h.get? b = some o := PySem.W.of_hideAll (trk h H) e
  refine ⟨e', ?_⟩
  cases q : H b with
  | none => rfl
  | some x =>
    have hm : b ∈ trk h H := List.mem_filter.mpr ⟨List.mem_range.mpr (Heap.lt_size e'), by simp [q]⟩
    have z : (hidT h H).get? b = none := PySem.W.hideAll_none (trk h H) hm
    rw [z] at e; cases e

/-! ### OpenK's ledger, filled with every new object but one -/
def allNews (g h : Heap) (L : Addr) : List (Addr × Obj) := (List.range h.objs.size).filterMap fun a => if a = L ∨ (g.get? a).isSome = true then none else (h.get? a).map fun o => (a, o)
def rest (g h : Heap) (L d : Addr) : List (Addr × Obj) := (allNews g h L).filter fun p => decide (p.1 ≠ d)
end L2

namespace L2
open PySem PySem.Spec PyProof.Rows

/-- the module's facts, over the base: the heap at the law's entry without what is tracked there -/
structure Mod (K : PySem.W.Frag) (mg : Str → Option Value) (base : Heap) : Prop where
  kin : K.In base
  glob : base.Ns mainGlobals mg
  blt : ∃ mb, base.Ns builtinsNs mb ∧ ∀ x : Str, x ≠ "__name__" → mb x = bootBuiltins x
  nolimit : base.NoLimit

/-- the context: a def's body (or a comprehension's block) running. base: fixed through the whole law; s₀, H₀: the entry; outer: the frames whose slots others may change (a def's callers); stack: all frames that run;
   ex: iterators that were made ahead of the entry and are walked here (a comprehension's); fn: the names whose cells were made at the entry (a def: all; a comprehension's block: its own); calm: not within an except suite; pn: pins that every state bears; xe: what is wanted of an exception that leaves the code -/
structure Cx where
  prog : Program
  w : World
  K : PySem.W.Frag
  mg : Str → Option Value
  base : Heap
  A : Around
  N : List Str
  s₀ : Shared
  H₀ : Hp
  env : Env
  outer : List Env
  stack : List Env
  ex : List Addr
  fn : Str → Bool
  calm : Bool
  pn : List (Addr × Obj)
  xe : Value → Shared → Prop
/-- the callers' frames -/
def frs (l : List Env) : List Addr := l.filterMap (·.frame)
abbrev Cx.fs (X : Cx) : List Addr := frs X.outer

def Vis (sc : Scope) (x : Str) : Prop := sc.names.lookup x = some .local ∨ sc.names.lookup x = some .cell ∨ sc.names.lookup x = some .free
def Loc (sc : Scope) (x : Str) : Prop := sc.names.lookup x = some .local ∨ sc.names.lookup x = some .cell
def Look (env : Env) (h : Heap) (m : Str → Option Value) (x : Str) (u : Value) : Prop :=
  (env.kindOf x = some .local ∧ m x = some u) ∨ ((env.kindOf x = some .cell ∨ env.kindOf x = some .free) ∧ ∃ c, env.cells.lookup x = some c ∧ h.IsCell c (some u))

structure Cx.Ok (X : Cx) : Prop where
  mod : Mod X.K X.mg X.base
  kind : X.env.scope.kind = .function
  glob : X.env.globals = mainGlobals
  blt : X.env.builtins = builtinsNs
  above : X.s₀.heap.objs.size ≤ X.env.locals
  inj : ∀ x y c, X.env.cells.lookup x = some c → X.env.cells.lookup y = some c → x = y
  has : ∀ x, (X.env.kindOf x = some .cell ∨ X.env.kindOf x = some .free) → ∃ c, X.env.cells.lookup x = some c
  cab : ∀ x c, X.fn x = true → X.env.cells.lookup x = some c → X.s₀.heap.objs.size ≤ c
  hd : X.calm = true → X.A.handled = none
  frames : X.A.frames = some X.stack
  stk : X.stack = X.outer ∨ (X.stack = X.env :: X.outer ∧ X.env.frame = some X.env.locals)
  exf : ∀ b ∈ X.ex, b ≠ X.env.locals ∧ ∀ x c, X.env.cells.lookup x = some c → c ≠ b
  bs : ∀ b o, X.base.get? b = some o → X.s₀.heap.get? b = some o ∧ X.H₀ b = none
  bsz : X.base.objs.size ≤ X.s₀.heap.objs.size
  noex : ∀ b o, X.base.get? b = some o → b ∉ X.ex
  exfs : ∀ b ∈ X.ex, b ∉ X.fs
  funs : X.s₀.heap.FunFrames X.base X.outer
  frf : ∀ b ∈ X.fs, X.H₀ b = none

structure Inv (X : Cx) (pins : List (Addr × Obj)) (σ : List (Option V)) (H : Hp) (s : Shared) : Prop where
  ok : X.Ok
  os : s.os = X.s₀.os
  bare : AllBare s.gens
  base : Un X.fs X.ex X.H₀ H X.s₀.heap s.heap
  loc : ∃ m, s.heap.Ns X.env.locals m ∧ ∀ (i : Nat) (x : Str) (v : V), X.N[i]? = some x → σ[i]? = some (some v) → Vis X.env.scope x → ∃ u, RelV v u ∧ Look X.env s.heap m x u
  cell : ∀ x c, X.env.cells.lookup x = some c → ∃ v, s.heap.IsCell c v
  free : H X.env.locals = none
  freeC : ∀ x c, X.env.cells.lookup x = some c → H c = none
  pin : ∀ p ∈ X.pn ++ pins, s.heap.get? p.1 = some p.2 ∧ H p.1 = none ∧ p.1 ≠ X.env.locals ∧ p.1 ∉ X.fs ∧ ∀ v, p.2.data ≠ .cell v
  hok : HOk X.prog X.w H s.heap
  len : σ.length = X.N.length

section
variable {X : Cx} {pins : List (Addr × Obj)} {σ : List (Option V)} {H H' : Hp} {s : Shared} {h' : Heap}

theorem Cx.Ok.nofr (ok : X.Ok) {b : Addr} {o : Obj} (e : X.base.get? b = some o) : b ∉ X.fs := fun hb => by
  have := (ok.funs.mem hb).1
  rw [e] at this; cases this
theorem Inv.bs (I : Inv X pins σ H s) : ∀ b o, X.base.get? b = some o → s.heap.get? b = some o ∧ H b = none := fun b o e =>
  ⟨I.base.keep b o (I.ok.bs b o e).1 (I.ok.bs b o e).2 (I.ok.nofr e) (I.ok.noex b o e), I.base.free b o (I.ok.bs b o e).1 (I.ok.bs b o e).2 (I.ok.noex b o e)⟩
theorem Inv.bk (I : Inv X pins σ H s) : ∀ b o, X.base.get? b = some o → s.heap.get? b = some o := fun b o e => (I.bs b o e).1
theorem Inv.mod (I : Inv X pins σ H s) : Mod X.K X.mg X.base := I.ok.mod
theorem Inv.kIn (I : Inv X pins σ H s) : X.K.In s.heap := I.ok.mod.kin.keeps I.bk
theorem Inv.lt (I : Inv X pins σ H s) : X.env.locals < s.heap.objs.size := let ⟨_, hn, _⟩ := I.loc; hn.lt
theorem Inv.sz (I : Inv X pins σ H s) : X.s₀.heap.objs.size ≤ s.heap.objs.size := Nat.le_trans I.ok.above (Nat.le_of_lt I.lt)
theorem Inv.nofs (I : Inv X pins σ H s) {a : Addr} (h : s.heap.objs.size ≤ a) : a ∉ X.fs := fun hb => by
  obtain ⟨_, o, ho, _⟩ := I.ok.funs.mem hb
  exact absurd (Nat.lt_of_lt_of_le (Heap.lt_size ho) (Nat.le_trans I.sz h)) (Nat.lt_irrefl _)
theorem Inv.cne (I : Inv X pins σ H s) : ∀ x c, X.env.cells.lookup x = some c → c ≠ X.env.locals := fun x c e z => by
  obtain ⟨v, o, ho, hd⟩ := I.cell x c e
  obtain ⟨m, ⟨o', es, ep, ho', hd', _⟩, _⟩ := I.loc
  rw [z, ho'] at ho; cases ho; rw [hd'] at hd; cases hd
theorem Inv.funs (I : Inv X pins σ H s) : s.heap.FunFrames X.base X.outer := by
  have all : ∀ (l : List Env), (∀ b ∈ frs l, b ∈ X.fs) → X.s₀.heap.FunFrames X.base l → s.heap.FunFrames X.base l := by
    intro l
    induction l with
    | nil => intro _ _; trivial
    | cons env r ih =>
      intro hs hl
      obtain ⟨hk, ⟨L, o, hf, hn, ho, hd⟩, hr⟩ := hl
      have hL : L ∈ X.fs := hs L (by unfold frs; rw [List.filterMap_cons, hf]; exact List.mem_cons_self)
      obtain ⟨sl, e⟩ := I.base.slot L o ho (I.ok.frf L hL) hL fun z => I.ok.exfs L z hL
      exact ⟨hk, ⟨L, _, hf, hn, e, hd⟩, ih (fun b hb => hs b (by unfold frs; rw [List.filterMap_cons, hf]; exact List.mem_cons_of_mem _ hb)) hr⟩
  exact all X.outer (fun _ hb => hb) I.ok.funs

/-- the frames that run, for a call -/
theorem Inv.stack (I : Inv X pins σ H s) : s.heap.FunFrames X.base X.stack := by
  rcases I.ok.stk with e | ⟨e, hf⟩
  · rw [e]; exact I.funs
  · rw [e]
    obtain ⟨m, hn, _⟩ := I.loc
    refine .cons (by rw [I.ok.kind]; decide) hf hn ?_ I.funs
    exact Heap.get?_none_of_le (Nat.le_trans I.ok.bsz I.ok.above)
theorem Inv.stkSub (I : Inv X pins σ H s) : ∀ b ∈ frs X.stack, b ∈ X.env.locals :: X.fs := fun b hb => by
  rcases I.ok.stk with e | ⟨e, hf⟩
  · rw [e] at hb; exact List.mem_cons_of_mem _ hb
  · rw [e] at hb
    unfold frs at hb
    rw [List.filterMap_cons, hf] at hb
    exact hb
theorem Inv.stkFree (I : Inv X pins σ H s) : ∀ b ∈ frs X.stack, H b = none := fun b hb => by
  rcases List.mem_cons.mp (I.stkSub b hb) with e | hb
  · rw [e]; exact I.free
  · obtain ⟨_, o, ho, _⟩ := I.ok.funs.mem hb
    exact I.base.free b o ho (I.ok.frf b hb) fun z => I.ok.exfs b z hb

/-- THE STEP: the untracked objects but the frame and the records at ch are kept (the callers' frames up to slots), the frame's map is kept, the new abstract heap is held -/
theorem Inv.step {g' : Array GenState} {t' : Nat} {d' : Drawn} {ch : List Addr} (I : Inv X pins σ H s)
    (hch : ∀ b ∈ ch, (b ∈ X.ex ∨ X.s₀.heap.objs.size ≤ b) ∧ b ≠ X.env.locals ∧ (∀ x c, X.env.cells.lookup x = some c → c ≠ b) ∧ ∀ p ∈ X.pn ++ pins, p.1 ≠ b)
    (keep : ∀ b o, b ≠ X.env.locals → b ∉ X.fs → b ∉ ch → s.heap.get? b = some o → H b = none → h'.get? b = some o)
    (slot : ∀ b o, b ≠ X.env.locals → b ∈ X.fs → b ∉ ch → s.heap.get? b = some o → H b = none → ∃ sl, h'.get? b = some { o with slots := sl }) (free : ∀ b o, b ∉ ch → s.heap.get? b = some o → H b = none → H' b = none)
    (there : ∀ b o, b ∉ ch → s.heap.get? b = some o → ∃ o', h'.get? b = some o')
    (tups : ∀ b xs, H b = some (.tup xs) → H' b = some (.tup xs)) (frzs : ∀ b o u, H b = some (.frz o u) → H' b = some (.frz o u)) (tbls : ∀ b ps, H b = some (.tbl ps) → ∃ more, H' b = some (.tbl (ps ++ more)))
    (ns : ∀ m, s.heap.Ns X.env.locals m → h'.Ns X.env.locals m) (hok : HOk X.prog X.w H' h') (hg : AllBare g') :
    Inv X pins σ H' { s with heap := h', gens := g', drawn := d', toks := t' } := by
  have neL : ∀ b o, X.s₀.heap.get? b = some o → b ≠ X.env.locals := fun b o e => Nat.ne_of_lt (Nat.lt_of_lt_of_le (Heap.lt_size e) I.ok.above)
  have neC : ∀ b o, X.s₀.heap.get? b = some o → b ∉ X.ex → b ∉ ch := fun b o e hx hb => by
    rcases (hch b hb).1 with z | z
    · exact hx z
    · exact absurd (Nat.lt_of_lt_of_le (Heap.lt_size e) z) (Nat.lt_irrefl _)
  have cellK : ∀ x c, X.env.cells.lookup x = some c → ∀ v, s.heap.IsCell c v → h'.IsCell c v := fun x c e v ⟨o, ho, hd⟩ => by
    have nch : c ∉ ch := fun z => (hch c z).2.2.1 x c e rfl
    by_cases hc : c ∈ X.fs
    · obtain ⟨sl, q⟩ := slot c o (I.cne x c e) hc nch ho (I.freeC x c e)
      exact ⟨_, q, hd⟩
    · exact ⟨o, keep c o (I.cne x c e) hc nch ho (I.freeC x c e), hd⟩
  refine ⟨I.ok, I.os, hg, ⟨fun b o e n hb hx => ?_, fun b o e n hb hx => ?_, fun b o e n hx => ?_, fun b o e hx => ?_, fun b xs e => tups b xs (I.base.tups b xs e), fun b o xs e => frzs b o xs (I.base.frzs b o xs e), fun b ps e => ?_⟩, ?_, fun x c e => ?_, ?_, fun x c e => ?_, fun p hp => ?_, hok, I.len⟩
  · exact keep b o (neL b o e) hb (neC b o e hx) (I.base.keep b o e n hb hx) (I.base.free b o e n hx)
  · obtain ⟨sl, e1⟩ := I.base.slot b o e n hb hx
    obtain ⟨sl', e2⟩ := slot b _ (neL b o e) hb (neC b o e hx) e1 (I.base.free b o e n hx)
    exact ⟨sl', e2⟩
  · obtain ⟨o', e1⟩ := I.base.there b o e hx
    exact free b o' (neC b o e hx) e1 (I.base.free b o e n hx)
  · obtain ⟨o', e1⟩ := I.base.there b o e hx
    exact there b o' (neC b o e hx) e1
  · obtain ⟨m1, e1⟩ := I.base.tbls b ps e
    obtain ⟨m2, e2⟩ := tbls b _ e1
    exact ⟨m1 ++ m2, by rw [e2, Array.append_assoc]⟩
  · obtain ⟨m, hn, hl⟩ := I.loc
    refine ⟨m, ns m hn, fun i x v e1 e2 e3 => ?_⟩
    obtain ⟨u, r, l⟩ := hl i x v e1 e2 e3
    refine ⟨u, r, ?_⟩
    rcases l with l | ⟨k, c, e, z⟩
    · exact .inl l
    · exact .inr ⟨k, c, e, cellK x c e _ z⟩
  · obtain ⟨v, z⟩ := I.cell x c e
    exact ⟨v, cellK x c e v z⟩
  · obtain ⟨m, ⟨o, _, _, ho, _⟩, _⟩ := I.loc
    exact free _ o (fun z => (hch _ z).2.1 rfl) ho I.free
  · obtain ⟨v, o, ho, hd⟩ := I.cell x c e
    exact free c o (fun z => (hch c z).2.2.1 x c e rfl) ho (I.freeC x c e)
  · obtain ⟨e, n, ne, nf, d⟩ := I.pin p hp
    have nch : p.1 ∉ ch := fun z => (hch p.1 z).2.2.2 p hp rfl
    exact ⟨keep p.1 p.2 ne nf nch e n, free p.1 p.2 nch e n, ne, nf, d⟩
/-- .. where the frame's own object is kept too -/
theorem Inv.un {t' : Nat} (I : Inv X pins σ H s) (u : Un X.fs [] H H' s.heap h') (hok : HOk X.prog X.w H' h') : Inv X pins σ H' { s with heap := h', toks := t' } := by
  obtain ⟨m, ⟨o, es, ep, ho, r⟩, _⟩ := id I.loc
  obtain ⟨sl, hL⟩ := u.any ho I.free (by simp)
  exact I.step (g' := s.gens) (d' := s.drawn) (ch := []) (fun _ z => nomatch z) (fun b o _ hb _ e n => u.keep b o e n hb (by simp)) (fun b o _ hb _ e n => u.slot b o e n hb (by simp)) (fun b o _ e n => u.free b o e n (by simp)) (fun b o _ e => u.there b o e (by simp)) u.tups u.frzs u.tbls (fun m' hm => by
    obtain ⟨o', es', ep', ho', r'⟩ := hm
    rw [ho] at ho'; cases ho'
    exact ⟨_, es', ep', hL, r'⟩) hok I.bare
/-- behind a call (or a comprehension's block): the slots of this frame may have changed too, the records at ch may have turned -/
theorem Inv.call {g' : Array GenState} {t' : Nat} {d' : Drawn} {ch : List Addr} (I : Inv X pins σ H s) (u : Un (frs X.stack) ch H H' s.heap h') (hok : HOk X.prog X.w H' h') (hg : AllBare g')
    (hch : ∀ b ∈ ch, (b ∈ X.ex ∨ X.s₀.heap.objs.size ≤ b) ∧ b ≠ X.env.locals ∧ (∀ x c, X.env.cells.lookup x = some c → c ≠ b) ∧ ∀ p ∈ X.pn ++ pins, p.1 ≠ b) :
    Inv X pins σ H' { s with heap := h', gens := g', drawn := d', toks := t' } := by
  obtain ⟨m, ⟨o, es, ep, ho, r⟩, _⟩ := id I.loc
  obtain ⟨sl, hL⟩ := u.any ho I.free fun z => (hch _ z).2.1 rfl
  exact I.step (ch := ch) hch (fun b o hL hb hc e n => u.keep b o e n (fun z => (List.mem_cons.mp (I.stkSub b z)).elim hL hb) hc) (fun b o _ _ hc e n => u.any e n hc) (fun b o hc e n => u.free b o e n hc) (fun b o hc e => u.there b o e hc) u.tups u.frzs u.tbls (fun m' hm => by
    obtain ⟨o', es', ep', ho', r'⟩ := hm
    rw [ho] at ho'; cases ho'
    exact ⟨_, es', ep', hL, r'⟩) hok hg
/-- an untracked record of ours (an iterator) has turned -/
theorem Inv.turned {t' : Nat} {it : Addr} (I : Inv X pins σ H s) (k : ∀ b o, b ≠ it → s.heap.get? b = some o → h'.get? b = some o) (hn : H it = none) (hL : it ≠ X.env.locals)
    (h1 : it ∈ X.ex ∨ X.s₀.heap.objs.size ≤ it) (h2 : ∀ x c, X.env.cells.lookup x = some c → c ≠ it) (h3 : ∀ p ∈ X.pn ++ pins, p.1 ≠ it) : Inv X pins σ H { s with heap := h', toks := t' } := by
  have nit : ∀ b u, H b = some u → b ≠ it := fun b u e z => by rw [z, hn] at e; cases e
  refine I.step (g' := s.gens) (d' := s.drawn) (ch := [it]) (fun b hb => ?_) (fun b o _ _ hc e _ => k b o (fun z => hc (by simp [z])) e) (fun b o _ _ hc e _ => ⟨o.slots, k b o (fun z => hc (by simp [z])) e⟩) (fun _ _ _ _ n => n)
    (fun b o hc e => ⟨o, k b o (fun z => hc (by simp [z])) e⟩) (fun _ _ e => e) (fun _ _ _ e => e) (fun b ps e => ⟨#[], by rw [e]; simp⟩) (fun m hm => ?_) (fun b u e => ?_) I.bare
  · have e : b = it := by simpa using hb
    subst e
    exact ⟨h1, hL, h2, h3⟩
  · obtain ⟨o, es, ep, ho, r⟩ := hm
    exact ⟨o, es, ep, k _ o (Ne.symm hL) ho, r⟩
  · refine (I.hok b u e).stay (fun c v hc q => k c v ?_ q) (fun _ q => q) fun _ _ q => q
    rcases hc with z | z
    · rw [z]; exact nit b u e
    · exact nit c _ z
theorem Inv.tok (I : Inv X pins σ H s) (t : Nat) : Inv X pins σ H { s with toks := t } := I.un (h' := s.heap) (t' := t) Un.refl I.hok
/-- all objects kept -/
theorem Inv.kept {t' : Nat} (I : Inv X pins σ H s) (k : ∀ b u, s.heap.get? b = some u → h'.get? b = some u) : Inv X pins σ H { s with heap := h', toks := t' } := I.un (Un.kept k) (I.hok.kept k)
/-- a new object laid and tracked -/
theorem Inv.laid {a : Addr} {o : HO} {t' : Nat} (I : Inv X pins σ H s) (k : ∀ b u, s.heap.get? b = some u → h'.get? b = some u) (hp : s.heap.objs.size ≤ a) (new : ObjOk X.prog X.w (upd H a o) h' a o) :
    Inv X pins σ (upd H a o) { s with heap := h', toks := t' } := I.un (Un.laid k hp (I.hok.fresh hp)) (I.hok.laid k hp new)
/-- an object written -/
theorem Inv.write {x e : Addr} {o : HO} {t' : Nat} (I : Inv X pins σ H s) (mu : Mut (H x)) (he : e = x ∨ H e = some (.own x)) (k : ∀ b u, b ≠ e → s.heap.get? b = some u → h'.get? b = some u) (heo : ∃ u, h'.get? e = some u)
    (new : ObjOk X.prog X.w (upd H x o) h' x o) : Inv X pins σ (upd H x o) { s with heap := h', toks := t' } := I.un (Un.write mu he k heo) (I.hok.write mu he k heo new)
theorem Inv.pins_of {pins' : List (Addr × Obj)} (I : Inv X pins σ H s) (h : ∀ p ∈ pins', s.heap.get? p.1 = some p.2 ∧ H p.1 = none ∧ p.1 ≠ X.env.locals ∧ p.1 ∉ X.fs ∧ ∀ v, p.2.data ≠ .cell v) : Inv X pins' σ H s :=
  ⟨I.ok, I.os, I.bare, I.base, I.loc, I.cell, I.free, I.freeC, fun p hp => (List.mem_append.mp hp).elim (fun z => I.pin p (List.mem_append_left _ z)) (h p), I.hok, I.len⟩

theorem nodup_ix {N : List Str} (hN : N.Nodup) {i j : Nat} {x : Str} (a : N[i]? = some x) (b : N[j]? = some x) : i = j := by
  obtain ⟨h1, e1⟩ := List.getElem?_eq_some_iff.mp a
  obtain ⟨h2, e2⟩ := List.getElem?_eq_some_iff.mp b
  exact (List.getElem_inj hN).mp (e1.trans e2.symm)

/-- a name is stored; what changed -/
theorem store_ok2 {M : Model} {A : Around} {E : Value → Shared → Prop} {i : Nat} {x : Str} {v : V} {u : Value} {Q : Unit → Shared → Prop} (I : Inv X pins σ H s) (hN : X.N.Nodup) (hi : X.N[i]? = some x) (hx : Loc X.env.scope x) (r : RelV v u)
    (h : ∀ s', Inv X pins (σ.set i (some v)) H s' → (∃ a, Heap.SameBut a s.heap s'.heap ∧ (a = X.env.locals ∨ X.env.cells.lookup x = some a)) → Q () s') (hf : X.fn x = true ∨ X.env.scope.names.lookup x = some .local := by first | exact .inl rfl | exact .inr rfl | assumption) : wpAny M A (storeName X.env x u) Q E s := by
  obtain ⟨m, hn, hl⟩ := id I.loc
  have hcls : (X.env.scope.kind == .class || (X.env.scope.kind == .module && X.env.locals != X.env.globals)) = false := by rw [I.ok.kind]; rfl
  have hiσ : i < σ.length := by rw [I.len]; exact (List.getElem?_eq_some_iff.mp hi).1
  have cne := I.cne
  have tracked : ∀ {a : Addr} {h' : Heap}, (∃ o, s.heap.get? a = some o ∧ H a = none) → Heap.SameBut a s.heap h' → HOk X.prog X.w H h' := fun {a h'} ha hs b ob e => by
    obtain ⟨_, _, hfree⟩ := ha
    refine (I.hok b ob e).stay (fun c w' hc q => (hs.2 c ?_).trans q) (fun _ q => q) fun _ _ q => q
    rintro rfl
    rcases hc with rfl | hc
    · rw [hfree] at e; cases e
    · rw [hfree] at hc; cases hc
  rcases hx with hk | hk
  · refine wpAny_storeName_local hk hn (fun h' hn' hs => ?_) hcls
    obtain ⟨oL, _, _, hoL, _⟩ := id hn
    refine h _ ⟨I.ok, I.os, I.bare, ⟨fun b o e n hb hx => ?_, fun b o e n hb hx => ?_, I.base.free, fun b o e hx => ?_, I.base.tups, I.base.frzs, I.base.tbls⟩, ⟨_, hn', fun j y v' e1 e2 e3 => ?_⟩, fun y c e => ?_, I.free, I.freeC, fun p hp => ?_, tracked ⟨oL, hoL, I.free⟩ hs, by simpa using I.len⟩ ⟨_, hs, .inl rfl⟩
    · exact (hs.2 b (Nat.ne_of_lt (Nat.lt_of_lt_of_le (Heap.lt_size e) I.ok.above))).trans (I.base.keep b o e n hb hx)
    · obtain ⟨sl, e1⟩ := I.base.slot b o e n hb hx
      exact ⟨sl, (hs.2 b (Nat.ne_of_lt (Nat.lt_of_lt_of_le (Heap.lt_size e) I.ok.above))).trans e1⟩
    · obtain ⟨o', e1⟩ := I.base.there b o e hx
      exact ⟨o', (hs.2 b (Nat.ne_of_lt (Nat.lt_of_lt_of_le (Heap.lt_size e) I.ok.above))).trans e1⟩
    · by_cases hj : j = i
      · subst hj
        rw [hi] at e1; cases e1
        rw [List.getElem?_set_self hiσ] at e2
        cases e2
        exact ⟨u, r, .inl ⟨hk, by simp⟩⟩
      · rw [List.getElem?_set_ne (Ne.symm hj)] at e2
        obtain ⟨u', r', q⟩ := hl j y v' e1 e2 e3
        refine ⟨u', r', ?_⟩
        rcases q with ⟨k, e⟩ | ⟨k, c, e, z⟩
        · refine .inl ⟨k, ?_⟩
          have : y ≠ x := fun e => hj (nodup_ix hN e1 (e ▸ hi))
          simp [this, e]
        · exact .inr ⟨k, c, e, z.sameBut hs (cne y c e)⟩
    · obtain ⟨w', z⟩ := I.cell y c e
      exact ⟨w', z.sameBut hs (cne y c e)⟩
    · obtain ⟨e, n, ne, nf, d⟩ := I.pin p hp
      exact ⟨(hs.2 p.1 ne).trans e, n, ne, nf, d⟩
  · have hfn : X.fn x = true := by
      rcases hf with z | z
      · exact z
      · rw [z] at hk; cases hk
    obtain ⟨c, hc⟩ := I.ok.has x (.inl hk)
    obtain ⟨w', z⟩ := I.cell x c hc
    refine wpAny_storeName_cell I.ok.kind hk hc z (fun h' hc' hs => ?_)
    obtain ⟨oc, hoc, hocd⟩ := id z
    refine h { s with heap := h' } ⟨I.ok, I.os, I.bare, ⟨fun b o e n hb hx => ?_, fun b o e n hb hx => ?_, I.base.free, fun b o e hx => ?_, I.base.tups, I.base.frzs, I.base.tbls⟩, ⟨m, hn.sameBut hs (Ne.symm (cne x c hc)), fun j y v' e1 e2 e3 => ?_⟩, fun y c' e => ?_, I.free, I.freeC, fun p hp => ?_, tracked ⟨oc, hoc, I.freeC x c hc⟩ hs, by simpa using I.len⟩ ⟨c, hs, .inr hc⟩
    · exact (hs.2 b (Nat.ne_of_lt (Nat.lt_of_lt_of_le (Heap.lt_size e) (I.ok.cab x c hfn hc)))).trans (I.base.keep b o e n hb hx)
    · obtain ⟨sl, e1⟩ := I.base.slot b o e n hb hx
      exact ⟨sl, (hs.2 b (Nat.ne_of_lt (Nat.lt_of_lt_of_le (Heap.lt_size e) (I.ok.cab x c hfn hc)))).trans e1⟩
    · obtain ⟨o', e1⟩ := I.base.there b o e hx
      exact ⟨o', (hs.2 b (Nat.ne_of_lt (Nat.lt_of_lt_of_le (Heap.lt_size e) (I.ok.cab x c hfn hc)))).trans e1⟩
    · by_cases hj : j = i
      · subst hj
        rw [hi] at e1; cases e1
        rw [List.getElem?_set_self hiσ] at e2
        cases e2
        exact ⟨u, r, .inr ⟨.inl hk, c, hc, hc'⟩⟩
      · rw [List.getElem?_set_ne (Ne.symm hj)] at e2
        obtain ⟨u', r', q⟩ := hl j y v' e1 e2 e3
        refine ⟨u', r', ?_⟩
        rcases q with q | ⟨k, c', e, z'⟩
        · exact .inl q
        · refine .inr ⟨k, c', e, z'.sameBut hs ?_⟩
          rintro rfl
          exact hj (nodup_ix hN e1 (I.ok.inj _ _ _ e hc ▸ hi))
    · by_cases hcc : c' = c
      · subst hcc; exact ⟨_, hc'⟩
      · obtain ⟨w2, z2⟩ := I.cell y c' e
        exact ⟨w2, z2.sameBut hs hcc⟩
    · obtain ⟨e, n, ne, nf, d⟩ := I.pin p hp
      refine ⟨(hs.2 p.1 ?_).trans e, n, ne, nf, d⟩
      intro q
      rw [q, hoc] at e
      have q' : oc = p.2 := Option.some.inj e
      exact d w' (by rw [← q']; exact hocd)
theorem store_ok {M : Model} {A : Around} {E : Value → Shared → Prop} {i : Nat} {x : Str} {v : V} {u : Value} {Q : Unit → Shared → Prop} (I : Inv X pins σ H s) (hN : X.N.Nodup) (hi : X.N[i]? = some x) (hx : Loc X.env.scope x) (r : RelV v u)
    (h : ∀ s', Inv X pins (σ.set i (some v)) H s' → Q () s') (hf : X.fn x = true ∨ X.env.scope.names.lookup x = some .local := by first | exact .inl rfl | exact .inr rfl | assumption) : wpAny M A (storeName X.env x u) Q E s :=
  store_ok2 I hN hi hx r (fun s' I' _ => h s' I') hf
/-- behind a call or a block, the state as it is -/
theorem Inv.call' {s' : Shared} {ch : List Addr} (I : Inv X pins σ H s) (ho : s'.os = s.os) (u : Un (frs X.stack) ch H H' s.heap s'.heap) (hok : HOk X.prog X.w H' s'.heap) (hg : AllBare s'.gens)
    (hch : ∀ b ∈ ch, (b ∈ X.ex ∨ X.s₀.heap.objs.size ≤ b) ∧ b ≠ X.env.locals ∧ (∀ x c, X.env.cells.lookup x = some c → c ≠ b) ∧ ∀ p ∈ X.pn ++ pins, p.1 ≠ b) : Inv X pins σ H' s' := by
  obtain ⟨h', g', d', t', o'⟩ := s'
  have e : o' = s.os := ho
  subst e
  exact I.call (g' := g') (t' := t') (d' := d') u hok hg hch
end

/-! ### the judgements -/
/-- an exception: its class, its own dict's address (where it has one), the abstract heap behind it -/
abbrev XK := Value → Option Addr → Hp → Prop
abbrev St := List (Option V)
abbrev VK := V → Hp → Prop
/-- an expression's reading; a test's; an argument list's -/
abbrev TE := St → Hp → VK → Prop
abbrev TT := St → Hp → (Bool → Hp → Prop) → Prop
abbrev TA := St → Hp → (List V → Hp → Prop) → Prop
/-- what is wanted behind a statement -/
structure Ends where
  nx : St → Hp → Prop
  rt : VK
  bk : St → Hp → Prop := fun _ _ => False
  ct : St → Hp → Prop := fun _ _ => False
abbrev TS := Ends → St → Hp → Prop

def EP (X : Cx) (pins : List (Addr × Obj)) (σ : St) (Q : VK) (u : Value) (s' : Shared) : Prop := ∃ v H', Inv X pins σ H' s' ∧ RelV v u ∧ Q v H'
def TP (X : Cx) (pins : List (Addr × Obj)) (σ : St) (Q : Bool → Hp → Prop) (b : Bool) (s' : Shared) : Prop := ∃ H', Inv X pins σ H' s' ∧ Q b H'
def AP (X : Cx) (pins : List (Addr × Obj)) (σ : St) (Q : List V → Hp → Prop) (us : List Value) (s' : Shared) : Prop := ∃ vs H', Inv X pins σ H' s' ∧ Vals vs us ∧ Q vs H'
def SP (X : Cx) (pins : List (Addr × Obj)) (D : Ends) (f : Flow) (s' : Shared) : Prop :=
  match f with
  | .next => ∃ σ' H', Inv X pins σ' H' s' ∧ D.nx σ' H'
  | .brk => ∃ σ' H', Inv X pins σ' H' s' ∧ D.bk σ' H'
  | .cont => ∃ σ' H', Inv X pins σ' H' s' ∧ D.ct σ' H'
  | .ret u => ∃ v σ' H', Inv X pins σ' H' s' ∧ RelV v u ∧ D.rt v H'

def PE (X : Cx) (e : Expr) (t : TE) : Prop :=
  ∀ (pins : List (Addr × Obj)) (s : Shared) (σ : St) (H : Hp) (Q : VK), Inv X pins σ H s → t σ H Q → wpAny (model X.prog X.w) X.A (eval e X.env) (EP X pins σ Q) X.xe s
def PT (X : Cx) (e : Expr) (t : TT) : Prop :=
  ∀ (pins : List (Addr × Obj)) (s : Shared) (σ : St) (H : Hp) (Q : Bool → Hp → Prop), Inv X pins σ H s → t σ H Q → wpAny (model X.prog X.w) X.A (isTrue e X.env (eval e X.env)) (TP X pins σ Q) X.xe s
/-- a test whatever its 'whole' is (and, or) -/
def PW (X : Cx) (e : Expr) (t : TT) : Prop :=
  ∀ (whole : Sem Value) (pins : List (Addr × Obj)) (s : Shared) (σ : St) (H : Hp) (Q : Bool → Hp → Prop), Inv X pins σ H s → t σ H Q → wpAny (model X.prog X.w) X.A (isTrue e X.env whole) (TP X pins σ Q) X.xe s
theorem PW.pt {X : Cx} {e : Expr} {t : TT} (h : PW X e t) : PT X e t := h _
/-- an argument list (no star), from the left -/
def PA (X : Cx) (es : List Expr) (t : TA) : Prop :=
  ∀ (pos : Pos) (pins : List (Addr × Obj)) (s : Shared) (σ : St) (H : Hp) (Q : List V → Hp → Prop), Inv X pins σ H s → t σ H Q → wpAny (model X.prog X.w) X.A (spliced (backTo pos (starEach es X.env))) (AP X pins σ Q) X.xe s
def PS (X : Cx) (st : Stmt) (t : TS) : Prop :=
  ∀ (pins : List (Addr × Obj)) (s : Shared) (σ : St) (H : Hp) (D : Ends), Inv X pins σ H s → t D σ H → wpAny (model X.prog X.w) X.A (exec st X.env) (SP X pins D) X.xe s
def PSs (X : Cx) (st : List Stmt) (t : TS) : Prop :=
  ∀ (pins : List (Addr × Obj)) (s : Shared) (σ : St) (H : Hp) (D : Ends), Inv X pins σ H s → t D σ H → wpAny (model X.prog X.w) X.A (execs st X.env) (SP X pins D) X.xe s
/-- weaken the end -/
theorem thn {α : Type} {t : Sem α} {Q Q' : α → Shared → Prop} {M : Model} {A : Around} {E : Value → Shared → Prop} {s : Shared} (h : wpAny M A t Q E s) (hQ : ∀ a s, Q a s → Q' a s) : wpAny M A t Q' E s := wpAny_mono h hQ fun _ _ x => x
end L2

namespace L2
open PySem PySem.Spec PyProof.Rows
section
variable {X : Cx}

/-! ### names and constants -/
def tVar (i : Nat) : TE := fun σ H Q => ∃ v, σ[i]? = some (some v) ∧ Q v H
def tC (v : V) : TE := fun _ H Q => Q v H
theorem pe_var {i : Nat} {x : Str} {pos : Pos} (hN : X.N[i]? = some x) (hv : Vis X.env.scope x) (hd : (x == ("__debug__" : Str)) = false := by decide) (hcd : (x == ("__classdict__" : Str)) = false := by decide) : PE X (.Name x pos) (tVar i) := by
  intro pins s σ H Q I h
  obtain ⟨v, e, h⟩ := h
  obtain ⟨m, hn, hl⟩ := I.loc
  obtain ⟨u, r, l⟩ := hl i x v hN e hv
  have fin : EP X pins σ Q u s := ⟨v, H, I, r, h⟩
  rcases l with ⟨hk, hm⟩ | ⟨hk, c, hc, hcell⟩
  · exact wpAny_Name (wpAny_loadName_local I.ok.kind hk hn hm fin) hd
  · rcases hk with hk | hk
    · exact wpAny_Name (wpAny_loadName_cell I.ok.kind hk hc hcell fin) hd
    · exact wpAny_Name (wpAny_loadName_free I.ok.kind hk hc hcell fin hcd) hd
theorem pe_int {i j pos} : PE X (.Constant (.int i) j pos) (tC (.int i)) := fun _ _ _ H _ I h => wpAny_Constant_int ⟨.int i, H, I.tok _, ⟨_, rfl⟩, h⟩
theorem pe_bl {b j pos} : PE X (.Constant (.bool b) j pos) (tC (.bl b)) := fun _ _ _ H _ I h => Constant_bool ⟨.bl b, H, I, rfl, h⟩
theorem pe_non {j pos} : PE X (.Constant .none j pos) (tC .non) := fun _ _ _ H _ I h => Constant_none ⟨.non, H, I, rfl, h⟩
theorem pe_str {x j pos} : PE X (.Constant (.str x) j pos) (tC (.str x)) := fun _ _ _ H _ I h => Calls.Constant_str ⟨.str x, H, I.tok _, ⟨_, rfl⟩, h⟩

/-- a global name of the def -/
def Gl (X : Cx) (x : Str) : Prop := X.env.kindOf x = some .globalImplicit
theorem ld_glob {E : Value → Shared → Prop} {pins : List (Addr × Obj)} {s : Shared} {σ : St} {H : Hp} {x : Str} {u : Value} {pos : Pos} {Q : Value → Shared → Prop} (I : Inv X pins σ H s) (hg : Gl X x) (hm : X.mg x = some u) (h : Q u s)
    (hd : (x == ("__debug__" : Str)) = false := by decide) : wpAny (model X.prog X.w) X.A (eval (.Name x pos) X.env) Q E s :=
  Calls.Name_function_global I.ok.kind hg (Calls.loadGlobal_global (by rw [I.ok.glob]; exact I.mod.glob.keeps I.bk) hm h) hd
theorem ld_blt {E : Value → Shared → Prop} {pins : List (Addr × Obj)} {s : Shared} {σ : St} {H : Hp} {x : Str} {u : Value} {pos : Pos} {Q : Value → Shared → Prop} (I : Inv X pins σ H s) (hg : Gl X x) (hm : X.mg x = none) (hv : bootBuiltins x = some u) (h : Q u s)
    (hn : x ≠ "__name__" := by decide) (hd : (x == ("__debug__" : Str)) = false := by decide) : wpAny (model X.prog X.w) X.A (eval (.Name x pos) X.env) Q E s := by
  obtain ⟨mb, h1, h2⟩ := I.mod.blt
  exact Calls.Name_function_global I.ok.kind hg (Calls.loadGlobal_builtin (by rw [I.ok.glob]; exact I.mod.glob.keeps I.bk) hm (by rw [I.ok.blt]; exact h1.keeps I.bk) ((h2 x hn).trans hv) h) hd
/-- a module's constant, a class, a function, as a value -/
theorem pe_glob {x : Str} {v : V} {u : Value} {pos : Pos} (hg : Gl X x) (hm : X.mg x = some u) (r : RelV v u) (hd : (x == ("__debug__" : Str)) = false := by decide) : PE X (.Name x pos) (tC v) :=
  fun _ _ _ H _ I h => ld_glob I hg hm ⟨v, H, I, r, h⟩ hd
theorem pe_bltn {x : Str} {v : V} {u : Value} {pos : Pos} (hg : Gl X x) (hm : X.mg x = none) (hv : bootBuiltins x = some u) (r : RelV v u) (hn : x ≠ "__name__" := by decide) (hd : (x == ("__debug__" : Str)) = false := by decide) : PE X (.Name x pos) (tC v) :=
  fun _ _ _ H _ I h => ld_blt I hg hm hv ⟨v, H, I, r, h⟩ hn hd

/-! ### arithmetic -/
/-- two ints -/
def t2I (ta tb : TE) (k : Int → Int → Hp → Prop) : St → Hp → Prop := fun σ H => ta σ H fun x H1 => tb σ H1 fun y H2 => ∃ i j, x = .int i ∧ y = .int j ∧ k i j H2
def tAdd (ta tb : TE) : TE := fun σ H Q => t2I ta tb (fun i j H2 => Q (.int (i + j)) H2) σ H
def tSub (ta tb : TE) : TE := fun σ H Q => t2I ta tb (fun i j H2 => Q (.int (i - j)) H2) σ H
/-- the left factor below 2^64 -/
def tMul (ta tb : TE) : TE := fun σ H Q => t2I ta tb (fun i j H2 => (-(2 ^ 64) < i ∧ i < 2 ^ 64) ∧ Q (.int (i * j)) H2) σ H
variable {a b : Expr} {ta tb : TE} {pos : Pos}
/-! ### comparisons -/
def PC (X : Cx) (op : CmpOp) (a b : Expr) (t : TE) : Prop :=
  ∀ (pins : List (Addr × Obj)) (s : Shared) (σ : St) (H : Hp) (Q : VK), Inv X pins σ H s → t σ H Q →
    wpAny (model X.prog X.w) X.A (eval a X.env) (fun v s₁ => wpAny (model X.prog X.w) X.A (eval b X.env) (fun u s₂ => wpAny (model X.prog X.w) X.A (compareOp op v u) (EP X pins σ Q) X.xe s₂) X.xe s₁) X.xe s
def tCmp (p : Int → Int → Bool) (ta tb : TE) : TE := fun σ H Q => t2I ta tb (fun i j H2 => Q (.bl (p i j)) H2) σ H
abbrev tLt : TE → TE → TE := tCmp fun i j => decide (i < j)
abbrev tLe : TE → TE → TE := tCmp fun i j => decide (i ≤ j)
abbrev tGt : TE → TE → TE := tCmp fun i j => decide (j < i)
abbrev tGe : TE → TE → TE := tCmp fun i j => decide (j ≤ i)
abbrev tEqI : TE → TE → TE := tCmp fun i j => decide (i = j)
abbrev tNeI : TE → TE → TE := tCmp fun i j => !decide (i = j)
/-- is None -/
def tIsN (ta : TE) : TE := fun σ H Q => ta σ H fun x H1 => Q (.bl (decide (x = .non))) H1
def tNotN (ta : TE) : TE := fun σ H Q => ta σ H fun x H1 => Q (.bl (!decide (x = .non))) H1
/-- a comparison as a value, as a test -/
def tB (t : TE) : TT := fun σ H Q => t σ H fun x H1 => ∃ c, x = .bl c ∧ Q c H1
/-- an expression whose value is a bool, as a test -/
theorem pt_val {e : Expr} {t : TE} (h : PE X e t) (he : ∀ whole, isTrue e X.env whole = (do let v ← whole; standAt e.pos; holding [v] (truthy v)) := by intro _; rfl) : PT X e (tB t) := by
  intro pins s σ H Q I hw
  refine isTrue_plain (thn (h pins s σ H _ I hw) fun v s1 ⟨x, H1, I1, r1, q1⟩ => ?_) (he _)
  obtain ⟨d, rfl, q⟩ := q1
  cases r1
  exact wpAny_truthy_bool ⟨H1, I1, q⟩

/-! ### and, or, not -/
variable {tA tB' : TT} {rest : List Expr}
def tAnd (t u : TT) : TT := fun σ H Q => t σ H fun c H1 => if c = true then u σ H1 Q else Q false H1
def tOr (t u : TT) : TT := fun σ H Q => t σ H fun c H1 => if c = true then Q true H1 else u σ H1 Q
def tNot (t : TT) : TT := fun σ H Q => t σ H fun c H1 => Q (!c) H1
theorem pw_and1 (ha : PT X a tA) : PW X (.BoolOp .And [a] pos) tA := by
  intro wh pins s σ H Q I h
  refine isTrue_and (thn (ha pins s σ H Q I h) fun c s1 e => ?_)
  cases c with
  | true => exact isTrue_and_nil e
  | false => exact e
theorem pw_or1 (ha : PT X a tA) : PW X (.BoolOp .Or [a] pos) tA := by
  intro wh pins s σ H Q I h
  refine isTrue_or (thn (ha pins s σ H Q I h) fun c s1 e => ?_)
  cases c with
  | false => exact isTrue_or_nil e
  | true => exact e
theorem pw_and (ha : PT X a tA) (hb : PW X (.BoolOp .And (b :: rest) pos) tB') : PW X (.BoolOp .And (a :: b :: rest) pos) (tAnd tA tB') := by
  intro wh pins s σ H Q I h
  refine isTrue_and (thn (ha pins s σ H _ I h) fun c s1 ⟨H1, I1, q1⟩ => ?_)
  cases c with
  | true => exact hb wh pins s1 σ H1 Q I1 q1
  | false => exact ⟨H1, I1, q1⟩
theorem pw_or (ha : PT X a tA) (hb : PW X (.BoolOp .Or (b :: rest) pos) tB') : PW X (.BoolOp .Or (a :: b :: rest) pos) (tOr tA tB') := by
  intro wh pins s σ H Q I h
  refine isTrue_or (thn (ha pins s σ H _ I h) fun c s1 ⟨H1, I1, q1⟩ => ?_)
  cases c with
  | true => exact ⟨H1, I1, q1⟩
  | false => exact hb wh pins s1 σ H1 Q I1 q1
theorem pt_not (ha : PT X a tA) : PT X (.UnaryOp .Not a pos) (tNot tA) := by
  intro pins s σ H Q I h
  exact isTrue_not (ha pins s σ H (fun c H1 => Q (!c) H1) I h)
/-- .. as values (bools) -/
def tAndV (ta tb : TE) : TE := fun σ H Q => ta σ H fun x H1 => ∃ c, x = .bl c ∧ if c = true then tb σ H1 Q else Q (.bl false) H1
def tOrV (ta tb : TE) : TE := fun σ H Q => ta σ H fun x H1 => ∃ c, x = .bl c ∧ if c = true then Q (.bl true) H1 else tb σ H1 Q
def tNotV (ta : TE) : TE := fun σ H Q => ta σ H fun x H1 => ∃ c, x = .bl c ∧ Q (.bl (!c)) H1
theorem pe_one {op} {t : TE} (h : PE X a t) : PE X (.BoolOp op [a] pos) t := fun pins s σ H Q I hw => BoolOp_one (h pins s σ H Q I hw)
theorem pe_and (ha : PE X a ta) (hb : PE X (.BoolOp .And (b :: rest) pos) tb) : PE X (.BoolOp .And (a :: b :: rest) pos) (tAndV ta tb) := by
  intro pins s σ H Q I h
  refine BoolOp_and (thn (ha pins s σ H _ I h) fun v s1 ⟨x, H1, I1, r1, q1⟩ => ?_)
  obtain ⟨c, rfl, q1⟩ := q1
  cases r1
  refine wpAny_truthy_bool ?_
  cases c with
  | true => exact hb pins s1 σ H1 Q I1 q1
  | false => exact ⟨.bl false, H1, I1, rfl, q1⟩
theorem pe_or (ha : PE X a ta) (hb : PE X (.BoolOp .Or (b :: rest) pos) tb) : PE X (.BoolOp .Or (a :: b :: rest) pos) (tOrV ta tb) := by
  intro pins s σ H Q I h
  refine BoolOp_or (thn (ha pins s σ H _ I h) fun v s1 ⟨x, H1, I1, r1, q1⟩ => ?_)
  obtain ⟨c, rfl, q1⟩ := q1
  cases r1
  refine wpAny_truthy_bool ?_
  cases c with
  | false => exact hb pins s1 σ H1 Q I1 q1
  | true => exact ⟨.bl true, H1, I1, rfl, q1⟩
theorem pe_not (ha : PE X a ta) : PE X (.UnaryOp .Not a pos) (tNotV ta) := by
  intro pins s σ H Q I h
  refine UnaryOp_ (thn (ha pins s σ H _ I h) fun v s1 ⟨x, H1, I1, r1, q1⟩ => ?_)
  obtain ⟨c, rfl, q1⟩ := q1
  cases r1
  exact not_of (wpAny_truthy_bool ⟨.bl (!c), H1, I1, rfl, q1⟩)
/-- a if t else b -/
def tIf (t : TT) (ta tb : TE) : TE := fun σ H Q => t σ H fun c H1 => if c = true then ta σ H1 Q else tb σ H1 Q
end
end L2

namespace L2
open PySem PySem.Spec PyProof.Rows

/-! ### a list, a tuple that is read: tracked, frozen, or an object of the module -/
def SqL (K : PySem.W.Frag) (H : Hp) (a : Addr) (xs : List V) : Prop :=
  Rd H a (.lst xs) ∨
    ∃ (o : Obj) (its : Array Value) (n : Nat), K.lookup a = some o ∧ o.cls = .type "list" ∧ o.dict = none ∧ o.data = .seq its n ∧ its.size ≤ sizeLine ∧ Vals xs its.toList
def SqT (K : PySem.W.Frag) (H : Hp) (a : Addr) (xs : List V) : Prop :=
  Rd H a (.tup xs) ∨
    ∃ (o : Obj) (its : Array Value) (n : Nat), K.lookup a = some o ∧ o.cls = .type "tuple" ∧ o.data = .seq its n ∧ its.size ≤ sizeLine ∧ Vals xs its.toList
def absV : Value → Option V
  | .none => some .non
  | .bool b => some (.bl b)
  | .int i _ => some (.int i)
  | .str x _ => some (.str x)
  | .bytes b _ => some (.byt b)
  | .float b _ => some (.flt b)
  | .ref a => some (.ref a)
  | .type n => some (.ty n)
  | _ => none
theorem RelV.abs {x : V} {u : Value} (r : RelV x u) : absV u = some x := by
  cases x with
  | non => cases r; rfl
  | bl _ => cases r; rfl
  | int _ => obtain ⟨t, rfl⟩ := r; rfl
  | str _ => obtain ⟨t, rfl⟩ := r; rfl
  | byt _ => obtain ⟨t, rfl⟩ := r; rfl
  | flt _ => obtain ⟨t, rfl⟩ := r; rfl
  | ref _ => cases r; rfl
  | ty _ => cases r; rfl
theorem RelV.inj {x y : V} {u : Value} (r : RelV x u) (q : RelV y u) : x = y := Option.some.inj (r.abs.symm.trans q.abs)
theorem Vals.inj : ∀ {xs ys : List V} {us : List Value}, Vals xs us → Vals ys us → xs = ys
  | _, _, _, .nil, .nil => rfl
  | _, _, _, .cons r t, .cons r' t' => by rw [r.inj r', Vals.inj t t']
section
variable {X : Cx} {pins : List (Addr × Obj)} {σ : St} {H : Hp} {s : Shared} {a : Addr} {xs ys : List V}
theorem SqL.of {K : PySem.W.Frag} (h : H a = some (.lst xs)) : SqL K H a xs := .inl (.inl h)
theorem SqT.of {K : PySem.W.Frag} (h : H a = some (.tup xs)) : SqT K H a xs := .inl (.inl h)
theorem Inv.list (I : Inv X pins σ H s) (h : SqL X.K H a xs) : ∃ its : List Value, Vals xs its ∧ PlainL s.heap a its.toArray ∧ xs.length ≤ sizeLine := by
  rcases h with h | ⟨o, its, n, hk, hc, hd, hs, hz, r⟩
  · obtain ⟨z, its, n, r, e⟩ := h.ok I.hok
    exact ⟨its, r, ⟨_, n, e, rfl, rfl, rfl⟩, z⟩
  · refine ⟨its.toList, r, ⟨o, n, I.kIn a o hk, hc, hd, by simpa using hs⟩, ?_⟩
    have e := r.length
    simp only [Array.length_toList] at e
    omega
theorem Inv.tuple (I : Inv X pins σ H s) (h : SqT X.K H a xs) : ∃ its : List Value, Vals xs its ∧ IsTup s.heap a its.toArray ∧ xs.length ≤ sizeLine := by
  rcases h with h | ⟨o, its, n, hk, hc, hs, hz, r⟩
  · obtain ⟨z, its, r, p⟩ := h.ok I.hok
    exact ⟨its, r, p, z⟩
  · refine ⟨its.toList, r, ⟨o, I.kIn a o hk, hc, n, by simpa using hs⟩, ?_⟩
    have e := r.length
    simp only [Array.length_toList] at e
    omega
theorem Inv.list_inj (I : Inv X pins σ H s) (h : SqL X.K H a xs) (h' : SqL X.K H a ys) : xs = ys := by
  obtain ⟨its, r, ⟨o, n, e, _, _, d⟩, _⟩ := I.list h
  obtain ⟨its', r', ⟨o', n', e', _, _, d'⟩, _⟩ := I.list h'
  rw [e] at e'; cases e'
  rw [d] at d'
  injection d' with d1 _
  have : its = its' := by simpa using congrArg Array.toList d1
  subst this
  exact r.inj r'
theorem Inv.tuple_inj (I : Inv X pins σ H s) (h : SqT X.K H a xs) (h' : SqT X.K H a ys) : xs = ys := by
  obtain ⟨its, r, ⟨o, e, _, n, d⟩, _⟩ := I.tuple h
  obtain ⟨its', r', ⟨o', e', _, n', d'⟩, _⟩ := I.tuple h'
  rw [e] at e'; cases e'
  rw [d] at d'
  injection d' with d1 _
  have : its = its' := by simpa using congrArg Array.toList d1
  subst this
  exact r.inj r'
end

/-! ### another wish about exceptions -/
abbrev Cx.wish (X : Cx) (E : Value → Shared → Prop) : Cx := { X with xe := E }
/-- no exception leaves -/
abbrev Cx.nox (X : Cx) : Cx := X.wish fun _ _ => False
theorem Cx.Ok.wish {X : Cx} (ok : X.Ok) (E : Value → Shared → Prop) : (X.wish E).Ok :=
  ⟨ok.mod, ok.kind, ok.glob, ok.blt, ok.above, ok.inj, ok.has, ok.cab, ok.hd, ok.frames, ok.stk, ok.exf, ok.bs, ok.bsz, ok.noex, ok.exfs, ok.funs, ok.frf⟩
theorem Cx.Ok.unwish {X : Cx} {E : Value → Shared → Prop} (ok : (X.wish E).Ok) : X.Ok :=
  ⟨ok.mod, ok.kind, ok.glob, ok.blt, ok.above, ok.inj, ok.has, ok.cab, ok.hd, ok.frames, ok.stk, ok.exf, ok.bs, ok.bsz, ok.noex, ok.exfs, ok.funs, ok.frf⟩
section
variable {X : Cx} {pins : List (Addr × Obj)} {σ : St} {H : Hp} {s : Shared} {E : Value → Shared → Prop}
theorem Inv.wish (I : Inv X pins σ H s) (E : Value → Shared → Prop) : Inv (X.wish E) pins σ H s := ⟨I.ok.wish E, I.os, I.bare, I.base, I.loc, I.cell, I.free, I.freeC, I.pin, I.hok, I.len⟩
theorem Inv.unwish (I : Inv (X.wish E) pins σ H s) : Inv X pins σ H s := ⟨I.ok.unwish, I.os, I.bare, I.base, I.loc, I.cell, I.free, I.freeC, I.pin, I.hok, I.len⟩
theorem SP.unwish {D : Ends} {f : Flow} {s' : Shared} (h : SP (X.wish E) pins D f s') : SP X pins D f s' := by
  cases f with
  | next => obtain ⟨σ', H', I, q⟩ := h; exact ⟨σ', H', I.unwish, q⟩
  | brk => obtain ⟨σ', H', I, q⟩ := h; exact ⟨σ', H', I.unwish, q⟩
  | cont => obtain ⟨σ', H', I, q⟩ := h; exact ⟨σ', H', I.unwish, q⟩
  | ret u => obtain ⟨v, σ', H', I, r, q⟩ := h; exact ⟨v, σ', H', I.unwish, r, q⟩
theorem PSs.nox {st : List Stmt} {t : TS} (h : PSs X.nox st t) : PSs X st t := fun pins s σ H D I hw =>
  wpAny_mono (h pins s σ H D (I.wish _) hw) (fun _ _ q => q.unwish) fun _ _ z => False.elim z
end

/-! ### blocks and small statements -/
section
variable {X : Cx} {st : Stmt} {rest : List Stmt} {t u : TS} {e : Expr} {te : TE} {pos : Pos}
def tNext : TS := fun D σ H => D.nx σ H
def tSeq (t u : TS) : TS := fun D σ H => t { D with nx := u D } σ H
theorem pss_nil : PSs X [] tNext := fun _ _ σ H _ I h => wpAny_execs_nil ⟨σ, H, I, h⟩
theorem pss_cons (h1 : PS X st t) (h2 : PSs X rest u) : PSs X (st :: rest) (tSeq t u) := by
  intro pins s σ H D I h
  refine wpAny_execs_cons (thn (h1 pins s σ H { D with nx := u D } I h) fun f s1 q => ?_)
  cases f with
  | next =>
    obtain ⟨σ', H', I', q⟩ := q
    exact h2 pins s1 σ' H' D I' q
  | ret v => exact q
  | brk => exact q
  | cont => exact q
theorem pss_one (h1 : PS X st t) : PSs X [st] t := by
  intro pins s σ H D I h
  refine wpAny_execs_cons (thn (h1 pins s σ H D I h) fun f s1 q => ?_)
  cases f with
  | next => exact wpAny_execs_nil q
  | ret v => exact q
  | brk => exact q
  | cont => exact q
def tBreak : TS := fun D σ H => D.bk σ H
def tCont : TS := fun D σ H => D.ct σ H
/-- in a def's body nothing is shown -/
theorem Inv.quiet {pins : List (Addr × Obj)} {σ : St} {H : Hp} {s : Shared} (I : Inv X pins σ H s) : interactive X.env = false := by simp [interactive, I.ok.kind]
/-- an expression whose value is dropped -/
def tDrop (te : TE) : TS := fun D σ H => te σ H fun _ H1 => D.nx σ H1
theorem ps_expr (he : PE X e te) (hs : swapsWith e none pos.line X.env = pure false := by rfl) : PS X (.Expr e pos) (tDrop te) := by
  intro pins s σ H D I h
  exact wpAny_Expr_any (thn (he pins s σ H _ I h) fun v s1 ⟨x, H1, I1, r1, q1⟩ => ⟨σ, H1, I1, q1⟩) I.quiet hs
def tRet (te : TE) : TS := fun D σ H => te σ H D.rt
theorem ps_ret (he : PE X e te) : PS X (.Return (some e) pos) (tRet te) := by
  intro pins s σ H D I h
  exact wpAny_Return_some (thn (he pins s σ H _ I h) fun v s1 ⟨x, H1, I1, r1, q1⟩ => ⟨x, σ, H1, I1, r1, q1⟩)
def tRetN : TS := fun D _ H => D.rt .non H
def tIfS (c : TT) (t u : TS) : TS := fun D σ H => c σ H fun b H1 => if b = true then t D σ H1 else u D σ H1
theorem ps_if {c : Expr} {a b : List Stmt} {tc : TT} (hc : PT X c tc) (ha : PSs X a t) (hb : PSs X b u) : PS X (.If c a b pos) (tIfS tc t u) := by
  intro pins s σ H D I h
  refine wpAny_If (thn (hc pins s σ H _ I h) fun d s1 ⟨H1, I1, q1⟩ => ?_)
  cases d with
  | true => exact ha pins s1 σ H1 D I1 q1
  | false => exact hb pins s1 σ H1 D I1 q1
/-- code that the proof never comes to -/
def tNever : TS := fun _ _ _ => False
end

/-! ### targets -/
abbrev TG := V → St → Hp → (St → Hp → Prop) → Prop
abbrev TGs := List V → St → Hp → (St → Hp → Prop) → Prop
def PG (X : Cx) (target : Expr) (t : TG) : Prop :=
  ∀ (pins : List (Addr × Obj)) (s : Shared) (σ : St) (H : Hp) (v : V) (u : Value) (Q : St → Hp → Prop), Inv X pins σ H s → RelV v u → t v σ H Q →
    wpAny (model X.prog X.w) X.A (assign target X.env u) (fun _ s' => ∃ σ' H', Inv X pins σ' H' s' ∧ Q σ' H') X.xe s
/-- several targets, one after another -/
def PGs (X : Cx) (ts : List Expr) (t : TGs) : Prop :=
  ∀ (pins : List (Addr × Obj)) (s : Shared) (σ : St) (H : Hp) (vs : List V) (us : List Value) (Q : St → Hp → Prop), Inv X pins σ H s → Vals vs us → t vs σ H Q →
    wpAny (model X.prog X.w) X.A (assignInOrder ((assignEach ts X.env).map (·.2)) us) (fun _ s' => ∃ σ' H', Inv X pins σ' H' s' ∧ Q σ' H') X.xe s
/-- o[i] = v, by values -/
abbrev TSet := V → V → V → Hp → (Hp → Prop) → Prop
def PSet (X : Cx) (t : TSet) : Prop :=
  ∀ (pins : List (Addr × Obj)) (s : Shared) (σ : St) (H : Hp) (o i v : V) (ov iv u : Value) (Q : Hp → Prop), Inv X pins σ H s → RelV o ov → RelV i iv → RelV v u → t o i v H Q →
    wpAny (model X.prog X.w) X.A (setItem ov iv u) (fun _ s' => ∃ H', Inv X pins σ H' s' ∧ Q H') X.xe s
/-- a op= b, by values -/
abbrev TIp := V → V → Hp → VK → Prop
def PIp (X : Cx) (op : Operator) (t : TIp) : Prop :=
  ∀ (pins : List (Addr × Obj)) (s : Shared) (σ : St) (H : Hp) (x y : V) (v u : Value) (Q : VK), Inv X pins σ H s → RelV x v → RelV y u → t x y H Q →
    wpAny (model X.prog X.w) X.A (inplaceOp op v u) (EP X pins σ Q) X.xe s
section
variable {X : Cx} {pos : Pos}
def gName (i : Nat) : TG := fun v σ H Q => Q (σ.set i (some v)) H
theorem pg_name {i : Nat} {x : Str} (hN : X.N.Nodup) (hi : X.N[i]? = some x) (hx : Loc X.env.scope x) (hf : X.fn x = true ∨ X.env.scope.names.lookup x = some .local := by first | exact .inl rfl | exact .inr rfl | assumption) : PG X (.Name x pos) (gName i) := by
  intro pins s σ H v u Q I r h
  exact wpAny_assign_Name (store_ok I hN hi hx r (fun s' I' => ⟨_, H, I', h⟩) hf)
def gNil : TGs := fun vs σ H Q => vs = [] ∧ Q σ H
def gCons (t : TG) (u : TGs) : TGs := fun vs σ H Q => ∃ v r, vs = v :: r ∧ t v σ H fun σ' H' => u r σ' H' Q
theorem pgs_nil : PGs X [] gNil := by
  intro pins s σ H vs us Q I r h
  obtain ⟨e, h⟩ := h
  subst e
  cases r
  exact assignInOrder_nil ⟨σ, H, I, h⟩
theorem pgs_cons {e : Expr} {es : List Expr} {t : TG} {u : TGs} (h1 : PG X e t) (h2 : PGs X es u)
    (hs : (assignEach (e :: es) X.env).map (·.2) = assign e X.env :: (assignEach es X.env).map (·.2) := by rfl) : PGs X (e :: es) (gCons t u) := by
  intro pins s σ H vs us Q I r h
  obtain ⟨v, vr, e1, h⟩ := h
  subst e1
  cases r with
  | cons r rr =>
    rw [hs]
    refine assignInOrder_cons (thn (h1 pins s σ H _ _ _ I r h) fun _ s1 ⟨σ1, H1, I1, q1⟩ => ?_)
    exact h2 pins s1 σ1 H1 _ _ Q I1 rr q1
/-- (a, b, ..) = a tuple of that length -/
def gTup (K : PySem.W.Frag) (n : Nat) (t : TGs) : TG := fun v σ H Q => ∃ a xs, v = .ref a ∧ SqT K H a xs ∧ xs.length = n ∧ t xs σ H Q
theorem pg_tup {es : List Expr} {k : Nat} {t : TGs} {n : Nat} (hc : X.calm = true) (h : PGs X es t)
    (hn : (assignEach es X.env).length = n := by rfl) (hst : (assignEach es X.env).findIdx? (·.1) = none := by rfl) : PG X (.Tuple es k pos) (gTup X.K n t) := by
  intro pins s σ H v u Q I r hw
  obtain ⟨a, xs, e1, hq, hl, hw⟩ := hw
  subst e1
  cases r
  obtain ⟨its, rv, ht, hz⟩ := I.tuple hq
  refine assign_Tuple_tuple (I.ok.hd hc) ht (by simp [hn, ← hl, rv.length]) hst fun h' hx => ?_
  have I1 : Inv X pins σ H { s with heap := h' } := I.kept (t' := s.toks) fun b o e => hx b o (Nat.ne_of_lt (Heap.lt_size e)) e
  exact h pins _ σ H xs _ Q I1 (by simpa using rv) hw
/-- o[i] = .. -/
def gSub (to ti : TE) (t : TSet) : TG := fun v σ H Q => to σ H fun o H1 => ti σ H1 fun i H2 => t o i v H2 fun H3 => Q σ H3
theorem pg_sub {o i : Expr} {to ti : TE} {t : TSet} (ho : PE X o to) (hi : PE X i ti) (hs : PSet X t)
    (ha : ∀ v, assign (.Subscript o i pos) X.env v = (do
      let ov ← holding [v] (eval o X.env)
      let iv ← holding [v, ov] (eval i X.env)
      standAt pos
      holding [v, ov, iv] (setItem ov iv v)
      release [v, ov, iv] []) := by intro _; rfl) : PG X (.Subscript o i pos) (gSub to ti t) := by
  intro pins s σ H v u Q I r h
  rw [ha]
  refine wpAny_bind (wpAny_holding (thn (ho pins s σ H _ I h) fun ov s1 ⟨x, H1, I1, r1, q1⟩ => ?_))
  refine wpAny_bind (wpAny_holding (thn (hi pins s1 σ H1 _ I1 q1) fun iv s2 ⟨y, H2, I2, r2, q2⟩ => ?_))
  refine wpAny_bind (wpAny_standAt (wpAny_bind (wpAny_holding (thn (hs pins s2 σ H2 x y v ov iv u _ I2 r1 r2 r q2) fun _ s3 ⟨H3, I3, q3⟩ => ?_))))
  exact wpAny_release ⟨σ, H3, I3, q3⟩
/-- target = value -/
def tAsg (te : TE) (g : TG) : TS := fun D σ H => te σ H fun x H1 => g x σ H1 D.nx
theorem ps_asg {tg e : Expr} {te : TE} {g : TG} (he : PE X e te) (hg : PG X tg g) (hs : swapsWithSole [tg] e pos.line X.env = pure false := by rfl) (hw : swappedStores [tg] e X.env = pure none := by rfl)
    (h1 : (assignEach [tg] X.env).map (·.2) = [assign tg X.env] := by rfl) : PS X (.Assign [tg] e pos) (tAsg te g) := by
  intro pins s σ H D I h
  refine wpAny_Assign_stores (thn (he pins s σ H _ I h) fun v s1 ⟨x, H1, I1, r1, q1⟩ => ?_) hs hw
  rw [h1]
  exact thn (hg pins s1 σ H1 x v _ I1 r1 q1) fun _ s2 q => q
/-- name = value -/
theorem ps_set {i : Nat} {x : Str} {e : Expr} {te : TE} {pos' : Pos} (hN : X.N.Nodup) (hi : X.N[i]? = some x) (hx : Loc X.env.scope x) (he : PE X e te) (hs : swapsWith e (some (.Name x pos')) pos.line X.env = pure false := by rfl) (hf : X.fn x = true ∨ X.env.scope.names.lookup x = some .local := by first | exact .inl rfl | exact .inr rfl | assumption) :
    PS X (.Assign [.Name x pos'] e pos) (tAsg te (gName i)) := by
  intro pins s σ H D I h
  refine wpAny_Assign_Name (thn (he pins s σ H _ I h) fun v s1 ⟨y, H1, I1, r1, q1⟩ => ?_) hs
  exact store_ok I1 hN hi hx r1 (fun s2 I2 => ⟨_, H1, I2, q1⟩) hf
/-- a, b = x, y with plain local names: stored from the right; the pair itself is not tracked (the opening rows as in PyProof/Rows/TupAssign.lean:23) -/
def tPar (i j : Nat) (ta : TA) : TS := fun D σ H => ta σ H fun vs H1 => ∃ v w, vs = [v, w] ∧ D.nx ((σ.set i (some v)).set j (some w)) H1
/-- name op= e -/
def tAug (i : Nat) (te : TE) (ti : TIp) : TS := fun D σ H => ∃ x, σ[i]? = some (some x) ∧ te σ H fun y H1 => ti x y H1 fun z H2 => D.nx (σ.set i (some z)) H2
/-- o[i] op= e -/
def tAugS (to ti te : TE) (tget : V → V → Hp → VK → Prop) (tip : TIp) (tset : TSet) : TS := fun D σ H => to σ H fun o H1 => ti σ H1 fun i H2 => tget o i H2 fun x H3 => te σ H3 fun y H4 => tip x y H4 fun z H5 => tset o i z H5 fun H6 => D.nx σ H6
/-- o[i], by values -/
def PGet (X : Cx) (t : V → V → Hp → VK → Prop) : Prop :=
  ∀ (pins : List (Addr × Obj)) (s : Shared) (σ : St) (H : Hp) (o i : V) (ov iv : Value) (Q : VK), Inv X pins σ H s → RelV o ov → RelV i iv → t o i H Q →
    wpAny (model X.prog X.w) X.A (getItem ov iv) (EP X pins σ Q) X.xe s
/-- ints -/
def ipI (f : Int → Int → Int) : TIp := fun x y H Q => ∃ i j, x = .int i ∧ y = .int j ∧ Q (.int (f i j)) H
end

/-! ### while -/
section
variable {X : Cx} {pos : Pos}
/-- the invariant W with its measure -/
def tWhile (c : TT) (tb : TS) : TS := fun D σ H => ∃ W : Nat → St → Hp → Prop, (∃ m, W m σ H) ∧ ∀ m σ H, W m σ H →
  c σ H fun b H1 => if b = true then ∃ N : St → Hp → Prop, (∀ σ' H', N σ' H' → ∃ m', m' < m ∧ W m' σ' H') ∧ tb { D with nx := N, ct := N, bk := D.nx } σ H1 else D.nx σ H1
end

/-! ### what a loop or a comprehension walks -/
/-- at turn i: it yields x (the heap may grow), or it stops -/
structure It where
  go : Nat → Hp → Prop
  yld : Nat → Hp → V → Hp → Prop
  stop : Nat → Hp → Prop
/-- the iterator's own objects may turn: they are not the frame's, not pinned, younger than the entry (or a comprehension's own) -/
def FpOk (X : Cx) (pins : List (Addr × Obj)) (H : Hp) (b : Addr) : Prop :=
  H b = none ∧ b ≠ X.env.locals ∧ b ∉ X.fs ∧ (b ∈ X.ex ∨ X.s₀.heap.objs.size ≤ b) ∧ (∀ x c, X.env.cells.lookup x = some c → c ≠ b) ∧ ∀ p ∈ X.pn ++ pins, p.1 ≠ b
theorem Inv.fpOk {X : Cx} {pins : List (Addr × Obj)} {σ : St} {H H' : Hp} {s : Shared} {b : Addr} (I : Inv X pins σ H s) (hb : s.heap.objs.size ≤ b) (hn : H' b = none) : FpOk X pins H' b := by
  refine ⟨hn, Nat.ne_of_gt (Nat.lt_of_lt_of_le I.lt hb), I.nofs hb, .inr (Nat.le_trans I.sz hb), fun x c e z => ?_, fun p hp z => ?_⟩
  · obtain ⟨v, q⟩ := I.cell x c e
    exact absurd (Nat.lt_of_lt_of_le q.lt (by rw [z]; exact hb)) (Nat.lt_irrefl _)
  · exact absurd (Nat.lt_of_lt_of_le (Heap.lt_size (I.pin p hp).1) (by rw [z]; exact hb)) (Nat.lt_irrefl _)
structure Turn (P : Program) (w : World) (K : PySem.W.Frag) (tg : Expr) (J : It) (fp : List Addr) (it : Addr) (tn : Nat → Heap → Prop) : Prop where
  mem : it ∈ fp
  obj : ∀ i h, tn i h → ∀ b ∈ fp, ∃ o, h.get? b = some o ∧ ∀ v, o.data ≠ .cell v
  keep : ∀ i h h', tn i h → (∀ b ∈ fp, ∀ o, h.get? b = some o → h'.get? b = some o) → tn i h'
  item : ∀ (X : Cx), X.prog = P → X.w = w → X.K = K → X.calm = true → ∀ (i : Nat) (pins : List (Addr × Obj)) (s : Shared) (σ : St) (H : Hp) (E : Value → Shared → Prop), Inv X pins σ H s → (∀ b ∈ fp, FpOk X pins H b) → tn i s.heap → J.go i H →
    wpAny (model P w) X.A (pyNext (.ref it)) (fun r s1 => ∃ u, r = some u ∧
      wpAny (model P w) X.A (letOwnedTupleGo tg (.ref it) u) (fun _ s2 => ∃ x H', Inv X pins σ H' s2 ∧ RelV x u ∧ J.yld i H x H' ∧ tn (i + 1) s2.heap ∧ ∀ b ∈ fp, H' b = none) E s1) E s
  done : ∀ (X : Cx), X.prog = P → X.w = w → X.K = K → X.calm = true → ∀ (i : Nat) (pins : List (Addr × Obj)) (s : Shared) (σ : St) (H : Hp) (E : Value → Shared → Prop), Inv X pins σ H s → (∀ b ∈ fp, FpOk X pins H b) → tn i s.heap → J.stop i H →
    wpAny (model P w) X.A (pyNext (.ref it)) (fun r s1 => r = none ∧ Inv X pins σ H s1) E s
  self : ∀ (A : Around) (i : Nat) (s : Shared) (Q : Value → Shared → Prop) (E : Value → Shared → Prop), tn i s.heap → Q (.ref it) s → wpAny (model P w) A (pyIter (.ref it)) Q E s
abbrev TI := St → Hp → (It → Hp → Prop) → Prop
/-- an iterator has come -/
def PIE (X : Cx) (pins : List (Addr × Obj)) (σ : St) (tg : Expr) (R : It → Hp → Prop) (itv : Value) (s2 : Shared) : Prop :=
  ∃ (it : Addr) (fp : List Addr) (tn : Nat → Heap → Prop) (J : It) (H' : Hp), itv = .ref it ∧ Inv X pins σ H' s2 ∧ Turn X.prog X.w X.K tg J fp it tn ∧ tn 0 s2.heap ∧ (∀ b ∈ fp, FpOk X pins H' b) ∧ R J H'
def PI (X : Cx) (tg iter : Expr) (wi : TI) : Prop :=
  ∀ (pins : List (Addr × Obj)) (s : Shared) (σ : St) (H : Hp) (R : It → Hp → Prop), Inv X pins σ H s → wi σ H R →
    wpAny (model X.prog X.w) X.A (eval iter X.env) (fun v s1 => wpAny (model X.prog X.w) X.A (pyIter v) (PIE X pins σ tg R) X.xe s1) X.xe s

/-- the step ahead of the store is nothing for an iterator that keeps no tuple -/
theorem go_of {M : Model} {A : Around} {E : Value → Shared → Prop} {s : Shared} {tg : Expr} {it : Addr} {u : Value} {o : Obj} {n : String} {vs : Array Value} {Q : Unit → Shared → Prop} (ho : s.heap.get? it = some o) (hc : o.cls = .type n) (hd : o.data = .fields vs)
    (hn : ["enumerate", "zip", "dict_itemiterator", "dict_reverseitemiterator", "odict_iterator", "itertools.zip_longest", "itertools.pairwise"].contains n = false) (hQ : Q () s) : wpAny M A (letOwnedTupleGo tg (.ref it) u) Q E s := by
  unfold letOwnedTupleGo
  cases tg <;> first
    | exact wpAny_pure hQ
    | (cases u <;> first
        | exact wpAny_pure hQ
        | (refine wpAny_bind (wpAny_load ho ?_)
           rw [hc, hd]
           show wpAny M A (if (["enumerate", "zip", "dict_itemiterator", "dict_reverseitemiterator", "odict_iterator", "itertools.zip_longest", "itertools.pairwise"].contains n && vs[0]? == some (rawInt _)) = true then _ else _) Q E s
           rw [if_neg (by intro h; rw [hn, Bool.false_and] at h; cases h)]
           exact wpAny_pure hQ))

/-- the list at a, as it stands at each turn (a loop may append to it) -/
def Itl (K : PySem.W.Frag) (a : Addr) : It :=
  ⟨fun i H => ∃ xs x, SqL K H a xs ∧ xs[i]? = some x, fun i H x H' => H' = H ∧ ∀ xs, SqL K H a xs → xs[i]? = some x, fun i H => ∃ xs, SqL K H a xs ∧ xs.length ≤ i⟩
def Itt (K : PySem.W.Frag) (a : Addr) : It :=
  ⟨fun i H => ∃ xs x, SqT K H a xs ∧ xs[i]? = some x, fun i H x H' => H' = H ∧ ∀ xs, SqT K H a xs → xs[i]? = some x, fun i H => ∃ xs, SqT K H a xs ∧ xs.length ≤ i⟩
/-- lo, lo + 1, .. (n of them) -/
def Itr (lo : Int) (n : Nat) : It := ⟨fun i _ => i < n, fun i H x H' => H' = H ∧ x = .int (lo + i), fun i _ => n ≤ i⟩
theorem turn_list {P : Program} {w : World} {K : PySem.W.Frag} {tg : Expr} (a it : Addr) : Turn P w K tg (Itl K a) [it] it (fun i h => h.IsListIter it a i) where
  mem := by simp
  obj := fun i h st b hb => by
    have e : b = it := by simpa using hb
    subst e
    obtain ⟨o, e, c, d⟩ := st
    exact ⟨o, e, fun v z => by rw [d] at z; cases z⟩
  keep := fun i h h' st k => st.at fun o e => k it (by simp) o e
  item := by
    intro X hP hw hK hc i pins s σ H E I hf st hg
    subst hP hw hK
    obtain ⟨xs, x, hq, hx⟩ := hg
    obtain ⟨its, rv, p, hz⟩ := I.list hq
    obtain ⟨u, hu, ru⟩ := rv.get hx
    obtain ⟨f0, f1, f2, f3, f4, f5⟩ := hf it (by simp)
    refine wpAny_pyNext_list_item st p.isList (x := u) (by simpa using hu) fun h' st' sb => ?_
    have I1 : Inv X pins σ H { s with heap := h' } := I.turned (t' := s.toks) (fun b o hb e => (sb.2 b hb).trans e) f0 f1 f3 f4 f5
    obtain ⟨o, e, c, d⟩ := id st'
    exact ⟨u, rfl, go_of (s := { s with heap := h' }) e c d (by decide) ⟨x, H, I1, ru, ⟨rfl, fun ys hy => by rw [I.list_inj hy hq]; exact hx⟩, st', fun b hb => (hf b hb).1⟩⟩
  done := by
    intro X hP hw hK hc i pins s σ H E I hf st hg
    subst hP hw hK
    obtain ⟨xs, hq, hx⟩ := hg
    obtain ⟨its, rv, p, hz⟩ := I.list hq
    obtain ⟨f0, f1, f2, f3, f4, f5⟩ := hf it (by simp)
    have hl := rv.length
    exact wpAny_pyNext_list_end (I.ok.hd hc) st p.isList (by simp; omega) fun h' eb => ⟨rfl, I.turned (t' := s.toks) (fun b o hb e => eb b o hb e) f0 f1 f3 f4 f5⟩
  self := fun _ _ _ _ _ st h => wpAny_pyIter_listiter st h
theorem turn_tuple {P : Program} {w : World} {K : PySem.W.Frag} {tg : Expr} (a it : Addr) : Turn P w K tg (Itt K a) [it] it (fun i h => h.IsTupleIter it a i) where
  mem := by simp
  obj := fun i h st b hb => by
    have e : b = it := by simpa using hb
    subst e
    obtain ⟨o, e, c, d⟩ := st
    exact ⟨o, e, fun v z => by rw [d] at z; cases z⟩
  keep := fun i h h' st k => st.at fun o e => k it (by simp) o e
  item := by
    intro X hP hw hK hc i pins s σ H E I hf st hg
    subst hP hw hK
    obtain ⟨xs, x, hq, hx⟩ := hg
    obtain ⟨its, rv, p, hz⟩ := I.tuple hq
    obtain ⟨u, hu, ru⟩ := rv.get hx
    obtain ⟨f0, f1, f2, f3, f4, f5⟩ := hf it (by simp)
    refine wpAny_pyNext_tuple_item st (show s.heap.IsTuple a its.toArray from p) (x := u) (by simpa using hu) fun h' st' sb => ?_
    have I1 : Inv X pins σ H { s with heap := h' } := I.turned (t' := s.toks) (fun b o hb e => (sb.2 b hb).trans e) f0 f1 f3 f4 f5
    obtain ⟨o, e, c, d⟩ := id st'
    exact ⟨u, rfl, go_of (s := { s with heap := h' }) e c d (by decide) ⟨x, H, I1, ru, ⟨rfl, fun ys hy => by rw [I.tuple_inj hy hq]; exact hx⟩, st', fun b hb => (hf b hb).1⟩⟩
  done := by
    intro X hP hw hK hc i pins s σ H E I hf st hg
    subst hP hw hK
    obtain ⟨xs, hq, hx⟩ := hg
    obtain ⟨its, rv, p, hz⟩ := I.tuple hq
    obtain ⟨f0, f1, f2, f3, f4, f5⟩ := hf it (by simp)
    have hl := rv.length
    exact wpAny_pyNext_tuple_end (I.ok.hd hc) st (show s.heap.IsTuple a its.toArray from p) (by simp; omega) fun h' eb => ⟨rfl, I.turned (t' := s.toks) (fun b o hb e => eb b o hb e) f0 f1 f3 f4 f5⟩
  self := fun _ _ _ _ _ st h => wpAny_pyIter_tupleiter st h
theorem turn_range {P : Program} {w : World} {K : PySem.W.Frag} {tg : Expr} (it : Addr) (lo : Int) (n : Nat) : Turn P w K tg (Itr lo n) [it] it (fun i h => IsRangeIter h it (lo + (i : Nat) * 1) ((n : Int) - (i : Nat)) 1) where
  mem := by simp
  obj := fun i h st b hb => by
    have e : b = it := by simpa using hb
    subst e
    exact ⟨_, st, fun v z => by
      have z' : Data.fields _ = Data.cell v := z
      cases z'⟩
  keep := fun i h h' st k => k it (by simp) _ st
  item := by
    intro X hP hw hK hc i pins s σ H E I hf st hg
    subst hP hw hK
    obtain ⟨f0, f1, f2, f3, f4, f5⟩ := hf it (by simp)
    have W := Walks.range (prog := X.prog) (w := X.w) (I.ok.hd hc) it lo 1 n
    refine W.item i s _ _ hg st fun v h' tk hv st' kk => ?_
    obtain ⟨t, rfl⟩ := hv
    have I1 : Inv X pins σ H { s with heap := h', toks := tk } := I.turned (fun b o hb e => kk b o (by simpa using hb) e) f0 f1 f3 f4 f5
    refine ⟨_, rfl, go_of (s := { s with heap := h', toks := tk }) (n := "range_iterator") st' rfl rfl (by decide) ⟨.int (lo + i), H, I1, ⟨t, ?_⟩, ⟨rfl, rfl⟩, st', fun b hb => (hf b hb).1⟩⟩
    rw [Int.mul_one]
  done := by
    intro X hP hw hK hc i pins s σ H E I hf st hg
    subst hP hw hK
    obtain ⟨f0, f1, f2, f3, f4, f5⟩ := hf it (by simp)
    exact wpAny_pyNext_range_end (I.ok.hd hc) st (by have : n ≤ i := hg; omega) fun h' eb => ⟨rfl, I.turned (t' := s.toks) (fun b o hb e => eb b o hb e) f0 f1 f3 f4 f5⟩
  self := fun _ _ _ _ _ st h => wpAny_pyIter_rangeiter st h
end L2

namespace L2
open PySem PySem.Spec PyProof.Rows
section
variable {X : Cx} {tg : Expr}
def iList (K : PySem.W.Frag) (tl : TE) : TI := fun σ H R => tl σ H fun x H1 => ∃ a, x = .ref a ∧ (∃ xs, SqL K H1 a xs) ∧ R (Itl K a) H1
def iTup (K : PySem.W.Frag) (tl : TE) : TI := fun σ H R => tl σ H fun x H1 => ∃ a, x = .ref a ∧ (∃ xs, SqT K H1 a xs) ∧ R (Itt K a) H1
theorem pi_list {l : Expr} {tl : TE} (hl : PE X l tl) : PI X tg l (iList X.K tl) := by
  intro pins s σ H R I h
  refine thn (hl pins s σ H _ I h) fun v s1 ⟨x, H1, I1, r1, q1⟩ => ?_
  obtain ⟨a, e, ⟨xs, hq⟩, q⟩ := q1
  subst e
  cases r1
  obtain ⟨its, rv, p, hz⟩ := I1.list hq
  refine wpAny_pyIter_list p.isList ?_
  refine ⟨s1.heap.objs.size, [s1.heap.objs.size], _, _, H1, rfl, I1.kept (t' := s1.toks) fun b o e => Heap.get?_push_of_some _ e, turn_list a _, ⟨_, Heap.get?_push_size _ rfl, rfl, rfl⟩, fun b hb => ?_, q⟩
  have e : b = s1.heap.objs.size := by simpa using hb
  subst e
  exact I1.fpOk (Nat.le_refl _) (I1.hok.fresh (Nat.le_refl _))
theorem pi_tup {l : Expr} {tl : TE} (hl : PE X l tl) : PI X tg l (iTup X.K tl) := by
  intro pins s σ H R I h
  refine thn (hl pins s σ H _ I h) fun v s1 ⟨x, H1, I1, r1, q1⟩ => ?_
  obtain ⟨a, e, ⟨xs, hq⟩, q⟩ := q1
  subst e
  cases r1
  obtain ⟨its, rv, p, hz⟩ := I1.tuple hq
  refine wpAny_pyIter_tuple (show s1.heap.IsTuple a its.toArray from p) ?_
  refine ⟨s1.heap.objs.size, [s1.heap.objs.size], _, _, H1, rfl, I1.kept (t' := s1.toks) fun b o e => Heap.get?_push_of_some _ e, turn_tuple a _, ⟨_, Heap.get?_push_size _ rfl, rfl, rfl⟩, fun b hb => ?_, q⟩
  have e : b = s1.heap.objs.size := by simpa using hb
  subst e
  exact I1.fpOk (Nat.le_refl _) (I1.hok.fresh (Nat.le_refl _))
/-- a range object just made, walked -/
theorem range_it {pins : List (Addr × Obj)} {σ : St} {H : Hp} {s : Shared} {R : It → Hp → Prop} {E : Value → Shared → Prop} {lo hi : Int} {t u v : Tok} {tk : Nat} (I : Inv X pins σ H s) (h1 : -(2 ^ 62) ≤ lo) (h2 : lo < 2 ^ 62) (h3 : -(2 ^ 62) ≤ hi) (h4 : hi < 2 ^ 62)
    (q : R (Itr lo (hi - lo).toNat) H) : wpAny (model X.prog X.w) X.A (pyIter (.ref s.heap.objs.size)) (PIE X pins σ tg R) E { s with heap := s.heap.push { cls := .type "range", data := .fields #[.int lo t, .int hi u, .int 1 v] }, toks := tk } := by
  refine wpAny_pyIter_range (IsRange.new ..) (small_one h1 h2 h3 h4) ?_
  have I1 : Inv X pins σ H { s with heap := s.heap.push { cls := .type "range", data := .fields #[.int lo t, .int hi u, .int 1 v] }, toks := tk } := I.kept fun b o e => Heap.get?_push_of_some _ e
  refine ⟨(s.heap.push { cls := .type "range", data := .fields #[.int lo t, .int hi u, .int 1 v] }).objs.size, [(s.heap.push { cls := .type "range", data := .fields #[.int lo t, .int hi u, .int 1 v] }).objs.size], _, _, H, rfl,
    I1.kept (t' := tk) fun b o e => Heap.get?_push_of_some _ e, turn_range _ lo (hi - lo).toNat, ?_, fun b hb => ?_, q⟩
  · have e1 : lo + ((0 : Nat) : Int) * 1 = lo := by simp
    have e2 : (((hi - lo).toNat : Nat) : Int) - ((0 : Nat) : Int) = Builtin.Range.rangeSize lo hi 1 := by rw [rangeSize_one]; split <;> omega
    show IsRangeIter _ _ (lo + ((0 : Nat) : Int) * 1) ((((hi - lo).toNat : Nat) : Int) - ((0 : Nat) : Int)) 1
    rw [e1, e2]
    exact Heap.get?_push_size _ rfl
  · have e : b = (s.heap.push { cls := .type "range", data := .fields #[.int lo t, .int hi u, .int 1 v] }).objs.size := by simpa using hb
    subst e
    exact I1.fpOk (Nat.le_refl _) (I1.hok.fresh (Nat.le_refl _))
def iRng1 (ta : TA) : TI := fun σ H R => ta σ H fun vs H1 => ∃ j : Int, vs = [.int j] ∧ -(2 ^ 62) ≤ j ∧ j < 2 ^ 62 ∧ R (Itr 0 j.toNat) H1
def iRng2 (ta : TA) : TI := fun σ H R => ta σ H fun vs H1 => ∃ i j : Int, vs = [.int i, .int j] ∧ (-(2 ^ 62) ≤ i ∧ i < 2 ^ 62 ∧ -(2 ^ 62) ≤ j ∧ j < 2 ^ 62) ∧ R (Itr i (j - i).toNat) H1
theorem pi_range1 {a : Expr} {ta : TA} {p pos : Pos} (hg : Gl X "range") (hm : X.mg "range" = none) (ha : PA X [a] ta) (hs : starEach [a] X.env = [(false, eval a X.env)] := by rfl) : PI X tg (.Call (.Name "range" p) [a] [] pos) (iRng1 ta) := by
  intro pins s σ H R I h
  refine Call_ (ld_blt I hg hm boot_range (PyProof.Rows.callWith_type1 (thn (ha pos pins s σ H _ I h) fun us s1 ⟨vs, H1, I1, r1, q1⟩ => ?_) hs rfl))
  obtain ⟨j, e, q1, q2, q⟩ := q1
  subst e
  cases r1 with
  | cons r rr =>
    cases rr
    obtain ⟨t, rfl⟩ := r
    exact call_range_1 (range_it I1 (by omega) (by omega) q1 q2 (by simpa using q))
/-! ### for -/
/-- W: the invariant by the turn and a measure; N: what the body is to reach -/
def tFor (wi : TI) (g : TG) (tb : TS) : TS := fun D σ H => wi σ H fun J H1 => ∃ W : Nat → Nat → St → Hp → Prop, (∃ m, W 0 m σ H1) ∧ ∀ i m σ H, W i m σ H →
  (J.stop i H ∧ D.nx σ H) ∨ (J.go i H ∧ ∃ N : St → Hp → Prop, (∀ σ' H', N σ' H' → ∃ m', m' < m ∧ W (i + 1) m' σ' H') ∧ ∀ x H', J.yld i H x H' → g x σ H' fun σ2 H2 => tb { D with nx := N, ct := N, bk := D.nx } σ2 H2)
/-- the records at fp as they stand -/
def pinsAt (fp : List Addr) (h : Heap) : List (Addr × Obj) := fp.filterMap fun b => (h.get? b).map fun o => (b, o)
theorem mem_pinsAt {fp : List Addr} {h : Heap} {b : Addr} {o : Obj} (hb : b ∈ fp) (e : h.get? b = some o) : (b, o) ∈ pinsAt fp h := List.mem_filterMap.mpr ⟨b, hb, by rw [e]; rfl⟩
theorem of_pinsAt {fp : List Addr} {h : Heap} {p : Addr × Obj} (hp : p ∈ pinsAt fp h) : p.1 ∈ fp ∧ h.get? p.1 = some p.2 := by
  obtain ⟨b, hb, e⟩ := List.mem_filterMap.mp hp
  cases q : h.get? b with
  | none => rw [q] at e; cases e
  | some o =>
    rw [q] at e
    have e' : (b, o) = p := Option.some.inj e
    subst e'
    exact ⟨hb, q⟩
theorem Inv.pinned {pins : List (Addr × Obj)} {σ : St} {H : Hp} {s : Shared} {fp : List Addr} (I : Inv X pins σ H s) (hf : ∀ b ∈ fp, FpOk X pins H b) (ho : ∀ b ∈ fp, ∃ o, s.heap.get? b = some o ∧ ∀ v, o.data ≠ .cell v) : Inv X (pins ++ pinsAt fp s.heap) σ H s :=
  I.pins_of fun p hp => (List.mem_append.mp hp).elim (fun z => I.pin p (List.mem_append_right _ z)) fun z => by
    obtain ⟨hb, e⟩ := of_pinsAt z
    obtain ⟨f0, f1, f2, _⟩ := hf p.1 hb
    obtain ⟨o, e', d⟩ := ho p.1 hb
    rw [e] at e'; cases e'
    exact ⟨e, f0, f1, f2, d⟩
theorem Inv.unpinned {pins pl : List (Addr × Obj)} {σ : St} {H : Hp} {s : Shared} (I : Inv X (pins ++ pl) σ H s) : Inv X pins σ H s := I.pins_of fun p hp => I.pin p (List.mem_append_right _ (List.mem_append_left _ hp))
theorem ps_for {iter : Expr} {body : List Stmt} {wi : TI} {g : TG} {tb : TS} {pos : Pos} (hp : PassesOwn (model X.prog X.w) X.A X.env X.xe) (hc : X.calm = true) (hi : PI X tg iter wi) (hg : PG X tg g) (hb : PSs X body tb)
    (hs : ∀ x, foldedSetIterable iter X.env x = pure x := by intro _; rfl) : PS X (.For tg iter body [] pos) (tFor wi g tb) := by
  intro pins s σ H D I h
  refine wpAny_For (thn (hi pins s σ H _ I h) fun v s1 h1 => thn h1 fun itv s2 h2 => ?_) hs
  obtain ⟨it, fp, tn, J, H2, e, I2, T, st2, f2, W, ⟨m0, w0⟩, turn⟩ := h2
  subst e
  -- what stays true of the iterator's objects through the loop
  have stat : ∀ {H' : Hp}, (∀ b ∈ fp, H' b = none) → ∀ b ∈ fp, FpOk X pins H' b := fun hn b hb => ⟨hn b hb, (f2 b hb).2⟩
  refine codeAny_forLoop_any (fun n s' => ∃ i σ' H', Inv X pins σ' H' s' ∧ tn i s'.heap ∧ (∀ b ∈ fp, H' b = none) ∧ W i n σ' H') ?_ m0 ⟨0, σ, H2, I2, st2, fun b hb => (f2 b hb).1, w0⟩
  rintro n s3 ⟨i, σ3, H3, I3, st3, fr3, w3⟩
  rcases turn i n σ3 H3 w3 with ⟨stop, qn⟩ | ⟨go, N, hN, step⟩
  · refine wpAny_passesOwn hp (thn (T.done X rfl rfl rfl hc i pins s3 σ3 H3 X.xe I3 (stat fr3) st3 stop) fun r s4 ⟨hr, I4⟩ => ?_)
    subst hr
    exact wpAny_execs_nil ⟨σ3, H3, I4, qn⟩
  · refine wpAny_passesOwn hp (thn (T.item X rfl rfl rfl hc i pins s3 σ3 H3 X.xe I3 (stat fr3) st3 go) fun r s4 ⟨u, hr, h4⟩ => ?_)
    subst hr
    refine wpAny_passesOwn hp (thn h4 fun _ s5 ⟨x, H5, I5, r5, y5, st5, fr5⟩ => ?_)
    have I5' := I5.pinned (stat fr5) (T.obj _ _ st5)
    refine wpAny_passesOwn hp (thn (hg _ s5 σ3 H5 x u _ I5' r5 (step x H5 y5)) fun _ s6 ⟨σ6, H6, I6, q6⟩ => ?_)
    refine wpAny_passesOwn hp (thn (hb _ s6 σ6 H6 _ I6 q6) fun f s7 q7 => ?_)
    have again : ∀ {σ7 : St} {H7 : Hp}, Inv X (pins ++ pinsAt fp s5.heap) σ7 H7 s7 → N σ7 H7 → ∃ m, m < n ∧ ∃ i σ' H', Inv X pins σ' H' s7 ∧ tn i s7.heap ∧ (∀ b ∈ fp, H' b = none) ∧ W i m σ' H' := fun {σ7 H7} I7 n7 => by
      obtain ⟨m', hm, w7⟩ := hN σ7 H7 n7
      refine ⟨m', hm, i + 1, σ7, H7, I7.unpinned, T.keep _ _ _ st5 fun b hb o e => (I7.pin (b, o) (List.mem_append_right _ (List.mem_append_right _ (mem_pinsAt hb e)))).1, fun b hb => ?_, w7⟩
      obtain ⟨o, e, d⟩ := T.obj _ _ st5 b hb
      exact (I7.pin (b, o) (List.mem_append_right _ (List.mem_append_right _ (mem_pinsAt hb e)))).2.1
    cases f with
    | next => obtain ⟨σ7, H7, I7, n7⟩ := q7; exact again I7 n7
    | cont => obtain ⟨σ7, H7, I7, n7⟩ := q7; exact again I7 n7
    | brk => obtain ⟨σ7, H7, I7, q7⟩ := q7; exact ⟨σ7, H7, I7.unpinned, q7⟩
    | ret v => obtain ⟨x7, σ7, H7, I7, r7, q7⟩ := q7; exact ⟨x7, σ7, H7, I7.unpinned, r7, q7⟩
end

/-! ### the forms one uses -/
/-- over a list that the body leaves as it is -/
theorem for_list {K : PySem.W.Frag} {a : Addr} {xs : List V} {g : TG} {tb : TS} {D : Ends} {σ : St} {H : Hp} (Pv : Nat → St → Hp → Prop) (h0 : Pv 0 σ H) (hl : ∀ i σ H, i ≤ xs.length → Pv i σ H → SqL K H a xs)
    (hs : ∀ i x σ H, xs[i]? = some x → Pv i σ H → g x σ H fun σ2 H2 => tb { D with nx := Pv (i + 1), ct := Pv (i + 1), bk := D.nx } σ2 H2) (hd : ∀ σ H, Pv xs.length σ H → D.nx σ H) :
    ∃ W : Nat → Nat → St → Hp → Prop, (∃ m, W 0 m σ H) ∧ ∀ i m σ H, W i m σ H →
      ((Itl K a).stop i H ∧ D.nx σ H) ∨ ((Itl K a).go i H ∧ ∃ N : St → Hp → Prop, (∀ σ' H', N σ' H' → ∃ m', m' < m ∧ W (i + 1) m' σ' H') ∧ ∀ x H', (Itl K a).yld i H x H' → g x σ H' fun σ2 H2 => tb { D with nx := N, ct := N, bk := D.nx } σ2 H2) := by
  refine ⟨fun i m σ H => m = xs.length - i ∧ i ≤ xs.length ∧ Pv i σ H, ⟨xs.length, by simp, Nat.zero_le _, h0⟩, ?_⟩
  rintro i m σ H ⟨rfl, hi, p⟩
  have q := hl i σ H hi p
  by_cases hlt : i < xs.length
  · refine .inr ⟨⟨xs, xs[i], q, by simp [hlt]⟩, Pv (i + 1), fun σ' H' p' => ⟨xs.length - (i + 1), by omega, rfl, hlt, p'⟩, fun x H' y => ?_⟩
    obtain ⟨e, y⟩ := y
    subst e
    exact hs i x σ _ (y xs q) p
  · have e : i = xs.length := by omega
    subst e
    exact .inl ⟨⟨xs, q, Nat.le_refl _⟩, hd σ H p⟩
theorem for_range {lo : Int} {n : Nat} {g : TG} {tb : TS} {D : Ends} {σ : St} {H : Hp} (Pv : Nat → St → Hp → Prop) (h0 : Pv 0 σ H)
    (hs : ∀ i σ H, i < n → Pv i σ H → g (.int (lo + i)) σ H fun σ2 H2 => tb { D with nx := Pv (i + 1), ct := Pv (i + 1), bk := D.nx } σ2 H2) (hd : ∀ σ H, Pv n σ H → D.nx σ H) :
    ∃ W : Nat → Nat → St → Hp → Prop, (∃ m, W 0 m σ H) ∧ ∀ i m σ H, W i m σ H →
      ((Itr lo n).stop i H ∧ D.nx σ H) ∨ ((Itr lo n).go i H ∧ ∃ N : St → Hp → Prop, (∀ σ' H', N σ' H' → ∃ m', m' < m ∧ W (i + 1) m' σ' H') ∧ ∀ x H', (Itr lo n).yld i H x H' → g x σ H' fun σ2 H2 => tb { D with nx := N, ct := N, bk := D.nx } σ2 H2) := by
  refine ⟨fun i m σ H => m = n - i ∧ i ≤ n ∧ Pv i σ H, ⟨n, by simp, Nat.zero_le _, h0⟩, ?_⟩
  rintro i m σ H ⟨rfl, hi, p⟩
  by_cases hlt : i < n
  · refine .inr ⟨hlt, Pv (i + 1), fun σ' H' p' => ⟨n - (i + 1), by omega, rfl, hlt, p'⟩, fun x H' y => ?_⟩
    obtain ⟨e, y⟩ := y
    subst e y
    exact hs i σ _ hlt p
  · have e : i = n := by omega
    subst e
    exact .inl ⟨Nat.le_refl _, hd σ H p⟩
end L2

namespace L2
open PySem PySem.Spec PyProof.Rows

abbrev R2 := V → V → Hp → VK → Prop
/-- a two-place operation on values: f is binaryOp op, inplaceOp op or compareOp op -/
def OpR (X : Cx) (f : Value → Value → Sem Value) (r : R2) : Prop :=
  ∀ (pins : List (Addr × Obj)) (s : Shared) (σ : St) (H : Hp) (x y : V) (v u : Value) (Q : VK), Inv X pins σ H s → RelV x v → RelV y u → r x y H Q →
    wpAny (model X.prog X.w) X.A (f v u) (EP X pins σ Q) X.xe s
/-- a one-place operation -/
def UnR (X : Cx) (f : Value → Sem Value) (r : V → Hp → VK → Prop) : Prop :=
  ∀ (pins : List (Addr × Obj)) (s : Shared) (σ : St) (H : Hp) (x : V) (v : Value) (Q : VK), Inv X pins σ H s → RelV x v → r x H Q →
    wpAny (model X.prog X.w) X.A (f v) (EP X pins σ Q) X.xe s
/-- a call of a value that is known (a builtin, a type) with values -/
def CallR (X : Cx) (f : Value) (r : List V → Hp → VK → Prop) : Prop :=
  ∀ (pins : List (Addr × Obj)) (s : Shared) (σ : St) (H : Hp) (xs : List V) (us : List Value) (Q : VK), Inv X pins σ H s → Vals xs us → r xs H Q →
    wpAny (model X.prog X.w) X.A (call f us) (EP X pins σ Q) X.xe s
/-- a value's truth -/
def TruR (X : Cx) (r : V → Hp → (Bool → Hp → Prop) → Prop) : Prop :=
  ∀ (pins : List (Addr × Obj)) (s : Shared) (σ : St) (H : Hp) (x : V) (v : Value) (Q : Bool → Hp → Prop), Inv X pins σ H s → RelV x v → r x H Q →
    wpAny (model X.prog X.w) X.A (truthy v) (TP X pins σ Q) X.xe s

def tOp (r : R2) (ta tb : TE) : TE := fun σ H Q => ta σ H fun x H1 => tb σ H1 fun y H2 => r x y H2 Q
def tUn (r : V → Hp → VK → Prop) (ta : TE) : TE := fun σ H Q => ta σ H fun x H1 => r x H1 Q
/-- ints in, under C, and a value out -/
def rI (C : Int → Int → Prop) (g : Int → Int → V) : R2 := fun x y H Q => ∃ i j, x = .int i ∧ y = .int j ∧ C i j ∧ Q (g i j) H
def rI0 (g : Int → Int → V) : R2 := fun x y H Q => ∃ i j, x = .int i ∧ y = .int j ∧ Q (g i j) H
def rU (g : Int → V) : V → Hp → VK → Prop := fun x H Q => ∃ i, x = .int i ∧ Q (g i) H

section
variable {X : Cx} {a b c : Expr} {ta tb tc : TE} {pos : Pos}

theorem binT (ha : PE X a ta) (hb : PE X b tb) {pins : List (Addr × Obj)} {s : Shared} {σ : St} {H : Hp} {R : V → V → Hp → Prop} (I : Inv X pins σ H s)
    (h : ta σ H fun x H1 => tb σ H1 fun y H2 => R x y H2) {Q : Value → Shared → Prop} {f : Value → Value → Sem Value}
    (hf : ∀ v u s2 x y H2, Inv X pins σ H2 s2 → RelV x v → RelV y u → R x y H2 → wpAny (model X.prog X.w) X.A (f v u) Q X.xe s2) :
    wpAny (model X.prog X.w) X.A (eval a X.env) (fun v s₁ => wpAny (model X.prog X.w) X.A (eval b X.env) (fun u s₂ => wpAny (model X.prog X.w) X.A (f v u) Q X.xe s₂) X.xe s₁) X.xe s := by
  refine thn (ha pins s σ H _ I h) fun v s1 ⟨x, H1, I1, r1, q1⟩ => ?_
  refine thn (hb pins s1 σ H1 _ I1 q1) fun u s2 ⟨y, H2, I2, r2, q2⟩ => ?_
  exact hf v u s2 x y H2 I2 r1 r2 q2

theorem pe_op {op : Operator} {r : R2} (ho : OpR X (binaryOp op) r) (ha : PE X a ta) (hb : PE X b tb) : PE X (.BinOp a op b pos) (tOp r ta tb) := by
  intro pins s σ H Q I h
  exact wpAny_BinOp (binT ha hb I h fun v u s2 x y H2 I2 rx ry q => ho pins s2 σ H2 x y v u Q I2 rx ry q)
theorem pe_un {op : UnaryOp} {r : V → Hp → VK → Prop} (ho : UnR X (unaryOp op) r) (ha : PE X a ta) : PE X (.UnaryOp op a pos) (tUn r ta) := by
  intro pins s σ H Q I h
  exact UnaryOp_ (thn (ha pins s σ H _ I h) fun v s1 ⟨x, H1, I1, r1, q1⟩ => ho pins s1 σ H1 x v Q I1 r1 q1)
/-! ### ints -/
theorem opI {f : Value → Value → Sem Value} {C : Int → Int → Prop} {g : Int → Int → Int}
    (rule : ∀ (i j : Int) (t u : Tok) (s : Shared) (Q : Value → Shared → Prop) (E : Value → Shared → Prop), C i j → Q (.int (g i j) s.toks) { s with toks := s.toks + 1 } → wpAny (model X.prog X.w) X.A (f (.int i t) (.int j u)) Q E s) :
    OpR X f (rI C fun i j => .int (g i j)) := by
  intro pins s σ H x y v u Q I rx ry h
  obtain ⟨i, j, rfl, rfl, hc, q⟩ := h
  obtain ⟨t, rfl⟩ := rx
  obtain ⟨t', rfl⟩ := ry
  exact rule i j t t' s _ _ hc ⟨.int (g i j), H, I.tok _, ⟨_, rfl⟩, q⟩
theorem opI0 {f : Value → Value → Sem Value} {g : Int → Int → Int}
    (rule : ∀ (i j : Int) (t u : Tok) (s : Shared) (Q : Value → Shared → Prop) (E : Value → Shared → Prop), Q (.int (g i j) s.toks) { s with toks := s.toks + 1 } → wpAny (model X.prog X.w) X.A (f (.int i t) (.int j u)) Q E s) :
    OpR X f (rI0 fun i j => .int (g i j)) := by
  intro pins s σ H x y v u Q I rx ry h
  obtain ⟨i, j, rfl, rfl, q⟩ := h
  obtain ⟨t, rfl⟩ := rx
  obtain ⟨t', rfl⟩ := ry
  exact rule i j t t' s _ _ ⟨.int (g i j), H, I.tok _, ⟨_, rfl⟩, q⟩
theorem opB0 {f : Value → Value → Sem Value} {g : Int → Int → Bool}
    (rule : ∀ (i j : Int) (t u : Tok) (s : Shared) (Q : Value → Shared → Prop) (E : Value → Shared → Prop), Q (.bool (g i j)) s → wpAny (model X.prog X.w) X.A (f (.int i t) (.int j u)) Q E s) :
    OpR X f (rI0 fun i j => .bl (g i j)) := by
  intro pins s σ H x y v u Q I rx ry h
  obtain ⟨i, j, rfl, rfl, q⟩ := h
  obtain ⟨t, rfl⟩ := rx
  obtain ⟨t', rfl⟩ := ry
  exact rule i j t t' s _ _ ⟨.bl (g i j), H, I, rfl, q⟩

def CDiv (i j : Int) : Prop := 0 < j ∧ j < 1073741824
def CDivN (i j : Int) : Prop := j ≠ 0 ∧ j.natAbs < 1073741824
def CPow (i j : Int) : Prop := 0 ≤ j ∧ j ≤ 1000000 ∧ i.natAbs < 2 ^ 64
def CMul (i j : Int) : Prop := (-(2 ^ 64) < i ∧ i < 2 ^ 64) ∨ (-(2 ^ 64) < j ∧ j < 2 ^ 64)
theorem CMul.ok {i j : Int} (h : CMul i j) : IntMulOk i j := by
  rcases h with ⟨h1, h2⟩ | ⟨h1, h2⟩
  · exact .of_left (intBits_le_64 h1 h2)
  · exact .of_right (intBits_le_64 h1 h2)
theorem two_pow_nn (k : Nat) : (0 : Int) ≤ 2 ^ k := by
  rw [two_pow_cast]
  exact Int.natCast_nonneg _

theorem op_add : OpR X (binaryOp .Add) (rI0 fun i j => .int (i + j)) := opI0 fun _ _ _ _ _ _ _ q => add_int q
theorem op_sub : OpR X (binaryOp .Sub) (rI0 fun i j => .int (i - j)) := opI0 fun _ _ _ _ _ _ _ q => sub_int q
theorem op_mul : OpR X (binaryOp .Mult) (rI CMul fun i j => .int (i * j)) := opI fun _ _ _ _ _ _ _ hc q => mul_int q hc.ok
/-- // by a positive divisor -/
theorem op_fdiv : OpR X (binaryOp .FloorDiv) (rI CDiv fun i j => .int (i / j)) := opI fun i j _ _ _ _ _ hc q => by
  have h1 : (0 : Int) < j := hc.1
  have h2 : j < 1073741824 := hc.2
  exact floordiv_int (by omega) (by rw [Int.fdiv_eq_ediv_of_nonneg i (by omega)]; exact q) (.inl (PyProof.noPylong_small (by omega)))
/-- % by a positive divisor of any size -/
theorem op_mod : OpR X (binaryOp .Mod) (rI (fun _ j => 0 < j) fun i j => .int (i % j)) := opI fun i j _ _ _ _ _ hc q => by
  have h1 : (0 : Int) < j := hc
  exact mod_int' (by omega) (by rw [Int.fmod_eq_emod_of_nonneg i (by omega)]; exact q)
theorem op_pow : OpR X (binaryOp .Pow) (rI CPow fun i j => .int (i ^ j.toNat)) := opI fun _ _ _ _ _ _ _ hc q => pow_int_small hc.1 hc.2.1 hc.2.2 q
theorem op_shl : OpR X (binaryOp .LShift) (rI CPow fun i j => .int (i * 2 ^ j.toNat)) := opI fun _ _ _ _ _ _ _ hc q => lshift_int_small hc.1 hc.2.1 hc.2.2 q
theorem op_shr : OpR X (binaryOp .RShift) (rI (fun _ j => 0 ≤ j) fun i j => .int (i / 2 ^ j.toNat)) := opI fun i j _ _ _ _ _ hc q =>
  rshift_int hc (by rw [Int.fdiv_eq_ediv_of_nonneg i (two_pow_nn _)]; exact q)
theorem unI {f : Value → Sem Value} {g : Int → Int}
    (rule : ∀ (i : Int) (t : Tok) (s : Shared) (Q : Value → Shared → Prop) (E : Value → Shared → Prop), Q (.int (g i) s.toks) { s with toks := s.toks + 1 } → wpAny (model X.prog X.w) X.A (f (.int i t)) Q E s) :
    UnR X f (rU fun i => .int (g i)) := by
  intro pins s σ H x v Q I rx h
  obtain ⟨i, rfl, q⟩ := h
  obtain ⟨t, rfl⟩ := rx
  exact rule i t s _ _ ⟨.int (g i), H, I.tok _, ⟨_, rfl⟩, q⟩
theorem un_neg : UnR X (unaryOp .USub) (rU fun i => .int (-i)) := unI fun _ _ _ _ _ q => neg_int q
/-! ### bools among ints: n += (a < b) -/
end

/-! ### comparisons -/
/-- the scalars that == tells apart as data does -/
def scal : V → V → Bool
  | .non, .non => true | .non, .int _ => true | .int _, .non => true | .non, .bl _ => true | .bl _, .non => true | .non, .str _ => true | .str _, .non => true
  | .int _, .int _ => true | .bl _, .bl _ => true | .str _, .str _ => true | .byt _, .byt _ => true
  | .int _, .str _ => true | .str _, .int _ => true | .bl _, .str _ => true | .str _, .bl _ => true
  | _, _ => false
def rEq : R2 := fun x y H Q => scal x y = true ∧ Q (.bl (decide (x = y))) H
def rNe : R2 := fun x y H Q => scal x y = true ∧ Q (.bl (!decide (x = y))) H

theorem dec_int {i j : Int} : decide (V.int i = V.int j) = (i == j) := by
  rw [Bool.eq_iff_iff]
  simp
theorem dec_bl {i j : Bool} : decide (V.bl i = V.bl j) = (i == j) := by
  rw [Bool.eq_iff_iff]
  simp
theorem dec_str {i j : Str} : decide (V.str i = V.str j) = (i == j) := by
  rw [Bool.eq_iff_iff]
  simp
theorem dec_byt {i j : Array UInt8} : decide (V.byt i = V.byt j) = (i.toList == j.toList) := by
  rw [Bool.eq_iff_iff]
  cases i
  cases j
  simp

section
variable {X : Cx} {a b c : Expr} {ta tb tc : TE} {pos : Pos}
theorem fin_bl {pins : List (Addr × Obj)} {σ : St} {H : Hp} {s : Shared} {Q : VK} {k k' : Bool} (I : Inv X pins σ H s) (q : Q (.bl k) H) (e : k = k') : EP X pins σ Q (.bool k') s := by
  subst e
  exact ⟨.bl k, H, I, rfl, q⟩
theorem op_eq : OpR X (compareOp .Eq) rEq := by
  intro pins s σ H x y v u Q I rx ry h
  obtain ⟨hs, q⟩ := h
  cases x with
  | non =>
    cases rx
    cases y with
    | non => cases ry; exact PySem.EqNone.eq_none_none (fin_bl I q (by simp))
    | bl j => cases ry; exact PySem.EqNone.eq_none_bool (fin_bl I q (by simp))
    | int j => obtain ⟨t', rfl⟩ := ry; exact PySem.EqNone.eq_none_int (fin_bl I q (by simp))
    | str j => obtain ⟨t', rfl⟩ := ry; exact PySem.EqNone.eq_none_str (fin_bl I q (by simp))
    | _ => exact absurd (show false = true from hs) Bool.false_ne_true
  | bl i =>
    cases rx
    cases y with
    | non => cases ry; exact PySem.EqNone.eq_bool_none (fin_bl I q (by simp))
    | bl j => cases ry; exact eq_bool (fin_bl I q dec_bl)
    | str j => obtain ⟨t', rfl⟩ := ry; exact PySem.EqMixed.eq_bool_str (fin_bl I q (by simp))
    | _ => exact absurd (show false = true from hs) Bool.false_ne_true
  | int i =>
    obtain ⟨t, rfl⟩ := rx
    cases y with
    | non => cases ry; exact PySem.EqNone.eq_int_none (fin_bl I q (by simp))
    | int j => obtain ⟨t', rfl⟩ := ry; exact eq_int (fin_bl I q dec_int)
    | str j => obtain ⟨t', rfl⟩ := ry; exact PySem.EqMixed.eq_int_str (fin_bl I q (by simp))
    | _ => exact absurd (show false = true from hs) Bool.false_ne_true
  | str i =>
    obtain ⟨t, rfl⟩ := rx
    cases y with
    | non => cases ry; exact PySem.EqNone.eq_str_none (fin_bl I q (by simp))
    | bl j => cases ry; exact PySem.EqMixed.eq_str_bool (fin_bl I q (by simp))
    | int j => obtain ⟨t', rfl⟩ := ry; exact PySem.EqMixed.eq_str_int (fin_bl I q (by simp))
    | str j => obtain ⟨t', rfl⟩ := ry; exact eq_str (fin_bl I q dec_str)
    | _ => exact absurd (show false = true from hs) Bool.false_ne_true
  | byt i =>
    obtain ⟨t, rfl⟩ := rx
    cases y with
    | byt j => obtain ⟨t', rfl⟩ := ry; exact PySem.W.eq_bytes (fin_bl I q dec_byt)
    | _ => exact absurd (show false = true from hs) Bool.false_ne_true
  | _ => cases y <;> exact absurd (show false = true from hs) Bool.false_ne_true
theorem op_ne : OpR X (compareOp .NotEq) rNe := by
  intro pins s σ H x y v u Q I rx ry h
  obtain ⟨hs, q⟩ := h
  cases x with
  | non =>
    cases rx
    cases y with
    | non => cases ry; exact PySem.EqNone.ne_none_none (fin_bl I q (by simp))
    | bl j => cases ry; exact PySem.EqNone.ne_none_bool (fin_bl I q (by simp))
    | int j => obtain ⟨t', rfl⟩ := ry; exact PySem.EqNone.ne_none_int (fin_bl I q (by simp))
    | str j => obtain ⟨t', rfl⟩ := ry; exact PySem.EqNone.ne_none_str (fin_bl I q (by simp))
    | _ => exact absurd (show false = true from hs) Bool.false_ne_true
  | bl i =>
    cases rx
    cases y with
    | non => cases ry; exact PySem.EqNone.ne_bool_none (fin_bl I q (by simp))
    | bl j => cases ry; exact ne_bool (fin_bl I q (congrArg not dec_bl))
    | str j => obtain ⟨t', rfl⟩ := ry; exact PySem.EqMixed.ne_bool_str (fin_bl I q (by simp))
    | _ => exact absurd (show false = true from hs) Bool.false_ne_true
  | int i =>
    obtain ⟨t, rfl⟩ := rx
    cases y with
    | non => cases ry; exact PySem.EqNone.ne_int_none (fin_bl I q (by simp))
    | int j => obtain ⟨t', rfl⟩ := ry; exact ne_int (fin_bl I q (congrArg not dec_int))
    | str j => obtain ⟨t', rfl⟩ := ry; exact PySem.EqMixed.ne_int_str (fin_bl I q (by simp))
    | _ => exact absurd (show false = true from hs) Bool.false_ne_true
  | str i =>
    obtain ⟨t, rfl⟩ := rx
    cases y with
    | non => cases ry; exact PySem.EqNone.ne_str_none (fin_bl I q (by simp))
    | bl j => cases ry; exact PySem.EqMixed.ne_str_bool (fin_bl I q (by simp))
    | int j => obtain ⟨t', rfl⟩ := ry; exact PySem.EqMixed.ne_str_int (fin_bl I q (by simp))
    | str j => obtain ⟨t', rfl⟩ := ry; exact ne_str (fin_bl I q (congrArg not dec_str))
    | _ => exact absurd (show false = true from hs) Bool.false_ne_true
  | byt i =>
    obtain ⟨t, rfl⟩ := rx
    cases y with
    | byt j => obtain ⟨t', rfl⟩ := ry; exact PySem.W.ne_bytes (fin_bl I q (congrArg not dec_byt))
    | _ => exact absurd (show false = true from hs) Bool.false_ne_true
  | _ => cases y <;> exact absurd (show false = true from hs) Bool.false_ne_true

theorem op_lt : OpR X (compareOp .Lt) (rI0 fun i j => .bl (decide (i < j))) := opB0 fun _ _ _ _ _ _ _ q => lt_int q
theorem op_le : OpR X (compareOp .LtE) (rI0 fun i j => .bl (decide (i ≤ j))) := opB0 fun _ _ _ _ _ _ _ q => le_int q
theorem op_gt : OpR X (compareOp .Gt) (rI0 fun i j => .bl (decide (j < i))) := opB0 fun _ _ _ _ _ _ _ q => gt_int q
theorem op_ge : OpR X (compareOp .GtE) (rI0 fun i j => .bl (decide (j ≤ i))) := opB0 fun _ _ _ _ _ _ _ q => ge_int q
/-- is, is not of two objects that are tracked lists or instances -/
def isObj : HO → Bool
  | .lst _ => true
  | .ins _ _ _ => true
  | _ => false
theorem nomark (b : Expr) {op : CmpOp} (h : op ≠ .In := by decide) (h2 : op ≠ .NotIn := by decide) : behindInMarks op b = false := by
  have e1 : (op == CmpOp.In) = false := by cases op <;> first | rfl | exact absurd rfl h
  have e2 : (op == CmpOp.NotIn) = false := by cases op <;> first | rfl | exact absurd rfl h2
  cases b <;> simp [behindInMarks, e1, e2]
/-- a comparison as a value; hm: nomark b, or (for in, not in) by with_unfolding_all rfl -/
theorem pe_cmpR {op : CmpOp} {r : R2} (ho : OpR X (compareOp op) r) (ha : PE X a ta) (hb : PE X b tb) (hm : behindInMarks op b = false) : PE X (.Compare a [op] [b] pos) (tOp r ta tb) := by
  intro pins s σ H Q I h
  exact wpAny_Compare1 (binT ha hb I h fun v u s2 x y H2 I2 rx ry q => ho pins s2 σ H2 x y v u Q I2 rx ry q) hm
/-- a reading of a value as a test -/
def tTest (t : TE) : TT := fun σ H Q => t σ H fun x H' => ∃ k, x = .bl k ∧ Q k H'
theorem pt_cmpR {op : CmpOp} {r : R2} (ho : OpR X (compareOp op) r) (ha : PE X a ta) (hb : PE X b tb) (hm : behindInMarks op b = false) : PT X (.Compare a [op] [b] pos) (tTest (tOp r ta tb)) := by
  intro pins s σ H Q I h
  refine wpAny_isTrue_Compare1 (thn (ha pins s σ H _ I h) fun v s1 ⟨x, H1, I1, r1, q1⟩ => thn (hb pins s1 σ H1 _ I1 q1) fun u s2 ⟨y, H2, I2, r2, q2⟩ =>
    thn (ho pins s2 σ H2 x y v u _ I2 r1 r2 q2) fun c s3 ⟨z, H3, I3, r3, k, e, q3⟩ => ?_) hm
  subst e
  cases r3
  exact wpAny_truthy_bool ⟨H3, I3, q3⟩
/-- a op1 b op2 c -/
def tChain (r r' : R2) (ta tb tc : TE) : TE := fun σ H Q => ta σ H fun x H1 => tb σ H1 fun y H2 => r x y H2 fun z H3 => ∃ k, z = .bl k ∧
  (if k = true then tc σ H3 fun w' H4 => r' y w' H4 Q else Q (.bl false) H3)
theorem pe_chain {op op' : CmpOp} {r r' : R2} (ho : OpR X (compareOp op) r) (ho' : OpR X (compareOp op') r') (ha : PE X a ta) (hb : PE X b tb) (hc : PE X c tc)
    (hm : lastMarks [op, op'] [b, c] = false := by with_unfolding_all rfl) : PE X (.Compare a [op, op'] [b, c] pos) (tChain r r' ta tb tc) := by
  intro pins s σ H Q I h
  refine Compare_chain (thn (ha pins s σ H _ I h) fun v s1 ⟨x, H1, I1, r1, q1⟩ => chain_link (thn (hb pins s1 σ H1 _ I1 q1) fun u s2 ⟨y, H2, I2, r2, q2⟩ =>
    thn (ho pins s2 σ H2 x y v u _ I2 r1 r2 q2) fun d s3 ⟨z, H3, I3, r3, k, e, q3⟩ => ?_)) hm
  subst e
  cases r3
  refine wpAny_truthy_bool ?_
  cases k with
  | false => exact ite_ff ⟨.bl false, H3, I3, rfl, q3⟩
  | true => exact ite_tt (chain_last (thn (hc pins s3 σ H3 _ I3 q3) fun w' s4 ⟨z', H4, I4, r4, q4⟩ => ho' pins s4 σ H4 y z' u w' Q I4 r2 r4 q4))
/-! ### truth -/
/-- a value's truth by the abstract heap -/
def TruV (K : PySem.W.Frag) (x : V) (H : Hp) (k : Bool) : Prop :=
  match x with
  | .non => k = false
  | .bl b => k = b
  | .int i => k = (i != 0)
  | .str y => y.length ≤ sizeLine ∧ k = ((y.length : Int) != 0)
  | .byt y => y.size ≤ sizeLine ∧ k = ((y.size : Int) != 0)
  | .ref p => (∃ xs, SqL K H p xs ∧ k = !xs.isEmpty) ∨ (∃ xs, SqT K H p xs ∧ k = !xs.isEmpty) ∨ ∃ kvs, H p = some (.dK kvs) ∧ k = !kvs.isEmpty
  | _ => False
theorem line63 : (sizeLine : Nat) < 2 ^ 63 := by rw [sizeLine_eq]; decide
/-! ### strs and bytes -/
def PlainIxT (b : Expr) : Prop := ∀ o i, subscripted b false o i = operate [o, i] (getItem o i)
/-! ### scalar builtins, by CallR -/
theorem vals1 {x : V} {us : List Value} (r : Vals [x] us) : ∃ u, us = [u] ∧ RelV x u := by
  cases r with
  | cons r1 r2 => cases r2; exact ⟨_, rfl, r1⟩
theorem vals2 {x y : V} {us : List Value} (r : Vals [x, y] us) : ∃ u w', us = [u, w'] ∧ RelV x u ∧ RelV y w' := by
  cases r with
  | cons r1 r2 =>
    cases r2 with
    | cons r3 r4 => cases r4; exact ⟨_, _, rfl, r1, r3⟩
theorem call_max2 (hc : X.calm = true) : CallR X (.builtin "max") (fun xs H Q => ∃ i j, xs = [.int i, .int j] ∧ Q (.int (if j > i then j else i)) H) := by
  intro pins s σ H xs us Q I r h
  obtain ⟨i, j, rfl, q⟩ := h
  obtain ⟨u, w', rfl, ⟨t, rfl⟩, ⟨t', rfl⟩⟩ := vals2 r
  refine max_two_ints (I.ok.hd hc) fun h' tk k => ⟨_, H, I.kept k, ?_, q⟩
  by_cases hj : j > i
  · rw [if_pos hj, if_pos hj]; exact ⟨_, rfl⟩
  · rw [if_neg hj, if_neg hj]; exact ⟨_, rfl⟩
theorem call_min2 (hc : X.calm = true) : CallR X (.builtin "min") (fun xs H Q => ∃ i j, xs = [.int i, .int j] ∧ Q (.int (if j < i then j else i)) H) := by
  intro pins s σ H xs us Q I r h
  obtain ⟨i, j, rfl, q⟩ := h
  obtain ⟨u, w', rfl, ⟨t, rfl⟩, ⟨t', rfl⟩⟩ := vals2 r
  refine min_two_ints (I.ok.hd hc) fun h' tk k => ⟨_, H, I.kept k, ?_, q⟩
  by_cases hj : j < i
  · rw [if_pos hj, if_pos hj]; exact ⟨_, rfl⟩
  · rw [if_neg hj, if_neg hj]; exact ⟨_, rfl⟩
/-- len of a str, a bytes, a list, a tuple -/
def LenV (K : PySem.W.Frag) (x : V) (H : Hp) (n : Nat) : Prop :=
  match x with
  | .str y => y.length ≤ sizeLine ∧ n = y.length
  | .byt y => y.size ≤ sizeLine ∧ n = y.size
  | .ref p => (∃ xs, SqL K H p xs ∧ n = xs.length) ∨ ∃ xs, SqT K H p xs ∧ n = xs.length
  | _ => False
/-- divmod: a new tuple -/
theorem call_divmod : CallR X (.builtin "divmod") (fun xs H Q => ∃ i j, xs = [.int i, .int j] ∧ CDiv i j ∧ ∀ p, H p = none → Q (.ref p) (upd H p (.tup [.int (i / j), .int (i % j)]))) := by
  intro pins s σ H xs us Q I r h
  obtain ⟨i, j, rfl, ⟨h1, h2⟩, q⟩ := h
  obtain ⟨u, w', rfl, ⟨t, rfl⟩, ⟨t', rfl⟩⟩ := vals2 r
  refine divmod_int (by omega) ?_ (.inl (PyProof.noPylong_small (by omega)))
  rw [Int.fdiv_eq_ediv_of_nonneg i (by omega), Int.fmod_eq_emod_of_nonneg i (by omega)]
  have hn : H s.heap.objs.size = none := I.hok.fresh (Nat.le_refl _)
  refine ⟨.ref s.heap.objs.size, _, ?_, rfl, q _ hn⟩
  refine I.laid (fun b o e => Heap.get?_push_of_some _ e) (Nat.le_refl _) ⟨by simp only [List.length_cons, List.length_nil]; rw [sizeLine_eq]; decide, [.int (i / j) s.toks, .int (i % j) (s.toks + 1)], .cons ⟨_, rfl⟩ (.cons ⟨_, rfl⟩ .nil), ?_⟩
  exact ⟨_, Heap.get?_push_size s.heap rfl, rfl, 0, rfl⟩
end
end L2

namespace L2
open PySem PySem.Spec PyProof.Rows

/-! ### an instance, its attributes a map -/
structure ObjM (h : Heap) (x dx C : Addr) (mA : Str → Option Value) : Prop where
  obj : h.get? x = some (PySem.W.instObj C dx)
  ns : h.Ns1 dx mA
  ne : dx ≠ x

theorem lookIn_ns {h : Heap} {dx : Addr} {mA : Str → Option Value} (n : h.Ns1 dx mA) : ∃ od, h.get? dx = some od ∧ ∀ name, PySem.W.lookIn name od = some (mA name) := by
  obtain ⟨o, es, ep, ho, hd, hk, _, hm⟩ := n
  refine ⟨o, ho, fun name => ?_⟩
  have e := hm name
  unfold nsFind findBy at e
  rw [← Array.find?_toList] at e
  unfold PySem.W.lookIn
  rw [hd]
  dsimp only
  split
  · rename_i y q
    rw [q] at e
    exact congrArg some e
  · rename_i q
    rw [q] at e
    have a : es.toList.any (·.refKey) = false := by
      rw [List.any_eq_false]
      intro y hy
      obtain ⟨z, t, hkey⟩ := hk y (Array.mem_toList_iff.mp hy)
      simp [DictEntry.refKey, hkey]
    have a' : ¬ es.toList.any (·.refKey) = true := by rw [a]; exact Bool.false_ne_true
    rw [if_neg a']
    exact congrArg some e

theorem ObjM.look {h : Heap} {x dx C : Addr} {mA : Str → Option Value} (I : ObjM h x dx C mA) : ∃ od, PySem.W.InstAt h x (PySem.W.instObj C dx) C (some od) ∧ ∀ name, PySem.W.lookIn name od = some (mA name) :=
  let ⟨od, ho, hl⟩ := lookIn_ns I.ns
  ⟨od, ⟨I.obj, rfl, rfl, ho⟩, hl⟩

section
variable {prog : Program} {w : World} {A : Around} {E : Value → Shared → Prop} {s : Shared} {K : PySem.W.Frag} {x dx C f : Addr} {mA : Str → Option Value} {name : Str} {v : Value}

theorem get_map {expr : Bool} {Q : Value → Shared → Prop} (X : K.In s.heap) (I : ObjM s.heap x dx C mA) (hg : PySem.W.plainGet K C name = true) (hh : PySem.W.hasDictIn K C = true)
    (ha : PySem.W.findIn K (.ref C) name = some none) (hv : mA name = some v) (hv' : PySem.W.handedIn v = true) (h : Q v { s with toks := s.toks + 1 }) :
    wpAny (model prog w) A (getAttr (.ref x) name expr) Q E s := by
  obtain ⟨od, J, hl⟩ := I.look
  exact PySem.W.get_value X J (PySem.W.plainGet_of hg).1 (PySem.W.findObj_own hh ha rfl (by rw [hl, hv])) hv' h

theorem get_meth {pl : Sem Bool} {Q : Value × List Value → Shared → Prop} (X : K.In s.heap) (I : ObjM s.heap x dx C mA) (hg : PySem.W.plainGet K C name = true)
    (hf : PySem.W.findIn K (.ref C) name = some (some (.ref f))) (ht : PySem.W.isFn K (.ref f) = true) (hv : mA name = none) (h : Q (.ref f, [.ref x]) s) :
    wpAny (model prog w) A (getMethod (.ref x) name pl) Q E s := by
  obtain ⟨od, J, hl⟩ := I.look
  exact PySem.W.method_fn X J (PySem.W.plainGet_of hg).1 (PySem.W.plainGet_of hg).2 hf (beq_iff_eq.mp ht) (by show (PySem.W.lookIn name od).map (·.isSome) = some false; rw [hl, hv]; rfl) h

theorem set_map {ns : List Str} {Q : Unit → Shared → Prop} (X : K.In s.heap) (I : ObjM s.heap x dx C mA)
    (hs : PySem.W.findIn K (.ref C) "__setattr__" = some (some (.builtin "object.__setattr__"))) (hp : PySem.W.plainOver K C = true) (ht : PySem.W.takerIn K C name = some none) (hh : PySem.W.hasDictIn K C = true)
    (hw : PySem.Within mA ns) (hsz : ns.length ≤ sizeLine)
    (h : ∀ h', ObjM h' x dx C (fun y => if y = name then some v else mA y) → Heap.SameBut dx s.heap h' → Q () { s with heap := h', toks := s.toks + 2 }) :
    wpAny (model prog w) A (setAttr (.ref x) name v) Q E s := by
  obtain ⟨od, J, hl⟩ := I.look
  refine PySem.W.set_plain X J hs (PySem.W.osa_open (s := { s with toks := s.toks + 1 }) (r := none) X J hp ht fun b => ?_)
  obtain ⟨cd, hc, hd'⟩ := PySem.W.any_some hh
  have hx : s.heap.get? x = some ⟨.ref C, some dx, .plain, #[]⟩ := I.obj
  refine wpAny_bind (wpAny_pure (wpAny_bind (wpAny_bind (wpAny_loadPart hx (wpAny_bind (PySem.W.Looks.here (s := { s with toks := s.toks + 1 }) (PySem.W.looks_clsIn X hc) ?_))))))
  rw [hd']
  refine wpAny_pure (a := some dx) (wpAny_bind (wpAny_pure (wpAny_bind ?_)))
  refine wpAny_nsSet1 (s := { s with toks := s.toks + 1 }) I.ns fun h' hn2 hs2 => ?_
  obtain ⟨oD, esD, epD, hoD, hdD, hcD⟩ := hn2.count (PySem.Within.cons name v hw)
  refine wpAny_bind (wpAny_lookBehind hoD (by rw [hdD]; exact pastItsLine_dict (Nat.le_trans hcD (by rw [List.length_cons]; omega))) ?_)
  exact wpAny_pure (h _ ⟨(hs2.2 _ (Ne.symm I.ne)).trans I.obj, hn2, I.ne⟩ hs2)

/-- C(..): the dict at the heap's end, the instance behind it; then its __init__ -/
theorem make_map {R : Result → Shared → Prop} {vs : List Value} {kw : List (Str × Value)} (X : K.In s.heap) (hm : PySem.W.makesIn K C = true)
    (hi : PySem.W.findIn K (.ref C) "__init__" = some (some (.ref f))) (hf : PySem.W.typeIn K (.ref f) = some (.type "function"))
    (h : codeAny (model prog w) (A.under (.builtin "type.__call__" ⟨.ref C :: vs, kw⟩)) (.call (.ref f) ⟨.ref (s.heap.objs.size + 1) :: vs, kw⟩) (PySem.W.InitBack (s.heap.objs.size + 1) R)
      { s with heap := (s.heap.push PySem.W.emptyDict).push (PySem.W.instObj C s.heap.objs.size) }) :
    codeAny (model prog w) A (.call (.ref C) ⟨vs, kw⟩) R s := by
  obtain ⟨hh, g, d, t, os⟩ := s
  exact PySem.W.make_core (PySem.W.makes_of X hm) (PySem.W.looks_findIn X hi) (fun self => PySem.W.bind_fn X self hf) (.inl rfl) h
end

/-! ### the attributes as a list of pairs -/
def putF (f : Str) (v : V) : List (Str × V) → List (Str × V)
  | [] => [(f, v)]
  | (g, x) :: r => if g = f then (g, v) :: r else (g, x) :: putF f v r
theorem lookup_putF (f g : Str) (v : V) : ∀ fs : List (Str × V), (putF f v fs).lookup g = if g = f then some v else fs.lookup g
  | [] => by
    show List.lookup g [(f, v)] = _
    by_cases h : g = f
    · have hb : (g == f) = true := beq_iff_eq.mpr h
      simp only [List.lookup, hb, if_pos h]
    · have hb : (g == f) = false := beq_eq_false_iff_ne.mpr h
      simp only [List.lookup, hb, if_neg h]
  | (k, x) :: r => by
    have ih := lookup_putF f g v r
    rw [show putF f v ((k, x) :: r) = (if k = f then (k, v) :: r else (k, x) :: putF f v r) from rfl]
    by_cases hk : k = f
    · rw [if_pos hk]
      by_cases h : g = k
      · have hb : (g == k) = true := beq_iff_eq.mpr h
        simp only [List.lookup, hb, if_pos (h.trans hk)]
      · have hb : (g == k) = false := beq_eq_false_iff_ne.mpr h
        simp only [List.lookup, hb, if_neg (fun e : g = f => h (e.trans hk.symm))]
    · rw [if_neg hk]
      by_cases h : g = k
      · have hb : (g == k) = true := beq_iff_eq.mpr h
        simp only [List.lookup, hb, if_neg (fun e : g = f => hk (h.symm.trans e))]
      · have hb : (g == k) = false := beq_eq_false_iff_ne.mpr h
        simp only [List.lookup, hb]
        exact ih
theorem keys_putF (f : Str) (v : V) : ∀ fs : List (Str × V), f ∈ (putF f v fs).map (·.1) ∧ ∀ g, g ∈ fs.map (·.1) → g ∈ (putF f v fs).map (·.1)
  | [] => ⟨by simp [putF], fun g h => by simp at h⟩
  | (k, x) :: r => by
    obtain ⟨i1, i2⟩ := keys_putF f v r
    rw [show putF f v ((k, x) :: r) = (if k = f then (k, v) :: r else (k, x) :: putF f v r) from rfl]
    by_cases hk : k = f
    · rw [if_pos hk]
      subst hk
      exact ⟨by simp, fun g h => by simpa using h⟩
    · rw [if_neg hk]
      refine ⟨?_, fun g h => ?_⟩
      · rw [List.map_cons]
        exact List.mem_cons_of_mem _ i1
      · rw [List.map_cons] at h ⊢
        rcases List.mem_cons.mp h with e | e
        · exact List.mem_cons.mpr (.inl e)
        · exact List.mem_cons_of_mem _ (i2 g e)
theorem length_putF (f : Str) (v : V) : ∀ fs : List (Str × V), (putF f v fs).length ≤ fs.length + 1
  | [] => by simp [putF]
  | (k, x) :: r => by
    have ih := length_putF f v r
    rw [show putF f v ((k, x) :: r) = (if k = f then (k, v) :: r else (k, x) :: putF f v r) from rfl]
    by_cases hk : k = f
    · rw [if_pos hk, List.length_cons, List.length_cons]; omega
    · rw [if_neg hk, List.length_cons, List.length_cons]; omega

theorem RelO.some_of {v : V} {o : Option Value} (r : RelO (some v) o) : ∃ u, o = some u ∧ RelV v u := by
  cases o with
  | none => exact (show False from r).elim
  | some u => exact ⟨u, rfl, r⟩
theorem RelO.none_of {o : Option Value} (r : RelO none o) : o = none := by
  cases o with
  | none => rfl
  | some u => exact (show False from r).elim
theorem handed_of {v : V} {u : Value} (r : RelV v u) : PySem.W.handedIn u = true := by
  cases v with
  | non => cases (show u = Value.none from r); rfl
  | bl b => cases (show u = Value.bool b from r); rfl
  | int i => obtain ⟨t, e⟩ := (show ∃ t, u = Value.int i t from r); cases e; rfl
  | str x => obtain ⟨t, e⟩ := (show ∃ t, u = Value.str x t from r); cases e; rfl
  | byt b => obtain ⟨t, e⟩ := (show ∃ t, u = Value.bytes b t from r); cases e; rfl
  | flt b => obtain ⟨t, e⟩ := (show ∃ t, u = Value.float b t from r); cases e; rfl
  | ref a => cases (show u = Value.ref a from r); rfl
  | ty n => cases (show u = Value.type n from r); rfl

section
variable {P : Program} {w : World} {H H' : Hp} {h h' : Heap} {a C dx : Addr} {fs fs' : List (Str × V)}
theorem ins_get (hok : HOk P w H h) (e : H a = some (.ins C dx fs)) : ∃ mA, ObjM h a dx C mA ∧ (∀ f, RelO (fs.lookup f) (mA f)) ∧ PySem.Within mA (fs.map (·.1)) ∧ fs.length ≤ 1000 ∧ H dx = some (.own a) := by
  obtain ⟨d, z, ne, ob, mA, n, r, q⟩ := (show ObjOk P w H h a (.ins C dx fs) from hok a _ e)
  exact ⟨mA, ⟨ob, n, ne⟩, r, q, z, d⟩
end

/-! ### what of the text a class must have -/
structure Cls (K : PySem.W.Frag) (C : Addr) : Prop where
  pg : PySem.W.plainGet K C Str.empty = true
  hd : PySem.W.hasDictIn K C = true
  po : PySem.W.plainOver K C = true
  sa : PySem.W.findIn K (.ref C) "__setattr__" = some (some (.builtin "object.__setattr__"))
theorem Cls.get {K : PySem.W.Frag} {C : Addr} (c : Cls K C) (f : Str) : PySem.W.plainGet K C f = true := c.pg
/-- no class of it has the name -/
def NoAttr (K : PySem.W.Frag) (C : Addr) (f : Str) : Prop := PySem.W.findIn K (.ref C) f = some none
theorem NoAttr.taker {K : PySem.W.Frag} {C : Addr} {f : Str} (n : NoAttr K C f) : PySem.W.takerIn K C f = some none := by
  unfold PySem.W.takerIn
  rw [show PySem.W.findIn K (.ref C) f = some none from n]
  rfl
/-- a constant of the class -/
structure Con (K : PySem.W.Frag) (C : Addr) (f : Str) (v : V) (u : Value) : Prop where
  at_ : PySem.W.findIn K (.ref C) f = some (some u)
  rel : RelV v u
  get : PySem.W.specialIn K u "__get__" = some none
  cp : PySem.W.copiedNames.contains f = false
/-- a method: a plain def of the class or of one above it -/
structure Meth (K : PySem.W.Frag) (C : Addr) (m : Str) (f : Addr) : Prop where
  at_ : PySem.W.findIn K (.ref C) m = some (some (.ref f))
  fn : PySem.W.isFn K (.ref f) = true
  kp : PySem.W.keepIn K (.ref f) = true

section
variable {X : Cx} {pins : List (Addr × Obj)} {σ : St} {H : Hp} {s : Shared} {a C dx : Addr} {fs : List (Str × V)} {f : Str} {v : V} {A : Around} {E : Value → Shared → Prop}

theorem getattr_ok {b : Bool} {Q : Value → Shared → Prop} (I : Inv X pins σ H s) (e : H a = some (.ins C dx fs)) (c : Cls X.K C) (n : NoAttr X.K C f) (l : fs.lookup f = some v)
    (h : ∀ u s', Inv X pins σ H s' → RelV v u → Q u s') : wpAny (model X.prog X.w) A (getAttr (.ref a) f b) Q E s := by
  obtain ⟨mA, O, r, _, _, _⟩ := ins_get I.hok e
  obtain ⟨u, hu, ru⟩ := RelO.some_of (v := v) (o := mA f) (by rw [← l]; exact r f)
  exact get_map I.kIn O (c.get f) c.hd n hu (handed_of ru) (h u _ (I.tok _) ru)

theorem getmeth_ok {m : Str} {g : Addr} {pl : Sem Bool} {Q : Value × List Value → Shared → Prop} (I : Inv X pins σ H s) (e : H a = some (.ins C dx fs)) (c : Cls X.K C) (k : Meth X.K C m g) (l : fs.lookup m = none)
    (h : Q (.ref g, [.ref a]) s) : wpAny (model X.prog X.w) A (getMethod (.ref a) m pl) Q E s := by
  obtain ⟨mA, O, r, _, _, _⟩ := ins_get I.hok e
  have hn : mA m = none := RelO.none_of (by rw [← l]; exact r m)
  exact get_meth I.kIn O (c.get m) k.at_ k.fn hn h

theorem setattr_ok {y : V} {u : Value} {Q : Unit → Shared → Prop} (I : Inv X pins σ H s) (e : H a = some (.ins C dx fs)) (c : Cls X.K C) (n : NoAttr X.K C f) (hl : fs.length < 1000) (ry : RelV y u)
    (h : ∀ s', Inv X pins σ (upd H a (.ins C dx (putF f y fs))) s' → Q () s') : wpAny (model X.prog X.w) A (setAttr (.ref a) f u) Q E s := by
  obtain ⟨mA, O, r, wi, _, ho⟩ := ins_get I.hok e
  have hz : (fs.map (·.1)).length ≤ sizeLine := by rw [List.length_map, sizeLine_eq]; omega
  refine set_map I.kIn O c.sa c.po n.taker c.hd wi hz fun h' O' sb => h _ ?_
  have hd : ∃ o, h'.get? dx = some o := let ⟨o, _, _, e', _⟩ := O'.ns; ⟨o, e'⟩
  refine I.write (x := a) (e := dx) (by rw [e]; exact True.intro) (.inr ho) (fun b q hb z => (sb.2 b hb).trans z) hd ?_
  refine ⟨by rw [upd_ne O.ne]; exact ho, ?_, O.ne, O'.obj, _, O'.ns, fun g => ?_, fun g hg => ?_⟩
  · have := length_putF f y fs; omega
  · show RelO ((putF f y fs).lookup g) (if g = f then some u else mA g)
    rw [lookup_putF]
    by_cases q : g = f
    · rw [if_pos q, if_pos q]; exact ry
    · rw [if_neg q, if_neg q]; exact r g
  · by_cases q : g = f
    · rw [q]; exact (keys_putF f y fs).1
    · refine (keys_putF f y fs).2 g (wi g fun z => hg ?_)
      show (if g = f then some u else mA g) = none
      rw [if_neg q]; exact z

/-- a new instance, tracked, without attributes -/
theorem Inv.made (I : Inv X pins σ H s) : Inv X pins σ (upd (upd H s.heap.objs.size (.own (s.heap.objs.size + 1))) (s.heap.objs.size + 1) (.ins C s.heap.objs.size []))
    { s with heap := (s.heap.push PySem.W.emptyDict).push (PySem.W.instObj C s.heap.objs.size) } := by
  have e1 : (s.heap.push PySem.W.emptyDict).get? s.heap.objs.size = some PySem.W.emptyDict := Heap.get?_push_size s.heap rfl
  have e2 : ((s.heap.push PySem.W.emptyDict).push (PySem.W.instObj C s.heap.objs.size)).get? (s.heap.objs.size + 1) = some (PySem.W.instObj C s.heap.objs.size) := by
    have := Heap.get?_push_size (s.heap.push PySem.W.emptyDict) (o := PySem.W.instObj C s.heap.objs.size) rfl
    rwa [Heap.size_push] at this
  have e3 : (s.heap.push PySem.W.emptyDict).Ns s.heap.objs.size (fun _ => none) := ⟨PySem.W.emptyDict, #[], _, e1, rfl, (fun e he => absurd he (by simp)), fun _ => rfl⟩
  have I1 := I.laid (a := s.heap.objs.size) (o := .own (s.heap.objs.size + 1)) (h' := s.heap.push PySem.W.emptyDict) (t' := s.toks) (fun b u q => Heap.get?_push_of_some _ q) (Nat.le_refl _) ⟨_, e1⟩
  refine I1.laid (a := s.heap.objs.size + 1) (o := .ins C s.heap.objs.size []) (t' := s.toks) (fun b u q => Heap.get?_push_of_some _ q) (Nat.le_of_eq (Heap.size_push _ _)) ?_
  have ne : s.heap.objs.size ≠ s.heap.objs.size + 1 := Nat.ne_of_lt (Nat.lt_succ_self _)
  refine ⟨by rw [upd_ne ne, upd_same], Nat.zero_le _, ne, e2, fun _ => none, (Heap.Ns1.of_empty e3).at fun o q => Heap.get?_push_of_some _ q, fun _ => True.intro, fun y hy => absurd rfl hy⟩

/-- e.f where nothing but the object is asked: through attributeBase (super) and the last hold -/
theorem attr_of {prog : Program} {w : World} {env : Env} {e : Expr} {f : Str} {pos : Pos} {s : Shared} {Q : Value → Shared → Prop} (hb : attributeBase e f env (eval e env) = eval e env)
    (h : wpAny (model prog w) A (eval e env) (fun o s₁ => wpAny (model prog w) A (getAttr o f true) Q E s₁) E s) : wpAny (model prog w) A (eval (.Attribute e f pos) env) Q E s :=
  Attribute_any_ h (by rw [arm_eval_Attribute, hb])
end

/-! ### readings and rules -/
/-- e.f, an attribute of the instance -/
def tFld (K : PySem.W.Frag) (ta : TE) (f : Str) : TE := fun σ H Q => ta σ H fun x H1 => ∃ a C dx fs v, x = .ref a ∧ H1 a = some (.ins C dx fs) ∧ Cls K C ∧ NoAttr K C f ∧ fs.lookup f = some v ∧ Q v H1
/-- e.f, a constant of the class -/
def tCon (K : PySem.W.Frag) (ta : TE) (f : Str) : TE := fun σ H Q => ta σ H fun x H1 => ∃ a C dx fs v u, x = .ref a ∧ H1 a = some (.ins C dx fs) ∧ Cls K C ∧ Con K C f v u ∧ fs.lookup f = none ∧ Q v H1
/-- e.f = value -/
def sFld (K : PySem.W.Frag) (ta tv : TE) (f : Str) : TS := fun D σ H => tv σ H fun y H1 => ta σ H1 fun x H2 => ∃ a C dx fs, x = .ref a ∧ H2 a = some (.ins C dx fs) ∧ Cls K C ∧ NoAttr K C f ∧ fs.length < 1000 ∧
  D.nx σ (upd H2 a (.ins C dx (putF f y fs)))
/-- an augmented operator on two values -/
def InOp (X : Cx) (op : Operator) (rd : V → V → Hp → VK → Prop) : Prop :=
  ∀ (pins : List (Addr × Obj)) (s : Shared) (σ : St) (H : Hp) (x y : V) (u v : Value) (Q : VK), Inv X pins σ H s → RelV x u → RelV y v → rd x y H Q → wpAny (model X.prog X.w) X.A (inplaceOp op u v) (EP X pins σ Q) X.xe s
/-- e.f op= value -/
def sFldAug (K : PySem.W.Frag) (ta tv : TE) (rd : V → V → Hp → VK → Prop) (f : Str) : TS := fun D σ H => ta σ H fun x H1 => ∃ a C dx fs v, x = .ref a ∧ H1 a = some (.ins C dx fs) ∧ Cls K C ∧ NoAttr K C f ∧ fs.lookup f = some v ∧
  tv σ H1 fun y H2 => rd v y H2 fun z H3 => ∃ dx' fs', H3 a = some (.ins C dx' fs') ∧ fs'.length < 1000 ∧ D.nx σ (upd H3 a (.ins C dx' (putF f z fs')))

section
variable {X : Cx} {o e value : Expr} {f : Str} {pos pos' tpos : Pos} {ta tv : TE}
theorem pe_fld (he : PE X e ta) (hb : attributeBase e f X.env (eval e X.env) = eval e X.env) : PE X (.Attribute e f pos) (tFld X.K ta f) := by
  intro pins s σ H Q I h
  refine attr_of hb (thn (he pins s σ H _ I h) fun u s1 ⟨x, H1, I1, rx, a, C, dx, fs, v, ex, ea, c, n, l, q⟩ => ?_)
  subst ex
  obtain rfl : u = Value.ref a := rx
  exact getattr_ok I1 ea c n l fun u' s2 I2 ru => ⟨v, H1, I2, ru, q⟩
theorem ps_fld (ha : PE X o ta) (hv : PE X value tv) (hs : swapsWith value (some (.Attribute o f pos')) pos.line X.env = pure false) : PS X (.Assign [.Attribute o f pos'] value pos) (sFld X.K ta tv f) := by
  intro pins s σ H D I h
  refine plainObj_wpAny_Assign_Attribute (thn (hv pins s σ H _ I h) fun u s1 ⟨y, H1, I1, ry, q⟩ => thn (ha pins s1 σ H1 _ I1 q) fun ov s2 ⟨x, H2, I2, rx, a, C, dx, fs, ex, ea, c, n, l, q2⟩ => ?_) hs
  subst ex
  obtain rfl : ov = Value.ref a := rx
  exact setattr_ok I2 ea c n l ry fun s3 I3 => ⟨σ, _, I3, q2⟩
def rAdd : V → V → Hp → VK → Prop := fun x y H Q => ∃ i j, x = .int i ∧ y = .int j ∧ Q (.int (i + j)) H
def rSub : V → V → Hp → VK → Prop := fun x y H Q => ∃ i j, x = .int i ∧ y = .int j ∧ Q (.int (i - j)) H
end

/-! ### isinstance -/
section
variable {X : Cx} {pins : List (Addr × Obj)} {σ : St} {H : Hp} {s : Shared} {A : Around} {E : Value → Shared → Prop} {Q : Value → Shared → Prop} {c : Value} {b : Bool}
/-- the type of a value, as the fragment's deciders take it; for an instance its class -/
inductive TyOf (K : PySem.W.Frag) (H : Hp) : V → Value → Prop where
  | non : TyOf K H .non (.type "NoneType")
  | bl (x : Bool) : TyOf K H (.bl x) (.type "bool")
  | int (i : Int) : TyOf K H (.int i) (.type "int")
  | str (x : Str) : TyOf K H (.str x) (.type "str")
  | flt (x : UInt64) : TyOf K H (.flt x) (.type "float")
  | lst {a : Addr} {xs : List V} (e : H a = some (.lst xs)) : TyOf K H (.ref a) (.type "list")
  | frz {a : Addr} {o : Obj} {xs : List V} (e : H a = some (.frz o (.lst xs))) : TyOf K H (.ref a) (.type "list")
  | tup {a : Addr} {xs : List V} (e : H a = some (.tup xs)) : TyOf K H (.ref a) (.type "tuple")
  | dK {a : Addr} {kvs : List (Key × V)} (e : H a = some (.dK kvs)) : TyOf K H (.ref a) (.type "dict")
  | dT {a : Addr} {kvs : List (List Key × V)} (e : H a = some (.dT kvs)) : TyOf K H (.ref a) (.type "dict")
  | ins {a C dx : Addr} {fs : List (Str × V)} (e : H a = some (.ins C dx fs)) (cl : Cls K C) (ha : PySem.W.findIn K (.ref C) "__class__" = some (some (.builtin "object.__class__")))
      (hn : PySem.W.specialIn K (.builtin "object.__class__") "__get__" = some (some (.builtin "getset_descriptor.__get__"))) (htk : PySem.W.takesIn K (.builtin "object.__class__") = some true)
      (hm : PySem.W.mroIn K C (.type "object") = some true) : TyOf K H (.ref a) (.ref C)
end
end L2

namespace L2
open PySem PySem.Spec PyProof.Rows

/-! ### room -/
structure Room (k : Nat) (A : Around) : Prop where
  hd : A.handled = none
  dp : A.depth + 3 * k + 5 < recursionLimit
  un : A.units + 16 * k + 200 < cLine
  gd : A.guards = some []
theorem Room.mono {j k : Nat} {A : Around} (r : Room k A) (h : j ≤ k) : Room j A := ⟨r.hd, by have := r.dp; omega, by have := r.un; omega, r.gd⟩
theorem Room.deeper {k : Nat} {A : Around} (r : Room (k + 1) A) (env : Env) : Room k (A.deeper env) :=
  ⟨r.hd, by have := r.dp; show A.depth + 1 + 3 * k + 5 < _; omega, by have := r.un; show A.units + 3 + 16 * k + 200 < _; omega, r.gd⟩
theorem make_depth {A : Around} {C : Addr} {us : List Value} {kw : List (Str × Value)} : (A.under (.builtin "type.__call__" ⟨.ref C :: us, kw⟩)).depth = A.depth + 1 := by
  first | rfl | simp [Around.under, Code.weight, Code.isCreation, Code.isGuard, Code.isCaller, Code.frames, Code.isFrame, guardIds]
theorem make_units {A : Around} {C : Addr} {us : List Value} {kw : List (Str × Value)} : (A.under (.builtin "type.__call__" ⟨.ref C :: us, kw⟩)).units = A.units + 1 := by
  first | rfl | simp [Around.under, Code.cUnits, Code.frames, Code.isFrame]
theorem make_guards {A : Around} {C : Addr} {us : List Value} {kw : List (Str × Value)} : (A.under (.builtin "type.__call__" ⟨.ref C :: us, kw⟩)).guards = A.guards := by
  have hg : guardIds.contains "type.__call__" = false := by decide +kernel
  have e : Code.guards (.builtin "type.__call__" ⟨.ref C :: us, kw⟩) = [] := by
    unfold Code.guards
    rw [if_neg (fun z => by rw [show Code.isGuard (.builtin "type.__call__" ⟨.ref C :: us, kw⟩) = guardIds.contains "type.__call__" from rfl, hg] at z; cases z)]
  unfold Around.under
  rw [e]
  rfl
theorem Room.make {k : Nat} {A : Around} (r : Room (k + 1) A) (C : Addr) (us : List Value) (kw : List (Str × Value)) : Room k (A.under (.builtin "type.__call__" ⟨.ref C :: us, kw⟩)) :=
  ⟨r.hd, by have := r.dp; rw [make_depth]; omega, by have := r.un; rw [make_units]; omega, make_guards.trans r.gd⟩
theorem Room.depth {k : Nat} {A : Around} (r : Room k A) : A.depth < recursionLimit := by have := r.dp; omega
theorem Room.units {k : Nat} {A : Around} (r : Room k A) : A.units + 64 < cLine := by have := r.un; omega
/-! ### argument lists and displays -/
def tNil : TA := fun _ H Q => Q [] H
def tCons (ta : TE) (tr : TA) : TA := fun σ H Q => ta σ H fun x H1 => tr σ H1 fun xs H2 => Q (x :: xs) H2
section
variable {X : Cx} {e : Expr} {es : List Expr} {te : TE} {t : TA} {pos : Pos}
theorem pa_nil : PA X [] tNil := fun _ _ _ _ H Q I h => Calls.spliced_nil ⟨[], H, I, .nil, h⟩
theorem pa_cons (ha : PE X e te) (hr : PA X es t) (hs : starEach (e :: es) X.env = (false, eval e X.env) :: starEach es X.env := by rfl) : PA X (e :: es) (tCons te t) := by
  intro pos pins s σ H Q I h
  rw [hs]
  show wpAny _ _ (spliced ((false, eval e X.env) :: backTo pos (starEach es X.env))) _ _ s
  refine Calls.spliced_cons (thn (ha pins s σ H _ I h) fun u s1 ⟨x, H1, I1, r1, q1⟩ => ?_)
  exact thn (hr pos pins s1 σ H1 _ I1 q1) fun us s2 ⟨xs, H2, I2, r2, q2⟩ => ⟨x :: xs, H2, I2, .cons r1 r2, q2⟩

/-- a tuple, a list of written items -/
def tTup (t : TA) : TE := fun σ H Q => t σ H fun xs H1 => xs.length ≤ sizeLine ∧ ∀ p, H1 p = none → Q (.ref p) (upd H1 p (.tup xs))
def tLst (t : TA) : TE := fun σ H Q => t σ H fun xs H1 => xs.length ≤ sizeLine ∧ ∀ p, H1 p = none → Q (.ref p) (upd H1 p (.lst xs))
theorem pe_tup {x1} (h : PA X es t) : PE X (.Tuple es x1 pos) (tTup t) := by
  intro pins s σ H Q I hq
  refine wpAny_Tuple_spliced (thn (h pos pins s σ H _ I hq) fun us s1 ⟨xs, H1, I1, r, z, q⟩ => ⟨by rw [← r.length]; exact z, ?_⟩)
  have hf : H1 s1.heap.objs.size = none := I1.hok.fresh (Nat.le_refl _)
  refine ⟨.ref s1.heap.objs.size, upd H1 s1.heap.objs.size (.tup xs), I1.laid (t' := s1.toks) (fun b u e => Heap.get?_push_of_some _ e) (Nat.le_refl _) ?_, rfl, q _ hf⟩
  exact ⟨z, us, r, ⟨_, Heap.get?_push_size _ rfl, rfl, _, rfl⟩⟩
theorem pe_lst (h : PA X es t) : PE X (.List es pos) (tLst t) := by
  intro pins s σ H Q I hq
  refine wpAny_List_spliced (thn (h pos pins s σ H _ I hq) fun us s1 ⟨xs, H1, I1, r, z, q⟩ => ⟨by rw [← r.length]; exact z, ?_⟩)
  have hf : H1 s1.heap.objs.size = none := I1.hok.fresh (Nat.le_refl _)
  refine ⟨.ref s1.heap.objs.size, upd H1 s1.heap.objs.size (.lst xs), I1.laid (t' := s1.toks) (fun b u e => Heap.get?_push_of_some _ e) (Nat.le_refl _) ?_, rfl, q _ hf⟩
  exact ⟨z, us, 0, r, Heap.get?_push_size _ rfl⟩
end

/-! ### what a def promises -/
/-- a def's promise: the bound arguments in the parameters' order, the heap, the wanted end, the wanted exception -/
abbrev Sp := List V → Hp → VK → XK → Prop
/-- how an exception lies behind a call (file 08 gives it): the callers' frames, abstract heap and state ahead of the call, the wish, the exception, the state -/
abbrev CXT := List Env → Hp → Shared → XK → Value → Shared → Prop

/-- the state at a call -/
structure Env0 (P : Program) (w : World) (K : PySem.W.Frag) (mg : Str → Option Value) (base : Heap) (A : Around) (outer : List Env) (s : Shared) (H : Hp) : Prop where
  frames : A.frames = some outer
  mod : Mod K mg base
  bs : ∀ b o, base.get? b = some o → s.heap.get? b = some o ∧ H b = none
  bsz : base.objs.size ≤ s.heap.objs.size
  funs : s.heap.FunFrames base outer
  frf : ∀ b ∈ frs outer, H b = none
  hok : HOk P w H s.heap
  bare : AllBare s.gens
/-- a call's end -/
def CE (outer : List Env) (P : Program) (w : World) (H : Hp) (s : Shared) (Q : VK) (u : Value) (s' : Shared) : Prop :=
  ∃ v H', s'.os = s.os ∧ AllBare s'.gens ∧ Un (frs outer) [] H H' s.heap s'.heap ∧ HOk P w H' s'.heap ∧ RelV v u ∧ Q v H'
def CR (CX : CXT) (outer : List Env) (P : Program) (w : World) (H : Hp) (s : Shared) (Q : VK) (E : XK) (r : Result) (s' : Shared) : Prop :=
  match r with
  | .ok (.ret u) => CE outer P w H s Q u s'
  | .ok _ => False
  | .error e => CX outer H s E e s'
structure FnOk (P : Program) (w : World) (K : PySem.W.Frag) (mg : Str → Option Value) (base : Heap) (CX : CXT) (k : Nat) (f : Addr) (fd : FuncData) (ps : List Str) (sp : Sp) : Prop where
  len : ∀ vs H Q E, sp vs H Q E → vs.length = ps.length
  run : ∀ (A : Around) (outer : List Env) (s : Shared) (H : Hp) (args : Args) (us : List Value) (vs : List V) (Q : VK) (E : XK), Room k A → Env0 P w K mg base A outer s H → BindsTo s fd args (ps.zip us) → Vals vs us → sp vs H Q E →
    codeAny (model P w) A (.call (.ref f) args) (CR CX outer P w H s Q E) s
theorem FnOk.mono {P : Program} {w : World} {K : PySem.W.Frag} {mg : Str → Option Value} {base : Heap} {CX : CXT} {j k : Nat} {f : Addr} {fd : FuncData} {ps : List Str} {sp : Sp} (F : FnOk P w K mg base CX j f fd ps sp) (h : j ≤ k) :
    FnOk P w K mg base CX k f fd ps sp := ⟨F.len, fun A outer s H args us vs Q E hr => F.run A outer s H args us vs Q E (hr.mono h)⟩
theorem Env0.make {P : Program} {w : World} {K : PySem.W.Frag} {mg : Str → Option Value} {base : Heap} {A : Around} {outer : List Env} {s : Shared} {H : Hp} (e : Env0 P w K mg base A outer s H) (C : Addr) (us : List Value) (kw : List (Str × Value)) :
    Env0 P w K mg base (A.under (.builtin "type.__call__" ⟨.ref C :: us, kw⟩)) outer s H := ⟨by first | exact e.frames | (simpa [Around.under, Code.envs, Code.isFrame, pushEnvs] using e.frames), e.mod, e.bs, e.bsz, e.funs, e.frf, e.hok, e.bare⟩
section
variable {X : Cx} {pins : List (Addr × Obj)} {σ : St} {H : Hp} {s s' : Shared}
/-- from a body: what a callee wants -/
theorem Inv.env0 (I : Inv X pins σ H s) : Env0 X.prog X.w X.K X.mg X.base X.A X.stack s H :=
  ⟨I.ok.frames, I.ok.mod, I.bs, Nat.le_trans I.ok.bsz I.sz, I.stack, I.stkFree, I.hok, I.bare⟩
/-- behind a call -/
theorem Inv.after {Q : VK} {u : Value} (I : Inv X pins σ H s) (h : CE X.stack X.prog X.w H s Q u s') : EP X pins σ Q u s' := by
  obtain ⟨v, H', os, bare, un, hok, r, q⟩ := h
  obtain ⟨hh, g, d, t, os'⟩ := s'
  obtain rfl : os' = s.os := os
  exact ⟨v, H', I.call (h' := hh) (g' := g) (d' := d) (t' := t) (ch := []) un hok bare (fun b z => absurd z (by simp)), r, q⟩
end

/-! ### calls -/
/-- f(..): the written arguments, then the defaults dvs; E: what is wanted of an exception -/
def tCall (sp : Sp) (dvs : List V) (E : XK) (t : TA) : TE := fun σ H Q => t σ H fun vs H1 => sp (vs ++ dvs) H1 Q E
/-- o.m(..) of an instance of the class at C -/
def tMeth (C : Addr) (m : Str) (sp : Sp) (dvs : List V) (E : XK) (ta : TE) (t : TA) : TE := fun σ H Q => ta σ H fun x H1 => ∃ a dx fs, x = .ref a ∧ H1 a = some (.ins C dx fs) ∧ fs.lookup m = none ∧
  t σ H1 fun vs H2 => sp (x :: (vs ++ dvs)) H2 Q E
/-- C(..): a new instance and its dict, then __init__ -/
def tMake (C : Addr) (sp : Sp) (dvs : List V) (E : XK) (t : TA) : TE := fun σ H Q => t σ H fun vs H1 => ∀ x dx, H1 x = none → H1 dx = none → dx ≠ x →
  sp (.ref x :: (vs ++ dvs)) (upd (upd H1 dx (.own x)) x (.ins C dx [])) (fun v H2 => v = .non ∧ Q (.ref x) H2) E

/-- how the parameters are bound: us the positional arguments, kw the keywords' values by name, ds the defaults that fill up -/
def Binds (K : PySem.W.Frag) (fd : FuncData) (ps : List Str) (ds : List Value) : Prop :=
  ∀ (s : Shared) (us : List Value), K.In s.heap → (us ++ ds).length = ps.length → BindsTo s fd ⟨us, []⟩ (ps.zip (us ++ ds))
/-- every parameter is given -/
theorem Binds.all {K : PySem.W.Frag} {fd : FuncData} {ps : List Str} (h : ∀ us : List Value, us.length = ps.length → bindArgs fd ⟨us, []⟩ = pure (ps.zip us)) : Binds K fd ps [] := fun s us _ hl => by
  rw [List.append_nil] at hl ⊢
  exact .of_eq (h us hl)

/-- an exception of a callee reaches what this body wants of exceptions -/
def Passes (CX : CXT) (X : Cx) (E : XK) : Prop := ∀ (pins : List (Addr × Obj)) (σ : St) (H : Hp) (s : Shared) (e : Value) (s' : Shared), Inv X pins σ H s → CX X.stack H s E e s' → X.xe e s'

section
variable {X : Cx} {CX : CXT} {k : Nat} {f C : Addr} {fd : FuncData} {ps : List Str} {sp : Sp} {dvs : List V} {ds : List Value} {E : XK} {x m : Str} {p pos apos : Pos} {e o : Expr} {es : List Expr} {ta : TE} {t : TA}

/-- the callee runs -/
theorem run_fn {pins : List (Addr × Obj)} {σ : St} {H : Hp} {s : Shared} {Q : VK} {us : List Value} {vs : List V} (F : FnOk X.prog X.w X.K X.mg X.base CX k f fd ps sp) (hr : Room k X.A) (hb : Binds X.K fd ps ds) (hd : Vals dvs ds) (hx : Passes CX X E)
    (I : Inv X pins σ H s) (r : Vals vs us) (h : sp (vs ++ dvs) H Q E) : wpAny (model X.prog X.w) X.A (call (.ref f) us) (EP X pins σ Q) X.xe s := by
  have r2 : Vals (vs ++ dvs) (us ++ ds) := r.append hd
  have hl : (us ++ ds).length = ps.length := by rw [← r2.length]; exact F.len _ _ _ _ h
  refine wpAny_call (codeAny_mono (F.run X.A X.stack s H ⟨us, []⟩ (us ++ ds) (vs ++ dvs) Q E hr I.env0 (hb s us I.kIn hl) r2 h) fun r s' hq => ?_)
  cases r with
  | error e => exact hx pins σ H s e s' I hq
  | ok fl =>
    cases fl with
    | ret u => exact I.after hq
    | next => exact False.elim hq
    | brk => exact False.elim hq
    | cont => exact False.elim hq

theorem pe_call (F : FnOk X.prog X.w X.K X.mg X.base CX k f fd ps sp) (hr : Room k X.A) (hg : Gl X x) (hm : X.mg x = some (.ref f)) (hk : PySem.W.keepIn X.K (.ref f) = true) (hb : Binds X.K fd ps ds) (hd : Vals dvs ds) (hx : Passes CX X E)
    (ha : PA X (e :: es) t) (hdb : (x == ("__debug__" : Str)) = false := by decide) (he : starEach (e :: es) X.env = (false, eval e X.env) :: starEach es X.env := by rfl) (hpl : (backTo pos (starEach es X.env)).any (·.1) = false := by rfl) :
    PE X (.Call (.Name x p) (e :: es) [] pos) (tCall sp dvs E t) := by
  intro pins s σ H Q I h
  refine wpAny_Call_Name_kw (ld_glob I hg hm ?_ hdb)
  refine PySem.W.callWith_K (h₀ := X.base) I.ok.mod.kin hk (thn (ha pos pins s σ H _ I h) fun us s1 ⟨vs, H1, I1, r, q⟩ => ⟨I1.kIn, ?_⟩) he hpl
  exact run_fn F hr hb hd hx I1 r q
/-- o.m(e, ..) -/
theorem pe_meth {pl : Sem Bool} (he : PE X o ta) (c : Cls X.K C) (hm : Meth X.K C m f) (F : FnOk X.prog X.w X.K X.mg X.base CX k f fd ps sp) (hr : Room k X.A) (hb : Binds X.K fd ps ds) (hd : Vals dvs ds) (hx : Passes CX X E) (ha : PA X (e :: es) t)
    (hst : starEach (e :: es) X.env = (false, eval e X.env) :: starEach es X.env := by rfl) (hpl : (backTo pos (starEach es X.env)).any (·.1) = false := by rfl)
    (ht : eval (.Call (.Attribute o m apos) (e :: es) [] pos) X.env = (do
      let ov ← eval o X.env
      standAt apos.atName
      let (f, first) ← holding [ov] (getMethod ov m pl)
      callWith pos f first (backTo pos (starEach (e :: es) X.env)) (backToKw pos (keywordEach [] X.env))) := by rfl) :
    PE X (.Call (.Attribute o m apos) (e :: es) [] pos) (tMeth C m sp dvs E ta t) := by
  intro pins s σ H Q I h
  refine PySem.W.methodCall_KW (pl := pl) (thn (he pins s σ H _ I h) fun u s1 ⟨x, H1, I1, rx, a, dx, fs, ex, ea, l, q⟩ => ?_) ht
  subst ex
  obtain rfl : u = Value.ref a := rx
  refine getmeth_ok I1 ea c hm l ?_
  refine PySem.W.callWith_K (first := [.ref a]) (h₀ := X.base) I.ok.mod.kin hm.kp (thn (ha pos pins s1 σ H1 _ I1 q) fun us s2 ⟨vs, H2, I2, r, q2⟩ => ⟨I2.kIn, ?_⟩) hst hpl
  exact run_fn (us := .ref a :: us) (vs := .ref a :: vs) F hr hb hd hx I2 (.cons rfl r) q2
/-- o.m() -/
theorem pe_meth0 {pl : Sem Bool} (he : PE X o ta) (c : Cls X.K C) (hm : Meth X.K C m f) (F : FnOk X.prog X.w X.K X.mg X.base CX k f fd ps sp) (hr : Room k X.A) (hb : Binds X.K fd ps ds) (hd : Vals dvs ds) (hx : Passes CX X E)
    (ht : eval (.Call (.Attribute o m apos) [] [] pos) X.env = (do
      let ov ← eval o X.env
      standAt apos.atName
      let (f, first) ← holding [ov] (getMethod ov m pl)
      callWith pos f first (backTo pos (starEach [] X.env)) (backToKw pos (keywordEach [] X.env))) := by rfl) :
    PE X (.Call (.Attribute o m apos) [] [] pos) (tMeth C m sp dvs E ta tNil) := by
  intro pins s σ H Q I h
  refine PySem.W.methodCall_KW (pl := pl) (thn (he pins s σ H _ I h) fun u s1 ⟨x, H1, I1, rx, a, dx, fs, ex, ea, l, q⟩ => ?_) ht
  subst ex
  obtain rfl : u = Value.ref a := rx
  refine getmeth_ok I1 ea c hm l ?_
  exact PySem.W.callWith_K0 (first := [.ref a]) I1.kIn hm.kp (run_fn (us := [.ref a]) (vs := [.ref a]) F hr hb hd hx I1 (.cons rfl .nil) q)

/-- what a class must have to be made -/
structure Mk (K : PySem.W.Frag) (C f : Addr) : Prop where
  makes : PySem.W.makesIn K C = true
  init : PySem.W.findIn K (.ref C) "__init__" = some (some (.ref f))
  fn : PySem.W.isFn K (.ref f) = true
  kp : PySem.W.keepIn K (.ref C) = true

theorem run_make {pins : List (Addr × Obj)} {σ : St} {H : Hp} {s : Shared} {Q : VK} {us : List Value} {vs : List V} (M : Mk X.K C f) (F : FnOk X.prog X.w X.K X.mg X.base CX k f fd ps sp) (hr : Room (k + 1) X.A) (hb : Binds X.K fd ps ds) (hd : Vals dvs ds)
    (hx : Passes CX X E) (I : Inv X pins σ H s) (r : Vals vs us)
    (h : ∀ x dx, H x = none → H dx = none → dx ≠ x → sp (.ref x :: (vs ++ dvs)) (upd (upd H dx (.own x)) x (.ins C dx [])) (fun v H2 => v = .non ∧ Q (.ref x) H2) E) :
    wpAny (model X.prog X.w) X.A (call (.ref C) us) (EP X pins σ Q) X.xe s := by
  have hq := h (s.heap.objs.size + 1) s.heap.objs.size (I.hok.fresh (Nat.le_succ _)) (I.hok.fresh (Nat.le_refl _)) (Nat.ne_of_lt (Nat.lt_succ_self _))
  have I2 := Inv.made (C := C) I
  have r2 : Vals (V.ref (s.heap.objs.size + 1) :: (vs ++ dvs)) (Value.ref (s.heap.objs.size + 1) :: (us ++ ds)) := .cons rfl (r.append hd)
  have hl : (Value.ref (s.heap.objs.size + 1) :: us ++ ds).length = ps.length := by
    have e := r2.length
    rw [F.len _ _ _ _ hq] at e
    exact e.symm
  refine wpAny_call (make_map (f := f) I.kIn M.makes M.init (beq_iff_eq.mp M.fn) (codeAny_mono (F.run _ X.stack _ _ ⟨Value.ref (s.heap.objs.size + 1) :: us, []⟩ (Value.ref (s.heap.objs.size + 1) :: (us ++ ds)) _ _ E (hr.make C us [])
    (I2.env0.make C us []) (hb _ (Value.ref (s.heap.objs.size + 1) :: us) I2.kIn hl) r2 hq) fun r s' hq' => ?_))
  cases r with
  | error e => exact hx pins σ _ _ e s' I2 hq'
  | ok fl =>
    cases fl with
    | ret u =>
      obtain ⟨v, H', I3, rv, ev, q3⟩ := I2.after hq'
      subst ev
      exact ⟨rv, ⟨V.ref (s.heap.objs.size + 1), H', I3, rfl, q3⟩⟩
    | next => exact False.elim hq'
    | brk => exact False.elim hq'
    | cont => exact False.elim hq'
theorem pe_make (M : Mk X.K C f) (F : FnOk X.prog X.w X.K X.mg X.base CX k f fd ps sp) (hr : Room (k + 1) X.A) (hg : Gl X x) (hm : X.mg x = some (.ref C)) (hb : Binds X.K fd ps ds) (hd : Vals dvs ds) (hx : Passes CX X E)
    (ha : PA X (e :: es) t) (hdb : (x == ("__debug__" : Str)) = false := by decide) (he : starEach (e :: es) X.env = (false, eval e X.env) :: starEach es X.env := by rfl) (hpl : (backTo pos (starEach es X.env)).any (·.1) = false := by rfl) :
    PE X (.Call (.Name x p) (e :: es) [] pos) (tMake C sp dvs E t) := by
  intro pins s σ H Q I h
  refine wpAny_Call_Name_kw (ld_glob I hg hm ?_ hdb)
  refine PySem.W.callWith_K (h₀ := X.base) I.ok.mod.kin M.kp (thn (ha pos pins s σ H _ I h) fun us s1 ⟨vs, H1, I1, r, q⟩ => ⟨I1.kIn, ?_⟩) he hpl
  exact run_make M F hr hb hd hx I1 r q
end

/-! ### keywords -/
/-- the values of the keywords, from the left -/
def PK (X : Cx) (kws : List Keyword) (t : TA) : Prop :=
  ∀ (pos : Pos) (pins : List (Addr × Obj)) (s : Shared) (σ : St) (H : Hp) (Q : List V → Hp → Prop), Inv X pins σ H s → t σ H Q → wpAny (model X.prog X.w) X.A (evalAll ((backToKw pos (keywordEach kws X.env)).map (·.2))) (AP X pins σ Q) X.xe s
section
variable {X : Cx} {CX : CXT} {k : Nat} {f C : Addr} {fd : FuncData} {ps ks : List Str} {sp : Sp} {E : XK} {x m : Str} {p pos apos kpos : Pos} {e o : Expr} {es : List Expr} {kws : List Keyword} {te ta : TE} {t tk : TA} {nm : Option Str}
/-- how a call with keywords binds: g puts the positional values us and the keywords' values ws (names ks) in the parameters' order, defaults among them -/
structure KBinds (K : PySem.W.Frag) (fd : FuncData) (ps ks : List Str) (g : List Value → List Value → List Value) (gV : List V → List V → List V) : Prop where
  to : ∀ (s : Shared) (us ws : List Value), K.In s.heap → (g us ws).length = ps.length → BindsTo s fd ⟨us, ks.zip ws⟩ (ps.zip (g us ws))
  rel : ∀ {vs : List V} {us : List Value} {zs : List V} {ws : List Value}, Vals vs us → Vals zs ws → Vals (gV vs zs) (g us ws)
def tCallK (sp : Sp) (gV : List V → List V → List V) (E : XK) (t tk : TA) : TE := fun σ H Q => t σ H fun vs H1 => tk σ H1 fun zs H2 => sp (gV vs zs) H2 Q E
variable {g : List Value → List Value → List Value} {gV : List V → List V → List V}
end

/-! ### a def's body keeps its promise -/
/-- names: the parameters first -/
structure FnScope (N P : List Str) (sc : Scope) : Prop where
  kind : sc.kind = .function
  co : sc.isCoroutine = false
  gen : sc.isGenerator = false
  nd : N.Nodup
  pre : N.take P.length = P
  par : ∀ x ∈ P, sc.names.lookup x = some .local ∨ sc.names.lookup x = some .cell
  nofree : ∀ y ∈ sc.names, y.2 ≠ .free

theorem bindL_out {kindOf : Str → Option NameKind} {x : Str} : ∀ {binds : List (Str × Value)} {m : Str → Option Value}, (∀ v, (x, v) ∉ binds) → bindL kindOf binds m x = m x
  | [], _, _ => rfl
  | (n, v) :: r, m, h => by
    unfold bindL
    rw [bindL_out fun w hw => h w (List.mem_cons_of_mem _ hw)]
    split
    · have : x ≠ n := by rintro rfl; exact h v List.mem_cons_self
      simp [this]
    · rfl
theorem bindC_out {kindOf : Str → Option NameKind} {x : Str} : ∀ {binds : List (Str × Value)} {m : Str → Option Value}, (∀ v, (x, v) ∉ binds) → bindC kindOf binds m x = m x
  | [], _, _ => rfl
  | (n, v) :: r, m, h => by
    unfold bindC
    rw [bindC_out fun w hw => h w (List.mem_cons_of_mem _ hw)]
    split
    · rfl
    · have : x ≠ n := by rintro rfl; exact h v List.mem_cons_self
      simp [this]
theorem bindL_get {kindOf : Str → Option NameKind} {x : Str} {v : Value} : ∀ {P : List Str} {vs : List Value} {i : Nat} {m : Str → Option Value}, P.Nodup → P[i]? = some x → vs[i]? = some v → kindOf x = some .local →
    bindL kindOf (P.zip vs) m x = some v
  | [], _, _, _, _, h, _, _ => by simp at h
  | _ :: _, [], _, _, _, _, h, _ => by simp at h
  | p :: P, w :: vs, 0, m, nd, h1, h2, hk => by
    simp at h1 h2; subst h1; subst h2
    show bindL kindOf ((p, w) :: P.zip vs) m p = _
    unfold bindL
    rw [bindL_out fun v hv => (List.nodup_cons.mp nd).1 (List.of_mem_zip hv).1, if_pos hk]
    simp
  | p :: P, w :: vs, i + 1, m, nd, h1, h2, hk => by
    show bindL kindOf ((p, w) :: P.zip vs) m x = _
    unfold bindL
    exact bindL_get (i := i) (List.nodup_cons.mp nd).2 (by simpa using h1) (by simpa using h2) hk
theorem bindC_get {kindOf : Str → Option NameKind} {x : Str} {v : Value} : ∀ {P : List Str} {vs : List Value} {i : Nat} {m : Str → Option Value}, P.Nodup → P[i]? = some x → vs[i]? = some v → kindOf x ≠ some .local →
    bindC kindOf (P.zip vs) m x = some v
  | [], _, _, _, _, h, _, _ => by simp at h
  | _ :: _, [], _, _, _, _, h, _ => by simp at h
  | p :: P, w :: vs, 0, m, nd, h1, h2, hk => by
    simp at h1 h2; subst h1; subst h2
    show bindC kindOf ((p, w) :: P.zip vs) m p = _
    unfold bindC
    rw [bindC_out fun v hv => (List.nodup_cons.mp nd).1 (List.of_mem_zip hv).1, if_neg hk]
    simp
  | p :: P, w :: vs, i + 1, m, nd, h1, h2, hk => by
    show bindC kindOf ((p, w) :: P.zip vs) m x = _
    unfold bindC
    exact bindC_get (i := i) (List.nodup_cons.mp nd).2 (by simpa using h1) (by simpa using h2) hk

/-- the names' values at the entry -/
def start (N : List Str) (vs : List V) : St := vs.map some ++ List.replicate (N.length - vs.length) none

/-- the context of a def's body, at its entry; an exception leaves the frame, then lies as CX says -/
def cxOf (CX : CXT) (P : Program) (w : World) (K : PySem.W.Frag) (mg : Str → Option Value) (base : Heap) (N : List Str) (qual : Str) (scope : Scope) (f : Addr) (cd : Value) (A : Around) (outer : List Env) (s : Shared) (H : Hp) (E : XK) : Cx where
  prog := P
  w := w
  K := K
  mg := mg
  base := base
  A := A.deeper (envOfC qual scope s.heap.objs.size f cd)
  N := N
  s₀ := s
  H₀ := H
  env := envOfC qual scope s.heap.objs.size f cd
  outer := outer
  stack := envOfC qual scope s.heap.objs.size f cd :: outer
  ex := []
  calm := true
  fn := fun _ => true
  pn := []
  xe := fun e s' => wpAny (model P w) (A.deeper (envOfC qual scope s.heap.objs.size f cd)) (leaving (envOfC qual scope s.heap.objs.size f cd) e) (fun _ s'' => CX outer H s E e s'') (fun e' s'' => CX outer H s E e' s'') s'

theorem cell_has {sc : Scope} {n : Nat} {x : Str} (h : sc.names.lookup x = some .cell) : ∃ c, (cellsFrom n sc.names []).lookup x = some c := by
  have q := PySem.W.cellsFrom_some sc.names n [] (.inl h)
  exact Option.isSome_iff_exists.mp q

theorem inv_start {CX : CXT} {P : Program} {w : World} {K : PySem.W.Frag} {mg : Str → Option Value} {base : Heap} {N ps : List Str} {qual : Str} {scope : Scope} {f : Addr} {cd : Value} {A : Around} {outer : List Env} {s s1 : Shared} {H : Hp} {E : XK} {us : List Value} {vs : List V}
    (S : FnScope N ps scope) (hd : A.handled = none) (e0 : Env0 P w K mg base A outer s H) (hl : vs.length = ps.length) (r : Vals vs us)
    (x : InCallC s s.heap.objs.size (bindL (envOfC qual scope s.heap.objs.size f cd).kindOf (ps.zip us) fun _ => none) (cellsFrom (s.heap.objs.size + 1) scope.names []) (bindC (envOfC qual scope s.heap.objs.size f cd).kindOf (ps.zip us) fun _ => none) s1) :
    Inv (cxOf CX P w K mg base N qual scope f cd A outer s H E) [] (start N vs) H s1 := by
  have hpl : ps.length ≤ N.length := by have := congrArg List.length S.pre; rw [List.length_take] at this; omega
  obtain ⟨h1, tk, rfl, hk⟩ := x.done
  have noA : ∀ b : Addr, b ∉ (cxOf CX P w K mg base N qual scope f cd A outer s H E).ex := fun b z => absurd (show b ∈ ([] : List Addr) from z) (by simp)
  refine ⟨⟨e0.mod, S.kind, rfl, rfl, Nat.le_refl _, fun y z c h1 h2 => ?_, fun y hy => ?_, fun y c _ h => ?_, fun _ => hd, Around.frames_deeper e0.frames, .inr ⟨rfl, rfl⟩, fun b z => absurd z (noA b), e0.bs, e0.bsz, fun b _ _ => noA b, fun b z => absurd z (noA b), e0.funs, e0.frf⟩,
    rfl, e0.bare, Un.kept hk, ⟨_, x.toInCall.ns, fun i y v h1 h2 h3 => ?_⟩, fun y c h => ⟨_, x.cell y c h⟩, e0.hok.fresh (Nat.le_refl _), fun y c h => ?_, fun p hp => absurd (show p ∈ ([] : List (Addr × Obj)) from hp) (by simp), e0.hok.kept hk, ?_⟩
  · exact name_of_addr x.apart (PySem.mem_of_lookup h1) (PySem.mem_of_lookup h2)
  · have hy : scope.names.lookup y = some .cell ∨ scope.names.lookup y = some .free := hy
    rcases hy with hy | hy
    · exact cell_has hy
    · exact absurd rfl (S.nofree _ (PySem.mem_of_lookup hy))
  · exact Nat.le_of_lt (x.above y c (PySem.mem_of_lookup h))
  · have hi : i < vs.length := by
      unfold start at h2
      by_cases hi : i < vs.length
      · exact hi
      · rw [List.getElem?_append_right (by simpa using hi)] at h2
        rw [List.getElem?_replicate] at h2
        split at h2 <;> cases h2
    have ha : vs[i]? = some v := by
      unfold start at h2
      rw [List.getElem?_append_left (by simpa using hi), List.getElem?_map] at h2
      cases e : vs[i]? with
      | none => rw [e] at h2; cases h2
      | some a => rw [e] at h2; cases h2; rfl
    obtain ⟨u, hu, rv⟩ := r.get ha
    have hp : ps[i]? = some y := by
      rw [← S.pre, List.getElem?_take_of_lt (by omega)]; exact h1
    have ndP : ps.Nodup := by rw [← S.pre]; exact S.nd.sublist (List.take_sublist _ _)
    refine ⟨u, rv, ?_⟩
    rcases S.par y (List.mem_of_getElem? hp) with k | k
    · exact .inl ⟨k, bindL_get ndP hp hu k⟩
    · obtain ⟨c, e⟩ := cell_has (n := s.heap.objs.size + 1) k
      refine .inr ⟨.inl k, c, e, ?_⟩
      have q := x.cell y c e
      rw [bindC_get ndP hp hu (by show scope.names.lookup y ≠ _; rw [k]; decide)] at q
      exact q
  · exact e0.hok.fresh (Nat.le_of_lt (x.above y c (PySem.mem_of_lookup h)))
  · unfold start
    show _ = N.length
    rw [List.length_append, List.length_map, List.length_replicate]
    omega

/-- THE RULE: a def (or a method) of the text, by its body. The body's reading t is chosen for each entry; it is run at the parameters' values -/
theorem fn_of {CX : CXT} {P : Program} {w : World} {K : PySem.W.Frag} {mg : Str → Option Value} {base : Heap} {k : Nat} {f : Addr} {name qual : Str} {params : Arguments} {body : List Stmt} {scope : Scope} {dV kV doc pm cdv ct oc : Value} {an od : Option Addr}
    {osl : Array (Option Value)} {N ps : List Str} {sp : Sp} (lk : K.lookup f = some ⟨oc, od, .func (PySem.W.fnOf name qual params body scope dV kV doc pm an cdv ct), osl⟩) (hcd : PySem.W.codeIn K cdv qual = true) (S : FnScope N ps scope)
    (len : ∀ vs H Q E, sp vs H Q E → vs.length = ps.length)
    (hbody : ∀ (A : Around) (outer : List Env) (s : Shared) (H : Hp) (vs : List V) (Q : VK) (E : XK), Room k (A.deeper (envOfC qual scope s.heap.objs.size f cdv)) → sp vs H Q E →
      ∃ t, PSs (cxOf CX P w K mg base N qual scope f cdv A outer s H E) body t ∧ t { nx := fun _ H' => Q .non H', rt := Q } (start N vs) H) :
    FnOk P w K mg base CX (k + 1) f (PySem.W.fnOf name qual params body scope dV kV doc pm an cdv ct) ps sp := by
  refine ⟨len, fun A outer s H args us vs Q E hr e0 hb r hsp => ?_⟩
  have hl := len _ _ _ _ hsp
  have KX : K.In s.heap := e0.mod.kin.keeps fun b o e => (e0.bs b o e).1
  have lim : s.heap.NoLimit := e0.mod.nolimit.keeps fun b o e => (e0.bs b o e).1
  have hkind : ∀ y ∈ ps.zip us, scope.names.lookup y.1 = some .local ∨ (scope.names.lookup y.1 = some .cell ∧ ((cellsFrom (s.heap.objs.size + 1) scope.names []).lookup y.1).isSome = true) := fun ⟨n, v⟩ hy => by
    rcases S.par n (List.of_mem_zip hy).1 with q | q
    · exact .inl q
    · exact .inr ⟨q, PySem.W.cellsFrom_some _ _ _ (.inl q)⟩
  refine codeAny_call_function hr.depth (KX _ _ lk) rfl S.co S.gen rfl (PySem.W.codeRec_of KX hcd) (hb _ _ _ _ ?_)
  refine wpAny_newFunctionEnv_cells S.kind hkind fun env he s1 x => ?_
  subst he
  refine ⟨lim.keeps x.toInCall.keep, codeAny_func ?_⟩
  obtain ⟨t, ht, hq⟩ := hbody A outer s H vs Q E (hr.deeper _) hsp
  have I : Inv (cxOf CX P w K mg base N qual scope f cdv A outer s H E) [] (start N vs) H s1 := inv_start S hr.hd e0 hl r x
  refine wpAny_mono (ht [] s1 (start N vs) H _ I hq) (fun fl s' hs => ?_) fun e s' hs => hs
  have fin : ∀ {σ' : St} {H' : Hp} {v : V} {u : Value}, Inv (cxOf CX P w K mg base N qual scope f cdv A outer s H E) [] σ' H' s' → RelV v u → Q v H' → CE outer P w H s Q u s' :=
    fun {σ' H' v u} J rv q => ⟨v, H', J.os, J.bare, J.base, J.hok, rv, q⟩
  cases fl with
  | ret u =>
    obtain ⟨v, σ', H', J, rv, q⟩ := hs
    exact fin J rv q
  | next =>
    obtain ⟨σ', H', J, q⟩ := hs
    exact fin (v := V.non) (u := Value.none) J rfl q
  | brk =>
    obtain ⟨_, _, _, q⟩ := hs
    exact False.elim q
  | cont =>
    obtain ⟨_, _, _, q⟩ := hs
    exact False.elim q
end L2

namespace L2
open PySem PySem.Spec PyProof.Rows
section
variable {X : Cx} {x : Str} {p pos : Pos} {e : Expr} {es : List Expr} {t : TA} {id T : String} {r : List V → Hp → VK → Prop}

def tCB (r : List V → Hp → VK → Prop) (t : TA) : TE := fun σ H Q => t σ H fun vs H1 => r vs H1 Q
/-- f(e, ..), f a built-in function -/
theorem pe_callB (hc : CallR X (.builtin id) r) (hg : Gl X x) (hm : X.mg x = none) (hv : bootBuiltins x = some (.builtin id)) (ha : PA X (e :: es) t) (hn : x ≠ "__name__" := by decide) (hdb : (x == ("__debug__" : Str)) = false := by decide)
    (he : starEach (e :: es) X.env = (false, eval e X.env) :: starEach es X.env := by rfl) (hpl : (backTo pos (starEach es X.env)).any (·.1) = false := by rfl) : PE X (.Call (.Name x p) (e :: es) [] pos) (tCB r t) := by
  intro pins s σ H Q I h
  refine wpAny_Call_Name_kw (ld_blt I hg hm hv ?_ hn hdb)
  exact PyProof.Rows.callWith_builtin1 (thn (ha pos pins s σ H _ I h) fun us s1 ⟨vs, H1, I1, r1, q1⟩ => hc pins s1 σ H1 vs us Q I1 r1 q1) he hpl
/-- T(e, ..), T a built-in type -/
theorem pe_callTy (hc : CallR X (.type T) r) (hg : Gl X x) (hm : X.mg x = none) (hv : bootBuiltins x = some (.type T)) (ha : PA X (e :: es) t) (hn : x ≠ "__name__" := by decide) (hdb : (x == ("__debug__" : Str)) = false := by decide)
    (he : starEach (e :: es) X.env = (false, eval e X.env) :: starEach es X.env := by rfl) (hpl : (backTo pos (starEach es X.env)).any (·.1) = false := by rfl) : PE X (.Call (.Name x p) (e :: es) [] pos) (tCB r t) := by
  intro pins s σ H Q I h
  refine wpAny_Call_Name_kw (ld_blt I hg hm hv ?_ hn hdb)
  exact PyProof.Rows.callWith_type1 (thn (ha pos pins s σ H _ I h) fun us s1 ⟨vs, H1, I1, r1, q1⟩ => hc pins s1 σ H1 vs us Q I1 r1 q1) he hpl
end
end L2

namespace HT
open PySem PyProof.Rows

/-- t < u of tuples of ints -/
def lexLt : List Int → List Int → Bool
  | [], [] => false
  | [], _ :: _ => true
  | _ :: _, [] => false
  | x :: xs, y :: ys => if x = y then lexLt xs ys else decide (x < y)
section
open PySem.SeqAt
open PySem.AutoSeq1 (wpAny_loadPart')
open PySem.MeetsSeq PySem.MeetsSeq2 PySem.MeetsSeq3

end

section
variable {prog : Program} {w : World} {A : Around} {E : Value → Shared → Prop} {s : Shared}

/-! ### t[a:b], not the whole -/
/-- a slice's bound as a place among n (d where it is left out) -/
def sIx (n d : Nat) : Option Int → Nat
  | none => d
  | some v => if v < 0 then (v + (n : Int)).toNat else min v.toNat n
end
end HT

namespace L2
open PySem PySem.Spec PyProof.Rows

/-! ### the parts of a slice -/
abbrev TO := St → Hp → (Option Int → Hp → Prop) → Prop
/-- a slice's part (left out, or an int) -/
def PO (X : Cx) (e : Option Expr) (t : TO) : Prop :=
  ∀ (pins : List (Addr × Obj)) (s : Shared) (σ : St) (H : Hp) (Q : Option Int → Hp → Prop), Inv X pins σ H s → t σ H Q →
    wpAny (model X.prog X.w) X.A (evalPart e X.env) (fun u s' => ∃ o H', Inv X pins σ H' s' ∧ IsPart u o ∧ Q o H') X.xe s
def tNoPart : TO := fun _ H Q => Q none H
def tPart (t : TE) : TO := fun σ H Q => t σ H fun x H1 => ∃ i, x = .int i ∧ Q (some i) H1

theorem intsAre_of {ns : List Int} : ∀ {us : List Value}, Vals (ns.map V.int) us → IntsAre us ns := by
  induction ns with
  | nil => intro us r; rw [List.map_nil] at r; cases r; exact .nil
  | cons n ns ih =>
    intro us r
    rw [List.map_cons] at r
    cases r with
    | cons r1 r2 =>
      obtain ⟨t, e⟩ := r1
      subst e
      exact .cons n t (ih r2)

section
variable {X : Cx} {e : Expr} {te : TE} {lo hi : Option Expr} {tl th : TO} {pos p2 : Pos}

theorem po_some (h : PE X e te) : PO X (some e) (tPart te) := by
  intro pins s σ H Q I hw
  rw [evalPart_some]
  refine thn (h pins s σ H _ I hw) fun u s1 ⟨x, H1, I1, r1, q1⟩ => ?_
  obtain ⟨i, rfl, q⟩ := q1
  obtain ⟨t, rfl⟩ := r1
  exact ⟨some i, H1, I1, .int i t, q⟩

/-- what a slice of a value is, by values: the slice object stands at sl -/
def SlR (X : Cx) (r : V → Option Int → Option Int → Hp → VK → Prop) : Prop :=
  ∀ (pins : List (Addr × Obj)) (s : Shared) (σ : St) (H : Hp) (x : V) (v vl vu : Value) (lo hi : Option Int) (sl : Addr) (Q : VK), Inv X pins σ H s → RelV x v → s.heap.IsSliceOf sl vl vu .none → IsPart vl lo → IsPart vu hi → r x lo hi H Q →
    ∃ T id, typeLookup (.type T) "__getitem__" = pure (some (.builtin id)) ∧ s.TypeIs v T ∧ wpAny (model X.prog X.w) X.A (getItem v (.ref sl)) (EP X pins σ Q) X.xe s
def tSl (r : V → Option Int → Option Int → Hp → VK → Prop) (te : TE) (tl th : TO) : TE := fun σ H Q => te σ H fun x H1 => tl σ H1 fun l H2 => th σ H2 fun u H3 => r x l u H3 Q
/-- the items of xs[lo:hi] -/
def cutV (xs : List V) (lo hi : Option Int) : List V := (xs.drop (HT.sIx xs.length 0 lo)).take (HT.sIx xs.length xs.length hi - HT.sIx xs.length 0 lo)
/-- t[lo:hi], not the whole of it (the whole would be t itself) -/
def rSlT (K : PySem.W.Frag) : V → Option Int → Option Int → Hp → VK → Prop := fun x lo hi H Q => ∃ a xs, x = .ref a ∧ SqT K H a xs ∧
  ¬ (HT.sIx xs.length 0 lo = 0 ∧ HT.sIx xs.length xs.length hi = xs.length) ∧ ∀ p, H p = none → Q (.ref p) (upd H p (.tup (cutV xs lo hi)))
/-! ### t < u, t + u -/
def rLtT (K : PySem.W.Frag) : R2 := fun x y H Q => ∃ a b ns ms, x = .ref a ∧ y = .ref b ∧ SqT K H a (ns.map V.int) ∧ SqT K H b (ms.map V.int) ∧ Q (.bl (HT.lexLt ns ms)) H
/-- t + u, t not empty: u empty gives t itself -/
def rCatT (K : PySem.W.Frag) : R2 := fun x y H Q => ∃ a b xs ys, x = .ref a ∧ y = .ref b ∧ SqT K H a xs ∧ SqT K H b ys ∧ xs ≠ [] ∧ xs.length + ys.length ≤ sizeLine ∧
  (ys = [] → Q (.ref a) H) ∧ (ys ≠ [] → ∀ p, H p = none → Q (.ref p) (upd H p (.tup (xs ++ ys))))
end
end L2

namespace L2
open PySem PySem.Spec PyProof.Rows

/-! ### places -/
/-- the place that an index of any sign means -/
def ixN (n : Nat) (i : Int) : Option Nat := if 0 ≤ i then (if i < n then some i.toNat else none) else if -(n : Int) ≤ i then some (i + n).toNat else none
def atI {α : Type} (xs : List α) (i : Int) : Option α := (ixN xs.length i).bind fun j => xs[j]?
theorem ixN_seq {n : Nat} {i : Int} {j : Nat} (h : ixN n i = some j) : seqIndex? i n = some j ∧ j < n ∧ -(n : Int) ≤ i ∧ i < n := by
  unfold ixN at h
  by_cases h0 : 0 ≤ i
  · rw [if_pos h0] at h
    by_cases h1 : i < n
    · rw [if_pos h1] at h
      have e : i.toNat = j := Option.some.inj h
      exact ⟨by rw [seqIndex_of h0 h1, e], by omega, by omega, h1⟩
    · rw [if_neg h1] at h; cases h
  · rw [if_neg h0] at h
    by_cases h1 : -(n : Int) ≤ i
    · rw [if_pos h1] at h
      have e : (i + n).toNat = j := Option.some.inj h
      exact ⟨by rw [seqIndex_neg (by omega) h1, e], by omega, h1, by omega⟩
    · rw [if_neg h1] at h; cases h
theorem atI_get {α : Type} {xs : List α} {i : Int} {v : α} (h : atI xs i = some v) : ∃ j, seqIndex? i xs.length = some j ∧ xs[j]? = some v ∧ j < xs.length ∧ -(xs.length : Int) ≤ i ∧ i < xs.length := by
  unfold atI at h
  cases e : ixN xs.length i with
  | none => rw [e] at h; cases h
  | some j =>
    rw [e] at h
    obtain ⟨h1, h2, h3, h4⟩ := ixN_seq e
    exact ⟨j, h1, h, h2, h3, h4⟩
theorem atI_nat {α : Type} {xs : List α} {j : Nat} {v : α} (h : xs[j]? = some v) : atI xs (j : Int) = some v := by
  have hj : j < xs.length := (List.getElem?_eq_some_iff.mp h).1
  have e : ixN xs.length (j : Int) = some j := by
    unfold ixN
    rw [if_pos (by omega), if_pos (by omega)]; simp
  unfold atI; rw [e]; exact h
theorem atI_last {α : Type} (xs : List α) (v : α) : atI (xs ++ [v]) (-1) = some v := by
  have hl : (xs ++ [v]).length = xs.length + 1 := by simp
  have e : ixN (xs ++ [v]).length (-1) = some xs.length := by
    unfold ixN
    rw [hl, if_neg (by decide), if_pos (by omega)]
    congr 1
    omega
  unfold atI
  rw [e]
  show (xs ++ [v])[xs.length]? = some v
  simp

/-! ### what may be subscripted -/
/-- what stands as an index of a plain subscript -/
def PlainIx (b : Expr) : Prop := ∀ o i, subscripted b false o i = operate [o, i] (getItem o i)
/-- a subscript by values -/
def IxR (X : Cx) (r : R2) : Prop :=
  ∀ (value slice : Expr) (pins : List (Addr × Obj)) (s : Shared) (σ : St) (H : Hp) (x y : V) (v u : Value) (Q : VK), Inv X pins σ H s → RelV x v → RelV y u → r x y H Q →
    subscripted slice false v u = operate [v, u] (getItem v u) → wpAny (model X.prog X.w) X.A (subscriptTail value slice v u) (EP X pins σ Q) X.xe s
/-- a call of a builtin's method by values: the receiver, the arguments -/
def MtR (X : Cx) (id : String) (r : V → List V → Hp → VK → Prop) : Prop :=
  ∀ (pins : List (Addr × Obj)) (s : Shared) (σ : St) (H : Hp) (x : V) (xs : List V) (v : Value) (us : List Value) (Q : VK), Inv X pins σ H s → RelV x v → Vals xs us → r x xs H Q →
    wpAny (model X.prog X.w) X.A (call (.builtin id) (v :: us)) (EP X pins σ Q) X.xe s
section
variable {X : Cx} {a b : Expr} {ta tb : TE} {pos : Pos}
/-- a[b] -/
theorem pe_ix {r : R2} (hr : IxR X r) (ha : PE X a ta) (hb : PE X b tb) (hs : PlainIx b) : PE X (.Subscript a b pos) (tOp r ta tb) := by
  intro pins s σ H Q I h
  exact Subscript_ (binT ha hb I h fun v u s2 x y H2 I2 rx ry q => hr a b pins s2 σ H2 x y v u Q I2 rx ry q (hs _ _))

def rIxL (K : PySem.W.Frag) : R2 := fun x y H Q => ∃ p xs i v, x = .ref p ∧ y = .int i ∧ SqL K H p xs ∧ atI xs i = some v ∧ Q v H
def rIxT (K : PySem.W.Frag) : R2 := fun x y H Q => ∃ p xs i v, x = .ref p ∧ y = .int i ∧ SqT K H p xs ∧ atI xs i = some v ∧ Q v H
def rIxS : R2 := fun x y H Q => ∃ z i c, x = .str z ∧ y = .int i ∧ z.length ≤ sizeLine ∧ atI z.cps.toList i = some c ∧ Q (.str ⟨#[c]⟩) H
theorem ix_list : IxR X (rIxL X.K) := by
  intro value slice pins s σ H x y v u Q I rx ry h hs
  obtain ⟨p, xs, i, z, rfl, rfl, hq, he, q⟩ := h
  cases rx
  obtain ⟨t, rfl⟩ := ry
  obtain ⟨its, r, pl, hz⟩ := I.list hq
  obtain ⟨j, h1, h2, h3, h4, h5⟩ := atI_get he
  obtain ⟨w, ew, rw'⟩ := r.get h2
  have hl := r.length
  have hn := line63
  have fin : EP X pins σ Q w s := ⟨z, H, I, rw', q⟩
  by_cases h0 : 0 ≤ i
  · have hj : i.toNat = j := by
      rw [seqIndex_of h0 h5] at h1
      exact Option.some.inj h1
    exact item_listR pl.isList h0 (by omega) (by rw [hj]; simpa using ew) fin hs
  · have hj : (i + (its.toArray.size : Int)).toNat = j := by
      rw [seqIndex_neg (by omega) h4] at h1
      rw [List.size_toArray, ← hl]
      exact Option.some.inj h1
    exact subscriptTail_builtinR (x := w) pl.isList.typeIs slot_list_getitem.lookup
      (wpAny_getItem_list_neg (Q := fun r s' => r = w ∧ EP X pins σ Q r s') pl.isList (by omega) (by rw [List.size_toArray] <;> omega) (by omega) (by rw [hj]; simpa using ew) ⟨rfl, fin⟩) hs
theorem ix_tup : IxR X (rIxT X.K) := by
  intro value slice pins s σ H x y v u Q I rx ry h hs
  obtain ⟨p, xs, i, z, rfl, rfl, hq, he, q⟩ := h
  cases rx
  obtain ⟨t, rfl⟩ := ry
  obtain ⟨its, r, pl, hz⟩ := I.tuple hq
  obtain ⟨j, h1, h2, h3, h4, h5⟩ := atI_get he
  obtain ⟨w, ew, rw'⟩ := r.get h2
  have hl := r.length
  have hn := line63
  have fin : EP X pins σ Q w s := ⟨z, H, I, rw', q⟩
  exact subscriptTail_builtinR (x := w) pl.typeIs slot_tuple_getitem.lookup
    (getItem_tuple (j := j) (Q := fun r s' => r = w ∧ EP X pins σ Q r s') pl (by omega) (by omega) (by rw [List.size_toArray, ← hl]; exact h1) (by simpa using ew) ⟨rfl, fin⟩) hs
/-- list, tuple or str -/
def rIx (K : PySem.W.Frag) : R2 := fun x y H Q => rIxL K x y H Q ∨ rIxT K x y H Q ∨ rIxS x y H Q
/-! ### xs[i] = v, any sign -/
/-- the list's object behind a store -/
theorem mapSeq_set (its : List Value) (n j : Nat) (u : Value) : Obj.mapSeq (·.setIfInBounds j u) { cls := .type "list", data := .seq its.toArray n } = { cls := .type "list", data := .seq (its.set j u).toArray n } := by
  simp [Obj.mapSeq]
theorem Inv.lst {pins : List (Addr × Obj)} {σ : St} {H : Hp} {s : Shared} {p : Addr} {xs : List V} (I : Inv X pins σ H s) (h : H p = some (.lst xs)) :
    ∃ (its : List Value) (n : Nat), Vals xs its ∧ s.heap.get? p = some { cls := .type "list", data := .seq its.toArray n } ∧ xs.length ≤ sizeLine := by
  obtain ⟨z, its, n, r, e⟩ := I.hok p _ h
  exact ⟨its, n, r, e, z⟩
/-- the list at p is written by an update of its object -/
theorem Inv.lstUpd {pins : List (Addr × Obj)} {σ : St} {H : Hp} {s : Shared} {p : Addr} {xs ys : List V} {its its' : List Value} {n n' : Nat} {f : Obj → Obj} (I : Inv X pins σ H s) (h : H p = some (.lst xs))
    (ho : s.heap.get? p = some { cls := .type "list", data := .seq its.toArray n }) (hf : f { cls := .type "list", data := .seq its.toArray n } = { cls := .type "list", data := .seq its'.toArray n' }) (r : Vals ys its') (hz : ys.length ≤ sizeLine) (t : Nat) :
    Inv X pins σ (upd H p (.lst ys)) { s with heap := s.heap.update p f, toks := t } := by
  have e : (s.heap.update p f).get? p = some { cls := .type "list", data := .seq its'.toArray n' } := by
    rw [Heap.get?_update_self f ho (by rw [hf] <;> rfl), hf]
  refine I.write (x := p) (e := p) (by rw [h]; trivial) (.inl rfl) (fun b u hb q => (Heap.get?_update_other _ _ (Ne.symm hb)).trans q) ⟨_, e⟩ ?_
  exact ⟨hz, its', n', r, e⟩
def rSetL : V → V → V → Hp → (Hp → Prop) → Prop := fun o i v H Q => ∃ p xs k j, o = .ref p ∧ i = .int k ∧ H p = some (.lst xs) ∧ ixN xs.length k = some j ∧ Q (upd H p (.lst (xs.set j v)))
theorem set_list : PSet X rSetL := by
  intro pins s σ H o i v ov iv u Q I ro ri rv h
  obtain ⟨p, xs, k, j, rfl, rfl, hp, hj, q⟩ := h
  cases ro
  obtain ⟨t, rfl⟩ := ri
  obtain ⟨its, n, r, ho, hz⟩ := I.lst hp
  obtain ⟨h1, h2, h3, h4⟩ := ixN_seq hj
  have hl := r.length
  have hn := line63
  have I' : Inv X pins σ (upd H p (.lst (xs.set j v))) { s with heap := s.heap.update p (Obj.mapSeq (·.setIfInBounds j u)) } :=
    I.lstUpd hp ho (mapSeq_set its n j u) (r.set rv j) (by rw [List.length_set]; exact hz) s.toks
  by_cases h0 : 0 ≤ k
  · have hk : k.toNat = j := by
      rw [seqIndex_of h0 h4] at h1
      exact Option.some.inj h1
    exact PySem.W.ki_setAt ho h0 (by omega) (by rw [List.size_toArray, ← hl]; exact h4) (by rw [hk]; exact ⟨_, I', q⟩)
  · have hk : (k + (its.toArray.size : Int)).toNat = j := by
      rw [seqIndex_neg (by omega) h3] at h1
      rw [List.size_toArray, ← hl]
      exact Option.some.inj h1
    exact PySem.W.ki_setBack ho (by omega) (by rw [List.size_toArray, ← hl]; exact h3) (by omega) (by rw [hk]; exact ⟨_, I', q⟩)

/-! ### slices -/
/-- xs[lo:hi] of a list: a new list -/
def rSlL (K : PySem.W.Frag) : V → Option Int → Option Int → Hp → VK → Prop := fun x lo hi H Q => ∃ a xs, x = .ref a ∧ SqL K H a xs ∧ ∀ p, H p = none → Q (.ref p) (upd H p (.lst (cutV xs lo hi)))
/-! ### in, not in: flat items -/
def flatV : V → Bool
  | .non => true
  | .bl _ => true
  | .int _ => true
  | .str _ => true
  | _ => false
/-- == of flat values -/
def eqV : V → V → Bool
  | .non, .non => true
  | .bl a, .bl b => a == b
  | .bl a, .int b => (if a then 1 else 0) == b
  | .int a, .bl b => a == (if b then 1 else 0)
  | .int a, .int b => a == b
  | .str a, .str b => a == b
  | _, _ => false
theorem eqAt_V {A : Around} {s : Shared} {y x : V} {u v : Value} (ry : RelV y u) (rx : RelV x v) (fy : flatV y = true) (fx : flatV x = true) : SeqAt.EqAt A s u v (eqV y x) := by
  cases y with
  | non =>
    cases ry
    cases x with
    | non => cases rx; exact SeqAt.EqAt.same _
    | bl b => cases rx; exact SeqAt.EqAt.none_bool b
    | int b => obtain ⟨t, rfl⟩ := rx; exact SeqAt.EqAt.none_int b t
    | str b => obtain ⟨t, rfl⟩ := rx; exact SeqAt.EqAt.none_str b t
    | _ => exact absurd (show false = true from fx) Bool.false_ne_true
  | bl a =>
    cases ry
    cases x with
    | non => cases rx; exact SeqAt.EqAt.bool_none a
    | bl b => cases rx; exact SeqAt.EqAt.bool_bool a b
    | int b => obtain ⟨t, rfl⟩ := rx; exact SeqAt.EqAt.bool_int a b t
    | str b => obtain ⟨t, rfl⟩ := rx; exact SeqAt.EqAt.bool_str a b t
    | _ => exact absurd (show false = true from fx) Bool.false_ne_true
  | int a =>
    obtain ⟨t', rfl⟩ := ry
    cases x with
    | non => cases rx; exact SeqAt.EqAt.int_none a t'
    | bl b => cases rx; exact SeqAt.EqAt.int_bool a t' b
    | int b => obtain ⟨t, rfl⟩ := rx; exact SeqAt.EqAt.int_int a t' b t
    | str b => obtain ⟨t, rfl⟩ := rx; exact SeqAt.EqAt.int_str a t' b t
    | _ => exact absurd (show false = true from fx) Bool.false_ne_true
  | str a =>
    obtain ⟨t', rfl⟩ := ry
    cases x with
    | non => cases rx; exact SeqAt.EqAt.str_none a t'
    | bl b => cases rx; exact SeqAt.EqAt.str_bool a t' b
    | int b => obtain ⟨t, rfl⟩ := rx; exact SeqAt.EqAt.str_int a t' b t
    | str b => obtain ⟨t, rfl⟩ := rx; exact SeqAt.EqAt.str_str a t' b t
    | _ => exact absurd (show false = true from fx) Bool.false_ne_true
  | _ => exact absurd (show false = true from fy) Bool.false_ne_true
/-- the items' answers, read off the values (a value's own answer does not lean on its token) -/
def eqU (x : V) (u : Value) : Bool := match u with
  | .none => eqV .non x
  | .bool b => eqV (.bl b) x
  | .int i _ => eqV (.int i) x
  | .str z _ => eqV (.str z) x
  | _ => false
theorem eqU_of {x y : V} {u : Value} (r : RelV y u) (f : flatV y = true) : eqU x u = eqV y x := by
  cases y with
  | non => cases r; rfl
  | bl b => cases r; rfl
  | int i => obtain ⟨t, rfl⟩ := r; rfl
  | str z => obtain ⟨t, rfl⟩ := r; rfl
  | _ => exact absurd (show false = true from f) Bool.false_ne_true
theorem any_eqU {x : V} : ∀ {xs : List V} {us : List Value}, Vals xs us → xs.all flatV = true → us.any (eqU x) = xs.any fun y => eqV y x
  | _, _, .nil, _ => rfl
  | y :: xs, u :: us, .cons r t, f => by
    rw [List.all_cons, Bool.and_eq_true] at f
    rw [List.any_cons, List.any_cons, eqU_of r f.1, any_eqU t f.2]
theorem mem_eqAt {A : Around} {s : Shared} {x : V} {v : Value} (rx : RelV x v) (fx : flatV x = true) : ∀ {xs : List V} {us : List Value}, Vals xs us → xs.all flatV = true → ∀ u ∈ us, SeqAt.EqAt A s u v (eqU x u)
  | _, _, .nil, _ => fun u hu => by cases hu
  | y :: xs, u :: us, .cons r t, f => fun u' hu => by
    rw [List.all_cons, Bool.and_eq_true] at f
    rcases List.mem_cons.mp hu with rfl | hu
    · rw [eqU_of r f.1]; exact eqAt_V r rx f.1 fx
    · exact mem_eqAt rx fx t f.2 u' hu
def inV (x : V) (xs : List V) : Bool := xs.any fun y => eqV y x
/-- x in a list or tuple of flat items -/
def rIn (K : PySem.W.Frag) (neg : Bool) : R2 := fun x y H Q => ∃ p xs, y = .ref p ∧ (SqL K H p xs ∨ SqT K H p xs) ∧ flatV x = true ∧ xs.all flatV = true ∧ Q (.bl (if neg then !inV x xs else inV x xs)) H
theorem op_in_seq : OpR X (compareOp .In) (rIn X.K false) := by
  intro pins s σ H x y v u Q I rx ry h
  obtain ⟨p, xs, rfl, hq, fx, fs, q⟩ := h
  cases ry
  rcases hq with hq | hq
  · obtain ⟨its, r, pl, hz⟩ := I.list hq
    refine SeqAt.in_listAt (eqU x) pl.isList (fun w hw => mem_eqAt rx fx r fs w (by simpa using hw)) ⟨.bl _, H, I, rfl, ?_⟩
    rw [show its.toArray.any (eqU x) = its.any (eqU x) by simp, any_eqU r fs]
    exact q
  · obtain ⟨its, r, pl, hz⟩ := I.tuple hq
    refine SeqAt.in_tupleAt (eqU x) pl (fun w hw => mem_eqAt rx fx r fs w (by simpa using hw)) ⟨.bl _, H, I, rfl, ?_⟩
    rw [show its.toArray.any (eqU x) = its.any (eqU x) by simp, any_eqU r fs]
    exact q
/-! ### len, list(x), tuple(x) of any list or tuple that is read -/
theorem call_len_seq : CallR X (.builtin "len") (fun xs H Q => ∃ p ys, xs = [.ref p] ∧ (SqL X.K H p ys ∨ SqT X.K H p ys) ∧ Q (.int ys.length) H) := by
  intro pins s σ H xs us Q I r h
  obtain ⟨p, ys, rfl, hq, q⟩ := h
  obtain ⟨u, rfl, rx⟩ := vals1 r
  cases rx
  have hn := line63
  rcases hq with hq | hq
  · obtain ⟨its, r', pl, hz⟩ := I.list hq
    have hlen := r'.length
    exact Calls.call_len_list pl.isList (by simp only [List.size_toArray] <;> omega) ⟨.int ys.length, H, I.tok _, ⟨s.toks + 1, by rw [List.size_toArray, hlen]⟩, q⟩
  · obtain ⟨its, r', pl, hz⟩ := I.tuple hq
    have hlen := r'.length
    exact len_tuple pl (by simp only [List.size_toArray] <;> omega) ⟨.int ys.length, H, I.tok _, ⟨s.toks + 1, by rw [List.size_toArray, hlen]⟩, q⟩
theorem call_list_of : CallR X (.type "list") (fun xs H Q => ∃ p ys, xs = [.ref p] ∧ (SqL X.K H p ys ∨ SqT X.K H p ys) ∧ ∀ l, H l = none → Q (.ref l) (upd H l (.lst ys))) := by
  intro pins s σ H xs us Q I r h
  obtain ⟨p, ys, rfl, hq, q⟩ := h
  obtain ⟨u, rfl, rx⟩ := vals1 r
  cases rx
  have fin : ∀ (its : List Value), Vals ys its → ys.length ≤ sizeLine → ∀ (h' : Heap) (c' : Nat), (∀ b o', s.heap.get? b = some o' → h'.get? b = some o') →
      h'.get? s.heap.objs.size = some { cls := .type "list", dict := none, data := .seq its.toArray c', slots := #[] } → EP X pins σ Q (.ref s.heap.objs.size) { s with heap := h' } := fun its r' hz h' c' kp e =>
    ⟨.ref s.heap.objs.size, _, I.laid (t' := s.toks) kp (Nat.le_refl _) (show ObjOk X.prog X.w _ h' _ (.lst ys) from ⟨hz, its, c', r', e⟩), rfl, q _ (I.hok.fresh (Nat.le_refl _))⟩
  rcases hq with hq | hq
  · obtain ⟨its, r', pl, hz⟩ := I.list hq
    have hlen := r'.length
    obtain ⟨o, ho, hc, n, hd⟩ := pl.isList
    exact call_list_seq p (.inl rfl) ho hc hd (fun h' c' kp e => fin its r' hz h' c' kp e) (by simp only [List.size_toArray] <;> omega)
  · obtain ⟨its, r', pl, hz⟩ := I.tuple hq
    have hlen := r'.length
    obtain ⟨o, ho, hc, n, hd⟩ := pl
    exact call_list_seq p (.inr rfl) ho hc hd (fun h' c' kp e => fin its r' hz h' c' kp e) (by simp only [List.size_toArray] <;> omega)
/-! ### the call of a builtin's method: o.m(..) -/
/-- the value is of that builtin type -/
def tyV (K : PySem.W.Frag) (T : String) (x : V) (H : Hp) : Prop := match x with
  | .str _ => T = "str"
  | .int _ => T = "int"
  | .ref p => (T = "list" ∧ ∃ xs, SqL K H p xs) ∨ (T = "tuple" ∧ ∃ o, K.lookup p = some o ∧ o.cls = .type "tuple" ∧ o.dict = none) ∨
      (T = "dict" ∧ ((∃ kvs, H p = some (.dK kvs)) ∨ ∃ kvs, H p = some (.dT kvs))) ∨ (T = "set" ∧ ∃ S n, H p = some (.set S n))
  | _ => False
theorem tyV_is {pins : List (Addr × Obj)} {σ : St} {H : Hp} {s : Shared} {T : String} {x : V} {v : Value} (I : Inv X pins σ H s) (r : RelV x v) (ty : tyV X.K T x H) :
    s.TypeIs v T ∧ ∀ a, v = .ref a → ∃ ob, s.heap.get? a = some ob ∧ ob.dict = none := by
  cases x with
  | str z =>
    obtain ⟨t, rfl⟩ := r
    cases (show T = "str" from ty)
    exact ⟨typeIs_str s z t, fun _ e => nomatch e⟩
  | int i =>
    obtain ⟨t, rfl⟩ := r
    cases (show T = "int" from ty)
    exact ⟨typeIs_int s i t, fun _ e => nomatch e⟩
  | ref p =>
    cases r
    rcases ty with ⟨rfl, xs, hq⟩ | ⟨rfl, o, hk, hc, hd⟩ | ⟨rfl, hk⟩ | ⟨rfl, S, n, hk⟩
    · obtain ⟨its, _, pl, _⟩ := I.list hq
      refine ⟨pl.isList.typeIs, fun a e => ?_⟩
      cases e
      obtain ⟨o, n, e, c, hd, _⟩ := pl
      exact ⟨o, e, hd⟩
    · refine ⟨⟨o, I.kIn p o hk, hc⟩, fun a e => ?_⟩
      cases e
      exact ⟨o, I.kIn _ o hk, hd⟩
    · have z : ∃ o, s.heap.get? p = some o ∧ o.ExactDict := by
        rcases hk with ⟨kvs, hk⟩ | ⟨kvs, hk⟩
        · obtain ⟨_, _, _, _, o, _, _, e, ex, _⟩ := I.hok p _ hk
          exact ⟨o, e, ex⟩
        · obtain ⟨_, _, _, _, o, _, _, e, ex, _⟩ := I.hok p _ hk
          exact ⟨o, e, ex⟩
      obtain ⟨o, e, ex⟩ := z
      refine ⟨⟨o, e, ex.1⟩, fun a e2 => ?_⟩
      cases e2
      exact ⟨o, e, ex.2.1⟩
    · obtain ⟨o, _, _, _, e, ex, _⟩ := I.hok p _ hk
      refine ⟨⟨o, e, ex.1⟩, fun a e2 => ?_⟩
      cases e2
      exact ⟨o, e, ex.2.1⟩
  | _ => exact False.elim ty
def tBM0 (K : PySem.W.Frag) (T : String) (r : V → List V → Hp → VK → Prop) (to : TE) : TE := fun σ H Q => to σ H fun x H1 => tyV K T x H1 ∧ r x [] H1 Q
def tBM (K : PySem.W.Frag) (T : String) (r : V → List V → Hp → VK → Prop) (to : TE) (t : TA) : TE := fun σ H Q => to σ H fun x H1 => tyV K T x H1 ∧ t σ H1 fun xs H2 => r x xs H2 Q
variable {o e : Expr} {es : List Expr} {to : TE} {t : TA} {name : Str} {apos cpos : Pos} {T id : String} {r : V → List V → Hp → VK → Prop}
theorem pe_bm (pa : PlainAttrs T) (slot : Slot T name id) (hty : typeOf (.builtin id) = pure (.type "method_descriptor")) (hm : MtR X id r) (ho : PE X o to) (ha : PA X (e :: es) t)
    (hbase : attributeBase o name X.env (eval o X.env) = eval o X.env := by rfl)
    (hfew : ((backTo cpos (starEach (e :: es) X.env)).all (fun x => !x.1) && (backToKw cpos (keywordEach [] X.env)).all (fun x => x.1.isSome)
      && decide ((e :: es).length + ([] : List Keyword).length + (if ([] : List Keyword).isEmpty then 0 else 1) < 30)) = true := by rfl)
    (hline : (apos.endLine == cpos.line) = true := by rfl) (hs : starEach (e :: es) X.env = (false, eval e X.env) :: starEach es X.env := by rfl) (hplain : (backTo cpos (starEach es X.env)).any (·.1) = false := by rfl) :
    PE X (.Call (.Attribute o name apos) (e :: es) [] cpos) (tBM X.K T r to t) := by
  intro pins s σ H Q I h
  refine wpAny_Call_method_late hbase hfew hline rfl (thn (ho pins s σ H _ I h) fun v s1 ⟨x, H1, I1, r1, ty, q1⟩ => ?_)
  obtain ⟨h1, h2⟩ := tyV_is I1 r1 ty
  refine ⟨T, id, pa, slot, hty, h1, h2, ?_⟩
  have hA := ha cpos pins s1 σ H1 _ I1 q1
  rw [hs] at hA ⊢
  refine Calls.callWith_builtin (by show (false || (backTo cpos (starEach es X.env)).any (·.1)) = false; rw [hplain] <;> rfl) (Calls.evalArgs_plain ?_)
  exact thn hA fun us s2 ⟨vs, H2, I2, r2, q2⟩ => hm pins s2 σ H2 x vs v us Q I2 r1 r2 q2
/- xs.append(e), list.index on a module's tuple .. are MtR facts of 06m -/
end
end L2

namespace L2
open PySem PySem.Spec PyProof.Rows

def MtM (X : Cx) (id : String) (r : V → List V → Hp → VK → Prop) : Prop :=
  ∀ (pins : List (Addr × Obj)) (s : Shared) (σ : St) (H : Hp) (x : V) (xs : List V) (v : Value) (us : List Value) (Q : VK), Inv X pins σ H s → RelV x v → Vals xs us → r x xs H Q →
    wpAny (model X.prog X.w) X.A (call (.builtin id) (v :: us)) (EP X pins σ Q) X.xe s

/-! ### lists of values -/
theorem Vals.one : ∀ {x : V} {us : List Value}, Vals [x] us → ∃ u, us = [u] ∧ RelV x u
  | _, _, .cons r .nil => ⟨_, rfl, r⟩
theorem Vals.rep {xs : List V} {us : List Value} (h : Vals xs us) : ∀ k : Nat, Vals (List.replicate k xs).flatten (List.replicate k us).flatten
  | 0 => .nil
  | k + 1 => by
    rw [List.replicate_succ, List.replicate_succ, List.flatten_cons, List.flatten_cons]
    exact Vals.append h (Vals.rep h k)
theorem foldl_rep (its : List Value) : ∀ (k : Nat) (acc : List Value),
    List.foldl (fun x1 x2 => x1 ++ x2) acc.toArray (List.replicate k its.toArray) = (acc ++ (List.replicate k its).flatten).toArray
  | 0, acc => by simp
  | k + 1, acc => by
    have e : acc.toArray ++ its.toArray = (acc ++ its).toArray := by simp
    have e2 : (acc ++ its) ++ (List.replicate k its).flatten = acc ++ (List.replicate (k + 1) its).flatten := by
      rw [List.replicate_succ, List.flatten_cons, List.append_assoc]
    rw [← e2, ← foldl_rep its k (acc ++ its), ← e, List.replicate_succ, List.foldl_cons]

section
variable {X : Cx} {pins : List (Addr × Obj)} {σ : St} {H : Hp} {s : Shared} {l b : Addr} {xs ys zs : List V}

/-! ### the two steps: a tracked list is rewritten, a new list is laid -/
theorem Inv.lset {its its' : List Value} {n : Nat} {f : Array Value → Array Value} {t' : Nat} (I : Inv X pins σ H s) (hH : H l = some (.lst xs))
    (e : s.heap.get? l = some { cls := .type "list", data := .seq its.toArray n }) (hf : f its.toArray = its'.toArray) (hv : Vals ys its') (hz : ys.length ≤ sizeLine) :
    Inv X pins σ (upd H l (.lst ys)) { s with heap := s.heap.update l (Obj.mapSeq f), toks := t' } := by
  have q := PySem.IsL.update e f
  rw [hf] at q
  refine I.write (x := l) (e := l) (by rw [hH]; exact trivial) (.inl rfl) (fun b' u hb hu => (Heap.get?_update_other s.heap (Obj.mapSeq f) (Ne.symm hb)).trans hu) ⟨_, q⟩ ?_
  exact ⟨hz, its', _, hv, q⟩
theorem Inv.lnew {its : List Value} {t' : Nat} (I : Inv X pins σ H s) (hv : Vals ys its) (hz : ys.length ≤ sizeLine) :
    Inv X pins σ (upd H s.heap.objs.size (.lst ys)) { s with heap := s.heap.push { cls := .type "list", data := .seq its.toArray }, toks := t' } :=
  I.laid (fun _ _ q => Heap.get?_push_of_some _ q) (Nat.le_refl _) ⟨hz, its, 0, hv, Heap.get?_push_size _ rfl⟩
theorem Inv.fresh (I : Inv X pins σ H s) : H s.heap.objs.size = none := I.hok.fresh (Nat.le_refl _)
theorem Inv.lstM (I : Inv X pins σ H s) (hH : H l = some (.lst xs)) : xs.length ≤ sizeLine ∧ ∃ (its : List Value) (n : Nat), Vals xs its ∧ xs.length = its.length ∧ s.heap.get? l = some { cls := .type "list", data := .seq its.toArray n } := by
  obtain ⟨z, its, n, r, e⟩ := I.hok l _ hH
  exact ⟨z, its, n, r, r.length, e⟩

theorem notLongL {n : Nat} (h : n ≤ sizeLine) : Builtin.List.listTooLong n = false := by
  unfold Builtin.List.listTooLong
  exact decide_eq_false (by omega)
end

section
variable {X : Cx}

/-! ### methods -/
def rAppend : V → List V → Hp → VK → Prop := fun x vs H Q => ∃ l xs y, x = .ref l ∧ vs = [y] ∧ H l = some (.lst xs) ∧ xs.length < sizeLine ∧ Q .non (upd H l (.lst (xs ++ [y])))
theorem mt_append : MtM X "list.append" rAppend := by
  intro pins s σ H x vs v us Q I rx rv h
  obtain ⟨l, xs, y, rfl, rfl, hH, hz, q⟩ := h
  cases rx
  obtain ⟨u, rfl, ru⟩ := rv.one
  obtain ⟨z, its, n, r, hl, e⟩ := I.lstM hH
  refine call_meets F.slot_list_append ⟨_, e, rfl⟩ F.entry_list_append (F.args_list_append_2 _ _) (PySem.list_append l its.toArray n u (by rw [List.size_toArray]; omega)) ⟨e, ?_⟩
  refine ⟨.non, _, I.lset (its' := its ++ [u]) hH e (by simp) (r.append (.cons ru .nil)) ?_, rfl, q⟩
  rw [List.length_append, List.length_singleton]
  omega

def rExtend : V → List V → Hp → VK → Prop := fun x vs H Q => ∃ l b xs zs, x = .ref l ∧ vs = [.ref b] ∧ H l = some (.lst xs) ∧ H b = some (.lst zs) ∧ xs.length + zs.length ≤ sizeLine ∧ Q .non (upd H l (.lst (xs ++ zs)))
def rPop : V → List V → Hp → VK → Prop := fun x vs H Q => ∃ l xs y, x = .ref l ∧ vs = [] ∧ H l = some (.lst xs) ∧ xs[xs.length - 1]? = some y ∧ Q y (upd H l (.lst xs.dropLast))
def rPopAt : V → List V → Hp → VK → Prop := fun x vs H Q => ∃ l xs i k y, x = .ref l ∧ vs = [.int i] ∧ H l = some (.lst xs) ∧ -(2 ^ 63) ≤ i ∧ i < 2 ^ 63 ∧ seqIndex? i xs.length = some k ∧ xs[k]? = some y ∧ Q y (upd H l (.lst (xs.eraseIdx k)))
def rReverse : V → List V → Hp → VK → Prop := fun x vs H Q => ∃ l xs, x = .ref l ∧ vs = [] ∧ H l = some (.lst xs) ∧ Q .non (upd H l (.lst xs.reverse))
def rClear : V → List V → Hp → VK → Prop := fun x vs H Q => ∃ l xs, x = .ref l ∧ vs = [] ∧ H l = some (.lst xs) ∧ Q .non (upd H l (.lst []))
/-! ### list + list, list += list, list * int -/
def rCat : R2 := fun x y H Q => ∃ l b xs zs, x = .ref l ∧ y = .ref b ∧ H l = some (.lst xs) ∧ H b = some (.lst zs) ∧ xs.length + zs.length ≤ sizeLine ∧ ∀ p, H p = none → Q (.ref p) (upd H p (.lst (xs ++ zs)))
/-- a list times an int (a negative one is nothing) -/
def rRep : R2 := fun x y H Q => ∃ l k xs, x = .ref l ∧ y = .int k ∧ H l = some (.lst xs) ∧ -(2 ^ 63) ≤ k ∧ k < 2 ^ 63 ∧ xs.length * k.toNat ≤ sizeLine ∧
  ∀ p, H p = none → Q (.ref p) (upd H p (.lst (List.replicate k.toNat xs).flatten))
theorem len_rep {α : Type} (xs : List α) (k : Nat) : (List.replicate k xs).flatten.length = k * xs.length := by
  induction k with
  | zero => simp
  | succ k ih => rw [List.replicate_succ, List.flatten_cons, List.length_append, ih, Nat.succ_mul, Nat.add_comm]
theorem op_rep : OpR X (binaryOp .Mult) rRep := by
  intro pins s σ H x y v u Q I rx ry h
  obtain ⟨l, k, xs, rfl, rfl, hH, h1, h2, hz, q⟩ := h
  cases rx
  obtain ⟨t, rfl⟩ := ry
  obtain ⟨z, its, n, r, hl, e⟩ := I.lstM hH
  have hlen : its.toArray.size * k.toNat ≤ sizeLine := by rw [List.size_toArray, ← hl]; exact hz
  have hcap : ¬ its.toArray.size * k.toNat > (2 ^ 63 - 1) / 8 := by
    have : (sizeLine : Nat) ≤ (2 ^ 63 - 1) / 8 := by decide
    omega
  have hfit : ¬ (!Builtin.List.listFitsIndex k) = true := by
    rw [fitsIndex_both h1 h2]
    exact Bool.false_ne_true
  have hlong : ¬ Builtin.List.listTooLong (its.toArray.size * k.toNat) = true := by
    rw [notLongL hlen]
    exact Bool.false_ne_true
  have hnew : List.foldl (fun x1 x2 => x1 ++ x2) #[] (List.replicate (if its.toArray.isEmpty = true then 0 else k.toNat) its.toArray) = (List.replicate k.toNat its).flatten.toArray := by
    have f0 : ∀ m : Nat, List.foldl (fun x1 x2 => x1 ++ x2) #[] (List.replicate m its.toArray) = (List.replicate m its).flatten.toArray := fun m => by
      have := foldl_rep its m []
      rw [List.nil_append] at this
      exact this
    rw [f0]
    cases its with
    | nil => simp
    | cons a r' => rw [if_neg (by simp)]
  refine wpAny_binaryOp_repeat_ref (T := "list") (U := "int") (by decide) ⟨_, e, rfl⟩ (fun s' => typeIs_int s' k t) noFill_list_mul F.fills_int_mul F.slot_int_rmul repeat_list F.slot_int_index.lookup
    (call_meets F.slot_int_rmul (typeIs_int s k t) F.entry_int_rmul (F.args_int_rmul_2 _ _) (int___rmul___int_list k t l its.toArray n)
      ⟨e, rfl, ⟨_, e, rfl⟩, call_meets F.slot_list_mul ⟨_, e, rfl⟩ F.entry_list_mul (F.args_list_mul_2 _ _) (AutoListH.list___mul___list_int_3 l its.toArray n k t hfit hcap hlong) ⟨e, ?_⟩⟩)
  rw [hnew]
  exact ⟨.ref _, _, I.lnew (t' := s.toks) (r.rep k.toNat) (by rw [len_rep, Nat.mul_comm]; exact hz), rfl, q _ I.fresh⟩

/-! ### del xs[i] -/
end

/-! ### xs[a:b] = ys -/
section
variable {prog : Program} {w : World} {A : Around} {E : Value → Shared → Prop} {s : Shared}
theorem splice_eq (its its2 : List Value) (a c : Nat) : its.toArray.extract 0 a ++ its2.toArray ++ its.toArray.extract c its.toArray.size = (its.take a ++ its2 ++ its.drop c).toArray := by
  apply Array.toList_inj.mp
  first
    | (simp
       exact List.take_of_length_le (by simp))
    | simp [List.take_of_length_le]
    | simp
theorem bounds_run {a c n : Nat} (hac : a ≤ c) (hc : c ≤ n) : sliceBounds (some (a : Int)) (some (c : Int)) none n = ((a : Int), (c : Int), 1) := by
  simp only [sliceBounds, Option.getD_none]
  have h1 : ¬ ((a : Int) < 0) := by omega
  have h2 : ¬ ((c : Int) < 0) := by omega
  simp only [h1, h2, if_false, show (1 : Int) > 0 by decide, if_true]
  congr 1
  · omega
  · congr 1; omega
set_option maxRecDepth 100000 in
/-- list.__setitem__ with a slice of step one and another list -/
theorem setItem_slice {l b sl : Addr} {items new : Array Value} {n n2 : Nat} {vl vu : Value} {a c : Nat} {Q : Unit → Shared → Prop}
    (e : s.heap.get? l = some { cls := .type "list", data := .seq items n }) (e2 : s.heap.get? b = some { cls := .type "list", data := .seq new n2 }) (hne : l ≠ b)
    (hs : s.heap.IsSliceOf sl vl vu .none) (pl : IsPart vl (some (a : Int))) (pu : IsPart vu (some (c : Int))) (hac : a ≤ c) (hc : c ≤ items.size)
    (hsz : items.size + new.size ≤ sizeLine) (h : Q () { s with heap := s.heap.update l (Obj.mapSeq fun xs => xs.extract 0 a ++ new ++ xs.extract c xs.size) }) :
    wpAny (model prog w) A (setItem (.ref l) (.ref sl) (.ref b)) Q E s := by
  have hl : s.heap.IsList l items := PySem.IsL.isList e
  have hb : s.heap.IsList b new := PySem.IsL.isList e2
  obtain ⟨os, hos, hcs, hds⟩ := id hs
  have hTs : s.TypeIs (.ref sl) "slice" := ⟨os, hos, hcs⟩
  have hstep : ¬ ((rawPart none == rawInt 0) = true) := Bool.false_ne_true
  have hsame : Builtin.List.listSameRef (.ref l) (.ref b) = false := by
    unfold Builtin.List.listSameRef
    exact beq_eq_false_iff_ne.mpr hne
  have hmax : (max (a : Int) (c : Int)).toNat = c := by omega
  have hz' : ((fun xs : Array Value => xs.extract 0 a ++ new ++ xs.extract c xs.size) items).size ≤ sizeLine + 1 := by
    simp only [Array.size_append, Array.size_extract]
    omega
  unfold setItem
  try with_reducible refine wpAny_holding ?_
  first | refine wpAny_bind (wpAny_pure ?_) | skip
  refine wpAny_bind (wpAny_sequenceKey hl.typeIs (by decide) ?_)
  refine wpAny_bind (wpAny_callSpecial?_slot (name := Str.ofString "__setitem__") hl.typeIs slot_list_setitem
    (wpAny_call_entry slot_list_setitem hl.typeIs entry_list_setitem ?_ (args_list_setitem _ _ _)))
  show wpAny _ _ (Builtin.List.listSubscript? (.ref sl) >>= _) _ _ s
  refine wpAny_bind ?_
  unfold Builtin.List.listSubscript?
  refine wpAny_bind (wpAny_specialOf hTs slice_no_index ?_)
  simp only [Option.isNone_none, if_true]
  refine wpAny_pure ?_
  show wpAny _ _ (typeOf (.ref sl) >>= _) _ _ s
  refine wpAny_bind (wpAny_typeOf hTs ?_)
  first
    | rw [if_neg (by decide)]
    | refine PySem.W.KFB.if_not (by decide) ?_
  rw [listSliceParts_eq]
  refine wpAny_bind (wpAny_bind (wpAny_field hos hds (x := .none) rfl (wpAny_bind (wpAny_listPart .none ?_))))
  rw [if_neg hstep]
  refine wpAny_bind (wpAny_field hos hds (x := vl) rfl (wpAny_bind (wpAny_listPart pl ?_)))
  refine wpAny_bind (wpAny_field hos hds (x := vu) rfl (wpAny_bind (wpAny_listPart pu (wpAny_pure ?_))))
  first
    | simp only [hsame, Bool.false_eq_true, if_false]
    | refine PySem.W.KFB.if_not hsame ?_
    | (dsimp only
       rw [if_neg (by rw [hsame]; exact Bool.false_ne_true)])
  refine wpAny_bind (m := Builtin.List.listAllItems (.ref b) "must assign iterable to extended slice") ?_
  unfold Builtin.List.listAllItems
  refine wpAny_bind (wpAny_typeOf hb.typeIs ?_)
  first
    | refine PySem.W.KFB.if_so (by decide) ?_
    | rw [if_pos (by decide)]
    | simp only [beq_self_eq_true, Bool.true_or, if_true]
  unfold Builtin.List.listItems
  refine wpAny_bind (wpAny_seqItems e2 rfl (wpAny_pure ?_))
  refine wpAny_bind (wpAny_bind (wpAny_seqItems e rfl (wpAny_pure ?_)))
  refine wpAny_bind (wpAny_of_eq ((sliceIndices_raw (some (a : Int)) (some (c : Int)) none items.size (by simp)).trans (congrArg (pure : Int × Int × Int → Sem (Int × Int × Int)) (bounds_run hac hc))) ?_)
  show wpAny _ _ (if ((1 : Int) == 1) = true then _ else _) _ _ s
  rw [if_pos (by decide)]
  refine wpAny_bind (wpAny_rule ?_)
  first
    | simp only [notLongL hsz, Bool.false_eq_true, if_false]
    | refine PySem.W.KFB.if_not (notLongL hsz) ?_
  first | refine wpAny_bind (wpAny_pure ?_) | skip
  show wpAny _ _ (updateSeq l (fun xs => xs.extract 0 ((a : Int)).toNat ++ new ++ xs.extract (max (a : Int) (c : Int)).toNat xs.size) >>= _) _ _ s
  rw [hmax, Int.toNat_natCast]
  refine wpAny_bind (wpAny_updateSeq (hz := Nat.le_trans (Nat.le_add_right _ _) hsz) (_hz' := hz') e rfl ?_)
  refine wpAny_bind (wpAny_letGo ?_)
  first
    | exact wpAny_bind (wpAny_pure (wpAny_pure ⟨.none, rfl, wpAny_pure h⟩))
    | exact wpAny_pure ⟨.none, rfl, wpAny_pure h⟩
end

section
variable {X : Cx}
/-- xs[a:c] = ys of another list, at the value level: sl is the slice object that was just made -/
theorem set_slice {pins : List (Addr × Obj)} {s : Shared} {σ : St} {H : Hp} {l b sl : Addr} {xs ys : List V} {a c : Int} {vl vu : Value} {Q : Unit → Shared → Prop} (I : Inv X pins σ H s)
    (hH : H l = some (.lst xs)) (hB : H b = some (.lst ys)) (hne : l ≠ b) (hs : s.heap.IsSliceOf sl vl vu .none) (ra : RelV (.int a) vl) (rc : RelV (.int c) vu) (h0 : 0 ≤ a) (hac : a ≤ c) (hc : c ≤ xs.length)
    (hz : xs.length + ys.length ≤ sizeLine) (h : ∀ s', Inv X pins σ (upd H l (.lst (xs.take a.toNat ++ ys ++ xs.drop c.toNat))) s' → Q () s') :
    wpAny (model X.prog X.w) X.A (setItem (.ref l) (.ref sl) (.ref b)) Q X.xe s := by
  obtain ⟨ta, rfl⟩ := ra
  obtain ⟨tc, rfl⟩ := rc
  obtain ⟨z, its, n, r, hl, e⟩ := I.lstM hH
  obtain ⟨z2, its2, n2, r2, hl2, e2⟩ := I.lstM hB
  obtain ⟨a', rfl⟩ := Int.eq_ofNat_of_zero_le h0
  obtain ⟨c', rfl⟩ := Int.eq_ofNat_of_zero_le (Int.le_trans h0 hac)
  simp only [Int.toNat_natCast] at h
  refine setItem_slice (a := a') (c := c') e e2 hne hs (.int _ _) (.int _ _) (by omega) (by rw [List.size_toArray]; omega) (by rw [List.size_toArray, List.size_toArray]; omega) (h _ ?_)
  refine I.lset (its' := its.take a' ++ its2 ++ its.drop c') (t' := s.toks) hH e ?_ (Vals.append (Vals.append (r.take _) r2) (r.drop _)) ?_
  · exact splice_eq its its2 a' c'
  · rw [List.length_append, List.length_append, List.length_take, List.length_drop]
    omega
end
end L2

namespace Att
open PySem PySem.W PySem.Calls PyProof.Rows

/-! ### the script -/
theorem ints_of_wellAll {P : Params} {h : Heap} : ∀ (ns : List Int) (vs : List Value), WellAll P h vs (ns.map WData.int) → IntsAre vs ns := by
  intro ns
  induction ns with
  | nil =>
    intro vs w
    rw [List.map_nil] at w
    cases w
    exact .nil
  | cons n ns ih =>
    intro vs w
    rw [List.map_cons] at w
    cases w with
    | cons a b =>
      cases a
      exact .cons _ _ (ih _ b)

theorem script_of {l : OpenLaw} {n : Nat} (hn : l.most = some n) {P : Params} {h : Heap} {args : List WData} {vals : List Value}
    (hpre : l.row.toRowW.claim.pre args = true) (hwl : WellAll P h vals args) :
    ∃ a vs ns, vals = [Value.ref a] ∧ args = [WData.list (ns.map WData.int)] ∧ h.get? a = some { cls := .type "list", data := .seq vs.toArray } ∧ IntsAre vs ns ∧ ns.length ≤ n := by
  have hsh : WShape.hasAll [] args [.list .int] = true := (pre_splitW hpre).1
  have hc : l.pre.holds [] { args := args } = true := (pre_splitW hpre).2
  obtain ⟨d, r, rfl, h1, h2⟩ := hasAllW_cons hsh
  obtain rfl := hasAllW_nil h2
  obtain ⟨xs, rfl, h3⟩ := hasW_list h1
  obtain ⟨ns, rfl⟩ := items_int h3
  have hlen : ns.length ≤ n := by
    unfold OpenLaw.pre at hc
    have h4 : (WTm.not (.lt (.lit (.int (n : Int))) (.len (.arg 0)))).holds [] { args := [.list (ns.map .int)] } = true := by
      have h4 := (holds_andW hc).1
      rw [hn] at h4
      exact h4
    have h5 := condW_of h4 (w_not (w_lt w_lit (w_len_list (w_arg rfl))))
    rw [List.length_map] at h5
    refine Nat.le_of_not_lt fun q => ?_
    have q' : (n : Int) < ((ns.length : Nat) : Int) := by omega
    first
      | (rw [decide_eq_true q'] at h5; exact absurd h5 (by decide))
      | (simp at h5; omega)
  cases hwl with
  | cons w1 w2 =>
    cases w2
    cases w1 with
    | list ho hall => exact ⟨_, _, ns, rfl, rfl, ho, ints_of_wellAll ns _ hall, hlen⟩

theorem post_true (l : OpenLaw) (args : List WData) : l.row.toRowW.claim.post args (.bool true) args = true :=
  postW_of (r := l.row.toRowW) (X := (true == true))
    (show WShape.has [] (.bool true) .bool = true by first | rfl | decide | simp [WShape.has, WShape.arms, WShape.armsAll])
    (show (WTm.eq .res (.lit (.bool true))).value [] { args := args, res := some (.bool true), after := args } = some (.bool (true == true)) from w_eq_bool (w_res rfl) w_lit) rfl

/-! ### the attachment: holds_open's last premise (the goal 'hc' behind k_head) from a wpAny of the law's body -/
/-- the same from a codeAny of the CALL (for a layer whose function contracts speak of calls) -/
theorem attach_call {l : OpenLaw} {n : Nat} {q : Program} {loose : List Str} {XP : (Str → Option Value) → Heap → Prop} {YP : World → Heap → Prop} {d : DefRec}
    (hn : l.most = some n) (hdf : d.params.defaults = [])
    (call : ∀ (w : World) (s₀ s₁ : Shared) (mg mb : Str → Option Value) (fa : Addr) (o : Obj) (pm cd doc : Value) (a : Addr) (vs : List Value) (ns : List Int),
      Ground q loose [] XP w s₀ mg mb s₁.heap → YP w s₁.heap →
      s₁.heap.get? fa = some o → o.data = .func (docDef d.name d.params d.body d.scope pm cd doc) → s₁.heap.CodeRec cd d.name → mg d.name = some (.ref fa) →
      s₁.heap.get? a = some { cls := .type "list", data := .seq vs.toArray } → IntsAre vs ns → ns.length ≤ n → s₁.gens = #[] →
      codeAny (model l.prog w) callerA (.call (.ref fa) ⟨[.ref a], []⟩) (fun r s' => r = .ok (.ret (.bool true)) ∧ OldK s₁.heap s'.heap ∧ s'.os = s₁.os ∧ AllBare s'.gens) s₁) :
    WalkO q loose XP YP l.row.toRowW d [] (fun f vs => PySem.call f vs) := by
  intro w s₀ s₁ mg mb G Y fa o pm cd doc dV kV ho hd hcd hD hmg hg args vals as hpre hlay hrd hwl hlo
  obtain rfl : dV = .none := Dflts.none hD hdf
  obtain rfl : kV = .none := Dflts.noKw hD
  obtain ⟨a, vs, ns, rfl, rfl, hobj, hints, hlen⟩ := script_of hn hpre hwl
  refine enter_call (codeAny_mono (call w s₀ s₁ mg mb fa o pm cd doc a vs ns G Y ho (fd_plain hd) hcd hmg hobj hints hlen hg) fun r s' hq => ?_)
  obtain ⟨rfl, h2, h3, h4⟩ := hq
  exact ⟨.inl ⟨.bool true, .bool true, [], rfl, fun _ => rfl, .bool true, post_true l _, fun _ => ⟨List.Pairwise.nil, fun _ hm => (nomatch hm)⟩⟩, h2, h3, h4⟩

/-! ### rules over ANY heap (no ledger) from facts about the written part K: the library's own take a ledger (News) for what they write -/
section
variable {prog : Program} {w : World} {A : Around} {E : Value → Shared → Prop} {s : Shared} {K : Frag}

/-! the whole heap as the ledger: makes every rule that writes through a ledger a rule over any heap -/
def noObjs (h : Heap) : Heap := { h with objs := #[] }
def ledger (h : Heap) (L d : Addr) : List (Addr × Obj) := (List.range h.objs.size).filterMap fun a => if a = L ∨ a = d then none else (h.get? a).map fun o => (a, o)
end
end Att

namespace L2
open PySem PySem.Spec PyProof.Rows

theorem vals_ints : ∀ {vs : List Value} {ns : List Int}, IntsAre vs ns → Vals (ns.map V.int) vs
  | _, _, .nil => .nil
  | _, _, .cons n t h => .cons ⟨t, rfl⟩ (vals_ints h)

/-- nothing is tracked but the script, known to the object (or it is an object of the module) -/
def Only (H : Hp) : Prop := ∀ b, H b = none ∨ ∃ o xs, H b = some (.frz o (.lst xs))

/-- THE HEAD: the law's promise, at the heap behind the top. F, the promise of the law's def, may use that base is part of the heap (so K.In base, base.Ns mainGlobals mg stand in Mod) -/
theorem law_call {P : Program} {w : World} {K : PySem.W.Frag} {mg mb : Str → Option Value} {CX : CXT} {k : Nat} {fa a : Addr} {fd : FuncData} {x : Str} {sp : Sp} {s₁ : Shared} {vs : List Value} {ns : List Int}
    (KX : K.In s₁.heap) (hns : s₁.heap.Ns mainGlobals mg) (hb : s₁.heap.Ns builtinsNs mb) (hbb : ∀ x : Str, x ≠ "__name__" → mb x = bootBuiltins x) (hlim : s₁.heap.NoLimit) (hg : s₁.gens = #[])
    (ha : s₁.heap.get? a = some { cls := .type "list", data := .seq vs.toArray }) (hi : IntsAre vs ns) (hl : ns.length ≤ sizeLine) (hr : Room k callerA)
    (F : ∀ base : Heap, K.In base → base.Ns mainGlobals mg → FnOk P w K mg base CX k fa fd [x] sp) (hbind : ∀ (s : Shared) (u : Value), BindsTo s fd ⟨[u], []⟩ [(x, u)])
    (hsp : ∀ H : Hp, Only H → SqL K H a (ns.map V.int) → sp [.ref a] H (fun v _ => v = .bl true) fun _ _ _ => False)
    (hCX : ∀ H e s', CX [] H s₁ (fun _ _ _ => False) e s' → False) :
    codeAny (model P w) callerA (.call (.ref fa) ⟨[.ref a], []⟩) (fun r s' => r = .ok (.ret (.bool true)) ∧ OldK s₁.heap s'.heap ∧ s'.os = s₁.os ∧ AllBare s'.gens) s₁ := by
  have rv := vals_ints hi
  have lenV := hi.length
  -- from an abstract heap in which nothing but the script may be tracked
  have core : ∀ H : Hp, Only H → SqL K H a (ns.map V.int) → HOk P w H s₁.heap → (∀ b, H b ≠ none → b = a) → (H a ≠ none → K.lookup a = none) →
      codeAny (model P w) callerA (.call (.ref fa) ⟨[.ref a], []⟩) (fun r s' => r = .ok (.ret (.bool true)) ∧ OldK s₁.heap s'.heap ∧ s'.os = s₁.os ∧ AllBare s'.gens) s₁ := by
    intro H hO hS hok hA hK
    have base_of : ∀ {b : Addr} {o : Obj}, s₁.heap.get? b = some o → H b = none → (hidT s₁.heap H).get? b = some o := fun e n => hidT_get e n
    have noA : ∀ {b : Addr} {o : Obj} {es : Array DictEntry} {ep : Nat}, s₁.heap.get? b = some o → o.data = .dict es ep → H b = none := fun {b o es ep} e d => by
      cases q : H b with
      | none => rfl
      | some u =>
        have e' : b = a := hA b (by rw [q]; simp)
        subst e'
        rw [ha] at e; cases e
        have d' : Data.seq vs.toArray _ = Data.dict es ep := d
        cases d'
    have nsK : ∀ {b : Addr} {m : Str → Option Value}, s₁.heap.Ns b m → (hidT s₁.heap H).Ns b m := fun {b m} ⟨o, es, ep, e, d, r⟩ => ⟨o, es, ep, base_of e (noA e d), d, r⟩
    have hKb : K.In (hidT s₁.heap H) := fun b o e => base_of (KX b o e) (by
      cases q : H b with
      | none => rfl
      | some u =>
        have e' : b = a := hA b (by rw [q]; simp)
        subst e'
        rw [hK (by rw [q]; simp)] at e; cases e)
    have hM : Mod K mg (hidT s₁.heap H) := ⟨hKb, nsK hns, ⟨mb, nsK hb, hbb⟩, let ⟨mc, h1, h2⟩ := hlim; ⟨mc, nsK h1, h2⟩⟩
    have e0 : Env0 P w K mg (hidT s₁.heap H) callerA [] s₁ H := ⟨rfl, hM, fun b o e => of_hidT e, Nat.le_of_eq (hidT_size _ _), trivial, fun b hb => absurd (show b ∈ ([] : List Addr) from hb) (by simp), hok, .of_eq hg⟩
    refine codeAny_mono ((F _ hKb (nsK hns)).run callerA [] s₁ H ⟨[.ref a], []⟩ [.ref a] [.ref a] _ _ hr e0 (hbind s₁ (.ref a)) (.cons rfl .nil) (hsp H hO hS)) fun r s' h => ?_
    cases r with
    | error e => exact (hCX H e s' h).elim
    | ok fl =>
      cases fl with
      | next => exact False.elim h
      | brk => exact False.elim h
      | cont => exact False.elim h
      | ret u =>
        obtain ⟨v, H', os, bare, un, hok', r', q⟩ := h
        have q' : v = .bl true := q
        subst q'
        obtain rfl : u = Value.bool true := r'
        refine ⟨rfl, OldK.of_keep fun b o e => ?_, os, bare⟩
        cases q : H b with
        | none => exact un.keep b o e q (by intro z; exact absurd (show b ∈ ([] : List Addr) from z) (by simp)) (by simp)
        | some u =>
          rcases hO b with z | ⟨ob, xs, z⟩
          · rw [q] at z; cases z
          · have z2 := un.frzs b ob _ z
            obtain ⟨e1, _⟩ := hok b _ z
            obtain ⟨e2, _⟩ := hok' b _ z2
            rw [e] at e1; cases e1
            exact e2
  cases hk : K.lookup a with
  | some o =>
    -- the script is one of the module's own objects
    have e := KX a o hk
    rw [ha] at e
    cases e
    refine core (fun _ => none) (fun _ => .inl rfl) (.inr ⟨_, vs.toArray, _, hk, rfl, rfl, rfl, by rw [List.size_toArray, lenV]; exact hl, by simpa using rv⟩) (fun b u z => by have z' : (none : Option HO) = some u := z; cases z') (fun b z => absurd rfl z) fun z => absurd rfl z
  | none =>
    refine core (fun b => if b = a then some (.frz { cls := .type "list", data := .seq vs.toArray } (.lst (ns.map V.int))) else none) (fun b => ?_) (.inl (.inr ⟨{ cls := .type "list", data := .seq vs.toArray }, if_pos rfl⟩)) (fun b u z => ?_) (fun b z => ?_) fun _ => hk
    · by_cases hb : b = a
      · exact .inr ⟨_, _, if_pos hb⟩
      · exact .inl (if_neg hb)
    · by_cases hb : b = a
      · have z' := (if_pos hb).symm.trans z
        cases z'
        subst hb
        exact ⟨ha, by rw [List.length_map]; exact hl, vs, _, rv, ha⟩
      · have z' := (if_neg hb).symm.trans z
        cases z'
    · by_cases hb : b = a
      · exact hb
      · exact absurd (if_neg hb) z
end L2

namespace L2
open PySem PySem.Spec PyProof.Rows

abbrev KOf {K : PySem.W.Frag} {h : Heap} (_ : K.In h) : PySem.W.Frag := K

/-- the goal that k_head leaves (case hc), from the law's promise. F gives the function object fd (K's own) once, then the promise over every base -/
theorem walk_of {l : PySem.W.OpenLaw} {n k : Nat} {q : Program} {loose : List Str} {XP : (Str → Option Value) → Heap → Prop} {YP : World → Heap → Prop} {d : DefRec} {K : Params → PySem.W.Frag} {CX : World → CXT} {sp : World → Sp} {x : Str}
    (hn : l.most = some n) (hn2 : n ≤ sizeLine) (hdf : d.params.defaults = []) (hr : Room k callerA)
    (hY : ∀ (w : World) (h : Heap), YP w h → (K w.params).In h)
    (F : ∀ (w : World) (mg : Str → Option Value) (fa : Addr) (h : Heap), (K w.params).In h → h.Ns mainGlobals mg → mg d.name = some (.ref fa) →
      ∃ fd : FuncData, (∀ (s : Shared) (u : Value), BindsTo s fd ⟨[u], []⟩ [(x, u)]) ∧
        ∀ base : Heap, (K w.params).In base → base.Ns mainGlobals mg → FnOk l.prog w (K w.params) mg base (CX w) k fa fd [x] (sp w))
    (hsp : ∀ (w : World) (H : Hp) (a : Addr) (ns : List Int), ns.length ≤ n → Only H → SqL (K w.params) H a (ns.map V.int) → sp w [.ref a] H (fun v _ => v = .bl true) fun _ _ _ => False)
    (hCX : ∀ (w : World) (H : Hp) (s : Shared) (e : Value) (s' : Shared), CX w [] H s (fun _ _ _ => False) e s' → False) :
    PySem.W.WalkO q loose XP YP l.row.toRowW d [] (fun f vs => PySem.call f vs) := by
  refine Att.attach_call hn hdf fun w s₀ s₁ mg mb fa o pm cd doc a vs ns G Y ho hd hcd hmg hobj hints hlen hg => ?_
  have KX := hY w _ Y
  obtain ⟨fd, hb, hF⟩ := F w mg fa _ KX G.T.g hmg
  exact law_call KX G.T.g G.T.b G.T.builtins G.T.nolimit hg hobj hints (Nat.le_trans hlen hn2) hr hF hb (fun H hO hS => hsp w H a ns hlen hO hS) fun H e s' => hCX w H s₁ e s'
end L2

/- THE LAST THEOREM (shape; LID, My.* are yours):
   My.Adr: a structure of the addresses that your layer names (classes, functions); My.Txt K t: a structure (Prop) of the equations over K;
   My.txt_mk : {K} {implicit addresses ..} (e1 : nsIn K mainGlobals "law" = some (some (.ref f))) (e2 : K.lookup f = some ⟨oc, od, .func (fnOf "law" "law" params body scope dV kV doc pm an cdv ct), sl⟩) (e3 : codeIn K cdv "law" = true) .. : ∃ t, My.Txt K t

set_option maxRecDepth 100000 in
set_option maxHeartbeats 0 in
theorem PySem.Challenge.cw_LID_holds : PySem.Challenge.rw_LID.Holds := by
  w_on; o_law; k_head; (case hw => w_witness2)
  k_fill
  refine L2.walk_of (l := PySem.Challenge.rw_LID) (n := 63) (k := 40) (x := "script") (CX := fun w => ..) (sp := fun _ => My.sp_law) rfl (by decide) rfl ⟨rfl, by decide, by decide⟩ (fun w h Y => PySem.W.kIn_of Y) ?F ?S ?C
  case F =>
    intro w mg fa h KX G hmg
    have T : ∃ t, My.Txt (L2.KOf KX) t := by
      dsimp only [L2.KOf]                          -- K must stand as «<heap const> w.params» for k_is
      refine' My.txt_mk ?e1 ?e2 ?e3 ..
      (case e1 => PySem.W.k_is)                    -- in the order: a name -> its address -> its object -> its parts
      (case e2 => PySem.W.k_is)
      ..
    obtain ⟨t, T⟩ := T
    have e0 := hmg.symm.trans (PySem.W.mg_of KX G T.law)
    cases e0                                       -- fa is the law's own address
    exact ⟨_, fun s u => .of_eq rfl, fun base kb nb => My.law_fn T kb nb⟩     -- if «.of_eq rfl» comes too early: refine' ⟨_, ?b, fun base kb nb => My.law_fn T kb nb⟩; exact fun s u => .of_eq rfl
  case S => exact fun w H a ns hl hO hS => ..
  case C => exact ..
(the tactic k_is has no namespace: write k_is) -/

/-! SHORT WORDS over the layer: a def of the text, its body, what a loop and a test want. -/
namespace L2
open PySem PySem.Spec PyProof.Rows

/-! ### the text by places -/
/-- the j-th statement of a class's body -/
def inClass (s : Stmt) (j : Nat) : Stmt := match s with
  | .ClassDef _ _ _ body _ _ _ _ _ _ _ => body.getD j (.Pass ⟨0, 0, 0, 0⟩)
  | _ => .Pass ⟨0, 0, 0, 0⟩
def defArgs (s : Stmt) : Arguments := match s with
  | .FunctionDef _ a _ _ _ _ _ _ _ _ => a
  | _ => { posonlyargs := [], args := [], vararg := none, kwonlyargs := [], kw_defaults := [], kwarg := none, defaults := [] }
def defBody (s : Stmt) : List Stmt := match s with
  | .FunctionDef _ _ b _ _ _ _ _ _ _ => b
  | _ => []
def defScope (s : Stmt) : Scope := match s with
  | .FunctionDef _ _ _ _ _ _ sc _ _ _ => sc
  | _ => { kind := .function, names := [], isGenerator := false, isCoroutine := false }

/-! ### no exception leaves a def -/
abbrev CX0 : CXT := fun _ _ _ _ _ _ => False
abbrev E0 : XK := fun _ _ _ => False
theorem pass0 {X : Cx} : Passes CX0 X E0 := fun _ _ _ _ _ _ _ h => h.elim

/-! ### a def (or method) of the text as it stands behind the top -/
structure Fun (K : PySem.W.Frag) (x qual : Str) (st : Stmt) (f : Addr) (fd : FuncData) : Prop where
  ex : ∃ (oc : Value) (od : Option Addr) (kV doc pm : Value) (an : Option Addr) (cdv ct : Value) (osl : Array (Option Value)),
    fd = PySem.W.fnOf x qual (defArgs st) (defBody st) (defScope st) .none kV doc pm an cdv ct ∧ K.lookup f = some ⟨oc, od, .func fd, osl⟩ ∧ PySem.W.codeIn K cdv qual = true
  kp : PySem.W.keepIn K (.ref f) = true
section
variable {P : Program} {w : World} {K : PySem.W.Frag} {mg : Str → Option Value} {base : Heap}
/-- THE RULE for a def: its body as a term of rules, and the reading of that term -/
theorem Fun.ok {x qual : Str} {st : Stmt} {f : Addr} {fd : FuncData} {N ps : List Str} {k : Nat} {sp : Sp} (F : Fun K x qual st f fd) (S : FnScope N ps (defScope st)) (len : ∀ vs H Q E, sp vs H Q E → vs.length = ps.length)
    (hbody : ∀ (cdv : Value) (A : Around) (outer : List Env) (s : Shared) (H : Hp) (vs : List V) (Q : VK) (E : XK), Room k (A.deeper (envOfC qual (defScope st) s.heap.objs.size f cdv)) → sp vs H Q E →
      ∃ t, PSs (cxOf CX0 P w K mg base N qual (defScope st) f cdv A outer s H E).nox (defBody st) t ∧ t { nx := fun _ H' => Q .non H', rt := Q } (start N vs) H) : FnOk P w K mg base CX0 (k + 1) f fd ps sp := by
  obtain ⟨oc, od, kV, doc, pm, an, cdv, ct, osl, rfl, lk, hcd⟩ := F.ex
  refine fn_of lk hcd S len fun A outer s H vs Q E hr hsp => ?_
  obtain ⟨t, h, q⟩ := hbody cdv A outer s H vs Q E hr hsp
  exact ⟨t, h.nox, q⟩
/-- how its arguments bind (no defaults): h is «fun _ _ _ _ _ _ us hl => match us, hl with | [_, _], _ => rfl», one _ a parameter -/
theorem Fun.binds {x qual : Str} {st : Stmt} {f : Addr} {fd : FuncData} {ps : List Str} (F : Fun K x qual st f fd)
    (h : ∀ (kV doc pm : Value) (an : Option Addr) (cdv ct : Value) (us : List Value), us.length = ps.length → bindArgs (PySem.W.fnOf x qual (defArgs st) (defBody st) (defScope st) .none kV doc pm an cdv ct) ⟨us, []⟩ = pure (ps.zip us)) : Binds K fd ps [] := by
  obtain ⟨oc, od, kV, doc, pm, an, cdv, ct, osl, rfl, lk, hcd⟩ := F.ex
  exact .all (h kV doc pm an cdv ct)
theorem fun_mk {x qual : Str} {st : Stmt} {f : Addr} {oc : Value} {od an : Option Addr} {osl : Array (Option Value)} {kV doc pm cdv ct : Value} (l : K.lookup f = some ⟨oc, od, .func (PySem.W.fnOf x qual (defArgs st) (defBody st) (defScope st) .none kV doc pm an cdv ct), osl⟩)
    (c : PySem.W.codeIn K cdv qual = true) (k : PySem.W.keepIn K (.ref f) = true) : Fun K x qual st f (PySem.W.fnOf x qual (defArgs st) (defBody st) (defScope st) .none kV doc pm an cdv ct) := ⟨⟨oc, od, kV, doc, pm, an, cdv, ct, osl, rfl, l, c⟩, k⟩
end
theorem small1000 {n : Nat} (h : n ≤ 1000) : n < sizeLine := Nat.lt_of_le_of_lt h (by decide)

/-! ### expressions in short: the name that stands in the i-th slot -/
section
variable {X : Cx}
theorem pv (i : Nat) {x : Str} {pos : Pos} (hN : X.N[i]? = some x := by rfl) (hv : Vis X.env.scope x := by first | exact Or.inl rfl | exact Or.inr (Or.inl rfl) | exact Or.inr (Or.inr rfl)) (hd : (x == ("__debug__" : Str)) = false := by decide)
    (hcd : (x == ("__classdict__" : Str)) = false := by decide) : PE X (.Name x pos) (tVar i) := pe_var hN hv hd hcd
end

/-! ### tests -/
theorem ite2 {c A B : Prop} [Decidable c] (h1 : c → A) (h2 : ¬ c → B) : if c then A else B := by
  by_cases h : c
  · rw [if_pos h]
    exact h1 h
  · rw [if_neg h]
    exact h2 h
/-! ### heaps -/
/-- all that was tracked is as it was -/
def Same (H H' : Hp) : Prop := ∀ b o, H b = some o → H' b = some o
theorem Same.refl (H : Hp) : Same H H := fun _ _ h => h
theorem Same.trans {H H1 H2 : Hp} (a : Same H H1) (b : Same H1 H2) : Same H H2 := fun c o h => b c o (a c o h)
theorem Same.free {H H' : Hp} (e : Same H H') {l : Addr} (h : H' l = Option.none) : H l = Option.none := by
  cases q : H l with
  | none => rfl
  | some o =>
    rw [e l o q] at h
    cases h
theorem Same.seq {K : PySem.W.Frag} {H H' : Hp} {a : Addr} {xs : List V} (e : Same H H') (h : SqL K H a xs) : SqL K H' a xs := by
  rcases h with (h | ⟨o, h⟩) | h
  · exact .inl (.inl (e _ _ h))
  · exact .inl (.inr ⟨o, e _ _ h⟩)
  · exact .inr h

end L2
set_option maxHeartbeats 4000000
/-! More rules over the hand layer: isinstance, list equality, unpacking of a list, all, reversed. -/
namespace L2
open PySem PySem.Spec PyProof.Rows

theorem Vals.getR : ∀ {xs : List V} {us : List Value} {i : Nat} {u : Value}, Vals xs us → us[i]? = some u → ∃ x, xs[i]? = some x ∧ RelV x u
  | _, _, _, _, .nil, e => by simp at e
  | _, _, 0, _, .cons r _, e => by simp at e; subst e; exact ⟨_, rfl, r⟩
  | _, _, i + 1, u, .cons _ t, e => by
    obtain ⟨x, h1, h2⟩ := Vals.getR (i := i) (u := u) t (by simpa using e)
    exact ⟨x, by simpa using h1, h2⟩

/-! ### isinstance with a built-in type -/
/-- is a value of the type t of the type T -/
def isa (t T : String) : Bool := t == T || (t == "bool" && T == "int")
/-- the type's name of a value -/
def tyN (K : PySem.W.Frag) (x : V) (H : Hp) (t : String) : Prop :=
  match x with
  | .non => t = "NoneType"
  | .bl _ => t = "bool"
  | .int _ => t = "int"
  | .str _ => t = "str"
  | .ref p => (t = "list" ∧ ∃ xs, SqL K H p xs) ∨ (t = "tuple" ∧ ∃ xs, SqT K H p xs)
  | _ => False
def isiTs : List String := ["int", "bool", "str", "list", "tuple", "dict"]
section
variable {X : Cx}
theorem call_isi : CallR X (.builtin "isinstance") (fun xs H Q => ∃ x T t, xs = [x, .ty T] ∧ T ∈ isiTs ∧ tyN X.K x H t ∧ Q (.bl (isa t T)) H) := by
  intro pins s σ H xs us Q I r h
  obtain ⟨x, T, t, rfl, hT, ht, q⟩ := h
  obtain ⟨u, w', rfl, rx, rT⟩ := vals2 r
  cases rT
  have hT' : T = "int" ∨ T = "bool" ∨ T = "str" ∨ T = "list" ∨ T = "tuple" ∨ T = "dict" := by simpa [isiTs] using hT
  have fin : ∀ {k : Bool} {s' : Shared}, isa t T = k → Inv X pins σ H s' → EP X pins σ Q (.bool k) s' := fun {k s'} e I' => by subst e; exact ⟨.bl _, H, I', rfl, q⟩
  cases x with
  | non =>
    cases rx
    have ht' : t = "NoneType" := ht
    subst ht'
    rcases hT' with rfl | rfl | rfl | rfl | rfl | rfl
    · exact IsiPair.NoneType_int (fin (by decide) (I.tok _))
    · exact IsiPair.NoneType_bool (fin (by decide) (I.tok _))
    · exact IsiPair.NoneType_str (fin (by decide) (I.tok _))
    · exact IsiPair.NoneType_list (fin (by decide) (I.tok _))
    · exact IsiPair.NoneType_tuple (fin (by decide) (I.tok _))
    · exact IsiPair.NoneType_dict (fin (by decide) (I.tok _))
  | bl b =>
    cases rx
    have ht' : t = "bool" := ht
    subst ht'
    rcases hT' with rfl | rfl | rfl | rfl | rfl | rfl
    · exact IsiPair.bool_int (fin (by decide) I)
    · exact IsiPair.bool_bool (fin (by decide) I)
    · exact IsiPair.bool_str (fin (by decide) (I.tok _))
    · exact IsiPair.bool_list (fin (by decide) (I.tok _))
    · exact IsiPair.bool_tuple (fin (by decide) (I.tok _))
    · exact IsiPair.bool_dict (fin (by decide) (I.tok _))
  | int i =>
    obtain ⟨tk, rfl⟩ := rx
    have ht' : t = "int" := ht
    subst ht'
    rcases hT' with rfl | rfl | rfl | rfl | rfl | rfl
    · exact IsiPair.int_int (fin (by decide) I)
    · exact IsiPair.int_bool (fin (by decide) (I.tok _))
    · exact IsiPair.int_str (fin (by decide) (I.tok _))
    · exact IsiPair.int_list (fin (by decide) (I.tok _))
    · exact IsiPair.int_tuple (fin (by decide) (I.tok _))
    · exact IsiPair.int_dict (fin (by decide) (I.tok _))
  | str y =>
    obtain ⟨tk, rfl⟩ := rx
    have ht' : t = "str" := ht
    subst ht'
    rcases hT' with rfl | rfl | rfl | rfl | rfl | rfl
    · exact IsiPair.str_int (fin (by decide) (I.tok _))
    · exact IsiPair.str_bool (fin (by decide) (I.tok _))
    · exact IsiPair.str_str (fin (by decide) I)
    · exact IsiPair.str_list (fin (by decide) (I.tok _))
    · exact IsiPair.str_tuple (fin (by decide) (I.tok _))
    · exact IsiPair.str_dict (fin (by decide) (I.tok _))
  | ref p =>
    cases rx
    have ht' : (t = "list" ∧ ∃ xs, SqL X.K H p xs) ∨ (t = "tuple" ∧ ∃ xs, SqT X.K H p xs) := ht
    rcases ht' with ⟨rfl, ys, hy⟩ | ⟨rfl, ys, hy⟩
    · obtain ⟨its, rv, ⟨o, n, e, hc, _, _⟩, hz⟩ := I.list hy
      rcases hT' with rfl | rfl | rfl | rfl | rfl | rfl
      · exact IsiPair.list_int e hc (fin (by decide) (I.tok _))
      · exact IsiPair.list_bool e hc (fin (by decide) (I.tok _))
      · exact IsiPair.list_str e hc (fin (by decide) (I.tok _))
      · exact IsiPair.list_list e hc (fin (by decide) I)
      · exact IsiPair.list_tuple e hc (fin (by decide) (I.tok _))
      · exact IsiPair.list_dict e hc (fin (by decide) (I.tok _))
    · obtain ⟨its, rv, ⟨o, e, hc, n, _⟩, hz⟩ := I.tuple hy
      rcases hT' with rfl | rfl | rfl | rfl | rfl | rfl
      · exact IsiPair.tuple_int e hc (fin (by decide) (I.tok _))
      · exact IsiPair.tuple_bool e hc (fin (by decide) (I.tok _))
      · exact IsiPair.tuple_str e hc (fin (by decide) (I.tok _))
      · exact IsiPair.tuple_list e hc (fin (by decide) (I.tok _))
      · exact IsiPair.tuple_tuple e hc (fin (by decide) I)
      · exact IsiPair.tuple_dict e hc (fin (by decide) (I.tok _))
  | _ => exact (show False from ht).elim

/-! ### two lists of ints compared -/
def rEqI (K : PySem.W.Frag) : R2 := fun x y H Q => ∃ (a b : Addr) (ns ms : List Int), x = .ref a ∧ y = .ref b ∧ SqL K H a (ns.map V.int) ∧ SqL K H b (ms.map V.int) ∧ Q (.bl (decide (ns = ms))) H
def rNeI (K : PySem.W.Frag) : R2 := fun x y H Q => ∃ (a b : Addr) (ns ms : List Int), x = .ref a ∧ y = .ref b ∧ SqL K H a (ns.map V.int) ∧ SqL K H b (ms.map V.int) ∧ Q (.bl (!decide (ns = ms))) H
theorem op_neI (hu : X.A.units + 64 < cLine) : OpR X (compareOp .NotEq) (rNeI X.K) := by
  intro pins s σ H x y v u Q I rx ry h
  obtain ⟨a, b, ns, ms, rfl, rfl, ha, hb, q⟩ := h
  cases rx
  cases ry
  obtain ⟨i1, r1, p1, _⟩ := I.list ha
  obtain ⟨i2, r2, p2, _⟩ := I.list hb
  exact PySem.W.ne_intsK p1.isList (intsAre_of r1) p2.isList (intsAre_of r2) hu ⟨.bl _, H, I, rfl, q⟩
end

/-! ### a, b = a list -/
section
variable {prog : Program} {w : World} {A : Around} {E : Value → Shared → Prop}
end
section
variable {X : Cx} {pos : Pos}
def gLst (K : PySem.W.Frag) (n : Nat) (t : TGs) : TG := fun v σ H Q => ∃ a xs, v = .ref a ∧ SqL K H a xs ∧ xs.length = n ∧ t xs σ H Q
/-! ### all(a list of truths) -/
theorem range_all_bools (bs : List Bool) : (List.range bs.length).all (fun i => bs.getD i false) = bs.all id := by
  rw [Bool.eq_iff_iff]
  simp only [List.all_eq_true, List.mem_range, id]
  constructor
  · intro h x hx
    obtain ⟨i, hi, rfl⟩ := List.mem_iff_getElem.mp hx
    have := h i hi
    simpa [List.getD_eq_getElem?_getD, List.getElem?_eq_getElem hi] using this
  · intro h i hi
    have := h bs[i] (List.getElem_mem hi)
    simpa [List.getD_eq_getElem?_getD, List.getElem?_eq_getElem hi] using this
theorem call_all (hc : X.calm = true) : CallR X (.builtin "all") (fun xs H Q => ∃ (a : Addr) (bs : List Bool), xs = [.ref a] ∧ SqL X.K H a (bs.map V.bl) ∧ Q (.bl (bs.all id)) H) := by
  intro pins s σ H xs us Q I r h
  obtain ⟨a, bs, rfl, ha, q⟩ := h
  obtain ⟨u, rfl, rx⟩ := vals1 r
  cases rx
  obtain ⟨its, rv, pl, hz⟩ := I.list ha
  have hlen : bs.length = its.length := by have := rv.length; simpa using this
  have hlt : a ≠ s.heap.objs.size := by obtain ⟨o, n, ho, _⟩ := pl; exact Nat.ne_of_lt (Heap.lt_size ho)
  refine call_all_walk (wpAny_pyIter_list pl.isList ?_)
  refine ⟨s.heap.objs.size, _, _, _, _, _, fun i => bs.getD i false, rfl, Walks.list (show X.A.in1.handled = none from I.ok.hd hc) _ a hlt its.toArray, ⟨⟨_, Heap.get?_push_size _ rfl, rfl, rfl⟩, pl.isList.push _⟩, ?_, fun h' tk hk => ?_⟩
  · intro i v s' Q' E' hP hQ
    have hv : its[i]? = some v := by simpa using hP
    obtain ⟨x, hx, rxv⟩ := rv.getR hv
    rw [List.getElem?_map] at hx
    cases hb : bs[i]? with
    | none => rw [hb] at hx; cases hx
    | some b =>
      rw [hb] at hx
      cases hx
      cases rxv
      have e : bs.getD i false = b := by simp [List.getD_eq_getElem?_getD, hb]
      have hQ' : Q' (bs.getD i false) s' := hQ
      rw [e] at hQ'
      exact wpAny_truthy_bool hQ'
  · refine ⟨.bl (bs.all id), H, I.kept fun b o e => hk b o (by simp; exact Nat.ne_of_lt (Heap.lt_size e)) (Heap.get?_push_of_some _ e), ?_, q⟩
    show Value.bool _ = Value.bool _
    rw [← range_all_bools bs, hlen]
    simp

/-! ### for x in reversed(a list) -/
def Itv (K : PySem.W.Frag) (a : Addr) (n : Nat) : It :=
  ⟨fun i H => i < n ∧ ∃ xs, SqL K H a xs ∧ xs.length = n, fun i H x H' => H' = H ∧ ∀ xs, SqL K H a xs → xs[n - 1 - i]? = some x, fun i _ => n ≤ i⟩
theorem turn_rev {P : Program} {w : World} {K : PySem.W.Frag} {tg : Expr} (a it : Addr) (n : Nat) : Turn P w K tg (Itv K a n) [it] it (fun i h => i ≤ n ∧ h.IsRevIter it a ((n : Int) - 1 - (i : Int))) where
  mem := by simp
  obj := fun i h st b hb => by
    have e : b = it := by simpa using hb
    subst e
    obtain ⟨_, o, e, c, d⟩ := st
    exact ⟨o, e, fun v z => by rw [d] at z; cases z⟩
  keep := fun i h h' st k => ⟨st.1, st.2.at fun o e => k it (by simp) o e⟩
  item := by
    intro X hP hw hK hc i pins s σ H E I hf st hg
    subst hP hw hK
    obtain ⟨hi, xs, hq, hn⟩ := hg
    obtain ⟨its, rv, p, hz⟩ := I.list hq
    have hl := rv.length
    obtain ⟨x, hx⟩ : ∃ x, xs[n - 1 - i]? = some x := ⟨_, List.getElem?_eq_getElem (by omega)⟩
    obtain ⟨u, hu, ru⟩ := rv.get hx
    obtain ⟨f0, f1, f2, f3, f4, f5⟩ := hf it (by simp)
    have e1 : (n : Int) - 1 - (i : Int) = ((n - 1 - i : Nat) : Int) := by omega
    have hit := st.2
    rw [e1] at hit
    refine wpAny_pyNext_rev_item hit p.isList (x := u) (by simpa using hu) fun h' st' sb => ?_
    have I1 : Inv X pins σ H { s with heap := h' } := I.turned (t' := s.toks) (fun b o hb e => (sb.2 b hb).trans e) f0 f1 f3 f4 f5
    have e2 : ((n - 1 - i : Nat) : Int) - 1 = (n : Int) - 1 - ((i + 1 : Nat) : Int) := by omega
    rw [e2] at st'
    obtain ⟨o, e, c, d⟩ := id st'
    exact ⟨u, rfl, go_of (s := { s with heap := h' }) e c d (by decide) ⟨x, H, I1, ru, ⟨rfl, fun ys hy => by rw [I.list_inj hy hq]; exact hx⟩, ⟨hi, st'⟩, fun b hb => (hf b hb).1⟩⟩
  done := by
    intro X hP hw hK hc i pins s σ H E I hf st hg
    subst hP hw hK
    obtain ⟨f0, f1, f2, f3, f4, f5⟩ := hf it (by simp)
    have hg' : n ≤ i := hg
    have hi : i = n := Nat.le_antisymm st.1 hg'
    subst hi
    have hit := st.2
    rw [show ((i : Int) - 1 - (i : Int)) = -1 by omega] at hit
    exact wpAny_pyNext_rev_end (I.ok.hd hc) hit fun h' eb => ⟨rfl, I.turned (t' := s.toks) (fun b o hb e => eb b o hb e) f0 f1 f3 f4 f5⟩
  self := fun _ _ _ _ _ st h => wpAny_pyIter_revIter st.2 h
def iRev (K : PySem.W.Frag) (ta : TA) : TI := fun σ H R => ta σ H fun vs H1 => ∃ a xs, vs = [.ref a] ∧ SqL K H1 a xs ∧ R (Itv K a xs.length) H1
theorem pi_rev {tg a : Expr} {ta : TA} {p pos : Pos} (hg : Gl X "reversed") (hm : X.mg "reversed" = none) (ha : PA X [a] ta) (hs : starEach [a] X.env = [(false, eval a X.env)] := by rfl) : PI X tg (.Call (.Name "reversed" p) [a] [] pos) (iRev X.K ta) := by
  intro pins s σ H R I h
  refine Call_ (ld_blt I hg hm boot_reversed (PyProof.Rows.callWith_type1 (thn (ha pos pins s σ H _ I h) fun us s1 ⟨vs, H1, I1, r1, q1⟩ => ?_) hs rfl))
  obtain ⟨l, xs, e, hl, q⟩ := q1
  subst e
  obtain ⟨u, rfl, rx⟩ := vals1 r1
  cases rx
  obtain ⟨its, rv, pl, hz⟩ := I1.list hl
  have hlen := rv.length
  refine call_reversed_list pl.isList (wpAny_pyIter_revIter ⟨_, Heap.get?_push_size _ rfl, rfl, rfl⟩ ?_)
  refine ⟨s1.heap.objs.size, [s1.heap.objs.size], _, _, H1, rfl, I1.kept (t' := s1.toks) fun b o e => Heap.get?_push_of_some _ e, turn_rev l _ xs.length, ⟨Nat.zero_le _, ⟨_, Heap.get?_push_size _ rfl, rfl, ?_⟩⟩, fun b hb => ?_, q⟩
  · show Data.fields #[.ref l, rawInt _] = Data.fields #[.ref l, rawInt _]
    rw [show ((its.toArray.size : Int) - 1) = ((xs.length : Int) - 1 - ((0 : Nat) : Int)) by simp [hlen]]
  · have e : b = s1.heap.objs.size := by simpa using hb
    subst e
    exact I1.fpOk (Nat.le_refl _) (I1.hok.fresh (Nat.le_refl _))
/-- the loop by an invariant: the list stays -/
theorem for_rev {K : PySem.W.Frag} {a : Addr} {xs : List V} {g : TG} {tb : TS} {D : Ends} {σ : St} {H : Hp} (Pv : Nat → St → Hp → Prop) (h0 : Pv 0 σ H) (hl : ∀ i σ H, i ≤ xs.length → Pv i σ H → SqL K H a xs)
    (hs : ∀ i x σ H, xs.reverse[i]? = some x → Pv i σ H → g x σ H fun σ2 H2 => tb { D with nx := Pv (i + 1), ct := Pv (i + 1), bk := D.nx } σ2 H2) (hd : ∀ σ H, Pv xs.length σ H → D.nx σ H) :
    ∃ W : Nat → Nat → St → Hp → Prop, (∃ m, W 0 m σ H) ∧ ∀ i m σ H, W i m σ H →
      ((Itv K a xs.length).stop i H ∧ D.nx σ H) ∨ ((Itv K a xs.length).go i H ∧ ∃ N : St → Hp → Prop, (∀ σ' H', N σ' H' → ∃ m', m' < m ∧ W (i + 1) m' σ' H') ∧ ∀ x H', (Itv K a xs.length).yld i H x H' → g x σ H' fun σ2 H2 => tb { D with nx := N, ct := N, bk := D.nx } σ2 H2) := by
  refine ⟨fun i m σ H => m = xs.length - i ∧ i ≤ xs.length ∧ Pv i σ H, ⟨xs.length, by simp, Nat.zero_le _, h0⟩, ?_⟩
  rintro i m σ H ⟨rfl, hi, p⟩
  have q := hl i σ H hi p
  by_cases hlt : i < xs.length
  · refine .inr ⟨⟨hlt, xs, q, rfl⟩, Pv (i + 1), fun σ' H' p' => ⟨xs.length - (i + 1), by omega, rfl, hlt, p'⟩, fun x H' y => ?_⟩
    obtain ⟨e, y⟩ := y
    subst e
    refine hs i x σ _ ?_ p
    rw [List.getElem?_reverse hlt]
    exact y xs q
  · have e : i = xs.length := by omega
    subst e
    exact .inl ⟨Nat.le_refl _, hd σ H p⟩
end
end L2

/-! A list comprehension of one clause, over the hand layer. -/
namespace L2
open PySem PySem.Spec PyProof.Rows

/-- the context of a comprehension's block; no exception leaves it -/
abbrev Cx.comp (X : Cx) (scope : Scope) (cl : List (Str × Addr)) (N : List Str) (s : Shared) (H : Hp) (fp : List Addr) (C : Addr) : Cx where
  prog := X.prog
  w := X.w
  K := X.K
  mg := X.mg
  base := X.base
  A := X.A
  N := N
  s₀ := s
  H₀ := H
  env := compEnvC scope cl C X.env
  outer := X.stack
  stack := X.stack
  ex := fp
  fn := fun _ => false
  calm := X.calm
  pn := []
  xe := fun _ _ => False

/-- the cells handed in are those of the frame around -/
def subCl (env : Env) : List (Str × Addr) → Prop
  | [] => True
  | p :: r => env.cells.lookup p.1 = some p.2 ∧ subCl env r
theorem subCl.all {env : Env} : ∀ {cl : List (Str × Addr)}, subCl env cl → ∀ p ∈ cl, env.cells.lookup p.1 = some p.2
  | [], _, p, hp => by simp at hp
  | _ :: _, h, p, hp => (List.mem_cons.mp hp).elim (fun e => e ▸ h.1) (subCl.all h.2 p)
theorem subCl.at {env : Env} {cl : List (Str × Addr)} {x : Str} {c : Addr} (h : subCl env cl) (e : cl.lookup x = some c) : env.cells.lookup x = some c :=
  h.all (x, c) (PySem.mem_of_lookup e)
/-- the names ys that the block has from around, by their slots js there -/
def capt (X : Cx) (scope : Scope) (cl : List (Str × Addr)) : List Str → List Nat → Prop
  | [], [] => True
  | y :: ys, j :: js => (X.N[j]? = some y ∧ X.env.kindOf y = some .cell ∧ (relabel scope X.env).names.lookup y = some .cell ∧ ∃ c, cl.lookup y = some c) ∧ capt X scope cl ys js
  | _, _ => False
theorem capt.get {X : Cx} {scope : Scope} {cl : List (Str × Addr)} : ∀ {ys : List Str} {js : List Nat} {k : Nat} {y : Str}, capt X scope cl ys js → ys[k]? = some y →
    ∃ j, js[k]? = some j ∧ X.N[j]? = some y ∧ X.env.kindOf y = some .cell ∧ (relabel scope X.env).names.lookup y = some .cell ∧ ∃ c, cl.lookup y = some c
  | [], [], k, y, _, e => by simp at e
  | y' :: ys, j :: js, 0, y, h, e => by
    simp at e
    subst e
    exact ⟨j, rfl, h.1⟩
  | y' :: ys, j :: js, k + 1, y, h, e => by
    obtain ⟨j', e1, r⟩ := capt.get (k := k) h.2 (by simpa using e)
    exact ⟨j', by simpa using e1, r⟩
  | [], _ :: _, _, _, h, _ => h.elim
  | _ :: _, [], _, _, h, _ => h.elim
theorem capt.len {X : Cx} {scope : Scope} {cl : List (Str × Addr)} : ∀ {ys : List Str} {js : List Nat}, capt X scope cl ys js → ys.length = js.length
  | [], [], _ => rfl
  | _ :: _, _ :: _, h => by rw [List.length_cons, List.length_cons, capt.len h.2]
  | [], _ :: _, h => h.elim
  | _ :: _, [], h => h.elim
/-- the block's names at its entry: k targets, then what comes from around -/
def capSt (k : Nat) (js : List Nat) (σ : St) : St := List.replicate k none ++ js.map fun j => σ.getD j none

/-- the tests of the clause -/
def PIf (X : Cx) (ifs : List Expr) (t : TT) : Prop :=
  ∀ (pins : List (Addr × Obj)) (s : Shared) (σ : St) (H : Hp) (Q : Bool → Hp → Prop), Inv X pins σ H s → t σ H Q →
    wpAny (model X.prog X.w) X.A (forIn ifs true fun c r => if r = true then do let ok ← isTrue c X.env (eval c X.env); pure (ForInStep.yield ok) else pure (ForInStep.yield r)) (TP X pins σ Q) X.xe s
def tYes : TT := fun _ H Q => Q true H
theorem pif_nil {X : Cx} : PIf X [] tYes := fun _ _ _ H _ I h => wpAny_tests_nil ⟨H, I, h⟩
/-- the turns of a comprehension by an invariant W and a measure -/
def CompR (J : It) (k : Nat) (js : List Nat) (g : TG) (tc : TT) (te : TE) (σ : St) (Q : VK) (H1 : Hp) : Prop :=
  ∃ W : Nat → Nat → St → List V → Hp → Prop, (∃ m, W 0 m (capSt k js σ) [] H1) ∧ ∀ i m σ' xs H', W i m σ' xs H' →
    (J.stop i H' ∧ ∀ p, H' p = none → Q (.ref p) (upd H' p (.lst xs))) ∨
    (J.go i H' ∧ xs.length < sizeLine ∧ ∃ N : St → List V → Hp → Prop, (∀ σ' ys H', N σ' ys H' → ∃ m', m' < m ∧ W (i + 1) m' σ' ys H') ∧
      ∀ x H2, J.yld i H' x H2 → g x σ' H2 fun σ3 H3 => tc σ3 H3 fun b H4 => if b = true then te σ3 H4 fun v H5 => N σ3 (xs ++ [v]) H5 else N σ3 xs H4)
def tComp (wi : TI) (k : Nat) (js : List Nat) (g : TG) (tc : TT) (te : TE) : TE := fun σ H Q => wi σ H fun J H1 => CompR J k js g tc te σ Q H1

section
variable {prog : Program} {w : World} {A : Around} {R : Result → Shared → Prop} {s : Shared}
theorem compLoop_gen {elt target iter : Expr} {ifs : List Expr} {scope : Scope} {pos : Pos} {it acc : Value} {env : Env} (I : Nat → Shared → Prop)
    (turn : ∀ n s, I n s → wpAny (model prog w) A (pyNext it) (fun r s₁ => match r with
      | none => R (.ok .next) s₁
      | some v => wpAny (model prog w) A (letOwnedTupleGo target it v) (fun _ s₀ => wpAny (model prog w) A (assign target env v) (fun _ s₂ =>
          wpAny (model prog w) A (forIn ifs true fun c r => if r = true then do let ok ← isTrue c env (eval c env); pure (ForInStep.yield ok) else pure (ForInStep.yield r)) (fun ok s₃ =>
            if ok = true then wpAny (model prog w) A (eval elt env) (fun x s₄ =>
              wpAny (model prog w) A (call (.builtin "list.append") [acc, x]) (fun _ s₅ => ∃ m, m < n ∧ I m s₅) (fun _ _ => False) s₄) (fun _ _ => False) s₃
            else ∃ m, m < n ∧ I m s₃) (fun _ _ => False) s₂) (fun _ _ => False) s₀) (fun _ _ => False) s₁) (fun _ _ => False) s)
    (n : Nat) (h : I n s) : codeAny (model prog w) A (.compLoop (.ListComp elt [⟨target, iter, ifs, 0⟩] scope pos) 0 it acc env) R s := by
  refine codeAny_loop rfl I (fun n s hI => ?_) n h
  show wpAny _ A ((compTurn (.ListComp elt [⟨target, iter, ifs, 0⟩] scope pos) 0 it acc env).onRaise (fun x => do noteFrame x env; theTreesLotGoes x)) _ _ s
  refine wpAny_noted ?_
  rw [compTurn_list]
  refine wpAny_bind (wpAny_standAt (wpAny_bind (wpAny_mono (turn n s hI) (fun r s₁ h₁ => ?_) fun _ _ z => False.elim z)))
  cases r with
  | none => exact wpAny_pure h₁
  | some v =>
    refine wpAny_bind (wpAny_mono h₁ (fun _ s₀ h₀ => ?_) fun _ _ z => False.elim z)
    refine wpAny_bind (wpAny_mono h₀ (fun _ s₂ h₂ => wpAny_bind (wpAny_mono h₂ (fun ok s₃ h₃ => ?_) fun _ _ z => False.elim z)) fun _ _ z => False.elim z)
    cases ok with
    | false => exact wpAny_pure ⟨rfl, h₃⟩
    | true =>
      exact wpAny_bind (wpAny_bind (wpAny_mono h₃ (fun x s₄ h₄ => wpAny_bind (wpAny_mono h₄ (fun _ s₅ h₅ => wpAny_pure (wpAny_pure ⟨rfl, h₅⟩)) fun _ _ z => False.elim z)) fun _ _ z => False.elim z))
end

/-- an untracked record has turned, another one is tracked now -/
theorem HOk.but {P : Program} {w : World} {H : Hp} {h h' : Heap} {C : Addr} (x : HOk P w H h) (hn : H C = none) (k : ∀ b o, b ≠ C → h.get? b = some o → h'.get? b = some o) : HOk P w H h' := fun b u e =>
  (x b u e).stay (fun c v hc q => k c v (by
    rcases hc with z | z
    · intro y; rw [← z, y, hn] at e; cases e
    · intro y; rw [y, hn] at z; cases z) q) (fun _ q => q) fun _ _ q => q
theorem HOk.track {P : Program} {w : World} {H : Hp} {h : Heap} {a : Addr} {o : HO} (x : HOk P w H h) (hn : H a = none) (new : ObjOk P w (upd H a o) h a o) : HOk P w (upd H a o) h := fun b u e => by
  by_cases hb : b = a
  · subst hb; rw [upd_same] at e; cases e; exact new
  · rw [upd_ne hb] at e
    exact (x b u e).stay (fun _ _ _ q => q) (fun c q => by rw [upd_ne (ne_of_none q hn)]; exact q) fun c xs q => by rw [upd_ne (ne_of_none q hn)]; exact q

section
variable {X : Cx} {elt tg iter : Expr} {ifs : List Expr} {scope : Scope} {cl : List (Str × Addr)} {ts ys : List Str} {js : List Nat} {pos : Pos} {wi : TI} {g : TG} {tc : TT} {te : TE}

theorem capSt_get {k : Nat} {σ : St} {i : Nat} {v : V} (h : (capSt k js σ)[i]? = some (some v)) : ∃ n j, i = k + n ∧ js[n]? = some j ∧ σ[j]? = some (some v) := by
  unfold capSt at h
  by_cases hi : i < k
  · rw [List.getElem?_append_left (by simpa using hi), List.getElem?_replicate] at h
    split at h <;> cases h
  · rw [List.getElem?_append_right (by simpa using hi), List.getElem?_map, List.length_replicate] at h
    cases e : js[i - k]? with
    | none => rw [e] at h; cases h
    | some j =>
      rw [e] at h
      have h' : σ.getD j none = some v := Option.some.inj h
      refine ⟨i - k, j, by omega, e, ?_⟩
      rw [List.getD_eq_getElem?_getD] at h'
      cases q : σ[j]? with
      | none => rw [q] at h'; cases h'
      | some o => rw [q] at h'; exact congrArg some h'

/-- the block's entry -/
theorem inv_comp {pins : List (Addr × Obj)} {σ : St} {H : Hp} {s : Shared} {fp : List Addr} {C : Addr} {h1 : Heap} {m : Str → Option Value} {t' : Nat} (I : Inv X pins σ H s) (hsub : subCl X.env cl) (hcap : capt X scope cl ys js)
    (hkind : scope.kind = .function) (hhas : ∀ x, ((relabel scope X.env).names.lookup x = some .cell ∨ (relabel scope X.env).names.lookup x = some .free) → ∃ c, cl.lookup x = some c)
    (f2 : ∀ b ∈ fp, FpOk X pins H b) (fl : ∀ b ∈ fp, b < s.heap.objs.size) (hC : s.heap.objs.size ≤ C) (hn : h1.Ns C m) (old : ∀ b o, s.heap.get? b = some o → h1.get? b = some o) :
    Inv (X.comp scope cl (ts ++ ys) s H fp C) [] (capSt ts.length js σ) H { s with heap := h1, toks := t' } := by
  obtain ⟨mo, hno, hlo⟩ := id I.loc
  refine ⟨⟨I.ok.mod, hkind, I.ok.glob, I.ok.blt, hC, fun x y c e1 e2 => I.ok.inj x y c (hsub.at e1) (hsub.at e2), fun x hx => hhas x hx, fun x c z _ => (by cases z), I.ok.hd, I.ok.frames, .inl rfl,
      fun b hb => ⟨Nat.ne_of_lt (Nat.lt_of_lt_of_le (fl b hb) hC), fun x c e => (f2 b hb).2.2.2.2.1 x c (hsub.at e)⟩, I.bs, Nat.le_trans I.ok.bsz I.sz, fun b o e hb => ?_, fun b hb z => ?_, I.stack, I.stkFree⟩,
    rfl, I.bare, Un.kept old, ⟨m, hn, fun i x v e1 e2 e3 => ?_⟩, fun x c e => ?_, I.hok.fresh hC, fun x c e => I.freeC x c (hsub.at e), fun p hp => absurd (show p ∈ ([] : List (Addr × Obj)) from hp) (by simp), I.hok.kept old, ?_⟩
  · -- an object of the base is none of the iterator's
    obtain ⟨_, _, _, h3, _⟩ := f2 b hb
    rcases h3 with z | z
    · exact I.ok.noex b o e z
    · exact absurd (Nat.lt_of_lt_of_le (Heap.lt_size e) (Nat.le_trans I.ok.bsz z)) (Nat.lt_irrefl _)
  · obtain ⟨_, h1', h2', _⟩ := f2 b hb
    rcases List.mem_cons.mp (I.stkSub b z) with e | e
    · exact h1' e
    · exact h2' e
  · obtain ⟨n, j, rfl, ej, es⟩ := capSt_get e2
    have ey : ys[n]? = some x := by
      have e1' : (ts ++ ys)[ts.length + n]? = some x := e1
      rw [List.getElem?_append_right (by omega)] at e1'
      simpa using e1'
    obtain ⟨j', ej', hN, hk, hr, c, hc⟩ := hcap.get ey
    rw [ej] at ej'
    cases ej'
    obtain ⟨u, ru, l⟩ := hlo j x v hN es (.inr (.inl hk))
    refine ⟨u, ru, .inr ⟨.inl hr, c, hc, ?_⟩⟩
    rcases l with ⟨k1, _⟩ | ⟨_, c', hc', ⟨o, ho, hd⟩⟩
    · rw [hk] at k1; cases k1
    · have := hsub.at hc
      rw [hc'] at this
      cases this
      exact ⟨o, old _ o ho, hd⟩
  · obtain ⟨v, o, ho, hd⟩ := I.cell x c (hsub.at e)
    exact ⟨v, o, old _ o ho, hd⟩
  · show (capSt ts.length js σ).length = (ts ++ ys).length
    unfold capSt
    rw [List.length_append, List.length_append, List.length_replicate, List.length_map, hcap.len]

/-- behind the block -/
theorem comp_end {pins pins' : List (Addr × Obj)} {σ σ' : St} {H2 H3 : Hp} {s2 s4 : Shared} {fp : List Addr} {C D : Addr} {N : List Str} {h' : Heap} {its : List Value} {xs : List V} {n : Nat} (I2 : Inv X pins σ H2 s2) (f2 : ∀ b ∈ fp, FpOk X pins H2 b)
    (I4 : Inv (X.comp scope cl N s2 H2 fp C) pins' σ' H3 s4) (hC : s2.heap.objs.size ≤ C) (hD : s2.heap.objs.size ≤ D) (hDC : D ≠ C) (hs' : Heap.SameBut C s4.heap h') (rv : Vals xs its) (hz : xs.length ≤ sizeLine) (e4 : s4.heap.get? D = some { cls := .type "list", data := .seq its.toArray n }) (hn : H3 D = none) :
    Inv X pins σ (upd H3 D (.lst xs)) { s4 with heap := h' } := by
  have ext := hs'.extBut
  have neC : ∀ b o, s2.heap.get? b = some o → b ≠ C := fun b o e => Nat.ne_of_lt (Nat.lt_of_lt_of_le (Heap.lt_size e) hC)
  have neD : ∀ b o, s2.heap.get? b = some o → b ≠ D := fun b o e => Nat.ne_of_lt (Nat.lt_of_lt_of_le (Heap.lt_size e) hD)
  have hok : HOk X.prog X.w (upd H3 D (.lst xs)) h' := by
    have h1 : HOk X.prog X.w H3 h' := HOk.but (C := C) I4.hok I4.free fun b o hb e => ext b o hb e
    exact HOk.track h1 hn ⟨hz, its, n, rv, ext D _ hDC e4⟩
  have B : Un (frs X.stack) fp H2 H3 s2.heap s4.heap := I4.base
  have u : Un (frs X.stack) fp H2 (upd H3 D (.lst xs)) s2.heap h' := by
    refine ⟨fun b o e q hb hx => ext b o (neC b o e) (B.keep b o e q hb hx), fun b o e q hb hx => ?_, fun b o e q hx => ?_, fun b o e hx => ?_, fun b ys q => ?_, fun b o ys q => ?_, fun b ps q => ?_⟩
    · obtain ⟨sl, e1⟩ := B.slot b o e q hb hx
      exact ⟨sl, ext b _ (neC b o e) e1⟩
    · rw [upd_ne (neD b o e)]; exact B.free b o e q hx
    · obtain ⟨o', e1⟩ := B.there b o e hx
      exact ⟨o', ext b _ (neC b o e) e1⟩
    · have := B.tups b ys q
      rw [upd_ne (ne_of_none this hn)]; exact this
    · have := B.frzs b o ys q
      rw [upd_ne (ne_of_none this hn)]; exact this
    · obtain ⟨m1, e1⟩ := B.tbls b ps q
      exact ⟨m1, by rw [upd_ne (ne_of_none e1 hn)]; exact e1⟩
  have os : s4.os = s2.os := I4.os
  have gb := I4.bare
  obtain ⟨hh, gg, dd, tt, os'⟩ := s4
  obtain rfl : os' = s2.os := os
  have fin := I2.call (h' := h') (g' := gg) (d' := dd) (t' := tt) (ch := fp) u hok gb fun b hb => ⟨(f2 b hb).2.2.2.1, (f2 b hb).2.1, (f2 b hb).2.2.2.2.1, (f2 b hb).2.2.2.2.2⟩
  exact fin

theorem pe_comp (ts ys : List Str) (js : List Nat) (hc : X.calm = true) (hi : PI X tg iter wi) (hclos : closureFor scope X.env = pure cl) (hsub : subCl X.env cl) (hcap : capt X scope cl ys js)
    (hg : ∀ s H fp C, PG (X.comp scope cl (ts ++ ys) s H fp C) tg g) (ht : ∀ s H fp C, PIf (X.comp scope cl (ts ++ ys) s H fp C) ifs tc) (he : ∀ s H fp C, PE (X.comp scope cl (ts ++ ys) s H fp C) elt te)
    (hkind : scope.kind = .function := by rfl) (hcell : (scope.names.all fun y => y.2 != .cell) = true := by rfl)
    (hnames : (scope.names.all fun y => y.2 != .local || scope.names.lookup y.1 == some .local) = true := by rfl)
    (hhas : ((relabel scope X.env).names.all fun p => (p.2 != .cell && p.2 != .free) || (cl.lookup p.1).isSome) = true := by rfl)
    (hs : ∀ x, foldedSetIterable iter X.env x = pure x := by intro _; rfl) : PE X (.ListComp elt [⟨tg, iter, ifs, 0⟩] scope pos) (tComp wi ts.length js g tc te) := by
  intro pins s σ H Q I h
  have hcell' : ∀ y ∈ scope.names, y.2 ≠ .cell := fun y hy z => by
    have := List.all_eq_true.mp hcell y hy
    rw [z] at this
    exact absurd this (by decide)
  have hnames' : ∀ y ∈ scope.names, y.2 = .local → scope.names.lookup y.1 = some .local := fun y hy z => by
    have := List.all_eq_true.mp hnames y hy
    rw [z] at this
    simpa using this
  have hhas' : ∀ x, ((relabel scope X.env).names.lookup x = some .cell ∨ (relabel scope X.env).names.lookup x = some .free) → ∃ c, cl.lookup x = some c := fun x hx => by
    rcases hx with hx | hx
    · have := List.all_eq_true.mp hhas _ (PySem.mem_of_lookup hx)
      exact Option.isSome_iff_exists.mp (by simpa using this)
    · have := List.all_eq_true.mp hhas _ (PySem.mem_of_lookup hx)
      exact Option.isSome_iff_exists.mp (by simpa using this)
  rw [eval_ListComp]
  refine wpAny_comprehension_free (use := none) rfl hs hclos hkind hnames' (thn (hi pins s σ H _ I h) fun v s1 h1 => thn h1 fun itv s2 h2 => ?_)
  obtain ⟨it, fp, tn, J, H2, e, I2, T, st2, f2, W, ⟨m0, w0⟩, turn⟩ := h2
  subst e
  have fl : ∀ b ∈ fp, b < s2.heap.objs.size := fun b hb => by
    obtain ⟨o, e, _⟩ := T.obj _ _ st2 b hb
    exact Heap.lt_size e
  refine wpAny_newObj_type (wpAny_newFunctionEnv hcell' (by intro y hy; simp at hy) (fun h₁ hns₁ hsb₁ => ?_) hkind)
  dsimp only at hns₁ hsb₁ ⊢
  generalize hHH : s2.heap.push { cls := .type "list", dict := none, data := .seq ([] : List Value).toArray } = HH at hns₁ hsb₁ ⊢
  have hC : HH.objs.size = s2.heap.objs.size + 1 := by rw [← hHH, Heap.size_push]
  have hDC : s2.heap.objs.size ≠ HH.objs.size := by rw [hC]; exact Nat.ne_of_lt (Nat.lt_succ_self _)
  have hCle : s2.heap.objs.size ≤ HH.objs.size := by rw [hC]; exact Nat.le_succ _
  have old : ∀ b o, s2.heap.get? b = some o → h₁.get? b = some o := fun b o e =>
    hsb₁.extBut b o (Nat.ne_of_lt (Nat.lt_of_lt_of_le (Heap.lt_size e) hCle)) (Heap.get?_push_of_some _ (hHH ▸ Heap.get?_push_of_some _ e))
  have hacc : h₁.get? s2.heap.objs.size = some { cls := .type "list", data := .seq ([] : List Value).toArray } := hsb₁.extBut _ _ hDC (Heap.get?_push_of_some _ (hHH ▸ Heap.get?_push_size _ rfl))
  have nofs : ∀ b, s2.heap.objs.size ≤ b → b ∉ frs X.stack := fun b hb z => by
    rcases List.mem_cons.mp (I2.stkSub b z) with e | e
    · exact absurd (Nat.lt_of_lt_of_le I2.lt (e ▸ hb)) (Nat.lt_irrefl _)
    · exact I2.nofs hb e
  have nocell : ∀ b, s2.heap.objs.size ≤ b → ∀ x c, cl.lookup x = some c → c ≠ b := fun b hb x c e z => by
    obtain ⟨v, q⟩ := I2.cell x c (hsub.at e)
    exact absurd (Nat.lt_of_lt_of_le q.lt (z ▸ hb)) (Nat.lt_irrefl _)
  have I' : Inv (X.comp scope cl (ts ++ ys) s2 H2 fp HH.objs.size) [] (capSt ts.length js σ) H2 { s2 with heap := h₁, toks := s2.toks + ([] : List (Str × Value)).length } :=
    inv_comp I2 hsub hcap hkind hhas' f2 fl hCle hns₁ old
  have addPin : ∀ {σ' : St} {H' : Hp} {s' : Shared} {o : Obj}, Inv (X.comp scope cl (ts ++ ys) s2 H2 fp HH.objs.size) [] σ' H' s' → s'.heap.get? s2.heap.objs.size = some o → H' s2.heap.objs.size = none → (∀ v, o.data ≠ .cell v) →
      Inv (X.comp scope cl (ts ++ ys) s2 H2 fp HH.objs.size) [(s2.heap.objs.size, o)] σ' H' s' := fun {σ' H' s' o} J e n d => J.pins_of fun p hp => by
    have e' : p = (s2.heap.objs.size, o) := by simpa using hp
    subst e'
    exact ⟨e, n, hDC, nofs _ (Nat.le_refl _), d⟩
  have stat : ∀ {pins' : List (Addr × Obj)} {H' : Hp}, (∀ p ∈ pins', p.1 = s2.heap.objs.size) → (∀ b ∈ fp, H' b = none) → ∀ b ∈ fp, FpOk (X.comp scope cl (ts ++ ys) s2 H2 fp HH.objs.size) pins' H' b := fun {pins' H'} hp hn b hb =>
    ⟨hn b hb, Nat.ne_of_lt (Nat.lt_of_lt_of_le (fl b hb) hCle), I'.ok.exfs b hb, .inl hb, (I'.ok.exf b hb).2, fun p hq z => by
      have hq' : p ∈ pins' := by simpa using hq
      exact absurd (fl b hb) (by rw [← z, hp p hq']; exact Nat.lt_irrefl _)⟩
  have tn1 : tn 0 h₁ := T.keep _ _ _ st2 fun b _ o e => old b o e
  have loop : ∀ s₃ : Shared, s₃ = { s2 with heap := h₁, toks := s2.toks + ([] : List (Str × Value)).length } →
      codeAny (model X.prog X.w) X.A (.compLoop (.ListComp elt [⟨tg, iter, ifs, 0⟩] scope pos) 0 (.ref it) (.ref s2.heap.objs.size) (compEnvC scope cl HH.objs.size X.env))
        (compPost (model X.prog X.w) X.A X.xe none (EP X pins σ Q) (.ref s2.heap.objs.size) HH.objs.size) s₃ := by
    rintro s₃ rfl
    refine compLoop_gen (fun n s' => ∃ i σ' xs H' its nn, Inv (X.comp scope cl (ts ++ ys) s2 H2 fp HH.objs.size) [] σ' H' s' ∧ Vals xs its ∧ xs.length ≤ sizeLine ∧ s'.heap.get? s2.heap.objs.size = some { cls := .type "list", data := .seq its.toArray nn } ∧ H' s2.heap.objs.size = none ∧
      tn i s'.heap ∧ (∀ b ∈ fp, H' b = none) ∧ W i n σ' xs H') ?_ m0 ⟨0, _, [], H2, [], 0, I', .nil, Nat.zero_le _, hacc, I2.hok.fresh (Nat.le_refl _), tn1, fun b hb => (f2 b hb).1, w0⟩
    rintro n s3 ⟨i, σ3, xs, H3, its, nn, I3, rv, hz3, ac3, nD3, st3, fr3, w3⟩
    have nd : ∀ v, ({ cls := .type "list", data := .seq its.toArray nn } : Obj).data ≠ .cell v := fun v z => by
      have z' : Data.seq its.toArray nn = Data.cell v := z
      cases z'
    have I3p := addPin I3 ac3 nD3 nd
    have pinD : ∀ p ∈ [(s2.heap.objs.size, ({ cls := .type "list", data := .seq its.toArray nn } : Obj))], p.1 = s2.heap.objs.size := fun p hp => by
      rw [List.mem_singleton] at hp
      rw [hp]
    rcases turn i n σ3 xs H3 w3 with ⟨stop, qn⟩ | ⟨go, hz, N, hN, step⟩
    · refine thn (T.done (X.comp scope cl (ts ++ ys) s2 H2 fp HH.objs.size) rfl rfl rfl hc i _ s3 σ3 H3 (fun _ _ => False) I3p (stat pinD fr3) st3 stop) fun r s4 ⟨hr, I4⟩ => ?_
      subst hr
      obtain ⟨m, hn, _⟩ := I4.loc
      have ac4 := (I4.pin _ (List.mem_append_right _ (List.mem_singleton.mpr rfl))).1
      exact ⟨m, hn, fun h' hs' => ⟨.ref s2.heap.objs.size, _, comp_end I2 f2 I4 hCle (Nat.le_refl _) hDC hs' rv hz3 ac4 nD3, rfl, qn _ nD3⟩⟩
    · refine thn (T.item (X.comp scope cl (ts ++ ys) s2 H2 fp HH.objs.size) rfl rfl rfl hc i _ s3 σ3 H3 (fun _ _ => False) I3p (stat pinD fr3) st3 go) fun r s4 ⟨u, hr, h4⟩ => ?_
      subst hr
      refine thn h4 fun _ s5 ⟨x, H5, I5, r5, y5, st5, fr5⟩ => ?_
      have I5' := I5.pinned (stat pinD fr5) (T.obj _ _ st5)
      refine thn (hg _ _ _ _ _ s5 σ3 H5 x u _ I5' r5 (step x H5 y5)) fun _ s6 ⟨σ6, H6, I6, q6⟩ => ?_
      refine thn (ht _ _ _ _ _ s6 σ6 H6 _ I6 q6) fun b s7 ⟨H7, I7, q7⟩ => ?_
      -- what stands of the pins
      have facts : ∀ {σ' : St} {H' : Hp} {s' : Shared}, Inv (X.comp scope cl (ts ++ ys) s2 H2 fp HH.objs.size) ([(s2.heap.objs.size, ({ cls := .type "list", data := .seq its.toArray nn } : Obj))] ++ pinsAt fp s5.heap) σ' H' s' →
          s'.heap.get? s2.heap.objs.size = some { cls := .type "list", data := .seq its.toArray nn } ∧ H' s2.heap.objs.size = none ∧ tn (i + 1) s'.heap ∧ (∀ b ∈ fp, H' b = none) := fun {σ' H' s'} J => by
        have p1 := J.pin (s2.heap.objs.size, ({ cls := .type "list", data := .seq its.toArray nn } : Obj)) (by simp)
        refine ⟨p1.1, p1.2.1, T.keep _ _ _ st5 fun b hb o e => (J.pin (b, o) (List.mem_append_right _ (List.mem_append_right _ (mem_pinsAt hb e)))).1, fun b hb => ?_⟩
        obtain ⟨o, e, d⟩ := T.obj _ _ st5 b hb
        exact (J.pin (b, o) (List.mem_append_right _ (List.mem_append_right _ (mem_pinsAt hb e)))).2.1
      have bare : ∀ {σ' : St} {H' : Hp} {s' : Shared}, Inv (X.comp scope cl (ts ++ ys) s2 H2 fp HH.objs.size) ([(s2.heap.objs.size, ({ cls := .type "list", data := .seq its.toArray nn } : Obj))] ++ pinsAt fp s5.heap) σ' H' s' →
          Inv (X.comp scope cl (ts ++ ys) s2 H2 fp HH.objs.size) [] σ' H' s' := fun J => J.pins_of fun p hp => absurd hp (by simp)
      cases b with
      | false =>
        have q7' : N σ6 xs H7 := by simpa using q7
        obtain ⟨m', hm, w7⟩ := hN _ _ _ q7'
        obtain ⟨a1, a2, a3, a4⟩ := facts I7
        show ∃ m, m < n ∧ _
        exact ⟨m', hm, i + 1, σ6, xs, H7, its, nn, bare I7, rv, hz3, a1, a2, a3, a4, w7⟩
      | true =>
        have q7' : te σ6 H7 fun v H5 => N σ6 (xs ++ [v]) H5 := by
          rw [if_pos rfl] at q7
          exact q7
        show wpAny _ _ (eval elt _) _ _ s7
        refine thn (he _ _ _ _ _ s7 σ6 H7 _ I7 q7') fun xv s8 ⟨v, H8, I8, r8, n8⟩ => ?_
        obtain ⟨m', hm, w8⟩ := hN _ _ _ n8
        obtain ⟨a1, a2, a3, a4⟩ := facts I8
        have hl := rv.length
        refine call_meets F.slot_list_append ⟨_, a1, rfl⟩ F.entry_list_append (F.args_list_append_2 _ _) (PySem.list_append s2.heap.objs.size its.toArray nn xv (by rw [List.size_toArray]; omega)) ⟨a1, ?_⟩
        obtain ⟨n9, q9⟩ : ∃ n9, (s8.heap.update s2.heap.objs.size (Obj.mapSeq fun a => a.push xv)).get? s2.heap.objs.size = some { cls := .type "list", data := .seq (its ++ [xv]).toArray n9 } :=
          ⟨_, by rw [show (its ++ [xv]).toArray = its.toArray.push xv by simp]; exact PySem.IsL.update a1 (fun a => a.push xv)⟩
        have I9 : Inv (X.comp scope cl (ts ++ ys) s2 H2 fp HH.objs.size) [] σ6 H8 { s8 with heap := s8.heap.update s2.heap.objs.size (Obj.mapSeq fun a => a.push xv), toks := s8.toks } :=
          (bare I8).turned (it := s2.heap.objs.size) (fun b o hb e => (Heap.get?_update_other s8.heap _ (Ne.symm hb)).trans e) a2 hDC (.inr (Nat.le_refl _)) (nocell _ (Nat.le_refl _)) fun p hp => absurd (show p ∈ ([] : List (Addr × Obj)) from hp) (by simp)
        refine ⟨m', hm, i + 1, σ6, xs ++ [v], H8, its ++ [xv], n9, I9, rv.append (.cons r8 .nil), ?_, q9, a2, ?_, a4, w8⟩
        · rw [List.length_append, List.length_singleton]; omega
        · exact T.keep _ _ _ a3 fun b hb o e => (Heap.get?_update_other s8.heap _ (Ne.symm (Nat.ne_of_lt (fl b hb)))).trans e
  exact codeAny_compStart_list (loop _ rfl) (T.self _ 0 _ _ _ tn1 (loop _ rfl))
end

/-! ### the forms one uses: one name as target. At a turn's end: what P says, and (_, rfl) that the names from around are as they were -/
abbrev capV (js : List Nat) (σ : St) : St := js.map fun j => σ.getD j none
def CompN (P : Nat → List V → Hp → Prop) (i : Nat) (js : List Nat) (σ : St) : St → List V → Hp → Prop := fun σ' ys H => P (i + 1) ys H ∧ ∃ o, σ' = o :: capV js σ
theorem comp_list {K : PySem.W.Frag} {a : Addr} {xs : List V} {k : Nat} {js : List Nat} {tc : TT} {te : TE} {σ : St} {Q : VK} {H1 : Hp} (P : Nat → List V → Hp → Prop) (h0 : P 0 [] H1) (hl : ∀ i ys H, i ≤ xs.length → P i ys H → SqL K H a xs ∧ ys.length ≤ i) (hz : xs.length < sizeLine)
    (hs : ∀ i x ys H, xs[i]? = some x → P i ys H → tc (some x :: capV js σ) H fun b H2 => if b = true then te (some x :: capV js σ) H2 fun v H3 => CompN P i js σ (some x :: capV js σ) (ys ++ [v]) H3 else CompN P i js σ (some x :: capV js σ) ys H2)
    (hd : ∀ ys H, P xs.length ys H → ∀ p, H p = none → Q (.ref p) (upd H p (.lst ys))) (hk : k = 1 := by rfl) :
    CompR (Itl K a) k js (gName 0) tc te σ Q H1 := by
  subst hk
  refine ⟨fun i m σ' ys H => m = xs.length - i ∧ i ≤ xs.length ∧ P i ys H ∧ ∃ o, σ' = o :: capV js σ, ⟨xs.length, by simp, Nat.zero_le _, h0, none, rfl⟩, ?_⟩
  rintro i m σ' ys H ⟨rfl, hi, p, o, rfl⟩
  obtain ⟨q, hy⟩ := hl i ys H hi p
  by_cases hlt : i < xs.length
  · refine .inr ⟨⟨xs, xs[i], q, by simp [hlt]⟩, by omega, CompN P i js σ, fun σ3 zs H3 z => ⟨xs.length - (i + 1), by omega, rfl, hlt, z.1, z.2⟩, fun x H' y => ?_⟩
    obtain ⟨e, y⟩ := y
    subst e
    exact hs i x ys _ (y xs q) p
  · have e : i = xs.length := by omega
    subst e
    exact .inl ⟨⟨xs, q, Nat.le_refl _⟩, hd ys H p⟩
theorem comp_tup {K : PySem.W.Frag} {a : Addr} {xs : List V} {k : Nat} {js : List Nat} {tc : TT} {te : TE} {σ : St} {Q : VK} {H1 : Hp} (P : Nat → List V → Hp → Prop) (h0 : P 0 [] H1) (hl : ∀ i ys H, i ≤ xs.length → P i ys H → SqT K H a xs ∧ ys.length ≤ i) (hz : xs.length < sizeLine)
    (hs : ∀ i x ys H, xs[i]? = some x → P i ys H → tc (some x :: capV js σ) H fun b H2 => if b = true then te (some x :: capV js σ) H2 fun v H3 => CompN P i js σ (some x :: capV js σ) (ys ++ [v]) H3 else CompN P i js σ (some x :: capV js σ) ys H2)
    (hd : ∀ ys H, P xs.length ys H → ∀ p, H p = none → Q (.ref p) (upd H p (.lst ys))) (hk : k = 1 := by rfl) :
    CompR (Itt K a) k js (gName 0) tc te σ Q H1 := by
  subst hk
  refine ⟨fun i m σ' ys H => m = xs.length - i ∧ i ≤ xs.length ∧ P i ys H ∧ ∃ o, σ' = o :: capV js σ, ⟨xs.length, by simp, Nat.zero_le _, h0, none, rfl⟩, ?_⟩
  rintro i m σ' ys H ⟨rfl, hi, p, o, rfl⟩
  obtain ⟨q, hy⟩ := hl i ys H hi p
  by_cases hlt : i < xs.length
  · refine .inr ⟨⟨xs, xs[i], q, by simp [hlt]⟩, by omega, CompN P i js σ, fun σ3 zs H3 z => ⟨xs.length - (i + 1), by omega, rfl, hlt, z.1, z.2⟩, fun x H' y => ?_⟩
    obtain ⟨e, y⟩ := y
    subst e
    exact hs i x ys _ (y xs q) p
  · have e : i = xs.length := by omega
    subst e
    exact .inl ⟨⟨xs, q, Nat.le_refl _⟩, hd ys H p⟩
end L2

/-! range objects made and listed, of any ints; a negated int -/
namespace L2
open PySem PySem.Spec PyProof.Rows
section
variable {prog : Program} {w : World} {A : Around} {E : Value → Shared → Prop} {s : Shared}
theorem ext_long {R : Result → Shared → Prop} {r : Addr} {a b c : Int} {t u v : Tok} {n : Nat} (hh : A.handled = none) (hr : IsRange s.heap r a b c t u v) (hbig : Builtin.Range.small a b c = false) (hn : Builtin.Range.rangeSize a b c = n) (hlen : n ≤ 2 ^ 24) (D : Addr) (res : Value) (c0 : Nat)
    (hD : s.heap.get? D = some { cls := .type "list", data := .seq #[] c0 })
    (hR : ∀ h' tk acc' c', (∀ b o, b ≠ D → s.heap.get? b = some o → h'.get? b = some o) → h'.get? D = some { cls := .type "list", dict := none, data := .seq acc' c', slots := #[] } → ItemsOf (fun i v => ∃ t, v = .int (a + i * c) t) acc' n → R (.ok (.ret res)) { s with heap := h', toks := tk }) :
    wpAny (model prog w) A.in1 (Builtin.List.listExtendWith (.ref D) (.ref r) res) (fun fin s' => match fin with | .done f => R (.ok f) s' | .again c' => c'.quiet = true ∧ codeAny (model prog w) A c' R s') (fun e s' => R (.error e) s') s := by
  have nDr : D ≠ r := fun e => by
    rw [e, hr] at hD; simp at hD
  have nDI : D ≠ s.heap.objs.size := Nat.ne_of_lt (Heap.lt_size hD)
  have nDf : D ∉ [s.heap.objs.size] := fun z => nDI (List.mem_singleton.mp z)
  have W := (Walks.longrange (prog := prog) (w := w) (A := A.in1) hh s.heap.objs.size a c n).toS
  have go : ∀ (g : Heap) (c1 tk : Nat), IsLongIter g s.heap.objs.size (a + ((0 : Nat) : Int) * c) ((n : Int) - ((0 : Nat) : Int)) c → (∀ b o, b ≠ D → s.heap.get? b = some o → g.get? b = some o) → g.get? D = some { cls := .type "list", data := .seq #[] c1 } →
      codeAny (model prog w) A (.builtin "list.extend.loop" ⟨[.ref D, .ref s.heap.objs.size, res], []⟩) R { s with heap := g, toks := tk } := by
    intro g c1 tk hit hk hD1
    refine codeAny_extend_loopS W (by rw [sizeLine_eq]; omega) D nDf res n 0 _ #[] c1 rfl (Nat.zero_le _) hit hD1 (ItemsOf.nil _) fun s' acc' c' hm hD' hacc => ?_
    rw [Moved.eq_with hm]
    exact hR s'.heap s'.toks acc' c' (fun b o hb e => hm.heap b o (fun z => (List.mem_cons.mp z).elim hb fun z => absurd (Heap.lt_size e) (by rw [List.mem_singleton.mp z]; exact Nat.lt_irrefl _)) (hk b o hb e)) hD' hacc
  unfold Builtin.List.listExtendWith
  refine wpAny_bind (wpAny_typeOf (T := "range") ⟨_, hr, rfl⟩ ?_)
  simp only [show Builtin.List.listSameRef (.ref D) (.ref r) = false by simp [Builtin.List.listSameRef, nDr], show (Value.type "range" == Value.type "list") = false by decide, show (Value.type "range" == Value.type "tuple") = false by decide, Bool.or_false, Bool.false_eq_true, if_false]
  refine wpAny_bind (wpAny_pyIter_longrange hr hbig (wpAny_bind (wpAny_holding (wpAny_hint_range (n := n) (Heap.get?_push_of_some _ hr) hn hlen ?_))))
  have hit1 : IsLongIter (s.heap.push { cls := .type "longrange_iterator", data := .fields #[rawInt a, rawInt (Builtin.Range.rangeSize a b c), rawInt c] }) s.heap.objs.size (a + ((0 : Nat) : Int) * c) ((n : Int) - ((0 : Nat) : Int)) c := by
    show IsLongIter _ _ _ _ _
    rw [hn]
    simpa using Heap.get?_push_size _ rfl
  have hD1 := Heap.get?_push_of_some { cls := .type "longrange_iterator", data := .fields #[rawInt a, rawInt (Builtin.Range.rangeSize a b c), rawInt c] } hD
  refine wpAny_ite_split (fun _ => ?_) (fun _ => wpAny_pure ⟨plainId_quiet F.plain_extend_loop _, go _ c0 _ hit1 (fun b o _ e => Heap.get?_push_of_some _ e) hD1⟩)
  refine wpAny_bind (wpAny_rule (wpAny_bind ?_))
  show wpAny _ _ (updateSeq D (·.push .none) >>= fun _ => updateSeq D (·.pop)) _ _ _
  refine wpAny_bind (wpAny_updateSeq hD1 rfl ?_)
  have hD2 := Heap.get?_update_self (Obj.mapSeq (·.push Value.none)) hD1 rfl
  refine wpAny_updateSeq (hz := by seq_fits) hD2 rfl ?_
  have hD3 := Heap.get?_update_self (Obj.mapSeq (·.pop)) hD2 rfl
  refine wpAny_pure ⟨plainId_quiet F.plain_extend_loop _, go _ _ _ ((Heap.get?_update_other _ _ nDI).trans ((Heap.get?_update_other _ _ nDI).trans hit1)) (fun b o hb e => ?_) hD3⟩
  exact (Heap.get?_update_other _ _ (Ne.symm hb)).trans ((Heap.get?_update_other _ _ (Ne.symm hb)).trans (Heap.get?_push_of_some _ e))
theorem list_long {Q : Value → Shared → Prop} {r : Addr} {a b c : Int} {t u v : Tok} {n : Nat} (hh : A.handled = none) (hr : IsRange s.heap r a b c t u v) (hbig : Builtin.Range.small a b c = false) (hn : Builtin.Range.rangeSize a b c = n) (hlen : n ≤ 2 ^ 24)
    (hQ : ∀ h' tk acc' c', (∀ b o, s.heap.get? b = some o → h'.get? b = some o) → h'.get? s.heap.objs.size = some { cls := .type "list", dict := none, data := .seq acc' c', slots := #[] } → ItemsOf (fun i v => ∃ t, v = .int (a + i * c) t) acc' n → Q (.ref s.heap.objs.size) { s with heap := h', toks := tk }) :
    wpAny (model prog w) A (call (.type "list") [.ref r]) Q E s := by
  refine callType_codes (Q₁ := fun obj s1 => obj = .ref s.heap.objs.size ∧ s1 = { s with heap := s.heap.push { cls := .type "list", data := .seq #[] } }) F.called_list (F.typeCall_list_1 _) F.entry_list_init (code_list_new _ ⟨rfl, rfl⟩) fun obj s1 h1 => ?_
  obtain ⟨rfl, rfl⟩ := h1
  have hD : (s.heap.push { cls := .type "list", data := .seq #[] }).get? s.heap.objs.size = some { cls := .type "list", data := .seq #[] } := Heap.get?_push_size _ rfl
  have hr1 : IsRange (s.heap.push { cls := .type "list", data := .seq #[] }) r a b c t u v := Heap.get?_push_of_some _ hr
  have nDr : s.heap.objs.size ≠ r := fun e => by
    rw [e] at hD
    have := hD.symm.trans hr1
    simp at this
  refine ⟨⟨_, hD, rfl⟩, F.args_list_init_2 _ _, ?_⟩
  show wpAny _ _ (do let old ← Builtin.List.listItems (.ref s.heap.objs.size); Builtin.List.listUpdate (.ref s.heap.objs.size) (fun _ => #[]); letGo old.toList.reverse; Builtin.List.listExtendWith (.ref s.heap.objs.size) (.ref r) .none) _ _ _
  refine wpAny_bind ?_
  unfold Builtin.List.listItems
  refine wpAny_bind (wpAny_seqItems hD rfl (wpAny_pure ?_))
  refine wpAny_bind (m := updateSeq s.heap.objs.size (fun _ => #[])) (wpAny_updateSeq hD rfl ?_)
  have hD2 := Heap.get?_update_self (Obj.mapSeq (fun _ => (#[] : Array Value))) hD rfl
  refine wpAny_bind (wpAny_letGo ?_)
  refine ext_long (A := A.in1) hh ((Heap.get?_update_other _ _ nDr).trans hr1) hbig hn hlen _ .none _ hD2 fun h' tk acc' c' hk hD' hacc => ?_
  exact ⟨rfl, hQ h' tk acc' c' (fun b o e => hk b o (Nat.ne_of_lt (Heap.lt_size e)) ((Heap.get?_update_other _ _ (Nat.ne_of_gt (Heap.lt_size e))).trans (Heap.get?_push_of_some _ e))) hD' hacc⟩
end
/-- lo, lo + 1, .. (n of them) -/
def rangeL (lo : Int) (n : Nat) : List Int := (List.range n).map fun i : Nat => lo + (i : Int)
theorem rangeL_length (lo : Int) (n : Nat) : (rangeL lo n).length = n := by simp [rangeL]
theorem rangeL_succ (lo : Int) (n : Nat) : rangeL lo (n + 1) = rangeL lo n ++ [lo + n] := by simp [rangeL, List.range_succ]
section
variable {X : Cx}
theorem ix_listK (K : PySem.W.Frag) (h : X.K = K) : IxR X (rIxL K) := h ▸ ix_list
/-- range(lo, hi) as an object -/
theorem call_range2 : CallR X (.type "range") (fun xs H Q => ∃ lo hi : Int, xs = [.int lo, .int hi] ∧ ∀ p, H p = none → Q (.ref p) (upd H p (.rng lo hi))) := by
  intro pins s σ H xs us Q I r h
  obtain ⟨lo, hi, rfl, q⟩ := h
  obtain ⟨u, w', rfl, ⟨t, rfl⟩, ⟨t', rfl⟩⟩ := vals2 r
  refine call_range_2 ⟨.ref s.heap.objs.size, _, ?_, rfl, q _ (I.hok.fresh (Nat.le_refl _))⟩
  exact I.laid (fun b o e => Heap.get?_push_of_some _ e) (Nat.le_refl _) ⟨_, _, _, Heap.get?_push_size _ rfl⟩
theorem vals_range (lo : Int) : ∀ (n : Nat) (acc : Array Value), ItemsOf (fun i v => ∃ t, v = Value.int (lo + (i : Nat) * 1) t) acc n → Vals ((rangeL lo n).map V.int) acc.toList := by
  intro n acc h
  obtain ⟨hs, hi⟩ := h
  have key : ∀ (l : List Value) (k : Nat), (∀ j v, l[j]? = some v → ∃ t, v = Value.int (lo + ((k + j : Nat) : Int)) t) → Vals ((List.range' k l.length).map fun i : Nat => V.int (lo + (i : Int))) l := by
    intro l
    induction l with
    | nil => intro k _; exact .nil
    | cons v l ih =>
      intro k hk
      rw [List.length_cons, List.range'_succ, List.map_cons]
      refine .cons ?_ (ih (k + 1) fun j v hv => ?_)
      · obtain ⟨t, e⟩ := hk 0 v rfl
        exact ⟨t, by simpa using e⟩
      · obtain ⟨t, e⟩ := hk (j + 1) v (by simpa using hv)
        exact ⟨t, by rw [e, show k + 1 + j = k + (j + 1) by omega]⟩
  have := key acc.toList 0 fun j v hv => by
    obtain ⟨t, e⟩ := hi j v (by simpa using hv)
    exact ⟨t, by rw [e]; simp⟩
  rw [show (rangeL lo n).map V.int = (List.range' 0 acc.toList.length).map fun i : Nat => V.int (lo + (i : Int)) by rw [show acc.toList.length = n by simpa using hs]; simp [rangeL, List.range_eq_range']]
  exact this
/-- list(a range object) -/
theorem call_list_rng (hc : X.calm = true) : CallR X (.type "list") (fun xs H Q => ∃ (p : Addr) (lo hi : Int), xs = [.ref p] ∧ H p = some (.rng lo hi) ∧ hi - lo ≤ 2 ^ 24 ∧ ∀ l, H l = none → Q (.ref l) (upd H l (.lst ((rangeL lo (hi - lo).toNat).map V.int)))) := by
  intro pins s σ H xs us Q I r h
  obtain ⟨p, lo, hi, rfl, hp, hz, q⟩ := h
  obtain ⟨u, rfl, rx⟩ := vals1 r
  cases rx
  obtain ⟨t, u, v, e⟩ := I.hok p _ hp
  have hsz : Builtin.Range.rangeSize lo hi 1 = ((hi - lo).toNat : Int) := by rw [rangeSize_one]; split <;> omega
  have fin : ∀ (h' : Heap) (tk : Nat) (acc : Array Value) (c' : Nat), (∀ b o, s.heap.get? b = some o → h'.get? b = some o) → h'.get? s.heap.objs.size = some { cls := .type "list", dict := none, data := .seq acc c', slots := #[] } →
      ItemsOf (fun i v => ∃ t, v = Value.int (lo + (i : Nat) * 1) t) acc (hi - lo).toNat → EP X pins σ Q (.ref s.heap.objs.size) { s with heap := h', toks := tk } := fun h' tk acc c' kp e hacc => by
    refine ⟨.ref s.heap.objs.size, _, I.laid kp (Nat.le_refl _) (show ObjOk X.prog X.w _ h' _ (.lst ((rangeL lo (hi - lo).toNat).map V.int)) from ⟨?_, acc.toList, c', vals_range lo _ acc hacc, by simpa using e⟩), rfl, q _ (I.hok.fresh (Nat.le_refl _))⟩
    rw [List.length_map, rangeL_length, sizeLine_eq]
    omega
  cases hs : Builtin.Range.small lo hi 1 with
  | true => exact call_list_range (I.ok.hd hc) e hs hsz (by omega) fin
  | false => exact list_long (I.ok.hd hc) e hs hsz (by omega) fin
end
end L2

namespace L2
open PySem PySem.Spec PyProof.Rows

/-! ### lists of pairs as tables -/
section
variable {κ : Type} [DecidableEq κ]
def valV (kvs : List (κ × V)) (k : κ) : Option V := (kvs.find? fun kv => decide (kv.1 = k)).map (·.2)
/-- in its place, or at the end -/
def putK (kvs : List (κ × V)) (k : κ) (v : V) : List (κ × V) :=
  if (kvs.any fun kv => decide (kv.1 = k)) = true then kvs.map (fun kv => if kv.1 = k then (kv.1, v) else kv) else kvs ++ [(k, v)]
def dropK (kvs : List (κ × V)) (k : κ) : List (κ × V) := kvs.filter fun kv => decide (kv.1 ≠ k)

theorem length_putK (kvs : List (κ × V)) (k : κ) (v : V) : (putK kvs k v).length ≤ kvs.length + 1 := by
  unfold putK
  split
  · rw [List.length_map]; omega
  · rw [List.length_append, List.length_cons, List.length_nil]; omega
theorem KV.any {kvs : List (κ × V)} {vs : List (κ × Value)} (r : KV kvs vs) (k : κ) : (kvs.any fun kv => decide (kv.1 = k)) = vs.any fun kv => decide (kv.1 = k) := by
  unfold KV at r
  induction r with
  | nil => rfl
  | cons h t ih => rw [List.any_cons, List.any_cons, ih, h.1]
theorem KV.repl {kvs : List (κ × V)} {vs : List (κ × Value)} (r : KV kvs vs) (k : κ) {y : V} {u : Value} (ry : RelV y u) :
    KV (kvs.map fun kv => if kv.1 = k then (kv.1, y) else kv) (vs.map fun kv => if kv.1 = k then (kv.1, u) else kv) := by
  unfold KV at r ⊢
  induction r with
  | nil => exact .nil
  | @cons p q ps qs h t ih =>
    rw [List.map_cons, List.map_cons]
    refine .cons ?_ ih
    obtain ⟨h1, h2⟩ := h
    by_cases e : p.1 = k
    · rw [if_pos e, if_pos (h1.symm.trans e)]; exact ⟨h1, ry⟩
    · rw [if_neg e, if_neg (fun z => e (h1.trans z))]; exact ⟨h1, h2⟩
theorem KV.put {kvs : List (κ × V)} {vs : List (κ × Value)} (r : KV kvs vs) (k : κ) {y : V} {u : Value} (ry : RelV y u) : KV (putK kvs k y) (stored vs k u) := by
  unfold putK stored
  rw [r.any k]
  by_cases e : (vs.any fun kv => decide (kv.1 = k)) = true
  · rw [if_pos e, if_pos e]; exact r.repl k ry
  · rw [if_neg e, if_neg e]; exact Paired.snoc r ⟨rfl, ry⟩
end


/-! ### a tracked dict, its keys ints and texts or tuples of these -/
theorem kV_is {P : Program} {w : World} {k : Key} {u : Value} (r : RelV (kV k) u) : (mixKind P w).is k u = true := by
  cases k with
  | inl i => obtain ⟨t, e⟩ := (show ∃ t, u = Value.int i t from r); subst e; exact mixKind_int P w i t
  | inr x => obtain ⟨t, e⟩ := (show ∃ t, u = Value.str x t from r); subst e; exact mixKind_str P w x t
/-- raw entries of a dict with tuple keys -/
abbrev KT (H : Hp) : List (List Key × V) → List (List Key × Addr × Value) → Prop := Paired fun p q => p.1 = q.1 ∧ H q.2.1 = some (.tup (p.1.map kV)) ∧ RelV p.2 q.2.2
section
variable {P : Program} {w : World} {H : Hp} {h : Heap} {a : Addr}
theorem rd_of {u : HO} (ok : HOk P w H h) (e : Rd H a u) : ObjOk P w H h a u := e.ok ok
theorem dk_rd {kvs : List (Key × V)} (ok : HOk P w H h) (e : Rd H a (.dK kvs)) : kvs.length ≤ sizeLine ∧ (a == sysModules) = false ∧ ∃ vs, KV kvs vs ∧ h.DictOf (mixKind P w) a vs :=
  show ObjOk P w H h a (.dK kvs) from rd_of ok e
theorem dk_of {kvs : List (Key × V)} (ok : HOk P w H h) (e : H a = some (.dK kvs)) : kvs.length ≤ sizeLine ∧ (a == sysModules) = false ∧ ∃ vs, KV kvs vs ∧ h.DictOf (mixKind P w) a vs := dk_rd ok (.inl e)
end

/-- what the dict at a holds at the key y -/
def DGet (H : Hp) (a : Addr) (y : V) (r : Option V) : Prop :=
  (∃ kvs k, Rd H a (.dK kvs) ∧ y = kV k ∧ r = valV kvs k) ∨ ∃ kvs k b, Rd H a (.dT kvs) ∧ y = .ref b ∧ H b = some (.tup (k.map kV)) ∧ r = valV kvs k
/-- the heap behind a[y] = v -/
def DPut (H : Hp) (a : Addr) (y v : V) (H' : Hp) : Prop :=
  (∃ kvs k, H a = some (.dK kvs) ∧ y = kV k ∧ kvs.length < sizeLine ∧ H' = upd H a (.dK (putK kvs k v))) ∨
  ∃ kvs k b, H a = some (.dT kvs) ∧ y = .ref b ∧ H b = some (.tup (k.map kV)) ∧ kvs.length < sizeLine ∧ H' = upd H a (.dT (putK kvs k v))
section
variable {X : Cx} {pins : List (Addr × Obj)} {σ : St} {H : Hp} {s : Shared} {a : Addr} {y v : V} {u r : Value} {o : Option V} {A : Around} {E : Value → Shared → Prop}

theorem Inv.big (I : Inv X pins σ H s) : sysModules < s.heap.objs.size := by
  have h : mainGlobals < s.heap.objs.size := (I.mod.glob.keeps I.bk).lt
  exact Nat.lt_trans (by decide) h

/-- a dict's object is replaced -/
theorem d_write {h' : Heap} {t' : Nat} {ob : HO} (I : Inv X pins σ H s) (mu : Mut (H a)) (hs : Heap.SameBut a s.heap h') (he : ∃ q, h'.get? a = some q) (new : ObjOk X.prog X.w (upd H a ob) h' a ob) :
    Inv X pins σ (upd H a ob) { s with heap := h', toks := t' } :=
  I.write (x := a) (e := a) mu (.inl rfl) (fun b q hb z => (hs.2 b hb).trans z) he new
theorem dk_new {P : Program} {w : World} {H' : Hp} {h' : Heap} {kvs : List (Key × V)} {vs : List (Key × Value)} (z : kvs.length ≤ sizeLine) (hd : (a == sysModules) = false) (rel : KV kvs vs) (dd : h'.DictOf (mixKind P w) a vs) :
    ObjOk P w H' h' a (.dK kvs) := ⟨z, hd, vs, rel, dd⟩
end

section
variable {X : Cx} {pins : List (Addr × Obj)} {σ : St} {H : Hp} {s : Shared} {a : Addr} {kvs : List (Key × V)} {k : Key} {u : Value} {A : Around} {E : Value → Shared → Prop}
end


/-! ### readings and rules -/
/-- the element of a subscription, not a slice -/
def NoSl (i : Expr) : Prop := ∀ ov iv, subscripted i false ov iv = operate [ov, iv] (getItem ov iv)
/-- d[y] -/
def tDGet (td ty : TE) : TE := fun σ H Q => td σ H fun x H1 => ty σ H1 fun y H2 => ∃ a v, x = .ref a ∧ DGet H2 a y (some v) ∧ Q v H2
/-- y in d, y not in d -/
def tDIn (ty td : TE) : TE := fun σ H Q => ty σ H fun y H1 => td σ H1 fun x H2 => ∃ a o, x = .ref a ∧ DGet H2 a y o ∧ Q (.bl o.isSome) H2
def tDNotIn (ty td : TE) : TE := fun σ H Q => ty σ H fun y H1 => td σ H1 fun x H2 => ∃ a o, x = .ref a ∧ DGet H2 a y o ∧ Q (.bl (!o.isSome)) H2
/-- d[y] = v -/
def sDPut (td ty tv : TE) : TS := fun D σ H => tv σ H fun v H1 => td σ H1 fun x H2 => ty σ H2 fun y H3 => ∃ a H4, x = .ref a ∧ DPut H3 a y v H4 ∧ D.nx σ H4
/-- d[y] op= v -/
def sDAug (td ty tv : TE) (rd : V → V → Hp → VK → Prop) : TS := fun D σ H => td σ H fun x H1 => ty σ H1 fun y H2 => ∃ a v, x = .ref a ∧ DGet H2 a y (some v) ∧
  tv σ H2 fun y2 H3 => rd v y2 H3 fun z H4 => ∃ H5, DPut H4 a y z H5 ∧ D.nx σ H5
/-- del d[y] -/
def sDDel (td ty : TE) : TS := fun D σ H => td σ H fun x H1 => ty σ H1 fun y H2 => ∃ a kvs k, x = .ref a ∧ H2 a = some (.dK kvs) ∧ y = kV k ∧ (valV kvs k).isSome = true ∧ D.nx σ (upd H2 a (.dK (dropK kvs k)))

section
variable {X : Cx} {o i e value : Expr} {pos pos' tpos : Pos} {td ty tv : TE}
end


/-! ### displays -/
theorem dk_empty {P : Program} {w : World} {H : Hp} (h : Heap) (hb : sysModules < h.objs.size) : ObjOk P w H (h.push { cls := .type "dict", data := .dict #[] }) h.objs.size (.dK []) :=
  ⟨Nat.zero_le _, beq_eq_false_iff_ne.mpr (Ne.symm (Nat.ne_of_lt hb)), [], .nil, Heap.DictOf.new h⟩
/-- {}, to be a dict of the kind that is wanted -/
def tDNewK : TE := fun _ H Q => ∀ p, H p = none → Q (.ref p) (upd H p (.dK []))
def tDNewT : TE := fun _ H Q => ∀ p, H p = none → Q (.ref p) (upd H p (.dT []))
section
variable {X : Cx} {pos : Pos}
theorem pe_dnewK : PE X (.Dict [] [] pos) tDNewK := fun pins s σ H Q I h =>
  wpAny_Dict_empty ⟨.ref s.heap.objs.size, _, I.laid (a := s.heap.objs.size) (o := .dK []) (t' := s.toks) (fun _ _ q => Heap.get?_push_of_some _ q) (Nat.le_refl _) (dk_empty s.heap I.big), rfl, h _ (I.hok.fresh (Nat.le_refl _))⟩
end

/-- the pairs of a display, from the left -/
def tPairs : List (TE × TE) → St → Hp → (List (V × V) → Hp → Prop) → Prop
  | [], _, H, Q => Q [] H
  | (tk, tv) :: r, σ, H, Q => tk σ H fun x H1 => tv σ H1 fun y H2 => tPairs r σ H2 fun ps H3 => Q ((x, y) :: ps) H3
abbrev VV : List (V × V) → List (Value × Value) → Prop := Paired fun p q => RelV p.1 q.1 ∧ RelV p.2 q.2
def PPs (X : Cx) (pos : Pos) (keys : List (Option Expr)) (values : List Expr) (trs : List (TE × TE)) : Prop :=
  ∀ (pins : List (Addr × Obj)) (s : Shared) (σ : St) (H : Hp) (Q : List (V × V) → Hp → Prop), Inv X pins σ H s → tPairs trs σ H Q →
    wpAny (model X.prog X.w) X.A (evalPairs (pairTrees keys values X.env pos)) (fun vs s' => ∃ ps H', Inv X pins σ H' s' ∧ VV ps vs ∧ Q ps H') X.xe s
theorem pps_nil {X : Cx} {pos : Pos} : PPs X pos [] [] [] := fun pins s σ H Q I h => pairTrees_nil_walk ⟨[], H, I, .nil, h⟩
theorem pps_cons {X : Cx} {pos : Pos} {k v : Expr} {ks : List (Option Expr)} {vs : List Expr} {tk tv : TE} {trs : List (TE × TE)} (hk : PE X k tk) (hv : PE X v tv) (hr : PPs X pos ks vs trs) :
    PPs X pos (some k :: ks) (v :: vs) ((tk, tv) :: trs) := fun pins s σ H Q I h =>
  pairTrees_cons_walk (thn (hk pins s σ H _ I h) fun u s1 ⟨x, H1, I1, rx, q1⟩ => thn (hv pins s1 σ H1 _ I1 q1) fun w2 s2 ⟨y, H2, I2, ry, q2⟩ =>
    thn (hr pins s2 σ H2 _ I2 q2) fun ws s3 ⟨ps, H3, I3, rel, q3⟩ => ⟨(x, y) :: ps, H3, I3, .cons ⟨rx, ry⟩ rel, q3⟩)

def mergeK (kvs more : List (Key × V)) : List (Key × V) := more.foldl (fun acc kv => putK acc kv.1 kv.2) kvs
theorem KV.merge : ∀ {more : List (Key × V)} {rs : List (Key × Value)} {kvs : List (Key × V)} {vs : List (Key × Value)}, KV more rs → KV kvs vs → KV (mergeK kvs more) (merged vs rs) := by
  intro more rs kvs vs r
  unfold KV at r
  induction r generalizing kvs vs with
  | nil => intro q; exact q
  | @cons p q ps qs h t ih =>
    intro r0
    have e : KV (putK kvs p.1 p.2) (stored vs q.1 q.2) := by
      have := r0.put p.1 h.2
      rw [← h.1]; exact this
    exact ih e
theorem length_mergeK : ∀ (more kvs : List (Key × V)), (mergeK kvs more).length ≤ kvs.length + more.length
  | [], kvs => by show kvs.length ≤ kvs.length + 0; omega
  | p :: r, kvs => by
    have h1 := length_mergeK r (putK kvs p.1 p.2)
    have h2 := length_putK kvs p.1 p.2
    show (mergeK (putK kvs p.1 p.2) r).length ≤ _
    rw [List.length_cons]; omega
theorem carries_of {P : Program} {w : World} : ∀ {kvs : List (Key × V)} {ws : List (Value × Value)}, VV (kvs.map fun kv => (kV kv.1, kv.2)) ws → ∃ rs, Carries (mixKind P w) ws rs ∧ KV kvs rs
  | [], _, r => by rw [List.map_nil] at r; cases r; exact ⟨[], True.intro, .nil⟩
  | p :: kvs, _, r => by
    rw [List.map_cons] at r
    cases r with
    | @cons a b as bs h t =>
      obtain ⟨rs, c, q⟩ := carries_of (P := P) (w := w) t
      obtain ⟨b1, b2⟩ := b
      exact ⟨(p.1, b2) :: rs, ⟨kV_is h.1, rfl, c⟩, .cons ⟨rfl, h.2⟩ q⟩
/-- {k: v, ..} with keys ints and texts; the new dict stands empty while the pairs are made -/
def tDisp (trs : List (TE × TE)) : TE := fun σ H Q => ∀ p, H p = none → tPairs trs σ (upd H p (.dK [])) fun ps H2 => H2 p = some (.dK []) ∧ ∃ kvs : List (Key × V), ps = kvs.map (fun kv => (kV kv.1, kv.2)) ∧ kvs.length ≤ 15 ∧ Q (.ref p) (upd H2 p (.dK (mergeK [] kvs)))
theorem pe_disp {X : Cx} {pos : Pos} {keys : List (Option Expr)} {values : List Expr} {trs : List (TE × TE)} (h : PPs X pos keys values trs) (hall : keys.all (·.isSome) = true) (hl : keys.length = values.length) (h0 : keys ≠ [])
    (h15 : keys.length ≤ 15) : PE X (.Dict keys values pos) (tDisp trs) := by
  intro pins s σ H Q I q
  have hn := I.hok.fresh (Nat.le_refl s.heap.objs.size)
  have I1 := I.laid (a := s.heap.objs.size) (o := .dK []) (h' := s.heap.push { cls := .type "dict", data := .dict #[] }) (t' := s.toks) (fun _ _ q => Heap.get?_push_of_some _ q) (Nat.le_refl _) (dk_empty s.heap I.big)
  refine wpAny_Dict_walk (knd := mixKind X.prog X.w) hall hl h0 h15 (thn (h pins _ σ _ _ I1 (q _ hn)) fun ws s2 ⟨ps, H2, I2, rel, e, kvs, ep, lk, q2⟩ => ?_)
  subst ep
  obtain ⟨rs, c, rk⟩ := carries_of (P := X.prog) (w := X.w) rel
  obtain ⟨z, hd, vs0, r0, dd⟩ := dk_of I2.hok e
  cases r0
  refine ⟨rs, c, dd, fun h' dd' hs => ⟨.ref s.heap.objs.size, _, ?_, rfl, q2⟩⟩
  have hz : (mergeK [] kvs).length ≤ sizeLine := by
    have h1 := length_mergeK kvs []
    rw [List.length_nil] at h1
    rw [sizeLine_eq]; omega
  have he : ∃ q, h'.get? s.heap.objs.size = some q := let ⟨q, _, _, hq, _⟩ := dd'; ⟨q, hq⟩
  exact d_write I2 (by rw [e]; exact True.intro) hs he (dk_new hz hd (rk.merge .nil) dd')


/-! ### methods -/
/-- a method call o.m(e) of a built-in, with one argument: what must be seen of the text -/
structure M1 (X : Cx) (o : Expr) (m : Str) (apos : Pos) (e : Expr) (cpos : Pos) : Prop where
  base : attributeBase o m X.env (eval o X.env) = eval o X.env
  few : ((backTo cpos (starEach [e] X.env)).all (fun x => !x.1) && (backToKw cpos (keywordEach [] X.env)).all (fun x => x.1.isSome)
    && decide (([e] : List Expr).length + ([] : List Keyword).length + (if ([] : List Keyword).isEmpty then 0 else 1) < 30)) = true
  line : (apos.endLine == cpos.line) = true
  trees : backTo cpos (starEach [e] X.env) = [(false, eval e X.env)]
structure M2 (X : Cx) (o : Expr) (m : Str) (apos : Pos) (e f : Expr) (cpos : Pos) : Prop where
  base : attributeBase o m X.env (eval o X.env) = eval o X.env
  few : ((backTo cpos (starEach [e, f] X.env)).all (fun x => !x.1) && (backToKw cpos (keywordEach [] X.env)).all (fun x => x.1.isSome)
    && decide (([e, f] : List Expr).length + ([] : List Keyword).length + (if ([] : List Keyword).isEmpty then 0 else 1) < 30)) = true
  line : (apos.endLine == cpos.line) = true
  trees : backTo cpos (starEach [e, f] X.env) = [(false, eval e X.env), (false, eval f X.env)]

/-- a is a dict, whatever its keys -/
def IsD (H : Hp) (a : Addr) : Prop := (∃ kvs, Rd H a (.dK kvs)) ∨ ∃ kvs, Rd H a (.dT kvs)
section
variable {X : Cx} {pins : List (Addr × Obj)} {σ : St} {H : Hp} {s : Shared} {a : Addr} {y d : V} {u r : Value} {o : Option V} {A : Around} {E : Value → Shared → Prop}
end

def tDGet1 (td ty : TE) : TE := fun σ H Q => td σ H fun x H1 => ∃ a, x = .ref a ∧ IsD H1 a ∧ ty σ H1 fun y H2 => ∃ o, DGet H2 a y o ∧ Q (o.getD .non) H2
def tDGet2 (td ty tx : TE) : TE := fun σ H Q => td σ H fun x H1 => ∃ a, x = .ref a ∧ IsD H1 a ∧ ty σ H1 fun y H2 => tx σ H2 fun z H3 => ∃ o, DGet H3 a y o ∧ Q (o.getD z) H3
/-- d.pop(k): there; d.pop(k, x): there or not -/
def tDPop1 (td ty : TE) : TE := fun σ H Q => td σ H fun x H1 => ∃ a, x = .ref a ∧ IsD H1 a ∧ ty σ H1 fun y H2 => ∃ kvs k v, H2 a = some (.dK kvs) ∧ y = kV k ∧ valV kvs k = some v ∧ Q v (upd H2 a (.dK (dropK kvs k)))
def tDPop2 (td ty tx : TE) : TE := fun σ H Q => td σ H fun x H1 => ∃ a, x = .ref a ∧ IsD H1 a ∧ ty σ H1 fun y H2 => tx σ H2 fun z H3 => ∃ kvs k, H3 a = some (.dK kvs) ∧ y = kV k ∧
  (∀ v, valV kvs k = some v → Q v (upd H3 a (.dK (dropK kvs k)))) ∧ (valV kvs k = none → Q z H3)
section
variable {X : Cx} {o e f : Expr} {apos cpos : Pos} {td ty tx : TE}
end

/-! ### dict(d): a copy -/
section
variable {X : Cx} {pins : List (Addr × Obj)} {σ : St} {H : Hp} {s : Shared} {a : Addr} {kvs : List (Key × V)} {A : Around} {E : Value → Shared → Prop}
end


section
variable {X : Cx} {pins : List (Addr × Obj)} {σ : St} {H : Hp} {s : Shared} {a : Addr} {y : V} {u : Value} {A : Around} {E : Value → Shared → Prop}
end
end L2

/-! texts over the hand layer -/
namespace L2
open PySem PySem.Spec PyProof.Rows
section
variable {X : Cx}
theorem call_isiD : CallR X (.builtin "isinstance") (fun xs H Q => ∃ p T kvs, xs = [.ref p, .ty T] ∧ T ∈ isiTs ∧ H p = some (.dK kvs) ∧ Q (.bl (isa "dict" T)) H) := by
  intro pins s σ H xs us Q I r h
  obtain ⟨p, T, kvs, rfl, hT, ht, q⟩ := h
  obtain ⟨u, w', rfl, rx, rT⟩ := vals2 r
  cases rT
  cases rx
  have hT' : T = "int" ∨ T = "bool" ∨ T = "str" ∨ T = "list" ∨ T = "tuple" ∨ T = "dict" := by simpa [isiTs] using hT
  have fin : ∀ {k : Bool} {s' : Shared}, isa "dict" T = k → Inv X pins σ H s' → EP X pins σ Q (.bool k) s' := fun {k s'} e I' => by subst e; exact ⟨.bl _, H, I', rfl, q⟩
  obtain ⟨_, _, vs, _, o, es, ep, e, hx, _⟩ := I.hok p _ ht
  have hc : o.cls = .type "dict" := hx.1
  rcases hT' with rfl | rfl | rfl | rfl | rfl | rfl
  · exact IsiPair.dict_int e hc (fin (by decide) (I.tok _))
  · exact IsiPair.dict_bool e hc (fin (by decide) (I.tok _))
  · exact IsiPair.dict_str e hc (fin (by decide) (I.tok _))
  · exact IsiPair.dict_list e hc (fin (by decide) (I.tok _))
  · exact IsiPair.dict_tuple e hc (fin (by decide) (I.tok _))
  · exact IsiPair.dict_dict e hc (fin (by decide) I)

/-! ### for c in a text -/
def Itx (x : Str) : It := ⟨fun i _ => i < x.cps.size, fun i H v H' => H' = H ∧ ∃ c, x.cps[i]? = some c ∧ v = .str ⟨#[c]⟩, fun i _ => x.cps.size ≤ i⟩
def iStr (tl : TE) : TI := fun σ H R => tl σ H fun v H1 => ∃ x, v = .str x ∧ R (Itx x) H1
/-! ### texts compared -/
/-- int, None beside each other -/
def intOrN : V → Bool
  | .non => true
  | .int _ => true
  | _ => false
/-! ### a part of a text: some text, not longer -/
/-! ### join, split, index, int(text) -/
/-- split by a sign that stands in the text -/
def splitL (x y : Str) : List Str := Builtin.Str.partsBetween x (Builtin.Str.occurrences x y 0 x.length (x.length + 1)) y.length
end
end L2
namespace L2
open PySem PySem.Spec PyProof.Rows
theorem carried_strs : ∀ {ys : List Str} {us : List Value}, Vals (ys.map V.str) us → CarriedAll us (ys.map PyData.str)
  | [], _, .nil => .nil
  | _ :: _, _, .cons a b => by
    obtain ⟨t, rfl⟩ := a
    exact .cons (.str _ t) (carried_strs b)
theorem op_neS {X : Cx} (hu : X.A.units + 64 < cLine) : OpR X (compareOp .NotEq) (fun x y H Q => ∃ (a b : Addr) (ys : List Str), x = .ref a ∧ y = .ref b ∧ SqL X.K H a (ys.map V.str) ∧ SqL X.K H b (ys.map V.str) ∧
    SeqAt.shaped (.list (ys.map PyData.str)) = true ∧ PySem.Spec.same (.list (ys.map PyData.str)) (.list (ys.map PyData.str)) = true ∧ Q (.bl false) H) := by
  intro pins s σ H x y v u Q I rx ry h
  obtain ⟨a, b, ys, rfl, rfl, ha, hb, h1, h2, q⟩ := h
  cases rx
  cases ry
  obtain ⟨i1, r1, p1, _⟩ := I.list ha
  obtain ⟨i2, r2, p2, _⟩ := I.list hb
  refine ne_dataH_same (reads_newData p1.isList (carried_strs r1)) (reads_newData p2.isList (carried_strs r2)) h1 h1 hu (SeqAt.noMix_of_shape (.list .str) rfl _ _ (list_map_has fun _ => rfl) (list_map_has fun _ => rfl)) ?_
  rw [h2]
  exact ⟨.bl false, H, I, rfl, q⟩
end L2
namespace L2
open PySem
theorem se_const {c k p} {es : List Expr} {env : Env} : starEach (.Constant c k p :: es) env = (false, eval (.Constant c k p) env) :: starEach es env := rfl
theorem se_list {xs p} {es : List Expr} {env : Env} : starEach (.List xs p :: es) env = (false, eval (.List xs p) env) :: starEach es env := rfl
theorem se_tuple {xs k p} {es : List Expr} {env : Env} : starEach (.Tuple xs k p :: es) env = (false, eval (.Tuple xs k p) env) :: starEach es env := rfl
theorem se_dict {ks vs p} {es : List Expr} {env : Env} : starEach (.Dict ks vs p :: es) env = (false, eval (.Dict ks vs p) env) :: starEach es env := rfl
end L2
/-! the judgements as structures: where an app's type would be evaluated too far (a display of many things) -/
namespace L2
open PySem PySem.Spec PyProof.Rows
structure PEx (X : Cx) (e : Expr) (t : TE) : Prop where
  h : PE X e t
structure PAx (X : Cx) (es : List Expr) (t : TA) : Prop where
  h : PA X es t
structure PStx (X : Cx) (st : Stmt) (t : TS) : Prop where
  h : PS X st t
structure PSx (X : Cx) (sts : List Stmt) (t : TS) : Prop where
  h : PSs X sts t
section
variable {X : Cx} {e : Expr} {es : List Expr} {te : TE} {t : TA} {st : Stmt} {rest : List Stmt} {ts us : TS}
theorem pax_nil : PAx X [] tNil := ⟨pa_nil⟩
theorem pax_cons (ha : PEx X e te) (hr : PAx X es t) (hs : starEach (e :: es) X.env = (false, eval e X.env) :: starEach es X.env) : PAx X (e :: es) (tCons te t) := ⟨pa_cons ha.h hr.h hs⟩
theorem pex_of (h : PE X e te) : PEx X e te := ⟨h⟩
theorem pex_menu {ix : Expr} {ti : TE} {p1 p2 : Pos} (hes : PAx X es t) (hi : PEx X ix ti) (hs : PlainIx ix) : PEx X (.Subscript (.List es p1) ix p2) (tOp (rIxL X.K) (tLst t) ti) := ⟨pe_ix ix_list (pe_lst hes.h) hi.h hs⟩
theorem pstx_menu {i : Nat} {x : Str} {pos' pos p1 p2 : Pos} {ix : Expr} (hN : X.N.Nodup) (hi : X.N[i]? = some x) (hx : X.env.scope.names.lookup x = some .local) (he : PEx X (.Subscript (.List es p1) ix p2) te) :
    PStx X (.Assign [.Name x pos'] (.Subscript (.List es p1) ix p2) pos) (tAsg te (gName i)) := ⟨ps_set hN hi (.inl hx) he.h rfl (.inr hx)⟩
theorem pstx_of (h : PS X st ts) : PStx X st ts := ⟨h⟩
theorem psx_cons (h1 : PStx X st ts) (h2 : PSx X rest us) : PSx X (st :: rest) (tSeq ts us) := ⟨pss_cons h1.h h2.h⟩
theorem psx_one (h1 : PStx X st ts) : PSx X [st] ts := ⟨pss_one h1.h⟩
end
end L2

/-! long division, list + list of what is read alone, == and != of data -/
namespace L2
open PySem PySem.Spec PyProof.Rows
/-- // by a positive divisor of some size -/
def CDivL (i j : Int) : Prop := 0 < j ∧ j < 2 ^ 128
section
variable {X : Cx}
/-- list + list, both read alone -/
def rCatS (K : PySem.W.Frag) : R2 := fun x y H Q => ∃ l b xs zs, x = .ref l ∧ y = .ref b ∧ SqL K H l xs ∧ SqL K H b zs ∧ xs.length + zs.length ≤ sizeLine ∧ ∀ p, H p = none → Q (.ref p) (upd H p (.lst (xs ++ zs)))
/-! ### data -/
mutual
inductive Dat (K : PySem.W.Frag) (H : Hp) : V → PyData → Prop
  | non : Dat K H .non .none
  | bl (b : Bool) : Dat K H (.bl b) (.bool b)
  | int (i : Int) : Dat K H (.int i) (.int i)
  | str (x : Str) : Dat K H (.str x) (.str x)
  | lst {a : Addr} {xs : List V} {ds : List PyData} : SqL K H a xs → DatAll K H xs ds → Dat K H (.ref a) (.list ds)
  | tup {a : Addr} {xs : List V} {ds : List PyData} : SqT K H a xs → DatAll K H xs ds → Dat K H (.ref a) (.tuple ds)
inductive DatAll (K : PySem.W.Frag) (H : Hp) : List V → List PyData → Prop
  | nil : DatAll K H [] []
  | cons {x : V} {xs : List V} {d : PyData} {ds : List PyData} : Dat K H x d → DatAll K H xs ds → DatAll K H (x :: xs) (d :: ds)
end
mutual
theorem Inv.reads {pins : List (Addr × Obj)} {σ : St} {H : Hp} {s : Shared} (I : Inv X pins σ H s) : ∀ {x : V} {d : PyData} {u : Value}, Dat X.K H x d → RelV x u → ∃ as, Reads s.heap u d as
  | _, _, _, .non, r => by cases r; exact ⟨_, .none⟩
  | _, _, _, .bl b, r => by cases r; exact ⟨_, .bool b⟩
  | _, _, _, .int i, r => by obtain ⟨t, rfl⟩ := r; exact ⟨_, .int i t⟩
  | _, _, _, .str x, r => by obtain ⟨t, rfl⟩ := r; exact ⟨_, .str x t⟩
  | _, _, _, .lst h ds, r => by
    cases r
    obtain ⟨its, rv, ⟨o, n, e, hc, _, hd⟩, _⟩ := I.list h
    obtain ⟨as, ra⟩ := Inv.readsAll I ds rv
    exact ⟨_, .list e hc hd ra⟩
  | _, _, _, .tup h ds, r => by
    cases r
    obtain ⟨its, rv, ⟨o, e, hc, n, hd⟩, _⟩ := I.tuple h
    obtain ⟨as, ra⟩ := Inv.readsAll I ds rv
    exact ⟨_, .tuple e hc hd ra⟩
theorem Inv.readsAll {pins : List (Addr × Obj)} {σ : St} {H : Hp} {s : Shared} (I : Inv X pins σ H s) : ∀ {xs : List V} {ds : List PyData} {us : List Value}, DatAll X.K H xs ds → Vals xs us → ∃ as, ReadsAll s.heap us ds as
  | _, _, _, .nil, r => by cases r; exact ⟨_, .nil⟩
  | _, _, _, .cons h t, r => by
    cases r with
    | cons r1 r2 =>
      obtain ⟨a1, e1⟩ := Inv.reads I h r1
      obtain ⟨a2, e2⟩ := Inv.readsAll I t r2
      exact ⟨_, .cons e1 e2⟩
end
def rEqD (K : PySem.W.Frag) (neg : Bool) : R2 := fun x y H Q => ∃ d d' : PyData, Dat K H x d ∧ Dat K H y d' ∧ SeqAt.shaped d = true ∧ SeqAt.shaped d' = true ∧ Q (.bl (xor neg (PyData.eqv d d'))) H
theorem op_eqD (hu : X.A.units + 64 < cLine) : OpR X (compareOp .Eq) (rEqD X.K false) := by
  intro pins s σ H x y v u Q I rx ry h
  obtain ⟨d, d', hx, hy, s1, s2, q⟩ := h
  obtain ⟨as, ra⟩ := I.reads hx rx
  obtain ⟨bs, rb⟩ := I.reads hy ry
  exact eq_dataH ra rb s1 s2 hu ⟨.bl _, H, I, rfl, by simpa using q⟩
end
mutual
theorem Dat.same {K : PySem.W.Frag} {H H' : Hp} (g : Same H H') : ∀ {x : V} {d : PyData}, Dat K H x d → Dat K H' x d
  | _, _, .non => .non
  | _, _, .bl b => .bl b
  | _, _, .int i => .int i
  | _, _, .str x => .str x
  | _, _, .lst h t => .lst (g.seq h) (DatAll.same g t)
  | _, _, .tup h t => .tup (by
      rcases h with (h | ⟨o, h⟩) | h
      · exact .inl (.inl (g _ _ h))
      · exact .inl (.inr ⟨o, g _ _ h⟩)
      · exact .inr h) (DatAll.same g t)
theorem DatAll.same {K : PySem.W.Frag} {H H' : Hp} (g : Same H H') : ∀ {xs : List V} {ds : List PyData}, DatAll K H xs ds → DatAll K H' xs ds
  | _, _, .nil => .nil
  | _, _, .cons h t => .cons (Dat.same g h) (DatAll.same g t)
end
end L2

/-! sum of a list of ints, << of long ints, range falling by one, a slice given -/
namespace L2
open PySem PySem.Spec PyProof.Rows
section
variable {X : Cx}
/-- << of an int of some size -/
def CShl (i j : Int) : Prop := 0 ≤ j ∧ j ≤ 1000000 ∧ i.natAbs < 2 ^ 4000
theorem bits_le {i : Int} (h : i.natAbs < 2 ^ 4000) : (Builtin.Int.intBits i : Int) ≤ 4000 := by
  unfold Builtin.Int.intBits
  split
  · omega
  · rename_i hz
    have h0 : i.natAbs ≠ 0 := by
      intro z
      simp_all
    have := (Nat.log2_lt h0).mpr h
    omega
theorem op_shlL : OpR X (binaryOp .LShift) (rI CShl fun i j => .int (i * 2 ^ j.toNat)) := opI fun _ _ _ _ _ _ _ hc q => lshift_int hc.1 (by have := bits_le hc.2.2; have := hc.2.1; omega) q
/-- lo, lo + st, .. (n of them) -/
def Itrs (lo st : Int) (n : Nat) : It := ⟨fun i _ => i < n, fun i H x H' => H' = H ∧ x = .int (lo + i * st), fun i _ => n ≤ i⟩
def iRngD (ta : TA) : TI := fun σ H R => ta σ H fun vs H1 => ∃ i j : Int, vs = [.int i, .int j, .int (-1)] ∧ (-(2 ^ 62) ≤ i ∧ i < 2 ^ 62 ∧ -(2 ^ 62) ≤ j ∧ j < 2 ^ 62) ∧ R (Itrs i (-1) (i - j).toNat) H1
/-- o[lo:hi] = a list -/
def gSlc (to : TE) (tl th : TO) : TG := fun v σ H Q => to σ H fun o H1 => tl σ H1 fun l H2 => th σ H2 fun u H3 => ∃ (p b : Addr) (xs ys : List V) (a c : Int), o = .ref p ∧ v = .ref b ∧ H3 p = some (.lst xs) ∧ H3 b = some (.lst ys) ∧ p ≠ b ∧ l = some a ∧ u = some c ∧
  0 ≤ a ∧ a ≤ c ∧ c ≤ xs.length ∧ xs.length + ys.length ≤ sizeLine ∧ Q σ (upd H3 p (.lst (xs.take a.toNat ++ ys ++ xs.drop c.toNat)))
theorem pg_slc {o : Expr} {lo hi : Option Expr} {p2 pos : Pos} {to : TE} {tl th : TO} (ho : PE X o to) (hl : PO X lo tl) (hu : PO X hi th)
    (ha : ∀ v, assign (.Subscript o (.Slice lo hi none p2) pos) X.env v = (do
      let ov ← holding [v] (eval o X.env)
      let iv ← holding [v, ov] (eval (.Slice lo hi none p2) X.env)
      standAt pos
      holding [v, ov, iv] (setItem ov iv v)
      release [iv, v, ov] []) := by intro _; rfl) : PG X (.Subscript o (.Slice lo hi none p2) pos) (gSlc to tl th) := by
  intro pins s σ H v u Q I r h
  rw [ha]
  refine wpAny_bind (wpAny_holding (thn (ho pins s σ H _ I h) fun ov s1 ⟨x, H1, I1, r1, q1⟩ => ?_))
  refine wpAny_bind (wpAny_holding ?_)
  refine wpAny_Slice (thn (hl pins s1 σ H1 _ I1 q1) fun vl s2 ⟨l, H2, I2, pl, q2⟩ => thn (hu pins s2 σ H2 _ I2 q2) fun vu s3 ⟨uu, H3, I3, pu, q3⟩ => ?_)
  rw [evalPart_none]
  refine wpAny_pure ?_
  obtain ⟨p, b, xs, ys, a, c, rfl, rfl, hp, hb, ne, rfl, rfl, h0, hac, hc, hz, q⟩ := q3
  have I4 : Inv X pins σ H3 { s3 with heap := s3.heap.push { cls := .type "slice", data := .fields #[vl, vu, .none] } } := I3.kept (t' := s3.toks) fun b ob q => Heap.get?_push_of_some _ q
  cases r1
  cases r
  obtain ⟨ta, rfl⟩ : ∃ t, vl = Value.int a t := by cases pl; exact ⟨_, rfl⟩
  obtain ⟨tc, rfl⟩ : ∃ t, vu = Value.int c t := by cases pu; exact ⟨_, rfl⟩
  refine wpAny_bind (wpAny_standAt (wpAny_bind (wpAny_holding ?_)))
  refine set_slice I4 hp hb ne (Heap.IsSliceOf.new ..) ⟨ta, rfl⟩ ⟨tc, rfl⟩ h0 hac hc hz fun s' I' => ?_
  exact wpAny_release ⟨σ, _, I', q⟩
end
end L2

/-! name = [.. for ..] : the value is stored ahead of the block's end -/
namespace L2
open PySem PySem.Spec PyProof.Rows
section
variable {X : Cx} {elt tg iter : Expr} {ifs : List Expr} {scope : Scope} {cl : List (Str × Addr)} {ts ys : List Str} {js : List Nat} {pos : Pos} {wi : TI} {g : TG} {tc : TT} {te : TE}
end
end L2

/-! list.insert(0, x), list.remove(n) of ints; a comprehension whose target is a tuple of names -/
namespace L2
open PySem PySem.Spec PyProof.Rows
section
variable {X : Cx}
def rInsert0 : V → List V → Hp → VK → Prop := fun x vs H Q => ∃ l xs y, x = .ref l ∧ vs = [.int 0, y] ∧ H l = some (.lst xs) ∧ xs.length < sizeLine ∧ Q .non (upd H l (.lst (y :: xs)))
def rRemoveI : V → List V → Hp → VK → Prop := fun x vs H Q => ∃ (l : Addr) (ns : List Int) (k : Int), x = .ref l ∧ vs = [.int k] ∧ H l = some (.lst (ns.map V.int)) ∧ k ∈ ns ∧ Q .non (upd H l (.lst ((ns.erase k).map V.int)))
def rInI (K : PySem.W.Frag) : R2 := fun x y H Q => ∃ (p : Addr) (n : Int) (ns : List Int), x = .int n ∧ y = .ref p ∧ SqL K H p (ns.map V.int) ∧ Q (.bl (decide (n ∈ ns))) H
def rNotInI (K : PySem.W.Frag) : R2 := fun x y H Q => ∃ (p : Addr) (n : Int) (ns : List Int), x = .int n ∧ y = .ref p ∧ SqL K H p (ns.map V.int) ∧ Q (.bl (decide (n ∉ ns))) H
end
/-- a comprehension over a list with any target: the names' cells are the first k -/
def CompM (P : Nat → List V → Hp → Prop) (i k : Nat) (js : List Nat) (σ : St) : St → List V → Hp → Prop := fun σ' ys H => P (i + 1) ys H ∧ ∃ os : St, os.length = k ∧ σ' = os ++ capV js σ
/-- all but the list at l is as it was -/
def But (l : Addr) (H H' : Hp) : Prop := ∀ b o, b ≠ l → H b = some o → H' b = some o
theorem But.trans {l : Addr} {H H1 H2 : Hp} (a : But l H H1) (b : But l H1 H2) : But l H H2 := fun x o n q => b x o n (a x o n q)
theorem But.refl {l : Addr} {H : Hp} : But l H H := fun _ _ _ q => q
theorem But.of {l : Addr} {H H' : Hp} (g : Same H H') : But l H H' := fun x o _ q => g x o q
theorem But.same {l : Addr} {H H' : Hp} (a : But l H H') (h : H l = none) : Same H H' := fun x o q => a x o (ne_of_none q h) q
theorem But.upd {l : Addr} {H : Hp} {o : HO} : But l H (upd H l o) := fun x u n q => by rw [upd_ne n]; exact q
theorem But.tup {K : PySem.W.Frag} {l : Addr} {H H' : Hp} {zs : List V} (e : But l H H') (hl : H l = some (.lst zs)) {a : Addr} {xs : List V} (h : SqT K H a xs) : SqT K H' a xs := by
  rcases h with (h | ⟨o, h⟩) | h
  · exact .inl (.inl (e _ _ (ne_of h hl (by intro z; cases z)) h))
  · exact .inl (.inr ⟨o, e _ _ (ne_of h hl (by intro z; cases z)) h⟩)
  · exact .inr h
end L2

namespace L2
open PySem PySem.Spec PyProof.Rows
section
variable {prog : Program} {w : World} {A : Around} {E : Value → Shared → Prop} {s : Shared}
end
section
variable {X : Cx}
/-- o[:] = a list -/
def gSlcA (to : TE) : TG := fun v σ H Q => to σ H fun o H1 => ∃ (p b : Addr) (xs ys : List V), o = .ref p ∧ v = .ref b ∧ H1 p = some (.lst xs) ∧ H1 b = some (.lst ys) ∧ p ≠ b ∧ xs.length + ys.length ≤ sizeLine ∧ Q σ (upd H1 p (.lst ys))
end
end L2

/-! an exception of one's own on its way through the frames -/
namespace L2
open PySem
/-- the record of the exception at e: its class, its dict, its newest entry T of the way (e itself where there is none), and where that entry flies -/
def Xc (h : Heap) (e C : Addr) (dx : Option Addr) (T : Addr) (fl : Option Value) : Prop :=
  ∃ oe vs, h.get? e = some oe ∧ oe.cls = .ref C ∧ oe.dict = dx ∧ oe.data = .fields vs ∧ 1 < vs.size ∧
    ((fl = none ∧ T = e ∧ vs[1]? = some .none) ∨ ∃ oT ts v, fl = some v ∧ T ≠ e ∧ vs[1]? = some (.ref T) ∧ h.get? T = some oT ∧ oT.data = .fields ts ∧ ts[3]? = some v)
/-- all but e and T is as it was, the frames at S up to their slots -/
def Mv (S : List Addr) (e T : Addr) (h h' : Heap) : Prop :=
  ∀ b o, h.get? b = some o → b ≠ e → b ≠ T → (b ∉ S → h'.get? b = some o) ∧ ∃ sl, h'.get? b = some { o with slots := sl }
theorem Mv.refl (S : List Addr) (e T : Addr) (h : Heap) : Mv S e T h h := fun b o q _ _ => ⟨fun _ => q, o.slots, q⟩
theorem Mv.ff {S : List Addr} {e T : Addr} {h h' base : Heap} {l : List Env} (m : Mv S e T h h') (ff : h.FunFrames base l) (he : ∀ o, h.get? e = some o → ∃ vs, o.data = .fields vs) (hT : ∀ o, h.get? T = some o → ∃ vs, o.data = .fields vs) : h'.FunFrames base l :=
  ff.of_keeps fun b o q nf => by
    obtain ⟨_, sl, q'⟩ := m b o q (fun z => by subst z; obtain ⟨vs, z⟩ := he o q; exact nf vs z) (fun z => by subst z; obtain ⟨vs, z⟩ := hT o q; exact nf vs z)
    exact ⟨_, q', rfl⟩
theorem Xc.fe {h : Heap} {e C : Addr} {dx : Option Addr} {T : Addr} {fl : Option Value} (x : Xc h e C dx T fl) : ∀ o, h.get? e = some o → ∃ vs, o.data = .fields vs := fun o q => by
  obtain ⟨oe, vs, he, _, _, hd, _⟩ := x
  rw [he] at q; cases q; exact ⟨vs, hd⟩
theorem Xc.fT {h : Heap} {e C : Addr} {dx : Option Addr} {T : Addr} {fl : Option Value} (x : Xc h e C dx T fl) : ∀ o, h.get? T = some o → ∃ vs, o.data = .fields vs := fun o q => by
  have fe := x.fe
  obtain ⟨oe, vs, he, _, _, hd, _, ⟨_, rfl, _⟩ | ⟨oT, ts, v, _, _, _, hT, hd', _⟩⟩ := x
  · exact fe o q
  · rw [hT] at q; cases q; exact ⟨ts, hd'⟩
theorem dict_mapFields (o : Obj) (f : Array Value → Array Value) : (o.mapFields f).dict = o.dict := by
  obtain ⟨c, d, dt, sl⟩ := o
  cases dt <;> rfl
section
variable {M : Model} {A : Around} {E : Value → Shared → Prop} {s : Shared} {base : Heap} {env : Env} {outer : List Env} {L e C : Addr} {dx : Option Addr} {T : Addr} {fl : Option Value} {Q : Unit → Shared → Prop}
/-- a new entry is laid ahead of the others -/
theorem entry_ok {s1 : Shared} {oe : Obj} {vs : Array Value} {head : Value} {had : Bool} (hA : A.frames = some (env :: outer)) (hL : env.frame = some L) (ff : s1.heap.FunFrames base (env :: outer))
    (he : s1.heap.get? e = some oe) (hc : oe.cls = .ref C) (hx : oe.dict = dx) (hd : oe.data = .fields vs) (h1 : 1 < vs.size)
    (hQ : ∀ h' T', s1.heap.get? T' = none → s1.heap.objs.size ≤ T' → Xc h' e C dx T' (some (rawInt L)) → Mv ((env :: outer).filterMap (·.frame)) e e s1.heap h' → Q () { s1 with heap := h' }) :
    wpAny M A (do let a ← frameOf env; let pl ← entryPlaceOf L had; let b ← EntryCells.newEntry head a .none (rawInt L) .none pl; setField (.ref e) 1 b) Q E s1 := by
  have nfr : e ∉ (env :: outer).filterMap (·.frame) := fun z => by
    obtain ⟨_, o, q, nf⟩ := ff.mem z
    rw [he] at q; cases q; exact nf vs hd
  refine wpAny_bind (wpAny_frameOf_fun hA ff hL fun g so => wpAny_bind (wpAny_entryPlaceOf fun pl isp => ?_))
  unfold EntryCells.newEntry newFields
  refine wpAny_bind (wpAny_newObj_type ?_ (isp.sizeOk5 _ _ _ _ _))
  have e1 : g.get? e = some oe := (so.2.1 e nfr).trans he
  generalize hob : ({ cls := .type "traceback", dict := none, data := .fields ([head, .ref L, .none, rawInt L, .none] ++ (if pl.isEmpty then List.replicate 6 Value.none else pl)).toArray } : Obj) = ob
  have e2 := Heap.get?_push_of_some ob e1
  refine wpAny_setField e2 hd h1 ?_
  have nT : g.objs.size ≠ e := Nat.ne_of_gt (Heap.lt_size e1)
  have d3 := Obj.data_mapFields hd (·.setIfInBounds 1 (Value.ref g.objs.size))
  have e3 := Heap.get?_update_self (Obj.mapFields (·.setIfInBounds 1 (Value.ref g.objs.size))) e2 (Obj.isFreed_of_fields d3)
  have t3 : ((g.push ob).update e (Obj.mapFields (·.setIfInBounds 1 (Value.ref g.objs.size)))).get? g.objs.size = some ob :=
    (Heap.get?_update_other _ _ (Ne.symm nT)).trans (Heap.get?_push_size g (by rw [← hob]; rfl))
  refine hQ _ g.objs.size (Heap.get?_none_of_le (by rw [so.1]; exact Nat.le_refl _)) (by rw [so.1]; exact Nat.le_refl _) ⟨_, _, e3, (Obj.cls_mapFields _ _).trans hc, (dict_mapFields _ _).trans hx, d3, by simpa using h1, .inr ⟨ob, _, rawInt L, rfl, nT, by simp [h1], t3, by rw [← hob], ?_⟩⟩ fun b o q ne _ => ?_
  · first
      | (simp; done)
      | (rcases isp with rfl | ⟨_, _, _, _, _, _, _, rfl⟩ <;> simp)
  · have keep : ∀ u, g.get? b = some u → ((g.push ob).update e (Obj.mapFields (·.setIfInBounds 1 (Value.ref g.objs.size)))).get? b = some u := fun u z => by
      rw [Heap.get?_update_other _ _ (Ne.symm ne)]
      exact Heap.get?_push_of_some _ z
    exact ⟨fun nb => keep _ ((so.2.1 b nb).trans q), let ⟨sl, z⟩ := so.2.2 b o q; ⟨sl, keep _ z⟩⟩
theorem note_ok (hA : A.frames = some (env :: outer)) (hL : env.frame = some L) (ff : s.heap.FunFrames base (env :: outer)) (x : Xc s.heap e C dx T fl) (hf : fl = none ∨ fl = some .none ∨ fl = some (rawInt L))
    (hQ : ∀ h' T', (T' = T ∨ s.heap.objs.size ≤ T') → Xc h' e C dx T' (some (rawInt L)) → Mv ((env :: outer).filterMap (·.frame)) e T s.heap h' → Q () { s with heap := h' }) :
    wpAny M A (noteFrame (.ref e) env) Q E s := by
  have x0 := x
  obtain ⟨oe, vs, he, hc, hx, hd, h1, ht⟩ := x
  unfold noteFrame
  simp only [hL]
  rcases ht with ⟨rfl, rfl, hv⟩ | ⟨oT, ts, v, rfl, nT, hv, hT, hdT, h3⟩
  · refine wpAny_bind (wpAny_field he hd hv ?_)
    rw [if_neg (by decide)]
    exact entry_ok hA hL ff he hc hx hd h1 fun h' T' _ q2 q3 q4 => hQ h' T' (.inr q2) q3 q4
  · refine wpAny_bind (wpAny_field he hd hv ?_)
    rw [if_pos (show (Value.ref T != Value.none) = true from by simp)]
    refine wpAny_bind (wpAny_field hT hdT h3 ?_)
    by_cases hvL : v = rawInt L
    · subst hvL
      rw [if_pos (show (rawInt L == rawInt L) = true from by simp)]
      exact wpAny_pure (hQ s.heap T (.inl rfl) x0 (Mv.refl _ _ _ _))
    · have hv0 : v = .none := by
        rcases hf with z | z | z
        · cases z
        · exact Option.some.inj z
        · exact absurd (Option.some.inj z) hvL
      subst hv0
      rw [if_neg (show ¬ ((Value.none == rawInt L) = true) from by simp [rawInt])]
      refine wpAny_bind (wpAny_setField hT hdT (Array.getElem?_eq_some_iff.mp h3).1 ?_)
      have oth : ∀ b, b ≠ T → (s.heap.update T (Obj.mapFields (·.setIfInBounds 3 Value.none))).get? b = s.heap.get? b := fun b hb => Heap.get?_update_other _ _ (Ne.symm hb)
      have mv : Mv ((env :: outer).filterMap (·.frame)) e T s.heap (s.heap.update T (Obj.mapFields (·.setIfInBounds 3 Value.none))) := fun b o q _ nb => ⟨fun _ => (oth b nb).trans q, o.slots, (oth b nb).trans q⟩
      refine entry_ok (s1 := { s with heap := s.heap.update T (Obj.mapFields (·.setIfInBounds 3 Value.none)) }) hA hL (mv.ff ff x0.fe x0.fT) ((oth e (Ne.symm nT)).trans he) hc hx hd h1 fun h' T' q1 q2 q3 q4 => hQ h' T' (.inr ?_) q3 fun b o q ne nb => ?_
      · have : (s.heap.update T (Obj.mapFields (·.setIfInBounds 3 Value.none))).objs.size = s.heap.objs.size := Heap.size_after_update ..
        rw [← this]; exact q2
      · exact q4 b o ((oth b nb).trans q) ne ne
/-- the newest entry flies at fr -/
theorem flight_ok {v : Value} {fr : Option Addr} (x : Xc s.heap e C dx T (some v))
    (hQ : ∀ h', Xc h' e C dx T (some (fr.elim .none fun f => rawInt f)) → Mv [] e T s.heap h' → Q () { s with heap := h' }) : wpAny M A (setFlight (.ref e) fr) Q E s := by
  obtain ⟨oe, vs, he, hc, hx, hd, h1, ⟨z, _⟩ | ⟨oT, ts, v', _, nT, hv, hT, hdT, h3⟩⟩ := x
  · cases z
  have hsz := (Array.getElem?_eq_some_iff.mp h3).1
  unfold setFlight
  refine wpAny_bind (wpAny_field he hd hv ?_)
  rw [if_pos (show (Value.ref T != Value.none) = true from by simp)]
  refine wpAny_setField hT hdT hsz (hQ _ ?_ fun b o q _ nb => ?_)
  · exact ⟨oe, vs, (Heap.get?_update_other _ _ nT).trans he, hc, hx, hd, h1, .inr ⟨_, _, _, rfl, nT, hv, Heap.get?_update_self _ hT (Obj.isFreed_of_fields (Obj.data_mapFields hdT _)), Obj.data_mapFields hdT _, by simp [hsz]⟩⟩
  · have := (Heap.get?_update_other s.heap (Obj.mapFields (·.setIfInBounds 3 (fr.elim Value.none fun f => rawInt f))) (Ne.symm nb)).trans q
    exact ⟨fun _ => this, o.slots, this⟩
theorem Mv.trans {S S' : List Addr} {e T T' : Addr} {h h1 h2 : Heap} (a : Mv S e T h h1) (b : Mv S' e T' h1 h2) (hT : T' = T ∨ h.get? T' = none) (hS : ∀ x ∈ S', x ∈ S) : Mv S e T h h2 := fun c o q ne nT => by
  obtain ⟨k1, sl, k2⟩ := a c o q ne nT
  have nT' : c ≠ T' := fun z => by
    rcases hT with y | y
    · exact nT (z.trans y)
    · rw [← z, q] at y; cases y
  refine ⟨fun nS => (b c o (k1 nS) ne nT').1 fun z => nS (hS c z), ?_⟩
  obtain ⟨_, sl', k3⟩ := b c _ k2 ne nT'
  exact ⟨sl', k3⟩
theorem leave_ok (hA : A.frames = some (env :: outer)) (hL : env.frame = some L) (ff : s.heap.FunFrames base (env :: outer)) (x : Xc s.heap e C dx T fl) (hf : fl = none ∨ fl = some .none ∨ fl = some (rawInt L))
    (hQ : ∀ h' T', (T' = T ∨ s.heap.objs.size ≤ T') → Xc h' e C dx T' (some .none) → Mv ((env :: outer).filterMap (·.frame)) e T s.heap h' → Q () { s with heap := h' }) :
    wpAny M A (leaving env (.ref e)) Q E s := by
  unfold leaving
  refine wpAny_bind (note_ok hA hL ff x hf fun h1 T1 q1 x1 m1 => flight_ok x1 fun h2 x2 m2 => hQ h2 T1 q1 x2 (m1.trans m2 ?_ (by simp)))
  exact q1.imp id fun z => Heap.get?_none_of_le z
end
end L2

/-! an exception of one's own class is made: __new__ is ValueError's, __init__ its own -/
namespace L2
open PySem
/-- what the tail of the class's line must have -/
structure XTail (bm : List Value) : Prop where
  v : bm.contains (.type "ValueError") = true
  b : bm.contains (.type "BaseException") = true
  a : bm.contains (.type "AttributeError") = false
  n : bm.contains (.type "NameError") = false
section
variable {prog : Program} {w : World} {M : Model} {A : Around} {E : Value → Shared → Prop} {h : Heap} {g : Array GenState} {d : Drawn} {t : Nat} {os : OsState}
  {nm qn : Str} {C N : Addr} {bs bm : List Value} {hdct : Bool} {sn : List Str} {sub : List Value} {ab : Bool} {col : Option Bool} {dd : Option Addr} {k0 k1 k2 k3 k5 : Option Value}
abbrev xcls (nm qn : Str) (C N : Addr) (bs bm : List Value) (hdct : Bool) (sn : List Str) (sub : List Value) (ab : Bool) (col : Option Bool) (dd : Option Addr) (k0 k1 k2 k3 k5 : Option Value) : Obj :=
  excClassObj nm qn C N bs bm hdct sn sub ab col dd k0 k1 k2 k3 k5 "ValueError.__new__"
theorem XTail.cv (x : XTail bm) : (Value.ref C :: bm).contains (.type "ValueError") = true := by rw [List.contains_cons, x.v, Bool.or_true]
theorem XTail.cb (x : XTail bm) : (Value.ref C :: bm).contains (.type "BaseException") = true := by rw [List.contains_cons, x.b, Bool.or_true]
theorem XTail.ca (x : XTail bm) : (Value.ref C :: bm).contains (.type "AttributeError") = false := by rw [List.contains_cons, x.a]; rfl
theorem XTail.cn (x : XTail bm) : (Value.ref C :: bm).contains (.type "NameError") = false := by rw [List.contains_cons, x.n]; rfl
theorem xnew_check (x : XTail bm) {rest : List Value} {Q : Unit → Shared → Prop} (hC : h.get? C = some (xcls nm qn C N bs bm hdct sn sub ab col dd k0 k1 k2 k3 k5)) (hq : Q () ⟨h, g, d, t, os⟩) :
    wpAny M A (checkBuiltinCall "ValueError.__new__" ⟨.ref C :: rest, []⟩) Q E ⟨h, g, d, t, os⟩ := by
  have c1 := x.cv (C := C)
  have B := PySem.F.excBase_ValueError
  have c2 := B.noStar
  simp only [checkBuiltinCall, B.newSplit, B.newKind, B.newRow]
  repeat (first
    | refine wpAny_loadPart_at hC ?_
    | (refine wpAny_isSubtype_exc hC ?_; rw [c1])
    | refine wpAny_madeBy_exc hC ?_
    | refine wpAny_staticBase_exc hC ?_
    | simp only [bne_self_eq_false, if_false, Bool.false_eq_true]
    | wp_step)
  exact hq
theorem xnew_run (x : XTail bm) {rest : List Value} {R : Result → Shared → Prop} (hC : h.get? C = some (xcls nm qn C N bs bm hdct sn sub ab col dd k0 k1 k2 k3 k5)) (hz : rest.length ≤ sizeLine)
    (hq : R (.ok (.ret (.ref (h.objs.size + 1)))) ⟨(h.push { cls := .type "tuple", data := .seq rest.toArray }).push { cls := .ref C, data := .fields #[.ref h.objs.size, .none, .none, .none, .bool false, .none] }, g, d, t, os⟩) :
    codeAny (model prog w) A (.builtin "ValueError.__new__" ⟨.ref C :: rest, []⟩) R ⟨h, g, d, t, os⟩ := by
  have B := PySem.F.excBase_ValueError
  have c0 := B.ends
  have c1 := x.cv (C := C)
  have c2 := x.ca (C := C)
  have c3 := x.cn (C := C)
  refine codeAny_builtinAt B.entry ?_
  unfold Builtin.«BaseException.__new__»
  refine wpAt_bind ?_
  show wpAt _ _ _ (stack >>= _) _ _ _
  refine wpAt_bind (wpAt_stack fun p below => wpAt_of_wpAny ?_)
  wp_walk
  refine wpAt_of_wpAny ?_
  rw [B.owner]
  repeat (first
    | with_reducible refine wpAny_loadPart_at hC ?_
    | with_reducible refine wpAny_madeHere_exc B.canon hC ?_
    | (with_reducible refine wpAny_isSubtype_exc hC ?_; first | rw [c1] | rw [c2] | rw [c3])
    | wp_step)
  show R _ _
  rw [Heap.size_push]
  exact hq
theorem xtype_call (x : XTail bm) {mN : Str → Option Value} {rest : List Value} {fI : Addr} {oI : Obj} {Q : Fin → Shared → Prop} (hC : h.get? C = some (xcls nm qn C N bs bm hdct sn sub ab col dd k0 k1 k2 k3 k5))
    (hn : h.Ns N mN) (hi : mN "__init__" = some (.ref fI)) (hf : h.get? fI = some oI) (hfc : oI.cls = .type "function") (hz : rest.length ≤ sizeLine)
    (hq : ∀ h' e, Heap.MadeExcOf h h' e (.ref C) rest → h.objs.size ≤ e → wpAny (model prog w) A (call (.ref fI) (.ref e :: rest)) (fun r s' => r = .none ∧ Q (.done (.ret (.ref e))) s') E ⟨h', g, d, t, os⟩) :
    wpAny (model prog w) A (Builtin.«type.__call__» ⟨.ref C :: rest, []⟩) Q E ⟨h, g, d, t, os⟩ := by
  repeat (first
    | with_reducible refine wpAny_madeBy_exc hC ?_
    | with_reducible refine wpAny_loadPart_at hC ?_
    | wp_step)
  have B := PySem.F.excBase_ValueError
  refine codeAny_call_builtin_code (Code.quiet_builtin _ B.quiet) (xnew_check x hC (xnew_run x hC hz ?_))
  show wpAny _ _ _ _ _ _
  generalize htu : ({ cls := .type "tuple", data := .seq rest.toArray } : Obj) = otu
  generalize hex : ({ cls := .ref C, data := .fields #[.ref h.objs.size, .none, .none, .none, .bool false, .none] } : Obj) = oex
  have kp : ∀ b o, h.get? b = some o → ((h.push otu).push oex).get? b = some o := fun b o z => Heap.get?_push_of_some _ (Heap.get?_push_of_some _ z)
  have ge : ((h.push otu).push oex).get? (h.objs.size + 1) = some oex := by
    have := Heap.get?_push_size (h.push otu) (o := oex) (by rw [← hex]; rfl)
    rwa [Heap.size_push] at this
  have gt : ((h.push otu).push oex).get? h.objs.size = some otu := Heap.get?_push_of_some _ (Heap.get?_push_size h (by rw [← htu]; rfl))
  have oc : oex.cls = .ref C := by rw [← hex]
  have hC1 := kp _ _ hC
  have hn1 : ((h.push otu).push oex).Ns N mN := let ⟨o, es, ep, z, r⟩ := hn; ⟨o, es, ep, kp _ _ z, r⟩
  have c0 : (Value.ref C :: bm).contains (.ref C) = true := by simp
  unfold isInstance
  repeat (first
    | (with_reducible refine wpAny_loadPart_at ge ?_; rw [oc])
    | (with_reducible refine wpAny_isSubtype_exc hC1 ?_; rw [c0])
    | wp_step)
  show wpAny _ _ (typeLookup (.ref C) _) _ _ _
  rw [typeLookup_eq]
  refine wpAny_bind (wpAny_mroOf_exc hC1 ?_)
  rw [lookupAlong_cons]
  refine wpAny_bind (wpAny_classOwn_exc hC1 hn1 ?_)
  rw [hi]
  refine wpAny_pure (wpAny_holding (wpAny_bind ?_))
  unfold bindSpecial
  refine wpAny_bind (wpAny_typeOf (T := "function") ⟨_, kp _ _ hf, hfc⟩ ?_)
  rw [if_pos (by decide)]
  refine wpAny_pure (wpAny_bind (wpAny_mono (hq _ (h.objs.size + 1) ⟨kp, Heap.get?_none_of_le (Nat.le_succ _), h.objs.size, by rw [ge, ← hex], Heap.get?_none_of_le (Nat.le_refl _), by rw [gt, ← htu]⟩ (Nat.le_succ _)) (fun r s' z => ?_) fun _ _ y => y))
  obtain ⟨rfl, z⟩ := z
  wp_walk
  exact z
theorem xmake (x : XTail bm) {mN : Str → Option Value} {rest : List Value} {fI : Addr} {oI : Obj} {Q : Value → Shared → Prop} (hC : h.get? C = some (xcls nm qn C N bs bm hdct sn sub ab col dd k0 k1 k2 k3 k5))
    (hn : h.Ns N mN) (hi : mN "__init__" = some (.ref fI)) (hf : h.get? fI = some oI) (hfc : oI.cls = .type "function") (hz : rest.length ≤ sizeLine)
    (hq : ∀ h' e, Heap.MadeExcOf h h' e (.ref C) rest → h.objs.size ≤ e → wpAny (model prog w) (A.under (.builtin "type.__call__" ⟨.ref C :: rest, []⟩)) (call (.ref fI) (.ref e :: rest)) (fun r s' => r = .none ∧ Q (.ref e) s') E ⟨h', g, d, t, os⟩) :
    wpAny (model prog w) A (call (.ref C) rest) Q E ⟨h, g, d, t, os⟩ := by
  have b1 := tc_lookup
  have b2 := tc_bind (.ref C)
  have b3 : (⟨h, g, d, t, os⟩ : Shared).TypeIs (.ref C) "type" := ⟨_, hC, rfl⟩
  refine wpAny_call (codeAny_of_tree ?_)
  show wpAny _ _ (callAny (.ref C) _) _ _ _
  repeat (any_goals (first | assumption | with_reducible refine wpAny_loadPart_at hC ?_ | wp_step))
  refine ⟨rfl, codeAny_call_builtin_at (Code.quiet_builtin _ (by decide +kernel)) entry_typeCall (wpAny_check_type_call_sub hC (xtype_call x hC hn hi hf hfc hz hq))⟩
theorem xraise {s : Shared} {env : Env} {x : Sem Value} {Q : Flow → Shared → Prop} (hh : A.handled = none)
    (hx : wpAny M A x (fun v s1 => ∃ (e C N : Addr) (nm qn : Str) (bs bm : List Value) (hdct : Bool) (sn : List Str) (sub : List Value) (ab : Bool) (col : Option Bool) (dd : Option Addr) (k0 k1 k2 k3 k5 : Option Value) (dx : Option Addr) (vs : Array Value) (sl : Array (Option Value)),
      v = .ref e ∧ XTail bm ∧ s1.heap.get? C = some (xcls nm qn C N bs bm hdct sn sub ab col dd k0 k1 k2 k3 k5) ∧ s1.heap.get? e = some ⟨.ref C, dx, .fields vs, sl⟩ ∧ vs[1]? = some .none ∧ E (.ref e) s1) E s) :
    wpAny M A (raiseStmt env (some x) none) Q E s := by
  unfold raiseStmt
  refine wpAny_bind (wpAny_mono hx (fun v s1 z => ?_) fun _ _ y => y)
  obtain ⟨e, C, N, nm, qn, bs, bm, hdct, sn, sub, ab, col, dd, k0, k1, k2, k3, k5, dx, vs, sl, rfl, xt, hC, he, hv, hE⟩ := z
  have c1 := xt.cb (C := C)
  obtain ⟨hp, g, d, tk, os⟩ := s1
  repeat (first
    | with_reducible refine wpAny_loadPart_at he ?_
    | with_reducible refine wpAny_loadPart_at hC ?_
    | with_reducible refine wpAny_field he rfl hv ?_
    | (with_reducible refine wpAny_isSubtype_exc hC ?_; rw [c1])
    | wp_step)
  exact wpAny_raiseNew_none hh hE
/-- raise X(..): the statement -/
theorem xRaise {s : Shared} {env : Env} {x : Expr} {pos : Pos} {Q : Flow → Shared → Prop} (hh : A.handled = none)
    (hx : wpAny M A (eval x env) (fun v s1 => ∃ (e C N : Addr) (nm qn : Str) (bs bm : List Value) (hdct : Bool) (sn : List Str) (sub : List Value) (ab : Bool) (col : Option Bool) (dd : Option Addr) (k0 k1 k2 k3 k5 : Option Value) (dx : Option Addr) (vs : Array Value) (sl : Array (Option Value)),
      v = .ref e ∧ XTail bm ∧ s1.heap.get? C = some (xcls nm qn C N bs bm hdct sn sub ab col dd k0 k1 k2 k3 k5) ∧ s1.heap.get? e = some ⟨.ref C, dx, .fields vs, sl⟩ ∧ vs[1]? = some .none ∧ E (.ref e) s1) E s) :
    wpAny M A (exec (.Raise (some x) none pos) env) Q E s := by
  rw [arm_exec_Raise]
  have key := xraise (Q := Q) (env := env) (x := do let v ← eval x env; standAt pos; pure v) hh (wpAny_bind (wpAny_mono hx (fun v s1 z => wpAny_bind (wpAny_standAt (wpAny_pure z))) fun _ _ y => y))
  first
    | exact wpAny_bind (wpAny_standAt key)
    | (simp only [evalOpt, Option.map]; exact wpAny_bind (wpAny_standAt key))
/-- the base's __init__: the exception's args -/
theorem xinit_check (x : XTail bm) {e : Addr} {oe : Obj} {rest : List Value} {Q : Unit → Shared → Prop} (hC : h.get? C = some (xcls nm qn C N bs bm hdct sn sub ab col dd k0 k1 k2 k3 k5)) (he : h.get? e = some oe) (oc : oe.cls = .ref C)
    (hq : Q () ⟨h, g, d, t, os⟩) : wpAny M A (checkBuiltinCall "ValueError.__init__" ⟨.ref e :: rest, []⟩) Q E ⟨h, g, d, t, os⟩ := by
  have c1 := x.cv (C := C)
  have B := PySem.F.excBase_ValueError
  have c2 := B.noStar
  simp only [checkBuiltinCall, B.initSplit, B.initKind, B.initRow]
  repeat (first
    | with_reducible refine wpAny_loadPart_at hC ?_
    | (with_reducible refine wpAny_loadPart_at he ?_; rw [oc])
    | (with_reducible refine wpAny_isSubtype_exc hC ?_; rw [c1])
    | wp_step)
  refine wpAny_onRaise ?_
  rw [show ∀ (a b : String) (n : Nat), Bind.check ⟨.positional, "*", "ValueError", .self, [⟨"args", .varPos, false⟩]⟩ a b n (List.map (fun y => y.fst) ({ pos := Value.ref e :: rest } : Args).kw) = pure () from fun a b n => check_star_args _ _ _ _ _ _]
  exact wpAny_pure hq
theorem xinit (x : XTail bm) {e : Addr} {oe : Obj} {vs : Array Value} {v : Value} {Q : Value → Shared → Prop} (hC : h.get? C = some (xcls nm qn C N bs bm hdct sn sub ab col dd k0 k1 k2 k3 k5)) (he : h.get? e = some oe) (oc : oe.cls = .ref C)
    (hd : oe.data = .fields vs) (h1 : 1 < vs.size)
    (hq : ∀ h' oe' vs', (∀ b o, b ≠ e → h.get? b = some o → h'.get? b = some o) → h'.get? e = some oe' → oe'.cls = oe.cls → oe'.dict = oe.dict → oe'.data = .fields vs' → vs'.size = vs.size → vs'[1]? = vs[1]? → Q .none ⟨h', g, d, t, os⟩) :
    wpAny (model prog w) A (call (.builtin "ValueError.__init__") [.ref e, v]) Q E ⟨h, g, d, t, os⟩ := by
  have B := PySem.F.excBase_ValueError
  refine wpAny_call (codeAny_call_builtin B.init.plain B.initEntry (xinit_check x hC he oc ?_))
  obtain ⟨c, dx, dt, sl⟩ := oe
  cases hd
  wp_walk
  have h0 : vs[0]? = some vs[0] := by simp
  rw [h0]
  refine wpAny_pure (wpAny_bind (wpAny_setField (Heap.get?_push_of_some _ he) rfl (by omega) ?_))
  have e2 := Heap.get?_push_of_some { cls := Value.type "tuple", data := Data.seq #[v] } he
  have fin := hq _ _ _ (fun b o nb z => (Heap.get?_update_other (h.push { cls := Value.type "tuple", data := Data.seq #[v] }) (Obj.mapFields (·.setIfInBounds 0 (Value.ref h.objs.size))) (Ne.symm nb)).trans (Heap.get?_push_of_some _ z))
    (Heap.get?_update_self (Obj.mapFields (·.setIfInBounds 0 (Value.ref h.objs.size))) e2 rfl) rfl rfl rfl (by simp) (by simp)
  generalize vs[0] = a0
  cases a0 <;> first
    | exact wpAny_pure (wpAny_pure fin)
    | exact wpAny_letGo (wpAny_pure fin)
/-- which clause takes it -/
theorem xmatch {e Cn : Addr} {oe : Obj} {b : Bool} {Q : Bool → Shared → Prop} {nm1 q1 nm2 q2 : Str} {N1 N2 : Addr} {bs1 bm1 bs2 bm2 : List Value} {hd1 hd2 : Bool} {sn1 sn2 : List Str} {sub1 sub2 : List Value} {ab1 ab2 : Bool} {co1 co2 : Option Bool} {dd1 dd2 : Option Addr}
    {j0 j1 j2 j3 j5 l0 l1 l2 l3 l5 : Option Value} {ni1 ni2 : String} (hC : h.get? C = some (excClassObj nm1 q1 C N1 bs1 bm1 hd1 sn1 sub1 ab1 co1 dd1 j0 j1 j2 j3 j5 ni1)) (hD : h.get? Cn = some (excClassObj nm2 q2 Cn N2 bs2 bm2 hd2 sn2 sub2 ab2 co2 dd2 l0 l1 l2 l3 l5 ni2))
    (hb : bm2.contains (.type "BaseException") = true) (he : h.get? e = some oe) (oc : oe.cls = .ref C) (hs : (Value.ref C :: bm1).contains (.ref Cn) = b) (hq : Q b ⟨h, g, d, t, os⟩) : wpAny M A (excMatches (.ref e) (.ref Cn)) Q E ⟨h, g, d, t, os⟩ := by
  have c1 : (Value.ref Cn :: bm2).contains (.type "BaseException") = true := by rw [List.contains_cons, hb, Bool.or_true]
  have c2 := tc_notTuple
  unfold excMatches
  repeat (first
    | with_reducible refine wpAny_loadPart_at hD ?_
    | (with_reducible refine wpAny_loadPart_at he ?_; rw [oc])
    | (with_reducible refine wpAny_isSubtype_exc hD ?_; rw [c1])
    | (with_reducible refine wpAny_isSubtype_exc hC ?_; rw [hs])
    | wp_step)
  cases b <;> (wp_walk; exact hq)
end
end L2

/-! attributes of exceptions of one's own: stored by their __init__, read in a handler -/
namespace L2
open PySem PyProof.Rows
abbrev VB : List Value := [.type "ValueError", .type "Exception", .type "BaseException", .type "object"]
/-- an exception class of the text: its base R is a class of the text under ValueError; fI its own __init__ -/
structure ExCl (K : PySem.W.Frag) (C R fI : Addr) : Prop where
  obj : ∃ (nm qn : Str) (N : Addr) (bs : List Value) (sn : List Str) (sub : List Value) (ab : Bool) (col : Option Bool) (dd : Option Addr) (k0 k1 k2 k3 k5 : Option Value),
    K.lookup C = some (xcls nm qn C N bs (.ref R :: VB) true sn sub ab col dd k0 k1 k2 k3 k5) ∧ PySem.W.nsOkIn K N = true ∧ PySem.W.nsIn K N "__init__" = some (some (.ref fI))
  fn : PySem.W.isFn K (.ref fI) = true
  kp : PySem.W.keepIn K (.ref C) = true
  sa : PySem.W.findIn K (.ref C) "__setattr__" = some (some (.builtin "object.__setattr__"))
  ga : PySem.W.findIn K (.ref C) "__getattribute__" = some (some (.builtin "BaseException.__getattribute__"))
  gh : PySem.W.findIn K (.ref C) "__getattr__" = some none
theorem xtail (R : Addr) : XTail (.ref R :: VB) := ⟨rfl, rfl, rfl, rfl⟩
theorem ns_some_of {K : PySem.W.Frag} {h : Heap} {N : Addr} {m : Str → Option Value} {n : Str} {v : Value} (X : K.In h) (G : h.Ns N m) (e : PySem.W.nsIn K N n = some (some v)) : m n = some v := by
  obtain ⟨o, es, ep, ho, hd, _, hf⟩ := G
  unfold PySem.W.nsIn at e
  cases q : K.lookup N with
  | none => rw [q] at e; cases e
  | some o' =>
    have z := X _ _ q
    rw [ho] at z; cases z
    rw [q] at e
    obtain ⟨c, d, dt, sl⟩ := o
    cases hd
    rw [← hf]
    unfold nsFind findBy
    rw [← Array.find?_toList]
    dsimp only at e
    cases q2 : es.toList.find? (fun x => x.key.isStr n) with
    | some y =>
      rw [q2] at e
      exact congrArg (fun z : Option (Option Value) => z.getD none) e
    | none =>
      rw [q2] at e
      dsimp only at e
      split at e <;> cases e
theorem ExCl.cls {K : PySem.W.Frag} {C R fI : Addr} (c : ExCl K C R fI) {h : Heap} (X : K.In h) :
    ∃ (nm qn : Str) (N : Addr) (bs : List Value) (sn : List Str) (sub : List Value) (ab : Bool) (col : Option Bool) (dd : Option Addr) (k0 k1 k2 k3 k5 : Option Value) (mN : Str → Option Value) (oI : Obj),
      h.get? C = some (xcls nm qn C N bs (.ref R :: VB) true sn sub ab col dd k0 k1 k2 k3 k5) ∧ h.Ns N mN ∧ mN "__init__" = some (.ref fI) ∧ h.get? fI = some oI ∧ oI.cls = .type "function" := by
  obtain ⟨nm, qn, N, bs, sn, sub, ab, col, dd, k0, k1, k2, k3, k5, lk, nsok, nsi⟩ := c.obj
  have hN := Heap.Ns.of_isNs (PySem.W.isNs_of_in X nsok)
  have hf := c.fn
  unfold PySem.W.isFn PySem.W.typeIn at hf
  have hf' := beq_iff_eq.mp hf
  obtain ⟨oI, q, r⟩ := Option.map_eq_some_iff.mp hf'
  exact ⟨nm, qn, N, bs, sn, sub, ab, col, dd, k0, k1, k2, k3, k5, _, oI, X _ _ lk, hN, ns_some_of X hN nsi, X _ _ q, r⟩
section
variable {prog : Program} {w : World} {A : Around} {E : Value → Shared → Prop} {s : Shared} {K : PySem.W.Frag} {e C R fI : Addr} {oe : Obj} {vs : Array Value} {name : Str} {v : Value}
theorem inst_of {od : Option Obj} (he : s.heap.get? e = some oe) (oc : oe.cls = .ref C) (hd : oe.data = .fields vs) (hx : match oe.dict, od with | some dx, some o => s.heap.get? dx = some o | none, none => True | _, _ => False) : PySem.W.InstAt s.heap e oe C od :=
  ⟨he, oc, by unfold PySem.W.notCls; rw [hd], hx⟩
theorem ExCl.clsIn (c : ExCl K C R fI) : ∃ cd, PySem.W.clsIn K C = some cd ∧ cd.mro = .ref C :: .ref R :: VB ∧ cd.hasDict = true := by
  obtain ⟨nm, qn, N, bs, sn, sub, ab, col, dd, k0, k1, k2, k3, k5, lk, _⟩ := c.obj
  exact ⟨_, by unfold PySem.W.clsIn; rw [lk], rfl, rfl⟩
/-- the store itself is reached -/
theorem xset_open {od : Option Obj} {Q : Unit → Shared → Prop} (X : K.In s.heap) (c : ExCl K C R fI) (I : PySem.W.InstAt s.heap e oe C od) (hf : PySem.W.findIn K (.ref C) name = some none)
    (h : wpAny (model prog w) A.in1 (Builtin.ObjectAttr.storeInOwnDict (.ref e) (.ref C) (.str name s.toks) name v false)
      (fun fin s' => match fin with | .done (.ret _) => Q () s' | _ => False) (fun _ _ => False) { s with toks := s.toks + 1 }) :
    wpAny (model prog w) A (setAttr (.ref e) name v) Q E s := by
  have SF := PySem.F.store_ValueError
  obtain ⟨cd, hcd, hm, hh⟩ := c.clsIn
  refine PySem.W.set_plain X I c.sa ?_
  have mro : PySem.W.Looks (model prog w) s.heap (mroOf (.ref C)) (.ref C :: .ref R :: VB) := hm ▸ (PySem.W.looks_clsIn X hcd).andThen .now
  have isO : PySem.W.Looks (model prog w) s.heap (isInstance (.ref e) (.type "object")) true := I.type.andThen (PySem.W.looks_mroIn X (by
    unfold PySem.W.mroIn
    rw [hcd, Option.bind_some, hm, if_neg (by intro z; cases z)]
    rfl))
  refine codeAny_call_builtin SF.slot.plain SF.entry (@PySem.W.check_slot (model prog w) _ _ { s with toks := s.toks + 1 } "object.__setattr__" "object" "__setattr__" (.ref e) [.str name s.toks, v] [] _ SF.kind SF.split isO (SF.args (.ref e) (.str name s.toks) v) ?_)
  rw [PySem.W.osa_eq, refuse_eq]
  refine wpAny_bind (wpAny_bind (PySem.W.Looks.here (s := { s with toks := s.toks + 1 }) I.type (wpAny_bind (PySem.W.Looks.here (s := { s with toks := s.toks + 1 }) mro ?_))))
  rw [refuseLoop_ref, refuseLoop_ref, SF.passes]
  refine wpAny_pure (wpAny_bind (PySem.W.Looks.here (s := { s with toks := s.toks + 1 }) I.type (wpAny_bind (PySem.W.Looks.here (s := { s with toks := s.toks + 1 }) (PySem.W.looks_findIn X hf) (wpAny_bind (wpAny_pure ?_))))))
  refine wpAny_mono h (fun fin s' z => ?_) fun _ _ z => z.elim
  rcases fin with (_ | _ | _ | _) | _ <;> first | exact z | exact z.elim
/-- the first store: a dict is made -/
theorem xset_first {Q : Unit → Shared → Prop} (X : K.In s.heap) (c : ExCl K C R fI) (he : s.heap.get? e = some oe) (oc : oe.cls = .ref C) (hd : oe.data = .fields vs) (hx : oe.dict = none) (hf : PySem.W.findIn K (.ref C) name = some none)
    (h : ∀ h' dx tk, s.heap.objs.size ≤ dx → dx ≠ e → h'.get? e = some { oe with dict := some dx } → h'.Ns1 dx (fun y => if y = name then some v else none) → (∀ b o, b ≠ e → s.heap.get? b = some o → h'.get? b = some o) → Q () { s with heap := h', toks := tk }) :
    wpAny (model prog w) A (setAttr (.ref e) name v) Q E s := by
  obtain ⟨cd, hcd, hm, hh⟩ := c.clsIn
  refine xset_open X c (inst_of (od := none) he oc hd (by rw [hx]; trivial)) hf ?_
  obtain ⟨cc, dd, dt, sl⟩ := oe
  cases oc; cases hd; cases hx
  have ne : s.heap.objs.size ≠ e := Nat.ne_of_gt (Heap.lt_size he)
  unfold Builtin.ObjectAttr.storeInOwnDict Builtin.ObjectAttr.ownDictForStores instanceDict
  refine wpAny_bind (wpAny_pure ?_)
  refine wpAny_bind (wpAny_bind (wpAny_loadPart he (wpAny_bind (PySem.W.Looks.here (s := { s with toks := s.toks + 1 }) (PySem.W.looks_clsIn X hcd) ?_))))
  rw [hh]
  refine wpAny_bind (wpAny_alloc ?_)
  have he1 := Heap.get?_push_of_some ({ cls := .type "dict", data := .dict #[] } : Obj) he
  refine wpAny_bind (wpAny_update he1 ?_)
  refine wpAny_pure (a := some s.heap.objs.size) ?_
  have hg : ((s.heap.push ({ cls := .type "dict", data := .dict #[] } : Obj)).update e fun o => { o with dict := some s.heap.objs.size }).get? s.heap.objs.size = some ({ cls := .type "dict", data := .dict #[] } : Obj) := (Heap.get?_update_ne _ _ _ _ ne).trans (Heap.get?_push_at rfl rfl)
  have hE : ((s.heap.push ({ cls := .type "dict", data := .dict #[] } : Obj)).update e fun o => { o with dict := some s.heap.objs.size }).Ns s.heap.objs.size (fun _ => none) := ⟨_, #[], _, hg, rfl, fun y hy => absurd hy (by simp), fun _ => rfl⟩
  refine wpAny_bind (wpAny_pure (wpAny_bind (wpAny_nsSet1 (Heap.Ns1.of_empty hE) fun h' hn hs => ?_)))
  obtain ⟨oD, esD, epD, hoD, hdD, hcD⟩ := hn.count (PySem.Within.cons name v PySem.Within.nil)
  refine wpAny_bind (wpAny_lookBehind hoD (by rw [hdD]; exact pastItsLine_dict (Nat.le_trans hcD (by rw [List.length_cons, List.length_nil]; omega))) ?_)
  refine wpAny_pure (h h' s.heap.objs.size _ (Nat.le_refl _) ne ((hs.2 _ (Ne.symm ne)).trans (Heap.get?_update_self _ he1 rfl)) hn fun b o hb q => ?_)
  exact (hs.2 b (Nat.ne_of_lt (Heap.lt_size q))).trans ((Heap.get?_update_ne _ _ _ _ hb).trans (Heap.get?_push_of_some _ q))
/-- a later store -/
theorem xset_next {dx : Addr} {mA : Str → Option Value} {ns : List Str} {Q : Unit → Shared → Prop} (X : K.In s.heap) (c : ExCl K C R fI) (he : s.heap.get? e = some oe) (oc : oe.cls = .ref C) (hd : oe.data = .fields vs) (hx : oe.dict = some dx) (hN : s.heap.Ns1 dx mA) (hw : PySem.Within mA ns) (hz : ns.length ≤ sizeLine) (hf : PySem.W.findIn K (.ref C) name = some none)
    (h : ∀ h', h'.Ns1 dx (fun y => if y = name then some v else mA y) → Heap.SameBut dx s.heap h' → Q () { s with heap := h', toks := s.toks + 2 }) :
    wpAny (model prog w) A (setAttr (.ref e) name v) Q E s := by
  obtain ⟨cd, hcd, hm, hh⟩ := c.clsIn
  obtain ⟨o1, es1, ep1, ho1, _⟩ := id hN
  refine xset_open X c (inst_of (od := some o1) he oc hd (by rw [hx]; exact ho1)) hf ?_
  obtain ⟨cc, dd, dt, sl⟩ := oe
  cases oc; cases hd; cases hx
  unfold Builtin.ObjectAttr.storeInOwnDict Builtin.ObjectAttr.ownDictForStores instanceDict
  refine wpAny_bind (wpAny_pure ?_)
  refine wpAny_bind (wpAny_bind (wpAny_loadPart he (wpAny_bind (PySem.W.Looks.here (s := { s with toks := s.toks + 1 }) (PySem.W.looks_clsIn X hcd) ?_))))
  rw [hh]
  refine wpAny_pure (a := some dx) (wpAny_bind (wpAny_pure (wpAny_bind (wpAny_nsSet1 (s := { s with toks := s.toks + 1 }) hN fun h' hn hs => ?_))))
  obtain ⟨oD, esD, epD, hoD, hdD, hcD⟩ := hn.count (PySem.Within.cons name v hw)
  refine wpAny_bind (wpAny_lookBehind hoD (by rw [hdD]; exact pastItsLine_dict (Nat.le_trans hcD (by rw [List.length_cons]; omega))) ?_)
  exact wpAny_pure (h _ hn hs)
end
end L2

namespace L2
open PySem PyProof.Rows
section
variable {prog : Program} {w : World} {A : Around} {E : Value → Shared → Prop} {s : Shared} {K : PySem.W.Frag} {e C R fI : Addr} {oe : Obj} {vs : Array Value} {name : Str} {v : Value}
/-- an attribute of an exception is read -/
theorem xget {expr : Bool} {od : Option Obj} {Q : Value → Shared → Prop} (X : K.In s.heap) (c : ExCl K C R fI) (I : PySem.W.InstAt s.heap e oe C od) (hf : PySem.W.findObj K C od name = some (.value v)) (hh : PySem.W.handedIn v = true) (h : Q v { s with toks := s.toks + 1 }) :
    wpAny (model prog w) A (getAttr (.ref e) name expr) Q E s := by
  obtain ⟨cd, hcd, hm, _⟩ := c.clsIn
  have isB : PySem.W.Looks (model prog w) s.heap (isInstance (.ref e) (.type "BaseException")) true := I.type.andThen (PySem.W.looks_mroIn X (by
    unfold PySem.W.mroIn
    rw [hcd, Option.bind_some, hm, if_neg (by intro z; cases z)]
    rfl))
  have L0 := I.type (M := model prog w)
  have L1 := PySem.W.looks_findIn (M := model prog w) X c.ga
  have L2 := PySem.W.looks_findIn (M := model prog w) X c.gh
  have L3 := PySem.W.looks_find (M := model prog w) X I hf
  have hx0 : (expr && onTheHeap (Value.builtin "BaseException.__getattribute__")) = false := by cases expr <;> rfl
  obtain ⟨hp, g, d, t, os⟩ := s
  unfold getAttr getAttrBy
  refine wpAny_bind (wpAny_mkText (wpAny_holding (wpAny_bind (L0.at (wpAny_bind (L1.at ?_))))))
  show wpAny _ _ (getAttrByItsOwn _ _ _ _ _ _) _ _ _
  unfold getAttrByItsOwn
  refine wpAny_bind (show wpAny _ _ (typeLookup (.ref C) "__getattr__") _ _ _ from L2.at ?_)
  have FB := PySem.F.attr_ValueError.ga
  have hk : builtinKind "BaseException.__getattribute__" = some .slot := by decide +kernel
  have hs : splitId "BaseException.__getattribute__" = some ("BaseException", "__getattribute__") := by decide +kernel
  refine wpAny_bind (wpAny_attempt (wpAny_holding ?_))
  unfold callGetattribute
  rw [hx0, if_neg Bool.false_ne_true]
  unfold boundAndCalled
  rw [FB.bind]
  refine wpAny_bind (wpAny_pure (wpAny_call ?_))
  show codeAny _ _ (.call (.builtin "BaseException.__getattribute__") ⟨[.ref e, .str name t], []⟩) _ _
  refine codeAny_call_builtin FB.plain PySem.F.entry_bexc_ga ?_
  refine @PySem.W.check_slot (model prog w) _ _ _ "BaseException.__getattribute__" "BaseException" "__getattribute__" (.ref e) [.str name t] [] _ hk hs isB (PySem.F.args_bexc_ga _ _) ?_
  unfold Builtin.«object.__getattribute__» slotArgs
  refine wpAny_bind (wpAny_pure ?_)
  refine wpAny_bind (wpAny_pure ?_)
  refine wpAny_bind (L0.at ?_)
  refine wpAny_bind (L3.at ?_)
  refine wpAny_pure ?_
  show wpAny _ _ (handedOut v) _ _ _
  rw [PySem.W.handedOut_of hh]
  exact wpAny_pure h
end
end L2

/-! exceptions of one's own over the hand layer: the abstract heap bears them, they leave defs, they are raised -/
namespace L2
open PySem PySem.Spec PyProof.Rows
/-- an exception that was made and has not flown -/
def Ex0 (e C : Addr) (dx : Option Addr) : HO := .ext fun h => ∃ oe vs, h.get? e = some oe ∧ oe.cls = .ref C ∧ oe.dict = dx ∧ oe.data = .fields vs ∧ 1 < vs.size ∧ vs[1]? = some .none
/-- one that flies, or has flown -/
def ExF (e C : Addr) (dx : Option Addr) : HO := .ext fun h => ∃ oe vs, h.get? e = some oe ∧ oe.cls = .ref C ∧ oe.dict = dx ∧ oe.data = .fields vs
theorem Ex0.ok {P : Program} {w : World} {H : Hp} {h : Heap} {e C : Addr} {dx : Option Addr} {oe : Obj} {vs : Array Value} (he : h.get? e = some oe) (hc : oe.cls = .ref C) (hx : oe.dict = dx) (hd : oe.data = .fields vs) (h1 : 1 < vs.size) (hv : vs[1]? = some .none) : ObjOk P w H h e (Ex0 e C dx) :=
  ⟨⟨oe, vs, he, hc, hx, hd, h1, hv⟩, ⟨oe, he⟩, fun _ _ ⟨oe, vs, a, b⟩ k => ⟨oe, vs, k _ a, b⟩⟩
theorem ExF.ok {P : Program} {w : World} {H : Hp} {h : Heap} {e C : Addr} {dx : Option Addr} {oe : Obj} {vs : Array Value} (he : h.get? e = some oe) (hc : oe.cls = .ref C) (hx : oe.dict = dx) (hd : oe.data = .fields vs) : ObjOk P w H h e (ExF e C dx) :=
  ⟨⟨oe, vs, he, hc, hx, hd⟩, ⟨oe, he⟩, fun _ _ ⟨oe, vs, a, b⟩ k => ⟨oe, vs, k _ a, b⟩⟩
theorem Xc.ok {P : Program} {w : World} {H : Hp} {h : Heap} {e C : Addr} {dx : Option Addr} {T : Addr} {fl : Option Value} (x : Xc h e C dx T fl) : ObjOk P w H h e (ExF e C dx) := by
  obtain ⟨oe, vs, he, hc, hx, hd, _⟩ := x
  exact ExF.ok he hc hx hd
structure Fly (X : Cx) (pins : List (Addr × Obj)) (σ : St) (H : Hp) (s : Shared) (e C : Addr) (dx : Option Addr) (T : Addr) (fl : Option Value) : Prop where
  inv : Inv X pins σ H s
  at_ : H e = some (ExF e C dx)
  xc : Xc s.heap e C dx T fl
  ye : X.s₀.heap.objs.size ≤ e
  fp : T = e ∨ FpOk X pins H T
section
variable {X : Cx} {pins : List (Addr × Obj)} {σ : St} {H H' : Hp} {s s' : Shared} {e C : Addr} {dx : Option Addr} {T : Addr} {fl : Option Value}
theorem Fly.moved (f : Fly X pins σ H s e C dx T fl) {h' : Heap} {T' : Addr} {fl' : Option Value} (m : Mv (frs X.stack) e T s.heap h') (hT : T' = T ∨ s.heap.objs.size ≤ T') (x' : Xc h' e C dx T' fl') :
    Fly X pins σ H { s with heap := h' } e C dx T' fl' := by
  have I := f.inv
  have nT : ∀ b u, H b = some u → b ≠ e → b ≠ T := fun b u q ne z => by
    rcases f.fp with y | y
    · exact ne (z.trans y)
    · rw [z, y.1] at q; cases q
  have hok : HOk X.prog X.w H h' := fun b u q => by
    by_cases hb : b = e
    · subst hb; rw [f.at_] at q; cases q; exact x'.ok
    · refine (I.hok b u q).stay (fun c v hc z => ?_) (fun _ z => z) fun _ _ z => z
      have hc' : ∃ u', H c = some u' ∧ c ≠ e := by
        rcases hc with rfl | hc
        · exact ⟨u, q, hb⟩
        · exact ⟨_, hc, fun y => by rw [y, f.at_] at hc; cases hc⟩
      obtain ⟨u', qc, nc⟩ := hc'
      exact (m c v z nc (nT c u' qc nc)).1 fun y => by rw [I.stkFree c y] at qc; cases qc
  obtain ⟨oe, vs, he, _⟩ := id x'
  have un : Un (frs X.stack) [T] H H s.heap h' := by
    have nn : ∀ b, H b = none → b ≠ e := fun b n z => by rw [z, f.at_] at n; cases n
    refine ⟨fun b o q n hb hx => (m b o q (nn b n) (fun z => hx (by simp [z]))).1 hb, fun b o q n _ hx => (m b o q (nn b n) (fun z => hx (by simp [z]))).2, fun _ _ _ n _ => n, fun b o q hx => ?_, fun _ _ q => q, fun _ _ _ q => q, fun _ ps q => ⟨#[], by rw [q]; simp⟩⟩
    by_cases hb : b = e
    · exact ⟨oe, hb ▸ he⟩
    · obtain ⟨_, sl, z⟩ := m b o q hb (fun z => hx (by simp [z]))
      exact ⟨_, z⟩
  have hch : ∀ b ∈ [T], (b ∈ X.ex ∨ X.s₀.heap.objs.size ≤ b) ∧ b ≠ X.env.locals ∧ (∀ x c, X.env.cells.lookup x = some c → c ≠ b) ∧ ∀ p ∈ X.pn ++ pins, p.1 ≠ b := fun b hb => by
    obtain rfl : b = T := by simpa using hb
    rcases f.fp with y | y
    · subst y
      refine ⟨.inr f.ye, fun z => ?_, fun x c q z => ?_, fun p hp z => ?_⟩
      · have := I.free; rw [← z, f.at_] at this; cases this
      · have := I.freeC x c q; rw [z, f.at_] at this; cases this
      · have := (I.pin p hp).2.1; rw [z, f.at_] at this; cases this
    · exact ⟨y.2.2.2.1, y.2.1, y.2.2.2.2.1, y.2.2.2.2.2⟩
  refine ⟨I.call (g' := s.gens) (t' := s.toks) (d' := s.drawn) un hok I.bare hch, f.at_, x', f.ye, ?_⟩
  rcases hT with z | z
  · rw [z]; exact f.fp
  · exact .inr (I.fpOk z (I.hok.fresh z))
theorem Xc.neT {h : Heap} {v : Value} (x : Xc h e C dx T (some v)) : T ≠ e := by
  obtain ⟨oe, vs, _, _, _, _, _, ⟨z, _⟩ | ⟨_, _, _, _, n, _⟩⟩ := x
  · cases z
  · exact n

/-- how an exception lies behind a call -/
def CXE (P : Program) (w : World) : CXT := fun outer H s E ev s' => ∃ (e C : Addr) (dx : Option Addr) (T : Addr) (H' : Hp), ev = .ref e ∧ s'.os = s.os ∧ AllBare s'.gens ∧ Un (frs outer) [] H H' s.heap s'.heap ∧ HOk P w H' s'.heap ∧
  H' e = some (ExF e C dx) ∧ Xc s'.heap e C dx T (some .none) ∧ s.heap.objs.size ≤ e ∧ s.heap.objs.size ≤ T ∧ H' T = none ∧ E ev none H'
theorem Fly.of_call {E : XK} {ev : Value} (I : Inv X pins σ H s) (h : CXE X.prog X.w X.stack H s E ev s') : ∃ e C dx T H', ev = .ref e ∧ Fly X pins σ H' s' e C dx T (some .none) ∧ E ev none H' := by
  obtain ⟨e, C, dx, T, H', rfl, os, ba, un, hok, at_, xc, ye, yT, hT, hE⟩ := h
  have I' := I.call' (ch := []) os un hok ba (fun b hb => absurd hb (by simp))
  exact ⟨e, C, dx, T, H', rfl, ⟨I', at_, xc, Nat.le_trans I.sz ye, .inr (I.fpOk yT hT)⟩, hE⟩
end
/-! ### an exception leaves a def -/
section
variable {P : Program} {w : World} {K : PySem.W.Frag} {mg : Str → Option Value} {base : Heap} {N : List Str} {qual : Str} {scope : Scope} {f : Addr} {cd : Value} {A : Around} {outer : List Env} {s₀ : Shared} {H₀ : Hp} {E E' : XK}
theorem leave_cx {pins : List (Addr × Obj)} {σ : St} {H : Hp} {s : Shared} {e C : Addr} {dx : Option Addr} {T : Addr} {fl : Option Value} (y : Fly (cxOf (CXE P w) P w K mg base N qual scope f cd A outer s₀ H₀ E) pins σ H s e C dx T fl)
    (hf : fl = none ∨ fl = some .none ∨ fl = some (rawInt s₀.heap.objs.size)) (hE : E (.ref e) none H) : (cxOf (CXE P w) P w K mg base N qual scope f cd A outer s₀ H₀ E).xe (.ref e) s := by
  have I := y.inv
  refine leave_ok (base := base) (env := envOfC qual scope s₀.heap.objs.size f cd) (outer := outer) I.ok.frames rfl I.stack y.xc hf fun h' T' hT x' m => ?_
  have y' := y.moved m hT x'
  have I' := y'.inv
  rcases y'.fp with z | z
  · exact absurd z x'.neT
  refine ⟨e, C, dx, T', H, rfl, I'.os, I'.bare, I'.base, I'.hok, y.at_, x', y.ye, ?_, z.1, hE⟩
  rcases z.2.2.2.1 with q | q
  · exact absurd (show T' ∈ ([] : List Addr) from q) (by simp)
  · exact q
/-- what a callee throws, the def throws -/
theorem passE (hE : ∀ v d H', E' v d H' → E v d H') : Passes (CXE P w) (cxOf (CXE P w) P w K mg base N qual scope f cd A outer s₀ H₀ E) E' := by
  intro pins σ H s ev s' I h
  obtain ⟨e, C, dx, T, H', rfl, y, q⟩ := Fly.of_call (X := cxOf (CXE P w) P w K mg base N qual scope f cd A outer s₀ H₀ E) I h
  exact leave_cx y (.inr (.inl rfl)) (hE _ _ _ q)
theorem passX {P : Program} {w : World} {X : Cx} : Passes (CXE P w) X E0 := fun _ _ _ _ _ _ _ h => by
  obtain ⟨_, _, _, _, _, _, _, _, _, _, _, _, _, _, _, q⟩ := h
  exact q.elim
/-- what is wanted of an exception that is raised here -/
def Raises (X : Cx) (S : St → Prop) (E : XK) : Prop := ∀ (pins : List (Addr × Obj)) (σ : St) (H : Hp) (s : Shared) (e C : Addr) (dx : Option Addr), S σ → Inv X pins σ H s → H e = some (Ex0 e C dx) → X.s₀.heap.objs.size ≤ e → E (.ref e) none (upd H e (ExF e C dx)) → X.xe (.ref e) s
/-- an exception that was made flies -/
theorem Fly.start {X : Cx} {pins : List (Addr × Obj)} {σ : St} {H : Hp} {s : Shared} {e C : Addr} {dx : Option Addr} (I : Inv X pins σ H s) (he : H e = some (Ex0 e C dx)) (ye : X.s₀.heap.objs.size ≤ e) :
    Fly X pins σ (upd H e (ExF e C dx)) s e C dx e none := by
  obtain ⟨⟨oe, vs, q, hc, hx, hd, h1, hv⟩, _⟩ := I.hok e _ he
  have I' : Inv X pins σ (upd H e (ExF e C dx)) s := by
    have := I.write (x := e) (e := e) (o := ExF e C dx) (t' := s.toks) (h' := s.heap) (by rw [he]; exact True.intro) (.inl rfl) (fun _ _ _ z => z) ⟨_, q⟩ (ExF.ok q hc hx hd)
    exact this
  exact ⟨I', upd_same, ⟨oe, vs, q, hc, hx, hd, h1, .inl ⟨rfl, rfl, hv⟩⟩, ye, .inl rfl⟩
theorem raisesE : Raises (cxOf (CXE P w) P w K mg base N qual scope f cd A outer s₀ H₀ E) (fun _ => True) E := fun pins σ H s e C dx _ I he ye hE => leave_cx (Fly.start I he ye) (.inl rfl) hE
end
/-- THE RULE for a def from which an exception may leave -/
theorem Fun.okE {P : Program} {w : World} {K : PySem.W.Frag} {mg : Str → Option Value} {base : Heap} {x qual : Str} {st : Stmt} {f : Addr} {fd : FuncData} {N ps : List Str} {k : Nat} {sp : Sp} (F : Fun K x qual st f fd) (S : FnScope N ps (defScope st)) (len : ∀ vs H Q E, sp vs H Q E → vs.length = ps.length)
    (hbody : ∀ (cdv : Value) (A : Around) (outer : List Env) (s : Shared) (H : Hp) (vs : List V) (Q : VK) (E : XK), Room k (A.deeper (envOfC qual (defScope st) s.heap.objs.size f cdv)) → sp vs H Q E →
      ∃ t, PSs (cxOf (CXE P w) P w K mg base N qual (defScope st) f cdv A outer s H E) (defBody st) t ∧ t { nx := fun _ H' => Q .non H', rt := Q } (start N vs) H) : FnOk P w K mg base (CXE P w) (k + 1) f fd ps sp := by
  obtain ⟨oc, od, kV, doc, pm, an, cdv, ct, osl, rfl, lk, hcd⟩ := F.ex
  exact fn_of lk hcd S len fun A outer s H vs Q E hr hsp => hbody cdv A outer s H vs Q E hr hsp
end L2

/-! try with an exception of one's own: body, handler, the name unbound -/
namespace L2
open PySem PySem.Spec PyProof.Rows
/-! ### the same state in another context -/
theorem Cx.Ok.re {X : Cx} (ok : X.Ok) (pn : List (Addr × Obj)) (E : Value → Shared → Prop) : Cx.Ok { X with pn := pn, xe := E } :=
  ⟨ok.mod, ok.kind, ok.glob, ok.blt, ok.above, ok.inj, ok.has, ok.cab, ok.hd, ok.frames, ok.stk, ok.exf, ok.bs, ok.bsz, ok.noex, ok.exfs, ok.funs, ok.frf⟩
theorem Cx.Ok.back {X : Cx} {pn : List (Addr × Obj)} {E : Value → Shared → Prop} (ok : Cx.Ok { X with pn := pn, xe := E }) : X.Ok :=
  ⟨ok.mod, ok.kind, ok.glob, ok.blt, ok.above, ok.inj, ok.has, ok.cab, ok.hd, ok.frames, ok.stk, ok.exf, ok.bs, ok.bsz, ok.noex, ok.exfs, ok.funs, ok.frf⟩
section
variable {X : Cx} {pins : List (Addr × Obj)} {σ : St} {H : Hp} {s : Shared}
theorem Inv.re (I : Inv X pins σ H s) (pn pins' : List (Addr × Obj)) (E : Value → Shared → Prop) (h : ∀ p ∈ pn ++ pins', p ∈ X.pn ++ pins) : Inv { X with pn := pn, xe := E } pins' σ H s :=
  ⟨I.ok.re pn E, I.os, I.bare, I.base, I.loc, I.cell, I.free, I.freeC, fun p hp => I.pin p (h p hp), I.hok, I.len⟩
theorem Inv.back {pn : List (Addr × Obj)} {E : Value → Shared → Prop} {pins' : List (Addr × Obj)} (I : Inv { X with pn := pn, xe := E } pins' σ H s) (h : ∀ p ∈ X.pn ++ pins, p ∈ pn ++ pins') : Inv X pins σ H s :=
  ⟨I.ok.back, I.os, I.bare, I.base, I.loc, I.cell, I.free, I.freeC, fun p hp => I.pin p (h p hp), I.hok, I.len⟩
/-- the wish within a try: the exception flies, the names are as S tells -/
def XT (X : Cx) (pn : List (Addr × Obj)) (S : St → Prop) (W : XK) : Value → Shared → Prop := fun ev s => ∃ (e C : Addr) (dx : Option Addr) (T : Addr) (fl : Option Value) (σ : St) (H : Hp),
  ev = .ref e ∧ Fly { X with pn := pn, xe := fun _ _ => False } [] σ H s e C dx T fl ∧ (fl = none ∨ fl = some .none) ∧ S σ ∧ W ev none H
/-- the context of a try's body -/
abbrev XB (X : Cx) (pn : List (Addr × Obj)) (S : St → Prop) (W : XK) : Cx := { X with pn := pn, xe := XT X pn S W }
theorem Fly.re {pn : List (Addr × Obj)} {E E' : Value → Shared → Prop} {e C : Addr} {dx : Option Addr} {T : Addr} {fl : Option Value} (f : Fly { X with pn := pn, xe := E } pins σ H s e C dx T fl) : Fly { X with pn := pn, xe := E' } [] σ H s e C dx T fl := by
  refine ⟨?_, f.at_, f.xc, f.ye, ?_⟩
  · exact Inv.re (X := { X with pn := pn, xe := E }) f.inv pn [] E' (fun p hp => by
      rw [List.append_nil] at hp
      exact List.mem_append_left _ hp)
  · rcases f.fp with z | ⟨a1, a2, a3, a4, a5, a6⟩
    · exact .inl z
    · exact .inr ⟨a1, a2, a3, a4, a5, fun p hp => a6 p (by
        have hp' : p ∈ pn ++ [] := hp
        rw [List.append_nil] at hp'
        exact List.mem_append_left _ hp')⟩
/-- .. an exception of a callee, where the names are as S tells -/
def PassesS (CX : CXT) (X : Cx) (S : St → Prop) (E : XK) : Prop := ∀ (pins : List (Addr × Obj)) (σ : St) (H : Hp) (s : Shared) (e : Value) (s' : Shared), S σ → Inv X pins σ H s → CX X.stack H s E e s' → X.xe e s'
theorem passT {pn : List (Addr × Obj)} {S : St → Prop} {W : XK} : PassesS (CXE X.prog X.w) (XB X pn S W) S W := by
  intro pins σ H s ev s' hS I h
  obtain ⟨e, C, dx, T, H', rfl, y, q⟩ := Fly.of_call (X := XB X pn S W) I h
  exact ⟨e, C, dx, T, _, σ, H', rfl, y.re, .inr rfl, hS, q⟩
end
/-! ### calls within a try -/
section
variable {X : Cx} {CX : CXT} {k : Nat} {f C : Addr} {fd : FuncData} {ps : List Str} {sp : Sp} {dvs : List V} {ds : List Value} {E : XK} {S : St → Prop} {x m : Str} {p pos apos : Pos} {e o : Expr} {es : List Expr} {ta : TE} {t : TA}
theorem run_fnS {pins : List (Addr × Obj)} {σ : St} {H : Hp} {s : Shared} {Q : VK} {us : List Value} {vs : List V} (F : FnOk X.prog X.w X.K X.mg X.base CX k f fd ps sp) (hr : Room k X.A) (hb : Binds X.K fd ps ds) (hd : Vals dvs ds) (hx : PassesS CX X S E) (hS : S σ)
    (I : Inv X pins σ H s) (r : Vals vs us) (h : sp (vs ++ dvs) H Q E) : wpAny (model X.prog X.w) X.A (call (.ref f) us) (EP X pins σ Q) X.xe s := by
  have r2 : Vals (vs ++ dvs) (us ++ ds) := r.append hd
  have hl : (us ++ ds).length = ps.length := by rw [← r2.length]; exact F.len _ _ _ _ h
  refine wpAny_call (codeAny_mono (F.run X.A X.stack s H ⟨us, []⟩ (us ++ ds) (vs ++ dvs) Q E hr I.env0 (hb s us I.kIn hl) r2 h) fun r s' hq => ?_)
  cases r with
  | error e => exact hx pins σ H s e s' hS I hq
  | ok fl =>
    cases fl with
    | ret u => exact I.after hq
    | next => exact False.elim hq
    | brk => exact False.elim hq
    | cont => exact False.elim hq
def tCallS (S : St → Prop) (sp : Sp) (dvs : List V) (E : XK) (t : TA) : TE := fun σ H Q => t σ H fun vs H1 => S σ ∧ sp (vs ++ dvs) H1 Q E
def tMethS (S : St → Prop) (C : Addr) (m : Str) (sp : Sp) (dvs : List V) (E : XK) (ta : TE) (t : TA) : TE := fun σ H Q => ta σ H fun x H1 => ∃ a dx fs, x = .ref a ∧ H1 a = some (.ins C dx fs) ∧ fs.lookup m = none ∧
  t σ H1 fun vs H2 => S σ ∧ sp (x :: (vs ++ dvs)) H2 Q E
theorem pe_callS (F : FnOk X.prog X.w X.K X.mg X.base CX k f fd ps sp) (hr : Room k X.A) (hg : Gl X x) (hm : X.mg x = some (.ref f)) (hk : PySem.W.keepIn X.K (.ref f) = true) (hb : Binds X.K fd ps ds) (hd : Vals dvs ds) (hx : PassesS CX X S E)
    (ha : PA X (e :: es) t) (hdb : (x == ("__debug__" : Str)) = false := by decide) (he : starEach (e :: es) X.env = (false, eval e X.env) :: starEach es X.env := by rfl) (hpl : (backTo pos (starEach es X.env)).any (·.1) = false := by rfl) :
    PE X (.Call (.Name x p) (e :: es) [] pos) (tCallS S sp dvs E t) := by
  intro pins s σ H Q I h
  refine wpAny_Call_Name_kw (ld_glob I hg hm ?_ hdb)
  refine PySem.W.callWith_K (h₀ := X.base) I.ok.mod.kin hk (thn (ha pos pins s σ H _ I h) fun us s1 ⟨vs, H1, I1, r, hS, q⟩ => ⟨I1.kIn, ?_⟩) he hpl
  exact run_fnS F hr hb hd hx hS I1 r q
theorem pe_methS {pl : Sem Bool} (he : PE X o ta) (c : Cls X.K C) (hm : Meth X.K C m f) (F : FnOk X.prog X.w X.K X.mg X.base CX k f fd ps sp) (hr : Room k X.A) (hb : Binds X.K fd ps ds) (hd : Vals dvs ds) (hx : PassesS CX X S E) (ha : PA X (e :: es) t)
    (hst : starEach (e :: es) X.env = (false, eval e X.env) :: starEach es X.env := by rfl) (hpl : (backTo pos (starEach es X.env)).any (·.1) = false := by rfl)
    (ht : eval (.Call (.Attribute o m apos) (e :: es) [] pos) X.env = (do
      let ov ← eval o X.env
      standAt apos.atName
      let (f, first) ← holding [ov] (getMethod ov m pl)
      callWith pos f first (backTo pos (starEach (e :: es) X.env)) (backToKw pos (keywordEach [] X.env))) := by rfl) :
    PE X (.Call (.Attribute o m apos) (e :: es) [] pos) (tMethS S C m sp dvs E ta t) := by
  intro pins s σ H Q I h
  refine PySem.W.methodCall_KW (pl := pl) (thn (he pins s σ H _ I h) fun u s1 ⟨x, H1, I1, rx, a, dx, fs, ex, ea, l, q⟩ => ?_) ht
  subst ex
  obtain rfl : u = Value.ref a := rx
  refine getmeth_ok I1 ea c hm l ?_
  refine PySem.W.callWith_K (first := [.ref a]) (h₀ := X.base) I.ok.mod.kin hm.kp (thn (ha pos pins s1 σ H1 _ I1 q) fun us s2 ⟨vs, H2, I2, r, hS, q2⟩ => ⟨I2.kIn, ?_⟩) hst hpl
  exact run_fnS (us := .ref a :: us) (vs := .ref a :: vs) F hr hb hd hx hS I2 (.cons rfl r) q2
end
/-! ### the handler -/
/-- an exception class of the text, and its line behind it -/
structure XCls (K : PySem.W.Frag) (C : Addr) (bm : List Value) : Prop where
  obj : ∃ (nm q : Str) (N : Addr) (bs : List Value) (hd : Bool) (sn : List Str) (sub : List Value) (ab : Bool) (col : Option Bool) (dd : Option Addr) (k0 k1 k2 k3 k5 : Option Value) (ni : String), K.lookup C = some (excClassObj nm q C N bs bm hd sn sub ab col dd k0 k1 k2 k3 k5 ni)
  b : bm.contains (.type "BaseException") = true
/-- the context of a handler's suite -/
abbrev XH (X : Cx) (e : Addr) : Cx := { X with A := X.A.mark (some (.ref e)), calm := false, xe := fun _ _ => False }
section
variable {X : Cx} {pins : List (Addr × Obj)} {σ : St} {H : Hp} {s : Shared}
theorem Inv.toH (I : Inv X pins σ H s) (e : Addr) : Inv (XH X e) pins σ H s :=
  ⟨⟨I.ok.mod, I.ok.kind, I.ok.glob, I.ok.blt, I.ok.above, I.ok.inj, I.ok.has, I.ok.cab, (fun z => by cases z), I.ok.frames, I.ok.stk, I.ok.exf, I.ok.bs, I.ok.bsz, I.ok.noex, I.ok.exfs, I.ok.funs, I.ok.frf⟩, I.os, I.bare, I.base, I.loc, I.cell, I.free, I.freeC, I.pin, I.hok, I.len⟩
theorem Inv.ofH {e : Addr} (hd : X.calm = true → X.A.handled = none) (I : Inv (XH X e) pins σ H s) : Inv X pins σ H s :=
  ⟨⟨I.ok.mod, I.ok.kind, I.ok.glob, I.ok.blt, I.ok.above, I.ok.inj, I.ok.has, I.ok.cab, hd, I.ok.frames, I.ok.stk, I.ok.exf, I.ok.bs, I.ok.bsz, I.ok.noex, I.ok.exfs, I.ok.funs, I.ok.frf⟩, I.os, I.bare, I.base, I.loc, I.cell, I.free, I.freeC, I.pin, I.hok, I.len⟩
/-- a local name is unbound -/
theorem Inv.unbound {h' : Heap} {m : Str → Option Value} {u : Option Value} {i : Nat} {n : Str} (I : Inv X pins σ H s) (hN : X.N.Nodup) (hi : X.N[i]? = some n) (hn : s.heap.Ns X.env.locals m)
    (hm : ∀ (j : Nat) (x : Str) (v : V), X.N[j]? = some x → σ[j]? = some (some v) → Vis X.env.scope x → ∃ u, RelV v u ∧ Look X.env s.heap m x u)
    (hn' : h'.Ns X.env.locals (fun x => if x = n then u else m x)) (sb : Heap.SameBut X.env.locals s.heap h') : Inv X pins (σ.set i none) H { s with heap := h' } := by
  have kp : ∀ b o, b ≠ X.env.locals → s.heap.get? b = some o → h'.get? b = some o := fun b o nb q => (sb.2 b nb).trans q
  have neL : ∀ b o, X.s₀.heap.get? b = some o → b ≠ X.env.locals := fun b o e => Nat.ne_of_lt (Nat.lt_of_lt_of_le (Heap.lt_size e) I.ok.above)
  have B := I.base
  refine ⟨I.ok, I.os, I.bare, ⟨fun b o q n1 hb hx => kp b o (neL b o q) (B.keep b o q n1 hb hx), fun b o q n1 hb hx => ?_, B.free, fun b o q hx => ?_, B.tups, B.frzs, B.tbls⟩, ⟨_, hn', fun j x v e1 e2 e3 => ?_⟩, fun x c e => ?_, I.free, I.freeC, fun p hp => ?_, ?_, ?_⟩
  · obtain ⟨sl, z⟩ := B.slot b o q n1 hb hx
    exact ⟨sl, kp b _ (neL b o q) z⟩
  · obtain ⟨o', z⟩ := B.there b o q hx
    exact ⟨o', kp b _ (neL b o q) z⟩
  · have hj : j ≠ i := fun z => by
      subst z
      rw [List.getElem?_set_self' ] at e2
      cases hz : σ[j]? with
      | none => rw [hz] at e2; cases e2
      | some _ => rw [hz] at e2; cases e2
    rw [List.getElem?_set_ne (Ne.symm hj)] at e2
    obtain ⟨u', ru, l⟩ := hm j x v e1 e2 e3
    have xn : x ≠ n := fun z => hj (nodup_ix hN e1 (z ▸ hi))
    refine ⟨u', ru, ?_⟩
    rcases l with ⟨k1, k2⟩ | ⟨k1, c, k2, o, ho, hd⟩
    · exact .inl ⟨k1, by show (if x = n then u else m x) = some u'; rw [if_neg xn]; exact k2⟩
    · exact .inr ⟨k1, c, k2, o, kp c o (I.cne x c k2) ho, hd⟩
  · obtain ⟨v, o, ho, hd⟩ := I.cell x c e
    exact ⟨v, o, kp c o (I.cne x c e) ho, hd⟩
  · obtain ⟨a1, a2, a3, a4, a5⟩ := I.pin p hp
    exact ⟨kp _ _ a3 a1, a2, a3, a4, a5⟩
  · intro b o q
    refine (I.hok b o q).stay (fun c v hc z => kp c v ?_ z) (fun _ z => z) fun _ _ z => z
    rintro rfl
    rcases hc with z | z
    · rw [← z, I.free] at q; cases q
    · rw [I.free] at z; cases z
  · rw [List.length_set]; exact I.len
/-- the except clause is reached with an exception that flies -/
def tTry (tb : (St → Prop) → XK → TS) (K : PySem.W.Frag) (Cn : Addr) (i : Nat) (ts : TS) : TS := fun D σ H => ∃ (S : St → Prop) (W : XK), tb S W D σ H ∧
  ∀ (σ' : St) (e : Addr) (H' : Hp), S σ' → W (.ref e) none H' → ∃ C dx bm, H' e = some (ExF e C dx) ∧ XCls K C bm ∧ (Value.ref C :: bm).contains (.ref Cn) = true ∧
    ts { nx := fun σ2 H2 => D.nx (σ2.set i none) H2, rt := D.rt, bk := fun σ2 H2 => D.bk (σ2.set i none) H2, ct := fun σ2 H2 => D.ct (σ2.set i none) H2 } (σ'.set i (some (.ref e))) H'
theorem ps_try {body : List Stmt} {b0 : Stmt} {suite : List Stmt} {rest : List ExceptHandler} {cn n : Str} {Cn : Addr} {i : Nat} {tb : (St → Prop) → XK → TS} {ts : TS} {p hp pos : Pos} (hcalm : X.calm = true) (hst : X.stack = X.env :: X.outer) (hfr : X.env.frame = some X.env.locals)
    (hg : Gl X cn) (hm : X.mg cn = some (.ref Cn)) {bmn : List Value} (hcl : XCls X.K Cn bmn)
    (hN : X.N.Nodup) (hi : X.N[i]? = some n) (hn : X.env.scope.names.lookup n = some .local)
    (hb : ∀ pn S W, PSs (XB X pn S W) body (tb S W)) (hs : ∀ e, PSs (XH X e) (b0 :: suite) ts) (hdb : (cn == ("__debug__" : Str)) = false := by decide) :
    PS X (.Try body (.ExceptHandler (some (.Name cn p)) (some n) (b0 :: suite) hp :: rest) [] [] pos) (tTry tb X.K Cn i ts) := by
  intro pins s σ H D I h
  obtain ⟨S, W, hbody, hh⟩ := h
  refine wpAny_Try_except (wpAny_mono (hb (X.pn ++ pins) S W [] s σ H D (I.re (X.pn ++ pins) [] _ (fun q hq => by rwa [List.append_nil] at hq)) hbody) (fun f s1 hf => ?_) fun ev s1 hx => ?_)
  · have bk : ∀ {σ' : St} {H' : Hp}, Inv (XB X (X.pn ++ pins) S W) [] σ' H' s1 → Inv X pins σ' H' s1 := fun {σ' H'} J => J.back (fun q hq => by rw [List.append_nil]; exact hq)
    cases f with
    | next =>
      obtain ⟨σ', H', J, q⟩ := hf
      exact wpAny_execs_nil ⟨σ', H', bk J, q⟩
    | brk => obtain ⟨σ', H', J, q⟩ := hf; exact ⟨σ', H', bk J, q⟩
    | cont => obtain ⟨σ', H', J, q⟩ := hf; exact ⟨σ', H', bk J, q⟩
    | ret u => obtain ⟨v, σ', H', J, r, q⟩ := hf; exact ⟨v, σ', H', bk J, r, q⟩
  · obtain ⟨e, C, dx, T, fl, σ', H', rfl, y, hfl, hS, hW⟩ := hx
    have hA : X.A.frames = some (X.env :: X.outer) := hst ▸ I.ok.frames
    have ff : s1.heap.FunFrames X.base (X.env :: X.outer) := hst ▸ y.inv.stack
    refine note_ok hA hfr ff y.xc (hfl.imp id .inl) fun h1 T1 q1 x1 m1 => ?_
    have y1 := y.moved (by show Mv (frs X.stack) _ _ _ _; rw [hst]; exact m1) q1 x1
    refine flight_ok x1 fun h2 x2 m2 => ?_
    have y2 := y1.moved (h' := h2) (fun b o q ne nT => ⟨fun _ => (m2 b o q ne nT).1 (by simp), (m2 b o q ne nT).2⟩) (.inl rfl) x2
    obtain ⟨C', dx', bm, hat, hxc, hmro, hsu⟩ := hh σ' e H' hS hW
    have eqs : C' = C ∧ dx' = dx := by
      have z := y.at_.symm.trans hat
      obtain ⟨⟨oe, vs, a1, a2, a3, _⟩, _⟩ := y.inv.hok e _ y.at_
      obtain ⟨⟨oe', vs', b1, b2, b3, _⟩, _⟩ := y.inv.hok e _ hat
      rw [a1] at b1
      cases b1
      exact ⟨by rw [a2] at b2; exact (Value.ref.inj b2).symm, b3.symm.trans a3⟩
    obtain ⟨rfl, rfl⟩ := eqs
    have I2 : Inv X pins σ' H' { s1 with heap := h2 } := y2.inv.back (fun q hq => by rw [List.append_nil]; exact hq)
    refine wpAny_handleBy_cons (codeAny_handlers_test ?_) (by intro z; cases z)
    refine ld_glob (X := XH X e) (I2.toH e) hg hm ?_ hdb
    obtain ⟨oe, vs, he, oc, _⟩ := id x2
    have match_ : ∀ {Q : Bool → Shared → Prop} {E : Value → Shared → Prop}, Q true { s1 with heap := h2 } → wpAny (model X.prog X.w) (X.A.mark (some (.ref e))) (excMatches (.ref e) (.ref Cn)) Q E { s1 with heap := h2 } := fun {Q E} q => by
      obtain ⟨nm1, q1, N1, bs1, hd1, sn1, su1, ab1, co1, dd1, j0, j1, j2, j3, j5, ni1, lk1⟩ := hxc.obj
      obtain ⟨nm2, q2, N2, bs2, hd2, sn2, su2, ab2, co2, dd2, l0, l1, l2, l3, l5, ni2, lk2⟩ := hcl.obj
      exact xmatch (I2.kIn _ _ lk1) (I2.kIn _ _ lk2) hcl.b he oc hmro q
    refine match_ ?_
    refine codeAny_handlers_suite_as ?_
    refine flight_ok x2 fun h3 x3 m3 => ?_
    have y3 := y2.moved (h' := h3) (fun b o q ne nT => ⟨fun _ => (m3 b o q ne nT).1 (by simp), (m3 b o q ne nT).2⟩) (.inl rfl) x3
    have I3 : Inv X pins σ' H' { s1 with heap := h3 } := y3.inv.back (fun q hq => by rw [List.append_nil]; exact hq)
    refine store_ok2 (X := XH X e) (I3.toH e) hN hi (.inl hn) (v := .ref e) rfl (fun s4 I4 _ => ?_) (.inr hn)
    refine wpAny_mono (hs e pins s4 _ H' _ I4 hsu) (fun fl5 s5 hf => ?_) fun _ _ z => z.elim
    have fin : ∀ {σ5 : St} {H5 : Hp} {P5 : Shared → Prop}, Inv (XH X e) pins σ5 H5 s5 → (∀ s6, Inv X pins (σ5.set i none) H5 s6 → P5 s6) →
        wpAny (model X.prog X.w) X.A (do bindName X.env n .none; unbindBehindTheSuite X.env n hp) (fun _ s6 => P5 s6) X.xe s5 := fun {σ5 H5 P5} J q => by
      have J' : Inv X pins σ5 H5 s5 := J.ofH I.ok.hd
      refine wpAny_bind (wpAny_bindName (store_ok2 (X := X) J' hN hi (.inl hn) (v := .non) rfl (fun s6 J6 _ => ?_) (.inr hn)))
      obtain ⟨m, hm6, hl6⟩ := id J6.loc
      have hv : ∃ v, m n = some v := by
        have hiσ : i < σ5.length := by rw [J'.len]; exact (List.getElem?_eq_some_iff.mp hi).1
        obtain ⟨u, _, l⟩ := hl6 i n .non hi (by rw [List.getElem?_set_self hiσ]) (.inl hn)
        rcases l with ⟨_, z⟩ | ⟨z, _⟩
        · exact ⟨u, z⟩
        · have hn' : X.env.kindOf n = some .local := hn
          rcases z with z | z <;> (rw [hn'] at z; cases z)
      obtain ⟨v, hv⟩ := hv
      unfold unbindBehindTheSuite
      refine wpAny_onRaise (wpAny_unbindName_local hn hm6 hv (by rw [J'.ok.kind]; rfl) fun h7 u7 hn7 sb7 => ?_)
      have := J6.unbound hN hi hm6 hl6 hn7 sb7
      rw [List.set_set] at this
      exact q _ this
    cases fl5 with
    | next => obtain ⟨σ5, H5, J, q⟩ := hf; exact fin J fun s6 J6 => ⟨_, H5, J6, q⟩
    | brk => obtain ⟨σ5, H5, J, q⟩ := hf; exact fin J fun s6 J6 => ⟨_, H5, J6, q⟩
    | cont => obtain ⟨σ5, H5, J, q⟩ := hf; exact fin J fun s6 J6 => ⟨_, H5, J6, q⟩
    | ret u => obtain ⟨v, σ5, H5, J, r, q⟩ := hf; exact fin J fun s6 J6 => ⟨v, _, H5, J6, r, q⟩
end
end L2

/-! exceptions of one's own: made, their attributes, raised -/
namespace L2
open PySem PySem.Spec PyProof.Rows
/-- the dict of an exception -/
def XD (dx : Addr) (fs : List (Str × V)) : HO := .ext fun h => ∃ mA, h.Ns1 dx mA ∧ (∀ f, RelO (fs.lookup f) (mA f)) ∧ PySem.Within mA (fs.map (·.1))
theorem XD.ok {P : Program} {w : World} {H : Hp} {h : Heap} {dx : Addr} {fs : List (Str × V)} (a : ∃ mA, h.Ns1 dx mA ∧ (∀ f, RelO (fs.lookup f) (mA f)) ∧ PySem.Within mA (fs.map (·.1))) : ObjOk P w H h dx (XD dx fs) := by
  obtain ⟨mA, ⟨o, es, ep, ho, z⟩, r⟩ := id a
  exact ⟨a, ⟨o, ho⟩, fun h1 h2 ⟨mA, ⟨o, es, ep, ho, z⟩, r⟩ k => ⟨mA, ⟨o, es, ep, k _ ho, z⟩, r⟩⟩
theorem upd_id {H : Hp} {a : Addr} {o : HO} (e : H a = some o) : upd H a o = H := by
  funext b
  unfold upd
  split
  · rename_i q; rw [q, e]
  · rfl
section
variable {X : Cx} {pins : List (Addr × Obj)} {σ : St} {H : Hp} {s : Shared} {e C R fI dx : Addr}
/-- the first attribute comes -/
theorem Inv.xfirst {h' : Heap} {t' : Nat} {oe : Obj} {vs : Array Value} {fs : List (Str × V)} (I : Inv X pins σ H s) (he : H e = some (Ex0 e C none)) (hx : s.heap.objs.size ≤ dx) (ne : dx ≠ e) (g : h'.get? e = some oe) (oc : oe.cls = .ref C) (od : oe.dict = some dx) (hd : oe.data = .fields vs) (h1 : 1 < vs.size) (hv : vs[1]? = some .none)
    (hn : ∃ mA, h'.Ns1 dx mA ∧ (∀ f, RelO (fs.lookup f) (mA f)) ∧ PySem.Within mA (fs.map (·.1))) (k : ∀ b o, b ≠ e → s.heap.get? b = some o → h'.get? b = some o) :
    Inv X pins σ (upd (upd H dx (XD dx fs)) e (Ex0 e C (some dx))) { s with heap := h', toks := t' } := by
  have nx : H dx = none := I.hok.fresh hx
  have eqs : ∀ b u, H b = some u → b ≠ e → upd (upd H dx (XD dx fs)) e (Ex0 e C (some dx)) b = some u := fun b u q nb => by
    rw [upd_ne nb, upd_ne (ne_of_none q nx)]; exact q
  refine I.un ⟨fun b o q n _ _ => k b o (ne_of_none he n).symm q, fun b o q n _ _ => ⟨o.slots, k b o (ne_of_none he n).symm q⟩, fun b o q n _ => ?_, fun b o q _ => ?_, fun b xs q => ?_, fun b o u q => ?_, fun b ps q => ⟨#[], ?_⟩⟩ fun b u q => ?_
  · rw [upd_ne (ne_of_none he n).symm, upd_ne (Nat.ne_of_lt (Nat.lt_of_lt_of_le (Heap.lt_size q) hx))]; exact n
  · by_cases hb : b = e
    · exact ⟨oe, hb ▸ g⟩
    · exact ⟨o, k b o hb q⟩
  · exact eqs b _ q fun z => by rw [z, he] at q; cases q
  · exact eqs b _ q fun z => by rw [z, he] at q; cases q
  · rw [eqs b _ q fun z => by rw [z, he] at q; cases q]; simp
  · by_cases hb : b = e
    · subst hb; rw [upd_same] at q; cases q; exact Ex0.ok g oc od hd h1 hv
    · rw [upd_ne hb] at q
      by_cases hb2 : b = dx
      · subst hb2; rw [upd_same] at q; cases q; exact XD.ok hn
      · rw [upd_ne hb2] at q
        refine (I.hok b u q).stay (fun c v hc z => k c v ?_ z) (fun c z => eqs c _ z fun y => by rw [y, he] at z; cases z) fun c xs z => eqs c _ z fun y => by rw [y, he] at z; cases z
        rcases hc with y | y
        · rw [y]; exact hb
        · intro z; rw [z, he] at y; cases y
/-- self.f = value, in the __init__ of an exception -/
def sXfld (K : PySem.W.Frag) (ta tv : TE) (f : Str) : TS := fun D σ H => tv σ H fun y H1 => ta σ H1 fun x H2 => ∃ e C R fI, x = .ref e ∧ ExCl K C R fI ∧ PySem.W.findIn K (.ref C) f = some none ∧
  ((H2 e = some (Ex0 e C none) ∧ ∀ dx, H2 dx = none → D.nx σ (upd (upd H2 dx (XD dx [(f, y)])) e (Ex0 e C (some dx)))) ∨
   ∃ dx fs, H2 e = some (Ex0 e C (some dx)) ∧ H2 dx = some (XD dx fs) ∧ fs.length < 1000 ∧ D.nx σ (upd H2 dx (XD dx (putF f y fs))))
theorem xstore {y : V} {u : Value} {f : Str} {A : Around} {E : Value → Shared → Prop} {Q : Unit → Shared → Prop} (I : Inv X pins σ H s) (c : ExCl X.K C R fI) (hf : PySem.W.findIn X.K (.ref C) f = some none) (ry : RelV y u) {N : Hp → Prop}
    (h : (H e = some (Ex0 e C none) ∧ ∀ dx, H dx = none → N (upd (upd H dx (XD dx [(f, y)])) e (Ex0 e C (some dx)))) ∨ ∃ dx fs, H e = some (Ex0 e C (some dx)) ∧ H dx = some (XD dx fs) ∧ fs.length < 1000 ∧ N (upd H dx (XD dx (putF f y fs))))
    (q : ∀ s' H', Inv X pins σ H' s' → N H' → Q () s') : wpAny (model X.prog X.w) A (setAttr (.ref e) f u) Q E s := by
  rcases h with ⟨he, hN⟩ | ⟨dx, fs, he, hd, hl, hN⟩
  · obtain ⟨⟨oe, vs, g, oc, ox, od, h1, hv⟩, _⟩ := I.hok e _ he
    refine xset_first I.kIn c g oc od ox hf fun h' dx tk hx ne g' hn k => ?_
    refine q _ _ (I.xfirst he hx ne g' oc rfl od h1 hv ⟨_, hn, fun z => ?_, fun z hz => ?_⟩ k) (hN dx (I.hok.fresh hx))
    · show RelO (List.lookup z [(f, y)]) (if z = f then some u else none)
      by_cases hz : z = f
      · rw [if_pos hz, hz]; simp only [List.lookup, beq_self_eq_true]; exact ry
      · have hb : (z == f) = false := beq_eq_false_iff_ne.mpr hz
        rw [if_neg hz]; simp only [List.lookup, hb]; exact True.intro
    · by_cases hz' : z = f
      · rw [hz']; exact List.mem_singleton.mpr rfl
      · exact absurd (if_neg hz') hz
  · obtain ⟨⟨oe, vs, g, oc, ox, od, h1, hv⟩, _⟩ := I.hok e _ he
    obtain ⟨⟨mA, hn, r, wi⟩, _⟩ := I.hok dx _ hd
    refine xset_next I.kIn c g oc od ox hn wi (by rw [List.length_map, sizeLine_eq]; omega) hf fun h' hn' sb => ?_
    have ho : ∃ o, h'.get? dx = some o := let ⟨o, _, _, e', _⟩ := hn'; ⟨o, e'⟩
    refine q _ _ (I.write (x := dx) (e := dx) (o := XD dx (putF f y fs)) (by rw [hd]; exact True.intro) (.inl rfl) (fun b o hb z => (sb.2 b hb).trans z) ho (XD.ok ⟨_, hn', fun z => ?_, fun z hz => ?_⟩)) hN
    · show RelO ((putF f y fs).lookup z) (if z = f then some u else mA z)
      rw [lookup_putF]
      by_cases q : z = f
      · rw [if_pos q, if_pos q]; exact ry
      · rw [if_neg q, if_neg q]; exact r z
    · by_cases q : z = f
      · rw [q]; exact (keys_putF f y fs).1
      · refine (keys_putF f y fs).2 z (wi z fun y' => hz ?_)
        show (if z = f then some u else mA z) = none
        rw [if_neg q]; exact y'
theorem ps_xfld {o value : Expr} {f : Str} {pos pos' : Pos} {ta tv : TE} (ha : PE X o ta) (hv : PE X value tv) (hs : swapsWith value (some (.Attribute o f pos')) pos.line X.env = pure false := by rfl) : PS X (.Assign [.Attribute o f pos'] value pos) (sXfld X.K ta tv f) := by
  intro pins s σ H D I h
  refine plainObj_wpAny_Assign_Attribute (thn (hv pins s σ H _ I h) fun u s1 ⟨y, H1, I1, ry, h1⟩ => thn (ha pins s1 σ H1 _ I1 h1) fun ov s2 ⟨x, H2, I2, rx, e, C, R, fI, ex, c, hf, h2⟩ => ?_) hs
  subst ex
  obtain rfl : ov = Value.ref e := rx
  exact xstore I2 c hf ry h2 fun s' H' I' q => ⟨σ, H', I', q⟩
/-- e.f of an exception -/
def tXfld (K : PySem.W.Frag) (ta : TE) (f : Str) : TE := fun σ H Q => ta σ H fun x H1 => ∃ e C R fI dx fs v, x = .ref e ∧ (H1 e = some (ExF e C (some dx)) ∨ H1 e = some (Ex0 e C (some dx))) ∧ H1 dx = some (XD dx fs) ∧ ExCl K C R fI ∧ PySem.W.findIn K (.ref C) f = some none ∧ fs.lookup f = some v ∧ Q v H1
theorem pe_xfld {o : Expr} {f : Str} {pos : Pos} {ta : TE} (he : PE X o ta) (hb : attributeBase o f X.env (eval o X.env) = eval o X.env) : PE X (.Attribute o f pos) (tXfld X.K ta f) := by
  intro pins s σ H Q I h
  refine attr_of hb (thn (he pins s σ H _ I h) fun u s1 ⟨x, H1, I1, rx, e, C, R, fI, dx, fs, v, ex, ea, ed, c, hf, l, q⟩ => ?_)
  subst ex
  obtain rfl : u = Value.ref e := rx
  obtain ⟨⟨mA, hn, r, wi⟩, _⟩ := I1.hok dx _ ed
  obtain ⟨u', hu, ru⟩ := RelO.some_of (v := v) (o := mA f) (by rw [← l]; exact r f)
  obtain ⟨oe, vs, g, oc, ox, od⟩ : ∃ oe vs, s1.heap.get? e = some oe ∧ oe.cls = .ref C ∧ oe.dict = some dx ∧ oe.data = .fields vs := by
    rcases ea with ea | ea
    · obtain ⟨⟨oe, vs, g, oc, ox, od⟩, _⟩ := I1.hok e _ ea; exact ⟨oe, vs, g, oc, ox, od⟩
    · obtain ⟨⟨oe, vs, g, oc, ox, od, _⟩, _⟩ := I1.hok e _ ea; exact ⟨oe, vs, g, oc, ox, od⟩
  obtain ⟨o1, ho, hl⟩ := lookIn_ns hn
  obtain ⟨cd, hcd, hm, hh⟩ := c.clsIn
  have hh' : PySem.W.hasDictIn X.K C = true := by unfold PySem.W.hasDictIn; rw [hcd]; exact hh
  exact xget I1.kIn c (inst_of (od := some o1) g oc od (by rw [ox]; exact ho)) (PySem.W.findObj_own hh' hf rfl (by rw [hl, hu])) (handed_of ru) ⟨v, H1, I1.tok _, ru, q⟩
end
/-! ### the __init__ of the classes above -/
structure CInit (K : PySem.W.Frag) (B f : Addr) : Prop where
  r : PySem.W.readsIn K B (.type "type") = true
  fd : PySem.W.findCls K (.ref B) (.type "type") "__init__" = some (.val (.ref f))
  g : PySem.W.specialIn K (.ref B) "__getattribute__" = some (some (.builtin "type.__getattribute__"))
  k : PySem.W.keepIn K (.ref f) = true
structure VInit (K : PySem.W.Frag) : Prop where
  ga : PySem.W.findIn K (.type "type") "__getattribute__" = some (some (.builtin "type.__getattribute__"))
  sub : PySem.W.subIn K (.type "type") (.type "type") = some true
  f : PySem.W.findCls K (.type "ValueError") (.type "type") "__init__" = some (.val (.builtin "ValueError.__init__"))
theorem tov_VE : typeOf (.type "ValueError") = pure (.type "type") := by kernel_rfl
theorem oca_VE : opaqueClassAbove (.type "ValueError") = pure none := by kernel_rfl
theorem hkb_type : hookBefore (.type "type") = pure none := by kernel_rfl
theorem tga_type : typeLookup (.type "type") "__getattribute__" = pure (some (.builtin "type.__getattribute__")) := by rw [typeLookup_type, builtinLookup_eq_fast]; kernel_rfl
theorem spv_VE : specialOf (.type "ValueError") "__getattribute__" = pure (some (.builtin "type.__getattribute__")) := by
  unfold specialOf
  rw [tov_VE]
  show typeLookup (.type "type") "__getattribute__" = _
  exact tga_type
section
variable {X : Cx} {CX : CXT} {k : Nat} {f B C R : Addr} {fd : FuncData} {ps : List Str} {sp : Sp} {dvs : List V} {ds : List Value} {E : XK} {x : Str} {p pos apos : Pos} {e o : Expr} {es : List Expr} {t : TA}
theorem pe_cinit {pl : Sem Bool} (c : CInit X.K B f) (ho : PE X o (tC (.ref B))) (F : FnOk X.prog X.w X.K X.mg X.base CX k f fd ps sp) (hr : Room k X.A) (hb : Binds X.K fd ps ds) (hd : Vals dvs ds) (hx : Passes CX X E) (ha : PA X (e :: es) t)
    (hst : starEach (e :: es) X.env = (false, eval e X.env) :: starEach es X.env := by rfl) (hpl : (backTo pos (starEach es X.env)).any (·.1) = false := by rfl)
    (ht : eval (.Call (.Attribute o "__init__" apos) (e :: es) [] pos) X.env = (do
      let ov ← eval o X.env
      standAt apos.atName
      let (f, first) ← holding [ov] (getMethod ov "__init__" pl)
      callWith pos f first (backTo pos (starEach (e :: es) X.env)) (backToKw pos (keywordEach [] X.env))) := by rfl) :
    PE X (.Call (.Attribute o "__init__" apos) (e :: es) [] pos) (tCall sp dvs E t) := by
  intro pins s σ H Q I h
  refine PySem.W.methodCall_KW (pl := pl) (thn (ho pins s σ H (fun v H1 => v = .ref B ∧ tCall sp dvs E t σ H1 Q) I ⟨rfl, h⟩) fun u s1 ⟨x, H1, I1, rx, ex, q⟩ => ?_) ht
  subst ex
  obtain rfl : u = Value.ref B := rx
  refine PySem.W.method_cls I1.kIn c.g (PySem.W.cls_value I1.kIn c.r c.fd rfl ?_)
  refine PySem.W.callWith_K (first := []) (h₀ := X.base) I.ok.mod.kin c.k (thn (ha pos pins _ σ H1 _ (I1.tok _) q) fun us s2 ⟨vs, H2, I2, r, q2⟩ => ⟨I2.kIn, ?_⟩) hst hpl
  exact run_fn F hr hb hd hx I2 r q2
/-- ValueError.__init__(self, words) -/
def tVinit (K : PySem.W.Frag) (t : TA) : TE := fun σ H Q => t σ H fun vs H1 => ∃ e v C R fI dx, vs = [.ref e, v] ∧ H1 e = some (Ex0 e C dx) ∧ ExCl K C R fI ∧ Q .non H1
theorem pe_vinit {pl : Sem Bool} (c : VInit X.K) (ho : PE X o (tC (.ty "ValueError"))) (ha : PA X (e :: es) t)
    (hst : starEach (e :: es) X.env = (false, eval e X.env) :: starEach es X.env := by rfl) (hpl : (backTo pos (starEach es X.env)).any (·.1) = false := by rfl)
    (ht : eval (.Call (.Attribute o "__init__" apos) (e :: es) [] pos) X.env = (do
      let ov ← eval o X.env
      standAt apos.atName
      let (f, first) ← holding [ov] (getMethod ov "__init__" pl)
      callWith pos f first (backTo pos (starEach (e :: es) X.env)) (backToKw pos (keywordEach [] X.env))) := by rfl) :
    PE X (.Call (.Attribute o "__init__" apos) (e :: es) [] pos) (tVinit X.K t) := by
  intro pins s σ H Q I h
  refine PySem.W.methodCall_KW (pl := pl) (thn (ho pins s σ H (fun v H1 => v = .ty "ValueError" ∧ tVinit X.K t σ H1 Q) I ⟨rfl, h⟩) fun u s1 ⟨x, H1, I1, rx, ex, q⟩ => ?_) ht
  subst ex
  obtain rfl : u = Value.type "ValueError" := rx
  have key : ∀ {Q' : Value × List Value → Shared → Prop}, Q' (.builtin "ValueError.__init__", []) { s1 with toks := s1.toks + 1 } → wpAny (model X.prog X.w) X.A (getMethod (.type "ValueError") "__init__" pl) Q' X.xe s1 := fun {Q'} q' => by
    unfold getMethod
    refine wpAny_bind ((PySem.W.Looks.of_pure spv_VE).here ?_)
    dsimp only
    rw [if_pos PySem.W.canon_tga]
    refine wpAny_bind (PySem.W.cls_open (hook := none) I1.kIn (PySem.W.Looks.of_pure oca_VE) (PySem.W.Looks.of_pure tov_VE) c.ga (PySem.W.Looks.of_pure hkb_type) c.sub c.f (wpAny_pure ?_))
    show wpAny _ _ (handedOut (.builtin "ValueError.__init__")) _ _ _
    rw [PySem.W.handedOut_of (v := .builtin "ValueError.__init__") rfl]
    exact wpAny_pure (wpAny_pure q')
  refine key ?_
  refine PyProof.Rows.callWith_builtin1 (thn (ha pos pins _ σ H1 _ (I1.tok _) q) fun us s2 ⟨vs, H2, I2, r, e', v, C, R, fI, dx, ev, he, cx, q2⟩ => ?_) hst hpl
  subst ev
  cases r with
  | cons r1 r2 =>
    cases r2 with
    | cons r3 r4 =>
      cases r4
      cases r1
      obtain ⟨⟨oe, vs, g, oc, ox, od, h1, hv⟩, _⟩ := I2.hok e' _ he
      obtain ⟨nm, qn, N, bs, sn, sub, ab, col, dd, k0, k1, k2, k3, k5, mN, oI, hC, _⟩ := cx.cls I2.kIn
      obtain ⟨hh, gg, d, tk, os⟩ := s2
      refine xinit (xtail R) hC g oc od h1 fun h' oe' vs' kp g' oc' ox' od' sz hv' => ?_
      have I3 := I2.write (x := e') (e := e') (o := Ex0 e' C dx) (t' := tk) (h' := h') (by rw [he]; exact True.intro) (.inl rfl) (fun b o nb z => kp b o nb z) ⟨_, g'⟩ (Ex0.ok g' (oc'.trans oc) (ox'.trans ox) od' (by rw [sz]; exact h1) (hv'.trans hv))
      rw [upd_id he] at I3
      exact ⟨.non, H2, I3, rfl, q2⟩
/-- C(..), C an exception class of the text -/
theorem run_makeX {pins : List (Addr × Obj)} {σ : St} {H : Hp} {s : Shared} {Q : VK} {us : List Value} {vs : List V} (c : ExCl X.K C R f) (F : FnOk X.prog X.w X.K X.mg X.base CX k f fd ps sp) (hr : Room (k + 1) X.A) (hb : Binds X.K fd ps ds) (hd : Vals dvs ds)
    (hx : Passes CX X E) (I : Inv X pins σ H s) (r : Vals vs us) (hz : vs.length ≤ sizeLine) (h : ∀ e, H e = none → sp (.ref e :: (vs ++ dvs)) (upd H e (Ex0 e C none)) (fun v H2 => v = .non ∧ Q (.ref e) H2) E) :
    wpAny (model X.prog X.w) X.A (call (.ref C) us) (fun u s' => ∃ e H', u = .ref e ∧ X.s₀.heap.objs.size ≤ e ∧ Inv X pins σ H' s' ∧ Q (.ref e) H') X.xe s := by
  obtain ⟨nm, qn, N, bs, sn, sub, ab, col, dd, k0, k1, k2, k3, k5, mN, oI, hC, hN, hi, hf, hfc⟩ := c.cls I.kIn
  obtain ⟨hh, g, d, t, os⟩ := s
  refine xmake (xtail R) hC hN hi hf hfc (by rw [← r.length]; exact hz) fun h' e mk ye => ?_
  obtain ⟨kp, en, t0, e1, tn, e2⟩ := mk
  have hE : H e = none := I.hok.fresh ye
  have I2 : Inv X pins σ (upd H e (Ex0 e C none)) ⟨h', g, d, t, os⟩ := I.laid (a := e) (o := Ex0 e C none) (t' := t) kp ye (Ex0.ok e1 rfl rfl rfl (by show 1 < 6; decide) rfl)
  have hq := h e hE
  have r2 : Vals (V.ref e :: (vs ++ dvs)) (Value.ref e :: (us ++ ds)) := .cons rfl (r.append hd)
  have hl : (Value.ref e :: us ++ ds).length = ps.length := by
    have e' := r2.length
    rw [F.len _ _ _ _ hq] at e'
    exact e'.symm
  refine wpAny_call (codeAny_mono (F.run _ X.stack _ _ ⟨Value.ref e :: us, []⟩ (Value.ref e :: (us ++ ds)) _ _ E (hr.make C us []) (I2.env0.make C us []) (hb _ (Value.ref e :: us) I2.kIn hl) r2 hq) fun rr s' hq' => ?_)
  cases rr with
  | error ev => exact hx pins σ _ _ ev s' I2 hq'
  | ok fl =>
    cases fl with
    | ret u =>
      obtain ⟨v, H', I3, rv, ev, q3⟩ := I2.after hq'
      subst ev
      exact ⟨rv, e, H', rfl, Nat.le_trans I.sz ye, I3, q3⟩
    | next => exact False.elim hq'
    | brk => exact False.elim hq'
    | cont => exact False.elim hq'
/-- raise C(..) -/
def tRaise (S : St → Prop) (C : Addr) (sp : Sp) (dvs : List V) (E : XK) (t : TA) : TS := fun _ σ H => S σ ∧ t σ H fun vs H1 => vs.length ≤ 1000 ∧ ∀ e, H1 e = none →
  sp (.ref e :: (vs ++ dvs)) (upd H1 e (Ex0 e C none)) (fun v H2 => v = .non ∧ ∃ e' dx, V.ref e = .ref e' ∧ H2 e' = some (Ex0 e' C dx) ∧ E (.ref e') none (upd H2 e' (ExF e' C dx))) E0
theorem ps_raise {S : St → Prop} {rpos : Pos} (c : ExCl X.K C R f) (F : FnOk X.prog X.w X.K X.mg X.base (CXE X.prog X.w) k f fd ps sp) (hr : Room (k + 1) X.A) (hg : Gl X x) (hm : X.mg x = some (.ref C)) (hb : Binds X.K fd ps ds) (hd : Vals dvs ds) (hra : Raises X S E) (ha : PA X (e :: es) t)
    (hdb : (x == ("__debug__" : Str)) = false := by decide) (he : starEach (e :: es) X.env = (false, eval e X.env) :: starEach es X.env := by rfl) (hpl : (backTo pos (starEach es X.env)).any (·.1) = false := by rfl) :
    PS X (.Raise (some (.Call (.Name x p) (e :: es) [] pos)) none rpos) (tRaise S C sp dvs E t) := by
  intro pins s σ H D I h
  obtain ⟨hS, h⟩ := h
  refine xRaise hr.hd ?_
  refine wpAny_Call_Name_kw (ld_glob I hg hm ?_ hdb)
  refine PySem.W.callWith_K (h₀ := X.base) I.ok.mod.kin c.kp (thn (ha pos pins s σ H _ I h) fun us s1 ⟨vs, H1, I1, r, hz, q⟩ => ⟨I1.kIn, ?_⟩) he hpl
  refine thn (run_makeX (E := E0) (Q := fun v H2 => ∃ e' dx, v = .ref e' ∧ H2 e' = some (Ex0 e' C dx) ∧ E (.ref e') none (upd H2 e' (ExF e' C dx))) c F hr hb hd passX I1 r (by rw [sizeLine_eq]; omega) q) fun u s2 ⟨e', H2, eu, ye, I2, e'', dx, e3, h2, hE⟩ => ?_
  · cases e3
    obtain ⟨⟨oe, vs', g, oc, ox, od, h1, hv⟩, _⟩ := I2.hok e' _ h2
    obtain ⟨nm, qn, N, bs, sn, sub, ab, col, dd, k0, k1, k2, k3, k5, mN, oI, hC, _⟩ := c.cls I2.kIn
    obtain ⟨c1, d1, dt1, sl1⟩ := oe
    cases oc; cases ox; cases od
    exact ⟨e', C, N, nm, qn, bs, _, true, sn, sub, ab, col, dd, k0, k1, k2, k3, k5, _, vs', sl1, eu, xtail R, hC, g, hv, hra pins σ H2 s2 e' C _ hS I2 h2 ye hE⟩
end
end L2

/-! repr of data, isinstance of an exception, isinstance of an empty dict among the rest -/
namespace L2
open PySem PySem.Spec PyProof.Rows
theorem se_sub {v i p} {es : List Expr} {env : Env} : starEach (.Subscript v i p :: es) env = (false, eval (.Subscript v i p) env) :: starEach es env := rfl
theorem se_bin {l o r p} {es : List Expr} {env : Env} : starEach (.BinOp l o r p :: es) env = (false, eval (.BinOp l o r p) env) :: starEach es env := rfl
section
variable {X : Cx}
theorem pstx_if {c : Expr} {a b : List Stmt} {tc : TT} {t u : TS} {pos : Pos} (hc : PT X c tc) (ha : PSx X a t) (hb : PSs X b u) : PStx X (.If c a b pos) (tIfS tc t u) := ⟨ps_if hc ha.h hb⟩
end
/-- data, the empty dict too -/
def DatE (K : PySem.W.Frag) (H : Hp) (x : V) (d : PyData) : Prop := (Dat K H x d ∧ d.hasDict = false) ∨ ((∃ a, x = .ref a ∧ H a = some (.dK [])) ∧ d = .dict [])
def rRepr (K : PySem.W.Frag) : List V → Hp → VK → Prop := fun xs H Q => ∃ x d, xs = [x] ∧ DatE K H x d ∧ d.showable = true ∧ d.depth ≤ 8 ∧ d.shown.length ≤ sizeLine ∧ Q (.str d.shown) H
section
variable {X : Cx}
theorem call_repr {K : PySem.W.Frag} (hK : X.K = K) (hg : X.A.guards = some []) (hu : X.A.units + 64 < cLine) : CallR X (.builtin "repr") (rRepr K) := by
  subst hK
  intro pins s σ H xs us Q I r h
  obtain ⟨x, d, rfl, hd, hs, hdep, hsz, q⟩ := h
  obtain ⟨u, rfl, rx⟩ := r.one
  have fin : ∀ (h' : Heap) (u : Tok) (tk : Nat), (∀ b o, s.heap.get? b = some o → h'.get? b = some o) → EP X pins σ Q (.str d.shown u) { s with heap := h', toks := tk } := fun h' u tk hk => ⟨.str d.shown, H, I.kept hk, ⟨u, rfl⟩, q⟩
  rcases hd with ⟨hd, hnd⟩ | ⟨⟨a, rfl, ha⟩, rfl⟩
  · cases x with
    | ref a =>
      cases rx
      obtain ⟨as, ra⟩ := I.reads hd rfl
      exact repr_of_reads' ra hs (PyData.noDict_hsm hnd) hg (by omega) (fun _ _ e => e) fin hsz
    | non => cases hd; cases rx; exact P.repr_of_none (fin s.heap _ _ (fun _ _ e => e))
    | bl b => cases hd; cases rx; cases b <;> exact P.repr_of_bool (fin s.heap _ _ (fun _ _ e => e))
    | int i =>
      cases hd
      obtain ⟨t, rfl⟩ := rx
      exact P.repr_of_int (by simpa [PyData.showable] using hs) (fin s.heap _ _ (fun _ _ e => e))
    | str x =>
      cases hd
      obtain ⟨t, rfl⟩ := rx
      exact P.repr_of_str (fin s.heap _ _ (fun _ _ e => e)) hsz
    | byt _ => cases hd
    | flt _ => cases hd
    | ty _ => cases hd
  · cases rx
    obtain ⟨_, hsm, vs, kv, o, es, ep, e1, hx, e2, _, e3, _⟩ := dk_of I.hok ha
    have ev : vs = [] := by cases kv; rfl
    subst ev
    have ee : es.toList = [] := by cases e3'' : es.toList with
      | nil => rfl
      | cons z zs => rw [e3''] at e3; cases e3
    have ra : Reads s.heap (.ref a) (.dict []) (a :: [] ++ []) := .dict e1 hx.1 e2 (by rw [ee]; exact .nil) (by rw [ee]; exact .nil)
    refine repr_of_reads' ra hs (fun _ z => ?_) hg (by show X.A.units + (0 + 1 + 1) < cLine; omega) (fun _ _ e => e) fin hsz
    have z' : sysModules = a := by simpa using z
    rw [z'] at hsm
    simp at hsm
/-- the type's name of a value, an empty dict's too -/
def tyM (K : PySem.W.Frag) (x : V) (H : Hp) (t : String) : Prop := tyN K x H t ∨ (t = "dict" ∧ ∃ p kvs, x = .ref p ∧ H p = some (.dK kvs))
theorem call_isiM : CallR X (.builtin "isinstance") (fun xs H Q => ∃ x T t, xs = [x, .ty T] ∧ T ∈ isiTs ∧ tyM X.K x H t ∧ Q (.bl (isa t T)) H) := by
  intro pins s σ H xs us Q I r h
  obtain ⟨x, T, t, rfl, hT, ht | ⟨rfl, p, kvs, rfl, hp⟩, q⟩ := h
  · exact call_isi pins s σ H _ us Q I r ⟨x, T, t, rfl, hT, ht, q⟩
  · exact call_isiD pins s σ H _ us Q I r ⟨p, T, kvs, rfl, hT, hp, q⟩
end
end L2

/-! == of lists of the very same things; a class made within a try -/
namespace L2
open PySem PySem.Spec PyProof.Rows
/-- a thing that is the same as itself by ==: flat, or an object -/
def SelfV (v : V) : Prop := flatV v = true ∨ ∃ r, v = .ref r
theorem eqV_self : ∀ {v : V}, flatV v = true → eqV v v = true
  | .non, _ => rfl
  | .bl b, _ => by cases b <;> rfl
  | .int i, _ => by simp [eqV]
  | .str x, _ => by simp [eqV]
theorem eqAt_self {A : Around} {s : Shared} {v : V} {u u' : Value} (h : SelfV v) (r : RelV v u) (r' : RelV v u') : SeqAt.EqAt A s u u' true := by
  rcases h with h | ⟨a, rfl⟩
  · have := eqAt_V (A := A) (s := s) r r' h h
    rw [eqV_self h] at this
    exact this
  · cases r
    cases r'
    exact SeqAt.EqAt.same _
def rEqSame (K : PySem.W.Frag) : R2 := fun x y H Q => ∃ a b xs, x = .ref a ∧ y = .ref b ∧ SqL K H a xs ∧ SqL K H b xs ∧ (∀ v ∈ xs, SelfV v) ∧ Q (.bl true) H
section
variable {X : Cx}
theorem op_eqSame (hu : X.A.units + 64 < cLine) : OpR X (compareOp .Eq) (rEqSame X.K) := by
  intro pins s σ H x y v u Q I rx ry h
  obtain ⟨a, b, xs, rfl, rfl, ha, hb, hs, q⟩ := h
  cases rx
  cases ry
  obtain ⟨i1, r1, p1, _⟩ := I.list ha
  obtain ⟨i2, r2, p2, _⟩ := I.list hb
  have l1 := r1.length
  have l2 := r2.length
  refine SeqAt.eq_listAt (e := fun _ => true) p1.isList p2.isList (by rw [List.size_toArray, List.size_toArray]; omega) (by omega) (fun j h1 h2 => ?_) ?_
  · have hj : j < xs.length := by rw [List.size_toArray] at h1; omega
    obtain ⟨u1, e1, q1⟩ := r1.get (List.getElem?_eq_getElem hj)
    obtain ⟨u2, e2, q2⟩ := r2.get (List.getElem?_eq_getElem hj)
    have f1 : i1.toArray[j] = u1 := by
      have := (List.getElem?_eq_some_iff.mp e1).2
      simpa using this
    have f2 : i2.toArray[j] = u2 := by
      have := (List.getElem?_eq_some_iff.mp e2).2
      simpa using this
    rw [f1, f2]
    exact eqAt_self (hs _ (List.getElem_mem hj)) q1 q2
  · rw [show ((List.range i1.toArray.size).all fun _ => true) = true by simp]
    exact ⟨.bl true, H, I, rfl, q⟩
end
/-! ### C(..) within a try -/
section
variable {X : Cx} {CX : CXT} {k : Nat} {f C : Addr} {fd : FuncData} {ps : List Str} {sp : Sp} {dvs : List V} {ds : List Value} {E : XK} {S : St → Prop} {x : Str} {p pos : Pos} {e : Expr} {es : List Expr} {t : TA}
def tMakeS (S : St → Prop) (C : Addr) (sp : Sp) (dvs : List V) (E : XK) (t : TA) : TE := fun σ H Q => t σ H fun vs H1 => S σ ∧ ∀ x dx, H1 x = none → H1 dx = none → dx ≠ x → sp (.ref x :: (vs ++ dvs)) (upd (upd H1 dx (.own x)) x (.ins C dx [])) (fun v H2 => v = .non ∧ Q (.ref x) H2) E
theorem pe_makeS (M : Mk X.K C f) (F : FnOk X.prog X.w X.K X.mg X.base CX k f fd ps sp) (hr : Room (k + 1) X.A) (hg : Gl X x) (hm : X.mg x = some (.ref C)) (hb : Binds X.K fd ps ds) (hd : Vals dvs ds) (hx : PassesS CX X S E)
    (ha : PA X (e :: es) t) (hdb : (x == ("__debug__" : Str)) = false := by decide) (he : starEach (e :: es) X.env = (false, eval e X.env) :: starEach es X.env := by rfl) (hpl : (backTo pos (starEach es X.env)).any (·.1) = false := by rfl) :
    PE X (.Call (.Name x p) (e :: es) [] pos) (tMakeS S C sp dvs E t) := by
  intro pins s σ H Q I h
  refine wpAny_Call_Name_kw (ld_glob I hg hm ?_ hdb)
  refine PySem.W.callWith_K (h₀ := X.base) I.ok.mod.kin M.kp (thn (ha pos pins s σ H _ I h) fun us s1 ⟨vs, H1, I1, r, hS, h⟩ => ⟨I1.kIn, ?_⟩) he hpl
  have hq := h (s1.heap.objs.size + 1) s1.heap.objs.size (I1.hok.fresh (Nat.le_succ _)) (I1.hok.fresh (Nat.le_refl _)) (Nat.ne_of_lt (Nat.lt_succ_self _))
  have I2 := Inv.made (C := C) I1
  have r2 : Vals (V.ref (s1.heap.objs.size + 1) :: (vs ++ dvs)) (Value.ref (s1.heap.objs.size + 1) :: (us ++ ds)) := .cons rfl (r.append hd)
  have hl : (Value.ref (s1.heap.objs.size + 1) :: us ++ ds).length = ps.length := by
    have e := r2.length
    rw [F.len _ _ _ _ hq] at e
    exact e.symm
  refine wpAny_call (make_map (f := f) I1.kIn M.makes M.init (beq_iff_eq.mp M.fn) (codeAny_mono (F.run _ X.stack _ _ ⟨Value.ref (s1.heap.objs.size + 1) :: us, []⟩ (Value.ref (s1.heap.objs.size + 1) :: (us ++ ds)) _ _ E (hr.make C us [])
    (I2.env0.make C us []) (hb _ (Value.ref (s1.heap.objs.size + 1) :: us) I2.kIn hl) r2 hq) fun r s' hq' => ?_))
  cases r with
  | error e => exact hx pins σ _ _ e s' hS I2 hq'
  | ok fl =>
    cases fl with
    | ret u =>
      obtain ⟨v, H', I3, rv, ev, q3⟩ := I2.after hq'
      subst ev
      exact ⟨rv, ⟨V.ref (s1.heap.objs.size + 1), H', I3, rfl, q3⟩⟩
    | next => exact False.elim hq'
    | brk => exact False.elim hq'
    | cont => exact False.elim hq'
end
end L2

/-! isinstance(e, another class) of an exception: no -/
namespace L2
open PySem PyProof.Rows
section
variable {prog : Program} {w : World} {A : Around} {E : Value → Shared → Prop} {s : Shared} {K : PySem.W.Frag} {e C R fI : Addr} {oe : Obj}
theorem xclass {od : Option Obj} {Q : Option Value → Shared → Prop} (X : K.In s.heap) (c : ExCl K C R fI) (I : PySem.W.InstAt s.heap e oe C od) (hf : PySem.W.findObj K C od "__class__" = some (.bind (.builtin "getset_descriptor.__get__") (.builtin "object.__class__"))) (hmo : PySem.W.mroIn K C (.type "object") = some true) (h : Q (some (.ref C)) { s with toks := s.toks + 1 }) :
    wpAny (model prog w) A (getAttr? (.ref e) "__class__") Q E s := by
  obtain ⟨cd, hcd, hm, _⟩ := c.clsIn
  have isB : PySem.W.Looks (model prog w) s.heap (isInstance (.ref e) (.type "BaseException")) true := I.type.andThen (PySem.W.looks_mroIn X (by
    unfold PySem.W.mroIn
    rw [hcd, Option.bind_some, hm, if_neg (by intro z; cases z)]
    rfl))
  have L0 := I.type (M := model prog w)
  have L1 := PySem.W.looks_findIn (M := model prog w) X c.ga
  have L2 := PySem.W.looks_findIn (M := model prog w) X c.gh
  have L3 := PySem.W.looks_find (M := model prog w) X I hf
  obtain ⟨hp, g, d, t, os⟩ := s
  unfold getAttr? getAttrBy? getAttrBy
  refine wpAny_bind (wpAny_mkText (wpAny_bind (wpAny_attempt (wpAny_holding (wpAny_bind (L0.at (wpAny_bind (L1.at ?_))))))))
  show wpAny _ _ (getAttrByItsOwn _ _ _ _ _ _) _ _ _
  unfold getAttrByItsOwn
  refine wpAny_bind (show wpAny _ _ (typeLookup (.ref C) "__getattr__") _ _ _ from L2.at ?_)
  have FB := PySem.F.attr_ValueError.ga
  have hk : builtinKind "BaseException.__getattribute__" = some .slot := by decide +kernel
  have hs : splitId "BaseException.__getattribute__" = some ("BaseException", "__getattribute__") := by decide +kernel
  refine wpAny_bind (wpAny_attempt (wpAny_holding ?_))
  unfold callGetattribute
  rw [if_neg (by intro z; cases z)]
  unfold boundAndCalled
  rw [FB.bind]
  refine wpAny_bind (wpAny_pure (wpAny_call ?_))
  show codeAny _ _ (.call (.builtin "BaseException.__getattribute__") ⟨[.ref e, .str "__class__" t], []⟩) _ _
  refine codeAny_call_builtin FB.plain PySem.F.entry_bexc_ga ?_
  refine @PySem.W.check_slot (model prog w) _ _ _ "BaseException.__getattribute__" "BaseException" "__getattribute__" (.ref e) [.str "__class__" t] [] _ hk hs isB (PySem.F.args_bexc_ga _ _) ?_
  unfold Builtin.«object.__getattribute__» slotArgs
  refine wpAny_bind (wpAny_pure ?_)
  refine wpAny_bind (wpAny_pure ?_)
  refine wpAny_bind (L0.at ?_)
  refine wpAny_bind (L3.at ?_)
  show wpAny _ _ (holding [Value.builtin "object.__class__"] (call (.builtin "getset_descriptor.__get__") [.builtin "object.__class__", .ref e, .ref C]) >>= ret) _ _ _
  refine wpAny_bind (wpAny_holding (wpAny_call ?_))
  refine PySem.W.class_get (s := ⟨hp, g, d, t + 1, os⟩) X I hmo ?_
  refine wpAny_pure ?_
  show wpAny _ _ (handedOut (.ref C)) _ _ _
  rw [PySem.W.handedOut_of rfl]
  exact wpAny_pure (wpAny_pure h)
/-- .. is of no other class -/
theorem xisnt {od : Option Obj} {D : Addr} {dep : Int} {tk : Tok} {Q : Fin → Shared → Prop} (X : K.In s.heap) (c : ExCl K C R fI) (I : PySem.W.InstAt s.heap e oe C od) (hf : PySem.W.findObj K C od "__class__" = some (.bind (.builtin "getset_descriptor.__get__") (.builtin "object.__class__"))) (hmo : PySem.W.mroIn K C (.type "object") = some true)
    (hn : PySem.W.kin_not K C D = true) (h : Q (.done (.ret (.bool false))) { s with toks := s.toks + 1 }) :
    wpAny (model prog w) A (Builtin.«isinstance.nested» ⟨[.ref e, .ref D, .int dep tk], []⟩) Q E s := by
  unfold PySem.W.kin_not at hn
  rw [Bool.and_eq_true, Bool.and_eq_true, Bool.and_eq_true] at hn
  obtain ⟨⟨⟨e0, e1⟩, e2⟩, e3⟩ := hn
  have hty := PySem.W.looks_typeIn (M := model prog w) X (beq_iff_eq.mp e2)
  have hsub := PySem.W.looks_subIn (M := model prog w) X (beq_iff_eq.mp e3)
  have isT : ∀ {B : Addr}, (PySem.W.clsIn K B).isSome = true → PySem.W.Looks (model prog w) s.heap (isType (.ref B)) true := fun {B} hB => by
    unfold PySem.W.clsIn at hB
    split at hB
    · rename_i c' d' cd' sl' ho
      intro A' Q' E' s' k q
      unfold isType loadHead
      exact wpAny_bind (wpAny_loadPart (k _ _ (X _ _ ho)) (wpAny_pure q))
    · cases hB
  have his := isT e1
  obtain ⟨cd, hcd, _⟩ := c.clsIn
  have hisD := isT (B := C) (by rw [hcd]; rfl)
  have hne : (Value.ref C == Value.ref D) = false := Bool.eq_false_iff.mpr fun q => of_decide_eq_true e0 (Value.ref.inj (beq_iff_eq.mp q))
  obtain ⟨h0, g, d, tt, os⟩ := s
  have L0 := I.type (M := model prog w)
  have LI : PySem.W.Looks (model prog w) h0 (isInstance (.ref e) (.ref D)) false := L0.andThen hsub
  unfold Builtin.«isinstance.nested»
  refine wpAny_bind (L0.at ?_)
  rw [if_neg (fun q => by rw [hne] at q; exact Bool.noConfusion q)]
  refine wpAny_bind (hty.at ?_)
  rw [if_pos (by decide)]
  k_delta "plainIsInstance"
  refine wpAny_bind (wpAny_bind (his.at ?_))
  simp only [Bool.not_true, Bool.false_eq_true, if_false]
  refine wpAny_bind (LI.at ?_)
  simp only [Bool.false_eq_true, if_false]
  refine wpAny_bind (xclass X c I hf hmo ?_)
  refine wpAny_bind (hisD.at ?_)
  simp only [Bool.not_true, Bool.false_eq_true, if_false]
  refine wpAny_bind (wpAny_rule ?_)
  refine hsub.at ?_
  first
    | exact wpAny_pure h
    | exact wpAny_pure (wpAny_pure h)
    | exact wpAny_bind (wpAny_pure (wpAny_pure h))
end
/-- facts by which an exception of C is none of D -/
structure XNot (K : PySem.W.Frag) (C D : Addr) : Prop where
  ha : PySem.W.findIn K (.ref C) "__class__" = some (some (.builtin "object.__class__"))
  hg : PySem.W.specialIn K (.builtin "object.__class__") "__get__" = some (some (.builtin "getset_descriptor.__get__"))
  ht : PySem.W.takesIn K (.builtin "object.__class__") = some true
  hm : PySem.W.mroIn K C (.type "object") = some true
  nt : PySem.W.kin_not K C D = true
section
variable {X : Cx}
theorem call_isxN {K : PySem.W.Frag} (hK : X.K = K) : CallR X (.builtin "isinstance") (fun xs H Q => ∃ e C D R fI dx fs, xs = [.ref e, .ref D] ∧ H e = some (ExF e C (some dx)) ∧ H dx = some (XD dx fs) ∧ ExCl K C R fI ∧ XNot K C D ∧ Q (.bl false) H) := by
  subst hK
  intro pins s σ H xs us Q I r h
  obtain ⟨e, C, D, R, fI, dx, fs, rfl, he, hd, c, x, q⟩ := h
  obtain ⟨u, v, rfl, ru, rv⟩ := vals2 r
  cases ru
  cases rv
  obtain ⟨⟨oe, vs, g, oc, ox, od⟩, _⟩ := I.hok e _ he
  obtain ⟨⟨mA, hn, _⟩, _⟩ := I.hok dx _ hd
  obtain ⟨o1, ho, _⟩ := lookIn_ns hn
  obtain ⟨cd, hcd, _⟩ := c.clsIn
  refine call_isinstance_of ?_ (by intro z; cases z)
  refine xisnt (od := some o1) I.kIn c (inst_of g oc od (by rw [ox]; exact ho)) (PySem.W.findObj_data (by rw [hcd]; rfl) x.ha x.hg x.ht) x.hm x.nt ?_
  exact ⟨.bl false, H, I.tok _, rfl, q⟩
end
/-! ### repr of a dict of flat things -/
def keyD : Key → PyData
  | .inl n => .int n
  | .inr x => .str x
def flatD : V → PyData
  | .bl b => .bool b
  | .int i => .int i
  | .str x => .str x
  | _ => .none
theorem reads_key {P : Program} {w : World} {h : Heap} {k : Key} {u : Value} (hk : (mixKind P w).is k u = true) : Reads h u (keyD k) [] := by
  rcases keyIs_shape hk with ⟨i, t, rfl, rfl⟩ | ⟨x, t, rfl, rfl⟩
  · exact .int _ _
  · exact .str _ _
theorem reads_flat {h : Heap} : ∀ {v : V} {u : Value}, flatV v = true → RelV v u → Reads h u (flatD v) []
  | .non, _, _, r => by cases r; exact .none
  | .bl b, _, _, r => by cases r; exact .bool b
  | .int i, _, _, r => by obtain ⟨t, rfl⟩ := r; exact .int i t
  | .str x, _, _, r => by obtain ⟨t, rfl⟩ := r; exact .str x t
theorem reads_dict {P : Program} {w : World} {h : Heap} : ∀ {kvs : List (Key × V)} {vs : List (Key × Value)} {es : List DictEntry}, KV kvs vs → Pairs (mixKind P w) es vs → (∀ p ∈ kvs, flatV p.2 = true) →
    ReadsAll h (es.map (·.key)) (kvs.map fun p => keyD p.1) [] ∧ ReadsAll h (es.map (·.val)) (kvs.map fun p => flatD p.2) []
  | [], _, _, r, p, _ => by cases r; cases p; exact ⟨.nil, .nil⟩
  | (k, v) :: kvs, _, _, r, p, hf => by
    cases r with
    | cons r1 r2 =>
      cases p with
      | cons p1 p2 p3 =>
        obtain ⟨a, b⟩ := reads_dict (h := h) r2 p3 fun q hq => hf q (List.mem_cons_of_mem _ hq)
        have e1 : k = _ := r1.1
        refine ⟨ReadsAll.cons (reads_key (by rw [e1]; exact p1)) a, ReadsAll.cons (reads_flat (hf _ (List.mem_cons_self ..)) ?_) b⟩
        have z : RelV v _ := r1.2
        rw [← p2] at z
        exact z
/-- data, a dict of flat things too -/
def DatF (K : PySem.W.Frag) (H : Hp) (x : V) (d : PyData) : Prop := (Dat K H x d ∧ d.hasDict = false) ∨ ∃ a kvs, x = .ref a ∧ H a = some (.dK kvs) ∧ (∀ p ∈ kvs, flatV p.2 = true) ∧ d = .dict (kvs.map fun p => (keyD p.1, flatD p.2))
theorem DatF.same {K : PySem.W.Frag} {H H' : Hp} {x : V} {d : PyData} (h : DatF K H x d) (g : Same H H') : DatF K H' x d := by
  rcases h with ⟨h, z⟩ | ⟨a, kvs, rfl, h, z⟩
  · exact .inl ⟨Dat.same g h, z⟩
  · exact .inr ⟨a, kvs, rfl, g _ _ h, z⟩
def rReprF (K : PySem.W.Frag) : List V → Hp → VK → Prop := fun xs H Q => ∃ x d, xs = [x] ∧ DatF K H x d ∧ d.showable = true ∧ d.depth ≤ 8 ∧ d.shown.length ≤ sizeLine ∧ Q (.str d.shown) H
section
variable {X : Cx}
theorem call_reprF {K : PySem.W.Frag} (hK : X.K = K) (hg : X.A.guards = some []) (hu : X.A.units + 64 < cLine) : CallR X (.builtin "repr") (rReprF K) := by
  subst hK
  intro pins s σ H xs us Q I r h
  obtain ⟨x, d, rfl, hd, hs, hdep, hsz, q⟩ := h
  rcases hd with hd | ⟨a, kvs, rfl, ha, hf, rfl⟩
  · exact call_repr rfl hg hu pins s σ H _ us Q I r ⟨x, d, rfl, .inl hd, hs, hdep, hsz, q⟩
  · obtain ⟨u, rfl, rx⟩ := r.one
    cases rx
    obtain ⟨_, hsm, vs, kv, o, es, ep, e1, hx, e2, _, e3, _⟩ := dk_of I.hok ha
    obtain ⟨q1, q2⟩ := reads_dict (h := s.heap) kv e3 hf
    have ra : Reads s.heap (.ref a) (.dict (kvs.map fun p => (keyD p.1, flatD p.2))) (a :: [] ++ []) := .dict e1 hx.1 e2 (by rw [List.map_map]; exact q1) (by rw [List.map_map]; exact q2)
    refine repr_of_reads' ra hs (fun _ z => ?_) hg (by omega) (fun _ _ e => e) (fun h' u tk hk => ⟨.str _, H, I.kept hk, ⟨u, rfl⟩, q⟩) hsz
    have z' : sysModules = a := by simpa using z
    rw [z'] at hsm
    simp at hsm
end
end L2

/-! x == x of a thing, the empty dict too -/
namespace L2
open PySem PySem.Spec PyProof.Rows
theorem dict_eq_empty (a : Addr) (dd : Option Addr) (ep : Nat) (sl : Array (Option Value)) :
    Meets (Builtin.«dict.__eq__» ⟨[.ref a, .ref a], []⟩) (fun _ R s => s.heap.get? a = some { cls := .type "dict", dict := dd, data := .dict #[] ep, slots := sl } ∧ (a == sysModules) = false ∧ R (.ok (.ret (.bool true))) s) :=
  .of_wp fun prog w A R s h => by
    obtain ⟨hp, g, d, tk, os⟩ := s
    obtain ⟨hl, hs, h⟩ := h
    have f1 : isSubtype (.type "dict") (.type "dict") = pure true := by rw [isSubtype_type]; kernel_rfl
    have loop : ∀ (id : String) (Q : Bool → Shared → Prop), Q true ⟨hp, g, d, tk, os⟩ → wpAny (model prog w) A.in1 (Builtin.Dict.samePairs id a a) Q (fun e s' => R (.error e) s') ⟨hp, g, d, tk, os⟩ := fun id Q q => by
      unfold Builtin.Dict.samePairs
      simp only [Std.Legacy.Range.forIn_eq_forIn_range']
      wp_walk using AutoSeq1.wpAny_loadPart' hl
      exact q
    have hT : (⟨hp, g, d, tk, os⟩ : Shared).TypeIs (.ref a) "dict" := ⟨_, hl, rfl⟩
    repeat (first
      | with_reducible refine loop _ _ ?_
      | with_reducible refine AutoSeq1.wpAny_loadPart' hl ?_
      | wp_step)
    all_goals first | exact ⟨_, rfl, h⟩ | exact h | trace_state
section
variable {X : Cx}
/-- a thing held against itself -/
def rEqSelf (K : PySem.W.Frag) : R2 := fun x y H Q => x = y ∧ ((flatV x = true) ∨ (∃ d, Dat K H x d ∧ SeqAt.shaped d = true) ∨ ∃ a, x = .ref a ∧ H a = some (.dK [])) ∧ Q (.bl true) H
theorem op_eqSelf {K : PySem.W.Frag} (hK : X.K = K) (hu : X.A.units + 64 < cLine) : OpR X (compareOp .Eq) (rEqSelf K) := by
  subst hK
  intro pins s σ H x y v u Q I rx ry h
  obtain ⟨rfl, hx, q⟩ := h
  rcases hx with hf | ⟨d, hd, hs⟩ | ⟨a, rfl, ha⟩
  · refine op_eq pins s σ H _ _ v u Q I rx ry ⟨?_, ?_⟩
    · cases x <;> first | rfl | cases hf
    · rw [decide_eq_true rfl]; exact q
  · refine op_eqD hu pins s σ H _ _ v u Q I rx ry ⟨d, d, hd, hd, hs, hs, ?_⟩
    rw [PySem.SeqAt.eqv_refl _ (SeqAt.canLay_of_shaped hs)]
    exact q
  · cases rx
    cases ry
    obtain ⟨_, hsm, vs, kv, o, es, ep, e1, hx, e2, _, e3, _⟩ := dk_of I.hok ha
    have ev : vs = [] := by cases kv; rfl
    subst ev
    have ee : es.toList = [] := by cases e3'' : es.toList with
      | nil => rfl
      | cons z zs => rw [e3''] at e3; cases e3
    have ee' : es = #[] := by simpa using ee
    subst ee'
    obtain ⟨cc, od, dt, sl⟩ := o
    have hc : cc = .type "dict" := hx.1
    have hdt : dt = .dict #[] ep := e2
    subst hc hdt
    exact richCompare_meets_room (op := .Eq) ⟨_, e1, rfl⟩ ⟨_, e1, rfl⟩ F.slot_dict_eq F.entry_dict_eq (F.args_dict_eq_2 _ _) (dict_eq_empty a od ep sl) ⟨e1, hsm, (fun x => nomatch x), ⟨.bl true, H, I, rfl, q⟩⟩ (by omega)
end
end L2

namespace K01
/-- the number of some cells, the least first -/
def val : List Int → Int
  | [] => 0
  | c :: r => val r * 256 + c
/-- so many cells of a number -/
def cellsL : Nat → Int → List Int
  | 0, _ => []
  | k + 1, n => n % 256 :: cellsL k (n / 256)
theorem cellsL_length : ∀ (k : Nat) (n : Int), (cellsL k n).length = k
  | 0, _ => rfl
  | k + 1, n => by rw [cellsL, List.length_cons, cellsL_length k]
theorem pow_succ256 (k : Nat) : (256 : Int) ^ (k + 1) = 256 * 256 ^ k := by rw [Int.pow_succ, Int.mul_comm]
theorem val_snoc : ∀ (xs : List Int) (c : Int), val (xs ++ [c]) = val xs + c * 256 ^ xs.length
  | [], c => by simp [val]
  | x :: r, c => by
    rw [List.cons_append, val, val_snoc r c, val, List.length_cons, pow_succ256, Int.add_mul, Int.mul_assoc, Int.mul_comm ((256 : Int) ^ r.length) 256]
    omega
/-- from behind -/
theorem val_drop {ns : List Int} {i : Nat} {c : Int} (hi : i < ns.length) (h : ns[ns.length - 1 - i]? = some c) :
    val (ns.drop (ns.length - (i + 1))) = val (ns.drop (ns.length - i)) * 256 + c := by
  have e1 : ns.length - (i + 1) = ns.length - 1 - i := by omega
  have e2 : ns.length - i = ns.length - 1 - i + 1 := by omega
  have hl : ns.length - 1 - i < ns.length := by omega
  rw [e1, List.drop_eq_getElem_cons hl, e2, val]
  rw [List.getElem?_eq_getElem hl] at h
  rw [Option.some.inj h]
end K01

/-! a room as one number: its cells and its bits -/
namespace K03
open K01
/-- the cells of N from c on, n of them -/
def cellsF (N c n : Nat) : List Int := (List.range n).map fun i => ((N / 256 ^ (c + i) % 256 : Nat) : Int)
/-- the bits of N from p on, n of them -/
def bitsF (N p n : Nat) : List Int := (List.range n).map fun i => ((N / 2 ^ (p + i) % 2 : Nat) : Int)
theorem cellsF_length (N c n : Nat) : (cellsF N c n).length = n := by simp [cellsF]
theorem cellsF_succ (N c n : Nat) : cellsF N c (n + 1) = cellsF N c n ++ [((N / 256 ^ (c + n) % 256 : Nat) : Int)] := by simp [cellsF, List.range_succ]
theorem cellsF_get {N c n i : Nat} (h : i < n) : (cellsF N c n)[i]? = some ((N / 256 ^ (c + i) % 256 : Nat) : Int) := by simp [cellsF, List.getElem?_range h]
theorem val_cellsF (N c : Nat) : ∀ n, val (cellsF N c n) = ((N / 256 ^ c % 256 ^ n : Nat) : Int)
  | 0 => by simp [cellsF, val, Nat.mod_one]
  | n + 1 => by
    rw [cellsF_succ, val_snoc, val_cellsF N c n, cellsF_length, Nat.mod_pow_succ, Nat.div_div_eq_div_mul, ← Nat.pow_add]
    simp only [Int.natCast_add, Int.natCast_mul, Int.natCast_pow]
    first | rfl | (rw [Int.mul_comm]; rfl) | simp [Int.mul_comm]
theorem pow256 (n : Nat) : (256 : Nat) ^ n = 2 ^ (8 * n) := by rw [Nat.pow_mul]
/-- a part of a part -/
theorem part_bits {x m s b : Nat} (h : s + b ≤ m) : x % 2 ^ m / 2 ^ s % 2 ^ b = x / 2 ^ s % 2 ^ b := by
  apply Nat.eq_of_testBit_eq
  intro i
  simp only [Nat.testBit_mod_two_pow, Nat.testBit_div_two_pow]
  by_cases hi : i < b
  · have : s + i < m := by omega
    simp [hi, this, Nat.add_comm]
  · simp [hi]
theorem taken_eq {N c n s b : Nat} (h : s + b ≤ 8 * n) : N / 256 ^ c % 256 ^ n / 2 ^ s % 2 ^ b = N / 2 ^ (8 * c + s) % 2 ^ b := by
  rw [pow256 n, part_bits h, pow256 c, Nat.div_div_eq_div_mul, ← Nat.pow_add]
/-- the room with x left at the bits from p on, b of them -/
def put (N p b : Nat) (x : Int) : Nat := N / 2 ^ (p + b) * 2 ^ (p + b) + ((x % 2 ^ b).toNat * 2 ^ p + N % 2 ^ p)
theorem rest_lt (x : Int) (b : Nat) : (x % 2 ^ b).toNat < 2 ^ b := by
  have h : (0 : Int) < 2 ^ b := by exact_mod_cast Nat.two_pow_pos b
  have h1 := Int.emod_nonneg x (Int.ne_of_gt h)
  have h2 := Int.emod_lt_of_pos x h
  have : ((x % 2 ^ b).toNat : Int) < ((2 ^ b : Nat) : Int) := by
    rw [Int.toNat_of_nonneg h1]; exact_mod_cast h2
  exact_mod_cast this
theorem low_lt {m p b r : Nat} (hm : m < 2 ^ b) (hr : r < 2 ^ p) : m * 2 ^ p + r < 2 ^ (p + b) := by
  have h1 : (m + 1) * 2 ^ p ≤ 2 ^ b * 2 ^ p := Nat.mul_le_mul_right _ hm
  rw [Nat.add_mul, Nat.one_mul] at h1
  rw [Nat.add_comm p b, Nat.pow_add]
  omega
theorem put_bit (N p b : Nat) (x : Int) (j : Nat) : (put N p b x).testBit j = if j < p then N.testBit j else if j < p + b then (x % 2 ^ b).toNat.testBit (j - p) else N.testBit j := by
  have hr : N % 2 ^ p < 2 ^ p := Nat.mod_lt _ (Nat.two_pow_pos p)
  have hm := rest_lt x b
  unfold put
  rw [Nat.mul_comm (N / 2 ^ (p + b)), Nat.testBit_two_pow_mul_add _ (low_lt hm hr), Nat.mul_comm _ (2 ^ p), Nat.testBit_two_pow_mul_add _ hr]
  by_cases h1 : j < p
  · have h2 : j < p + b := by omega
    simp [h1, h2, Nat.testBit_mod_two_pow]
  · by_cases h2 : j < p + b
    · simp [h1, h2]
    · simp only [h1, h2, if_false]
      rw [Nat.testBit_div_two_pow]
      congr 1; omega
/-- the cells behind a put: those of the place, as one number, and the others -/
theorem put_part {N c n s b : Nat} {x : Int} (h : s + b ≤ 8 * n) :
    (((put N (8 * c + s) b x / 256 ^ c % 256 ^ n : Nat)) : Int) = ((N / 256 ^ c % 256 ^ n : Nat) : Int) + (x % 2 ^ b - ((N / 256 ^ c % 256 ^ n / 2 ^ s % 2 ^ b : Nat) : Int)) * 2 ^ s := by
  have hb : (0 : Int) < 2 ^ b := by exact_mod_cast Nat.two_pow_pos b
  have h1 := Int.emod_nonneg x (Int.ne_of_gt hb)
  have key : put N (8 * c + s) b x / 256 ^ c % 256 ^ n + (N / 256 ^ c % 256 ^ n / 2 ^ s % 2 ^ b) * 2 ^ s = N / 256 ^ c % 256 ^ n + (x % 2 ^ b).toNat * 2 ^ s := by
    rw [pow256 c, pow256 n]
    -- both as put of the part
    have e1 : put N (8 * c + s) b x / 2 ^ (8 * c) % 2 ^ (8 * n) = put (N / 2 ^ (8 * c) % 2 ^ (8 * n)) s b x := by
      apply Nat.eq_of_testBit_eq
      intro j
      rw [Nat.testBit_mod_two_pow, Nat.testBit_div_two_pow, put_bit, put_bit, Nat.testBit_mod_two_pow, Nat.testBit_div_two_pow]
      by_cases hj : j < 8 * n
      · by_cases a1 : j < s
        · have : 8 * c + j < 8 * c + s := by omega
          simp [hj, a1, this, Nat.add_comm]
        · have a1' : ¬ 8 * c + j < 8 * c + s := by omega
          by_cases a2 : j < s + b
          · have : 8 * c + j < 8 * c + s + b := by omega
            have e : 8 * c + j - (8 * c + s) = j - s := by omega
            simp [hj, a1, a2, a1', this, e, Nat.add_comm j]
          · have : ¬ 8 * c + j < 8 * c + s + b := by omega
            simp [hj, a1, a2, a1', this, Nat.add_comm j]
      · have a1 : ¬ j < s := by omega
        have a2 : ¬ j < s + b := by omega
        simp [hj, a1, a2]
    rw [e1]
    generalize N / 2 ^ (8 * c) % 2 ^ (8 * n) = M
    unfold put
    have d1 : M = M / 2 ^ (s + b) * 2 ^ (s + b) + (M / 2 ^ s % 2 ^ b * 2 ^ s + M % 2 ^ s) := by
      have a := Nat.div_add_mod M (2 ^ s)
      have b1 := Nat.div_add_mod (M / 2 ^ s) (2 ^ b)
      rw [Nat.div_div_eq_div_mul, ← Nat.pow_add] at b1
      have : M / 2 ^ (s + b) * 2 ^ (s + b) = 2 ^ s * (2 ^ b * (M / 2 ^ (s + b))) := by rw [Nat.pow_add, Nat.mul_comm, Nat.mul_assoc]
      rw [this, Nat.mul_comm (M / 2 ^ s % 2 ^ b), ← Nat.add_assoc, ← Nat.mul_add, b1, a]
    omega
  have k2 : ((put N (8 * c + s) b x / 256 ^ c % 256 ^ n + (N / 256 ^ c % 256 ^ n / 2 ^ s % 2 ^ b) * 2 ^ s : Nat) : Int) = ((N / 256 ^ c % 256 ^ n + (x % 2 ^ b).toNat * 2 ^ s : Nat) : Int) := by rw [key]
  rw [Int.natCast_add, Int.natCast_add, Int.natCast_mul, Int.natCast_mul, Int.toNat_of_nonneg h1, Int.natCast_pow] at k2
  rw [Int.sub_mul]
  have : ((2 : Nat) : Int) ^ s = (2 : Int) ^ s := rfl
  rw [this] at k2
  omega
theorem cells_out {N p b : Nat} {x : Int} {i : Nat} (h : 8 * i + 8 ≤ p ∨ p + b ≤ 8 * i) : put N p b x / 256 ^ i % 256 = N / 256 ^ i % 256 := by
  have e : (256 : Nat) = 2 ^ 8 := rfl
  rw [pow256]
  conv => lhs; rhs; rw [e]
  conv => rhs; rhs; rw [e]
  apply Nat.eq_of_testBit_eq
  intro j
  rw [Nat.testBit_mod_two_pow, Nat.testBit_mod_two_pow, Nat.testBit_div_two_pow, Nat.testBit_div_two_pow, put_bit]
  by_cases hj : j < 8
  · rcases h with h | h
    · have : 8 * i + j < p := by omega
      simp [hj, this, Nat.add_comm j]
    · have a1 : ¬ 8 * i + j < p := by omega
      have a2 : ¬ 8 * i + j < p + b := by omega
      simp [hj, a1, a2, Nat.add_comm j]
  · simp [hj]
end K03

namespace K03
open K01
theorem cellsF_cons (M n : Nat) : cellsF M 0 (n + 1) = ((M % 256 : Nat) : Int) :: cellsF (M / 256) 0 n := by
  unfold cellsF
  rw [List.range_succ_eq_map, List.map_cons, List.map_map]
  congr 1
  · simp
  · apply List.map_congr_left
    intro i _
    show (((M / 256 ^ (0 + (i + 1)) % 256 : Nat)) : Int) = ((M / 256 / 256 ^ (0 + i) % 256 : Nat) : Int)
    rw [Nat.div_div_eq_div_mul, Nat.zero_add, Nat.zero_add, Nat.pow_succ, Nat.mul_comm]
theorem cellsL_F : ∀ (n M : Nat), cellsL n (M : Int) = cellsF M 0 n
  | 0, _ => rfl
  | n + 1, M => by
    rw [cellsF_cons, ← cellsL_F n (M / 256)]
    show ((M : Int) % 256) :: cellsL n ((M : Int) / 256) = _
    congr 1
theorem part_cell {Y n j : Nat} (h : j < n) : Y % 256 ^ n / 256 ^ j % 256 = Y / 256 ^ j % 256 := by
  have := part_bits (x := Y) (m := 8 * n) (s := 8 * j) (b := 8) (by omega)
  rw [pow256, pow256]
  exact this
theorem cells_put {N c n s b w : Nat} {x : Int} (h : s + b ≤ 8 * n) (hw : c + n ≤ w) :
    cellsF (put N (8 * c + s) b x) 0 w = (cellsF N 0 w).take c ++ cellsL n (((put N (8 * c + s) b x / 256 ^ c % 256 ^ n : Nat)) : Int) ++ (cellsF N 0 w).drop (c + n) := by
  rw [cellsL_F]
  have l1 : ((cellsF N 0 w).take c).length = c := by rw [List.length_take, cellsF_length]; omega
  have l2 : (cellsF (put N (8 * c + s) b x / 256 ^ c % 256 ^ n) 0 n).length = n := cellsF_length _ _ _
  apply List.ext_getElem?
  intro i
  by_cases hi : i < w
  · rw [cellsF_get hi, Nat.zero_add]
    by_cases h1 : i < c
    · rw [List.append_assoc, List.getElem?_append_left (by rw [l1]; exact h1), List.getElem?_take_of_lt h1, cellsF_get hi, Nat.zero_add, cells_out (.inl (by omega))]
    · rw [List.append_assoc, List.getElem?_append_right (by rw [l1]; omega), l1]
      by_cases h2 : i < c + n
      · rw [List.getElem?_append_left (by rw [l2]; omega), cellsF_get (by omega), Nat.zero_add, part_cell (by omega), Nat.div_div_eq_div_mul, ← Nat.pow_add, show c + (i - c) = i by omega]
      · rw [List.getElem?_append_right (by rw [l2]; omega), l2, List.getElem?_drop, show c + n + (i - c - n) = i by omega, cellsF_get hi, Nat.zero_add, cells_out (.inr (by omega))]
  · rw [List.getElem?_eq_none (by rw [cellsF_length]; omega), List.getElem?_eq_none]
    rw [List.length_append, List.length_append, l1, l2, List.length_drop, cellsF_length]; omega
theorem cast_part (A s b : Nat) : ((A / 2 ^ s % 2 ^ b : Nat) : Int) = (A : Int) / 2 ^ s % 2 ^ b := by
  rw [Int.natCast_emod, Int.natCast_ediv, Int.natCast_pow, Int.natCast_pow]
  rfl
theorem taken_int {N c m s b : Nat} (h : s + b ≤ 8 * m) : ((N / 256 ^ c % 256 ^ m : Nat) : Int) / 2 ^ s % (1 * 2 ^ b) = ((N / 2 ^ (8 * c + s) % 2 ^ b : Nat) : Int) := by
  rw [Int.one_mul, ← taken_eq h, cast_part]
theorem left_int {N c m s b : Nat} {x : Int} (h : s + b ≤ 8 * m) :
    ((N / 256 ^ c % 256 ^ m : Nat) : Int) + (x % (1 * 2 ^ b) - ((N / 256 ^ c % 256 ^ m : Nat) : Int) / 2 ^ s % (1 * 2 ^ b)) * 2 ^ s = (((put N (8 * c + s) b x / 256 ^ c % 256 ^ m : Nat)) : Int) := by
  rw [put_part h, Int.one_mul, cast_part]
theorem cellsF_zero (w : Nat) : cellsF 0 0 w = List.replicate w 0 := by
  unfold cellsF
  rw [List.eq_replicate_iff]
  refine ⟨by simp, fun b hb => ?_⟩
  obtain ⟨i, _, rfl⟩ := List.mem_map.mp hb
  simp
end K03

namespace L2
open PySem
/-- small data: how heavy, how deep -/
structure Sm (d : PyData) (n m : Nat) : Prop where
  sh : d.showable = true
  ls : d.leavesShort 200 = true
  wt : d.weight ≤ n
  dp : d.depth ≤ m
  nd : d.hasDict = false
theorem log2_lt100 {n : Nat} (h : n < 2 ^ 100) : n.log2 < 100 := by
  by_cases h0 : n = 0
  · subst h0; decide
  · exact (Nat.log2_lt h0).mpr h
theorem Sm.int {i : Int} (h : i.natAbs < 2 ^ 100) : Sm (.int i) 101 0 := by
  have hl := log2_lt100 h
  refine ⟨?_, ?_, ?_, Nat.le_refl _, rfl⟩
  · simp only [PyData.showable, decide_eq_true_eq]; omega
  · simp only [PyData.leavesShort, decide_eq_true_eq]
    have := int_text_length_le (a := i) (k := 100) (by decide) hl
    show (Str.ofString (toString i)).length ≤ 200
    rw [ofString_length]; omega
  · simp only [PyData.weight]
    split <;> omega
theorem Sm.none : Sm .none 0 0 := ⟨rfl, rfl, Nat.le_refl _, Nat.le_refl _, rfl⟩
theorem Sm.bool (b : Bool) : Sm (.bool b) 0 0 := ⟨rfl, rfl, Nat.le_refl _, Nat.le_refl _, rfl⟩
theorem Sm.le {d : PyData} {n m n' m' : Nat} (h : Sm d n m) (hn : n ≤ n') (hm : m ≤ m') : Sm d n' m' := ⟨h.sh, h.ls, Nat.le_trans h.wt hn, Nat.le_trans h.dp hm, h.nd⟩
structure SmA (ds : List PyData) (n m : Nat) : Prop where
  sh : PyData.showableAll ds = true
  ls : PyData.leavesShortAll 200 ds = true
  wt : PyData.weightAll ds ≤ n
  dp : PyData.depthAll ds ≤ m
  nd : PyData.hasDictAll ds = false
theorem SmA.nil : SmA [] 0 0 := ⟨rfl, rfl, Nat.le_refl _, Nat.le_refl _, rfl⟩
theorem SmA.cons {d : PyData} {ds : List PyData} {n m n' m' : Nat} (h : Sm d n m) (t : SmA ds n' m') : SmA (d :: ds) (n + 1 + n') (max m m') := by
  refine ⟨?_, ?_, ?_, ?_, ?_⟩
  · show (d.showable && PyData.showableAll ds) = true
    rw [h.sh, t.sh]; rfl
  · show (d.leavesShort 200 && PyData.leavesShortAll 200 ds) = true
    rw [h.ls, t.ls]; rfl
  · show d.weight + 1 + PyData.weightAll ds ≤ _
    have := h.wt; have := t.wt; omega
  · show max d.depth (PyData.depthAll ds) ≤ _
    have := h.dp; have := t.dp; omega
  · show (d.hasDict || PyData.hasDictAll ds) = false
    rw [h.nd, t.nd]; rfl
theorem SmA.tup {ds : List PyData} {n m : Nat} (t : SmA ds n m) : Sm (.tuple ds) n (m + 1) := ⟨t.sh, t.ls, t.wt, Nat.succ_le_succ t.dp, t.nd⟩
theorem SmA.lst {ds : List PyData} {n m : Nat} (t : SmA ds n m) : Sm (.list ds) n (m + 1) := ⟨t.sh, t.ls, t.wt, Nat.succ_le_succ t.dp, t.nd⟩
theorem Sm.len {d : PyData} {n m : Nat} (h : Sm d n m) (hn : n ≤ 10000) : d.shown.length ≤ sizeLine := by
  have h1 := PyData.shown_le 200 (by decide) d h.ls
  have h2 := h.wt
  rw [sizeLine_eq]
  omega
end L2

/-! wrapped judgements: returns, tuples, lists, names -/
namespace L2
open PySem PySem.Spec PyProof.Rows
theorem se_name {x p} {es : List Expr} {env : Env} : starEach (.Name x p :: es) env = (false, eval (.Name x p) env) :: starEach es env := rfl
section
variable {X : Cx} {e : Expr} {es : List Expr} {te : TE} {t : TA}
theorem pex_tup {x1} {pos : Pos} (h : PAx X es t) : PEx X (.Tuple es x1 pos) (tTup t) := ⟨pe_tup h.h⟩
theorem pex_lst {pos : Pos} (h : PAx X es t) : PEx X (.List es pos) (tLst t) := ⟨pe_lst h.h⟩
theorem pstx_ret {pos : Pos} (h : PEx X e te) : PStx X (.Return (some e) pos) (tRet te) := ⟨ps_ret h.h⟩
theorem pstx_lst {i : Nat} {x : Str} {pos' pos p1 : Pos} (hN : X.N.Nodup) (hi : X.N[i]? = some x) (hx : X.env.scope.names.lookup x = some .local) (he : PEx X (.List es p1) te) :
    PStx X (.Assign [.Name x pos'] (.List es p1) pos) (tAsg te (gName i)) := ⟨ps_set hN hi (.inl hx) he.h rfl (.inr hx)⟩
end
end L2

namespace K06
open PySem L2 K01 K03
/-! the text by places -/
def top (i : Nat) : Stmt := PySem.Challenge.pw_roomslaid_k06_refused_everywhere.main.body.getD i (.Pass ⟨0, 0, 0, 0⟩)
def inClass : Stmt → Nat → Stmt
  | .ClassDef _ _ _ body _ _ _ _ _ _ _, j => body.getD j (.Pass ⟨0, 0, 0, 0⟩)
  | s, _ => s

theorem iteP {c A B : Prop} [Decidable c] (hc : c) (h : A) : if c then A else B := by rw [if_pos hc]; exact h
theorem iteN {c A B : Prop} [Decidable c] (hc : ¬ c) (h : B) : if c then A else B := by rw [if_neg hc]; exact h
/-- the built-in names are as they were -/
structure Blt (mg : Str → Option Value) : Prop where
  range : mg "range" = none
  len : mg "len" = none
  isinstance : mg "isinstance" = none
  int : mg "int" = none
  bool : mg "bool" = none
  list : mg "list" = none
  all : mg "all" = none
  max : mg "max" = none
  min : mg "min" = none
  reversed : mg "reversed" = none
  tuple : mg "tuple" = none
  divmod : mg "divmod" = none
  ValueError : mg "ValueError" = none
  repr : mg "repr" = none
/-- a def as its callers see it -/
structure Df (K : PySem.W.Frag) (mg : Str → Option Value) (x : Str) (f : Addr) (fd : FuncData) (ps : List Str) : Prop where
  m : mg x = some (.ref f)
  k : PySem.W.keepIn K (.ref f) = true
  b : Binds K fd ps []
/-- the state of the draws: a list of three ints -/
def St3 (H : Hp) (p : Addr) : Prop := ∃ a b c : Int, H p = some (.lst [.int a, .int b, .int c])
/-- the state at p has turned, new things may have come, all else is as it was -/
def Drawn (p : Addr) (H H' : Hp) : Prop := St3 H' p ∧ ∀ b o, b ≠ p → H b = some o → H' b = some o
theorem Drawn.trans {p : Addr} {H H1 H2 : Hp} (a : Drawn p H H1) (b : Drawn p H1 H2) : Drawn p H H2 := ⟨b.1, fun c o n h => b.2 c o n (a.2 c o n h)⟩
theorem Drawn.refl {p : Addr} {H : Hp} (h : St3 H p) : Drawn p H H := ⟨h, fun _ _ _ q => q⟩
theorem Drawn.new {p l : Addr} {H H1 : Hp} {o : HO} (a : Drawn p H H1) (hl : H1 l = none) : Drawn p H (upd H1 l o) := by
  obtain ⟨⟨x, y, z, e⟩, h⟩ := a
  refine ⟨⟨x, y, z, by rw [upd_ne (ne_of_none e hl)]; exact e⟩, fun b u n q => ?_⟩
  have := h b u n q
  rw [upd_ne (ne_of_none this hl)]; exact this
theorem same_new {H : Hp} {p : Addr} (h : H p = none) (o : HO) : Same H (upd H p o) := fun b u q => by rw [upd_ne (ne_of_none q h)]; exact q
theorem atI_ints (ns : List Int) {i : Int} (h0 : 0 ≤ i) (h1 : i < ns.length) : ∃ v : Int, atI (ns.map V.int) i = some (.int v) := by
  have hk : i.toNat < ns.length := by omega
  have e : i = ((i.toNat : Nat) : Int) := by omega
  have q : atI (ns.map V.int) ((i.toNat : Nat) : Int) = some (.int ns[i.toNat]) := atI_nat (by rw [List.getElem?_map, List.getElem?_eq_getElem hk] <;> rfl)
  rw [← e] at q
  exact ⟨_, q⟩
theorem get_ints {ns : List Int} {i : Nat} {x : V} (h : (ns.map V.int)[i]? = some x) : ∃ c, ns[i]? = some c ∧ x = .int c := by
  rw [List.getElem?_map] at h
  cases e : ns[i]? with
  | none => rw [e] at h; cases h
  | some c => rw [e] at h; cases h; exact ⟨c, rfl, rfl⟩
def spDraw : Sp := fun vs H Q _ => ∃ (p : Addr) (m : Int), vs = [.ref p, .int m] ∧ 0 < m ∧ m < 1073741824 ∧ St3 H p ∧ ∀ (v : Int) (H' : Hp), 0 ≤ v → v < m → Drawn p H H' → Q (.int v) H'
def spCell (K : PySem.W.Frag) : Sp := fun vs H Q _ => ∃ (a : Addr) (ns : List Int) (k : Int), vs = [.ref a, .int k] ∧ SqL K H a (ns.map V.int) ∧ 0 ≤ k ∧ k < 64 ∧ ∀ v : Int, Q (.int v) H
def spBegun : Sp := fun vs H Q _ => ∃ c : Int, vs = [.int c] ∧ ∀ (p : Addr) (H' : Hp), H p = none → Drawn p H H' → Q (.ref p) H'
def spWhole : Sp := fun vs H Q _ => ∃ i : Int, vs = [.int i] ∧ Q (.bl true) H
def spLaw (K : PySem.W.Frag) : Sp := fun vs H Q _ => ∃ (a : Addr) (ns : List Int), vs = [.ref a] ∧ SqL K H a (ns.map V.int) ∧ ns.length ≤ 63 ∧ ∀ H', Q (.bl true) H'
theorem Same.tup {K : PySem.W.Frag} {H H' : Hp} {a : Addr} {xs : List V} (e : Same H H') (h : SqT K H a xs) : SqT K H' a xs := by
  rcases h with (h | ⟨o, h⟩) | h
  · exact .inl (.inl (e _ _ h))
  · exact .inl (.inr ⟨o, e _ _ h⟩)
  · exact .inr h
theorem Drawn.tup {K : PySem.W.Frag} {p : Addr} {H H' : Hp} {a : Addr} {xs : List V} (hs : St3 H p) (e : Drawn p H H') (h : SqT K H a xs) : SqT K H' a xs := by
  obtain ⟨x, y, z, hp⟩ := hs
  rcases h with (h | ⟨o, h⟩) | h
  · exact .inl (.inl (e.2 _ _ (ne_of h hp (by intro z; cases z)) h))
  · exact .inl (.inr ⟨o, e.2 _ _ (ne_of h hp (by intro z; cases z)) h⟩)
  · exact .inr h
structure TCls (K : PySem.W.Frag) (mg : Str → Option Value) (x : Str) (C fI : Addr) (as : List Str) : Prop where
  m : mg x = some (.ref C)
  cl : Cls K C
  ma : Mk K C fI
  na : ∀ a ∈ as, NoAttr K C a
structure DfM (K : PySem.W.Frag) (C : Addr) (m : Str) (f : Addr) (fd : FuncData) (ps : List Str) : Prop where
  me : Meth K C m f
  b : Binds K fd ps []
structure DfI (K : PySem.W.Frag) (fd : FuncData) (ps : List Str) : Prop where
  b : Binds K fd ps []
structure TX (K : PySem.W.Frag) (mg : Str → Option Value) (x : Str) (C R fI : Addr) (as : List Str) : Prop where
  m : mg x = some (.ref C)
  c : ExCl K C R fI
  x : XCls K C (.ref R :: VB)
  n : ∀ a ∈ as, PySem.W.findIn K (.ref C) a = some none
structure TXB (K : PySem.W.Frag) (mg : Str → Option Value) (C fI : Addr) : Prop where
  m : mg "RoomError" = some (.ref C)
  i : CInit K C fI
  x : XCls K C VB

/-- the module's constants -/
structure Cst (K : PySem.W.Frag) (mg : Str → Option Value) (t1 t2 t3 t4 : Tok) (ts : Addr) : Prop where
  CELL_BITS : mg "CELL_BITS" = some (.int 8 t1)
  MOST_PLACE_CELLS : mg "MOST_PLACE_CELLS" = some (.int 64 t2)
  TAG_BITS : mg "TAG_BITS" = some (.int 2 t3)
  MOST_ROOM_CELLS : mg "MOST_ROOM_CELLS" = some (.int 8192 t4)
  TAG_SHIFTS : mg "TAG_SHIFTS" = some (.ref ts)
  shifts : ∀ H, SqT K H ts [.int 0, .int 2, .int 4, .int 6]
/-- a place by its three numbers -/
def Ok3 (c s b : Int) : Prop := 0 ≤ c ∧ ((b = 2 ∧ (s = 0 ∨ s = 2 ∨ s = 4 ∨ s = 6)) ∨ (s = 0 ∧ ∃ n : Int, 1 ≤ n ∧ n ≤ 64 ∧ b = 8 * n))
abbrev T3 (K : PySem.W.Frag) (H : Hp) (t : Addr) (c s b : Int) : Prop := SqT K H t [.int c, .int s, .int b]
theorem Ok3.bits {c s b : Int} (h : Ok3 c s b) : 0 ≤ s ∧ s ≤ 6 ∧ 1 ≤ b ∧ b ≤ 512 := by
  obtain ⟨_, h | ⟨h, n, h1, h2, h3⟩⟩ := h <;> omega
def nCells (b : Int) : Nat := (if b / 8 > 1 then b / 8 else 1).toNat
def spPacked : Sp := fun vs H Q _ => ∃ s b : Int, vs = [.int s, .int b] ∧ ∀ k : Bool, (k = true ↔ b = 2 ∧ (s = 0 ∨ s = 2 ∨ s = 4 ∨ s = 6)) → Q (.bl k) H
def spWholeC : Sp := fun vs H Q _ => ∃ s b : Int, vs = [.int s, .int b] ∧ ∀ (k : Bool) (H' : Hp), Same H H' → (k = true ↔ s = 0 ∧ b % 8 = 0 ∧ 1 ≤ b / 8 ∧ b / 8 ≤ 64) → Q (.bl k) H'
def spIsPlace (K : PySem.W.Frag) : Sp := fun vs H Q _ => ∃ (t : Addr) (c s b : Int), vs = [.ref t] ∧ T3 K H t c s b ∧ Ok3 c s b ∧ ∀ H', Same H H' → Q (.bl true) H'
def spNeed (K : PySem.W.Frag) : Sp := fun vs H Q _ => ∃ (t : Addr) (c s b : Int), vs = [.ref t] ∧ T3 K H t c s b ∧ Ok3 c s b ∧ ∀ H', Same H H' → Q .non H'
def spCellsIn (K : PySem.W.Frag) : Sp := fun vs H Q _ => ∃ (t : Addr) (c s b : Int), vs = [.ref t] ∧ T3 K H t c s b ∧ Ok3 c s b ∧ ∀ (r : Addr) (H' : Hp), Same H H' → H r = none → H' r = some (.lst ((rangeL c (nCells b)).map V.int)) → Q (.ref r) H'
theorem inV_ints (q : Int) (ns : List Int) : inV (.int q) (ns.map V.int) = decide (q ∈ ns) := by
  rw [Bool.eq_iff_iff]
  simp only [inV, List.any_map, List.any_eq_true, Function.comp, decide_eq_true_eq, eqV, beq_iff_eq]
  constructor
  · rintro ⟨x, hx, rfl⟩; exact hx
  · intro h; exact ⟨q, h, rfl⟩
theorem nCells_pos (b : Int) : 1 ≤ nCells b := by unfold nCells; split <;> omega
theorem nCells_le {c s b : Int} (h : Ok3 c s b) : nCells b ≤ 64 := by
  obtain ⟨_, h | ⟨h, n, h1, h2, h3⟩⟩ := h
  · obtain ⟨rfl, _⟩ := h; decide
  · subst h3; unfold nCells; split <;> omega
/-- a room at a, its dict at dx, its cells' list at l -/
def Rm (CR : Addr) (H : Hp) (a dx l : Addr) (w : Nat) : Prop := H a = some (.ins CR dx [("wide", .int w), ("held", .ref l)])
/-- the exception at e tells of v -/
def NPx (CN : Addr) (H : Hp) (e : Addr) (v : V) : Prop := ∃ dx, H e = some (ExF e CN (some dx)) ∧ H dx = some (XD dx [("found", v)])
theorem np_fin {CN e dx : Addr} {v : V} {H H' : Hp} (g : Same H H') (he : H' e = none) (hd : upd H' e (Ex0 e CN none) dx = none) :
    Same H (upd (upd (upd (upd H' e (Ex0 e CN none)) dx (XD dx [("found", v)])) e (Ex0 e CN (some dx))) e (ExF e CN (some dx))) ∧ NPx CN (upd (upd (upd (upd H' e (Ex0 e CN none)) dx (XD dx [("found", v)])) e (Ex0 e CN (some dx))) e (ExF e CN (some dx))) e v := by
  have ne : dx ≠ e := fun z => by rw [z, upd_same] at hd; cases hd
  have hd' : H' dx = none := by rw [upd_ne ne] at hd; exact hd
  refine ⟨fun b o q => ?_, dx, upd_same, ?_⟩
  · have q' := g b o q
    have n1 : b ≠ e := ne_of_none q' he
    have n2 : b ≠ dx := ne_of_none q' hd'
    rw [upd_ne n1, upd_ne n1, upd_ne n2, upd_ne n1]; exact q'
  · rw [upd_ne ne, upd_ne ne, upd_same]
def spRE (K : PySem.W.Frag) : Sp := fun vs H Q _ => ∃ (e : Addr) (v : V) (C R fI : Addr) (dx : Option Addr), vs = [.ref e, v] ∧ H e = some (Ex0 e C dx) ∧ ExCl K C R fI ∧ Q .non H
def spNP (CN : Addr) : Sp := fun vs H Q _ => ∃ (e : Addr) (v : V), vs = [.ref e, v] ∧ H e = some (Ex0 e CN none) ∧ ∀ dx, H dx = none → Q .non (upd (upd H dx (XD dx [("found", v)])) e (Ex0 e CN (some dx)))
/-- the place lies in a room of w cells -/
def In3 (c s b : Int) (w : Nat) : Prop := Ok3 c s b ∧ c + nCells b ≤ w
theorem pe_fldK {X : Cx} {K : PySem.W.Frag} {e : Expr} {f : Str} {pos : Pos} {ta : TE} (hK : X.K = K) (he : PE X e ta) (hb : attributeBase e f X.env (eval e X.env) = eval e X.env) : PE X (.Attribute e f pos) (tFld K ta f) := hK ▸ pe_fld he hb
/-- In3 in natural numbers -/
theorem In3.nat {c s b : Int} {w : Nat} (h : In3 c s b w) : ∃ cn sn bn : Nat, c = cn ∧ s = sn ∧ b = bn ∧ sn + bn ≤ 8 * nCells b ∧ cn + nCells b ≤ w ∧ nCells b ≤ 64 ∧ 1 ≤ nCells b ∧ sn ≤ 6 ∧ 1 ≤ bn ∧ bn ≤ 512 := by
  obtain ⟨ho, hw⟩ := h
  have h1 := nCells_le ho
  have h2 := nCells_pos b
  obtain ⟨h0, h3⟩ := ho
  have hn : nCells b = (if b / 8 > 1 then b / 8 else 1).toNat := rfl
  refine ⟨c.toNat, s.toNat, b.toNat, ?_, ?_, ?_, ?_, ?_, h1, h2, ?_, ?_, ?_⟩ <;> (rcases h3 with ⟨h4, h5⟩ | ⟨h4, n, h5, h6, h7⟩ <;> (try split at hn) <;> omega)
theorem change_lt {u v P : Int} (hu : 0 ≤ u ∧ u < P) (hv : 0 ≤ v ∧ v < P) {b : Nat} (hP : P = 1 * 2 ^ b) (hb : b ≤ 512) : (u - v).natAbs < 2 ^ 4000 := by
  have h1 : (u - v).natAbs < P.toNat := by omega
  have h2 : P.toNat = 2 ^ b := by
    rw [hP, Int.one_mul]
    have : ((2 : Int) ^ b) = ((2 ^ b : Nat) : Int) := by rw [Int.natCast_pow]; rfl
    rw [this, Int.toNat_natCast]
  rw [h2] at h1
  exact Nat.lt_of_lt_of_le h1 (Nat.pow_le_pow_right (by decide) (by omega))
/-- things that are no whole numbers -/
def oddT : List String := ["bool", "NoneType", "str", "list", "tuple", "dict"]
def Odd (K : PySem.W.Frag) (H : Hp) (x : V) : Prop := ∃ t, t ∈ oddT ∧ tyM K x H t
def spIsW (K : PySem.W.Frag) : Sp := fun vs H Q _ => (∃ n : Int, vs = [.int n] ∧ Q (.bl true) H) ∨ (∃ x, vs = [x] ∧ Odd K H x ∧ Q (.bl false) H)
/-- a thing -/
structure Th (K : PySem.W.Frag) (H : Hp) (x : V) (d : PyData) : Prop where
  dat : DatF K H x d
  sh : d.showable = true
  dp : d.depth ≤ 8
  ln : d.shown.length ≤ sizeLine
theorem Th.same {K : PySem.W.Frag} {H H' : Hp} {x : V} {d : PyData} (h : Th K H x d) (g : Same H H') : Th K H' x d := ⟨h.dat.same g, h.sh, h.dp, h.ln⟩
/-- what is told of a thing: whether it is a place -/
def GoodD (d : PyData) : Prop := ∃ c s b, d = .tuple [.int c, .int s, .int b] ∧ Ok3 c s b
def InD (d : PyData) (w : Nat) : Prop := ∃ c s b, d = .tuple [.int c, .int s, .int b] ∧ In3 c s b w
theorem th_tuple {K : PySem.W.Frag} {H : Hp} {x : V} {c s b : Int} (h : DatF K H x (.tuple [.int c, .int s, .int b])) : ∃ t, x = .ref t ∧ T3 K H t c s b := by
  rcases h with ⟨h, _⟩ | ⟨_, _, _, _, _, e⟩
  · cases h with
    | tup hT hs =>
      cases hs with
      | cons h0 hs =>
        cases hs with
        | cons h1 hs =>
          cases hs with
          | cons h2 hs =>
            cases hs; cases h0; cases h1; cases h2
            exact ⟨_, rfl, hT⟩
  · cases e
theorem self_of {K : PySem.W.Frag} {H : Hp} {x : V} {d : PyData} (h : DatF K H x d) : SelfV x := by
  rcases h with ⟨h, _⟩ | ⟨a, _, rfl, _⟩
  · cases h with
    | non => exact .inl rfl
    | bl _ => exact .inl rfl
    | int _ => exact .inl rfl
    | str _ => exact .inl rfl
    | lst _ _ => exact .inr ⟨_, rfl⟩
    | tup _ _ => exact .inr ⟨_, rfl⟩
  · exact .inr ⟨a, rfl⟩
/-- is it an int -/
def isIntV : V → Bool
  | .int _ => true
  | _ => false
theorem odd_of {K : PySem.W.Frag} {H : Hp} {x : V} {d : PyData} (h : Dat K H x d) : (∃ n, x = .int n) ∨ (isIntV x = false ∧ Odd K H x) := by
  cases h with
  | non => exact .inr ⟨rfl, "NoneType", by decide, .inl rfl⟩
  | bl _ => exact .inr ⟨rfl, "bool", by decide, .inl rfl⟩
  | int n => exact .inl ⟨n, rfl⟩
  | str _ => exact .inr ⟨rfl, "str", by decide, .inl rfl⟩
  | lst h _ => exact .inr ⟨rfl, "list", by decide, .inl (.inl ⟨rfl, _, h⟩)⟩
  | tup h _ => exact .inr ⟨rfl, "tuple", by decide, .inl (.inr ⟨rfl, _, h⟩)⟩
theorem datAll_len {K : PySem.W.Frag} {H : Hp} : ∀ {xs : List V} {ds : List PyData}, DatAll K H xs ds → xs.length = ds.length
  | _, _, .nil => rfl
  | _, _, .cons _ t => by rw [List.length_cons, List.length_cons, datAll_len t]
theorem datAll_get {K : PySem.W.Frag} {H : Hp} : ∀ {xs : List V} {ds : List PyData} {i : Nat} {x : V}, DatAll K H xs ds → xs[i]? = some x → ∃ d, Dat K H x d
  | _, _, _, _, .nil, e => by simp at e
  | _, _, 0, _, .cons h _, e => by simp at e; subst e; exact ⟨_, h⟩
  | _, _, i + 1, _, .cons _ t, e => datAll_get (i := i) t (by simpa using e)
def spIsPG (K : PySem.W.Frag) : Sp := fun vs H Q _ => ∃ x d, vs = [x] ∧ DatF K H x d ∧ ∀ (k : Bool) (H' : Hp), Same H H' → (k = true ↔ GoodD d) → Q (.bl k) H'
def spNeedG (K : PySem.W.Frag) (CN : Addr) : Sp := fun vs H Q E => ∃ x d, vs = [x] ∧ DatF K H x d ∧ (GoodD d → ∀ H', Same H H' → Q .non H') ∧ (¬ GoodD d → ∀ e H', Same H H' → H e = none → NPx CN H' e x → E (.ref e) none H')
def spCellsG (K : PySem.W.Frag) (CN : Addr) : Sp := fun vs H Q E => ∃ x d, vs = [x] ∧ DatF K H x d ∧ (∀ c s b, d = .tuple [.int c, .int s, .int b] → Ok3 c s b → ∀ (r : Addr) (H' : Hp), Same H H' → H r = none → H' r = some (.lst ((rangeL c (nCells b)).map V.int)) → Q (.ref r) H') ∧
  (¬ GoodD d → ∀ e H', Same H H' → H e = none → NPx CN H' e x → E (.ref e) none H')
def spFirst (K : PySem.W.Frag) : Sp := fun vs H Q _ => ∃ (t : Addr) (c s b : Int), vs = [.ref t] ∧ T3 K H t c s b ∧ ∀ n : Int, Q (.int n) H
def spSharesG (K : PySem.W.Frag) (CN : Addr) : Sp := fun vs H Q E => ∃ x d y d', vs = [x, y] ∧ DatF K H x d ∧ DatF K H y d' ∧ (GoodD d → GoodD d' → ∀ (k : Bool) (H' : Hp), Same H H' → Q (.bl k) H') ∧
  (¬ GoodD d → ∀ e H', Same H H' → H e = none → NPx CN H' e x → E (.ref e) none H') ∧ (GoodD d → ¬ GoodD d' → ∀ e H', Same H H' → H e = none → NPx CN H' e y → E (.ref e) none H')
def spWithinG (K : PySem.W.Frag) (CR CN : Addr) : Sp := fun vs H Q E => ∃ (a dx l : Addr) (w : Nat) (x : V) (d : PyData), vs = [.ref a, x] ∧ Rm CR H a dx l w ∧ DatF K H x d ∧
  (∀ c s b, d = .tuple [.int c, .int s, .int b] → In3 c s b w → ∀ (r : Addr) (H' : Hp), Same H H' → H r = none → H' r = some (.lst ((rangeL c (nCells b)).map V.int)) → Q (.ref r) H') ∧ (¬ InD d w → ∀ e H', Same H H' → H e = none → NPx CN H' e x → E (.ref e) none H')
def spTakenG (K : PySem.W.Frag) (CR CN : Addr) : Sp := fun vs H Q E => ∃ (a dx l : Addr) (w N : Nat) (x : V) (d : PyData), vs = [.ref a, x] ∧ Rm CR H a dx l w ∧ H l = some (.lst ((cellsF N 0 w).map V.int)) ∧ DatF K H x d ∧
  (∀ c s b, d = .tuple [.int c, .int s, .int b] → In3 c s b w → ∀ H', Same H H' → Q (.int ((N / 2 ^ (8 * c + s).toNat % 2 ^ b.toNat : Nat) : Int)) H') ∧ (¬ InD d w → ∀ e H', Same H H' → H e = none → NPx CN H' e x → E (.ref e) none H')
def spLeftG (K : PySem.W.Frag) (CR CN : Addr) : Sp := fun vs H Q E => ∃ (a dx l : Addr) (w N : Nat) (x : V) (d : PyData) (n : Int), vs = [.ref a, x, .int n] ∧ Rm CR H a dx l w ∧ H l = some (.lst ((cellsF N 0 w).map V.int)) ∧ w ≤ 8192 ∧ DatF K H x d ∧
  (∀ c s b, d = .tuple [.int c, .int s, .int b] → In3 c s b w → ∀ H', (∀ b' o, b' ≠ l → H b' = some o → H' b' = some o) → H' l = some (.lst ((cellsF (put N (8 * c + s).toNat b.toNat n) 0 w).map V.int)) → Q .non H') ∧ (¬ InD d w → ∀ e H', Same H H' → H e = none → NPx CN H' e x → E (.ref e) none H')
def spCells : Sp := fun vs H Q _ => ∃ n w : Int, vs = [.int n, .int w] ∧ 0 ≤ w ∧ w ≤ 64 ∧ ∀ r, H r = none → Q (.ref r) (upd H r (.lst ((cellsL w.toNat n).map V.int)))
def spWord (K : PySem.W.Frag) : Sp := fun vs H Q _ => ∃ (a : Addr) (ns : List Int), vs = [.ref a] ∧ SqL K H a (ns.map V.int) ∧ Q (.int (val ns)) H
def spRoomCells (CR : Addr) : Sp := fun vs H Q _ => ∃ (a dx l : Addr) (w N : Nat), vs = [.ref a] ∧ Rm CR H a dx l w ∧ H l = some (.lst ((cellsF N 0 w).map V.int)) ∧ w ≤ 8192 ∧ ∀ r, H r = none → Q (.ref r) (upd H r (.lst ((cellsF N 0 w).map V.int)))
def spRoomInit (CR : Addr) : Sp := fun vs H Q _ => ∃ (a dx : Addr) (w : Nat), vs = [.ref a, .int w] ∧ H a = some (.ins CR dx []) ∧ 1 ≤ w ∧ w ≤ 8192 ∧ ∀ l H', H l = none → (∀ b o, b ≠ a → H b = some o → H' b = some o) → Rm CR H' a dx l w → H' l = some (.lst ((cellsF 0 0 w).map V.int)) → Q .non H'
theorem nC2 : ((nCells 2 : Nat) : Int) = 1 := by decide
theorem nC8 {n : Int} (h : 1 ≤ n) : ((nCells (8 * n) : Nat) : Int) = n := by unfold nCells; split <;> omega
theorem pe_xfldK {X : Cx} {K : PySem.W.Frag} {o : Expr} {f : Str} {pos : Pos} {ta : TE} (hK : X.K = K) (he : PE X o ta) (hb : attributeBase o f X.env (eval o X.env) = eval o X.env) : PE X (.Attribute o f pos) (tXfld K ta f) := hK ▸ pe_xfld he hb
def spKept (K : PySem.W.Frag) (CR : Addr) : Sp := fun vs H Q _ => ∃ (a dx l r : Addr) (w N c m : Nat), vs = [.ref a, .ref r] ∧ Rm CR H a dx l w ∧ H l = some (.lst ((cellsF N 0 w).map V.int)) ∧ SqL K H r ((rangeL (c : Int) m).map V.int) ∧ c + m ≤ w ∧ m ≤ 64 ∧ ∀ H', Same H H' → Q (.int ((N / 256 ^ c % 256 ^ m : Nat) : Int)) H'
def spBtwG (K : PySem.W.Frag) : Sp := fun vs H Q _ => (∃ x lo hi : Int, vs = [.int x, .int lo, .int hi] ∧ ∀ k : Bool, (k = true ↔ lo ≤ x ∧ x ≤ hi) → Q (.bl k) H) ∨ (∃ (x : V) (lo hi : Int), vs = [x, .int lo, .int hi] ∧ Odd K H x ∧ Q (.bl false) H)
/-- no width of a room -/
def BadW (K : PySem.W.Frag) (H : Hp) (x : V) : Prop := (∃ n : Int, x = .int n ∧ ¬ (1 ≤ n ∧ n ≤ 8192)) ∨ Odd K H x
def spRoomInitG (K : PySem.W.Frag) (CR CN : Addr) : Sp := fun vs H Q E => ∃ (a dx : Addr) (x : V), vs = [.ref a, x] ∧ H a = some (.ins CR dx []) ∧
  ((∃ w : Nat, x = .int w ∧ 1 ≤ w ∧ w ≤ 8192 ∧ ∀ l H', H l = none → (∀ b o, b ≠ a → H b = some o → H' b = some o) → Rm CR H' a dx l w → H' l = some (.lst ((cellsF 0 0 w).map V.int)) → Q .non H') ∨
   (BadW K H x ∧ ∀ e H', Same H H' → H e = none → NPx CN H' e x → E (.ref e) none H'))
def spPlaceR (K : PySem.W.Frag) : Sp := fun vs H Q _ => ∃ (p : Addr) (wide : Int), vs = [.ref p, .int wide] ∧ 1 ≤ wide ∧ wide ≤ 8192 ∧ St3 H p ∧
  ∀ (t : Addr) (H' : Hp) (c s b : Int), Ok3 c s b → c + nCells b ≤ wide → Drawn p H H' → T3 K H' t c s b → Q (.ref t) H'
/-- what a door tells -/
def Tells (door : Int) (d d' : PyData) (w : Nat) (x y : V) : Option V → Prop
  | none => ((door = 0 ∨ door = 1) ∧ GoodD d) ∨ (door = 2 ∧ GoodD d ∧ GoodD d') ∨ (door = 3 ∧ InD d w)
  | some v => ((door = 0 ∨ door = 1 ∨ door = 2) ∧ ¬ GoodD d ∧ v = x) ∨ (door = 2 ∧ GoodD d ∧ ¬ GoodD d' ∧ v = y) ∨ ((door = 3 ∨ door = 4) ∧ ¬ InD d w ∧ v = x)
section
variable {door : Int} {d d' : PyData} {w : Nat} {x y : V} {z : Option V}
theorem Tells.t0 (h : Tells door d d' w x y z) (hd : door = 0 ∨ door = 1) : (GoodD d → z = none) ∧ (¬ GoodD d → z = some x) := by
  cases z with
  | none =>
    rcases h with ⟨_, g⟩ | ⟨e, _⟩ | ⟨e, _⟩
    · exact ⟨fun _ => rfl, fun n => absurd g n⟩
    all_goals (exfalso; omega)
  | some v =>
    rcases h with ⟨_, n, rfl⟩ | ⟨e, _⟩ | ⟨e, _⟩
    · exact ⟨fun g => absurd g n, fun _ => rfl⟩
    all_goals (exfalso; omega)
theorem Tells.t2 (h : Tells door d d' w x y z) (hd : door = 2) : (GoodD d → GoodD d' → z = none) ∧ (¬ GoodD d → z = some x) ∧ (GoodD d → ¬ GoodD d' → z = some y) := by
  cases z with
  | none =>
    rcases h with ⟨e, _⟩ | ⟨_, g, g'⟩ | ⟨e, _⟩
    · exfalso; omega
    · exact ⟨fun _ _ => rfl, fun n => absurd g n, fun _ n => absurd g' n⟩
    · exfalso; omega
  | some v =>
    rcases h with ⟨_, n, rfl⟩ | ⟨_, g, n, rfl⟩ | ⟨e, _⟩
    · exact ⟨fun g => absurd g n, fun _ => rfl, fun g => absurd g n⟩
    · exact ⟨fun _ g' => absurd g' n, fun n' => absurd g n', fun _ _ => rfl⟩
    · exfalso; omega
theorem Tells.t3 (h : Tells door d d' w x y z) (hd : door = 3) : (InD d w → z = none) ∧ (¬ InD d w → z = some x) := by
  cases z with
  | none =>
    rcases h with ⟨e, _⟩ | ⟨e, _⟩ | ⟨_, g⟩
    · exfalso; omega
    · exfalso; omega
    · exact ⟨fun _ => rfl, fun n => absurd g n⟩
  | some v =>
    rcases h with ⟨e, _⟩ | ⟨e, _⟩ | ⟨_, n, rfl⟩
    · exfalso; omega
    · exfalso; omega
    · exact ⟨fun g => absurd g n, fun _ => rfl⟩
theorem Tells.t4 (h : Tells door d d' w x y z) (h0 : door ≠ 0) (h1 : door ≠ 1) (h2 : door ≠ 2) (h3 : door ≠ 3) : ¬ InD d w ∧ z = some x := by
  cases z with
  | none =>
    rcases h with ⟨e, _⟩ | ⟨e, _⟩ | ⟨e, _⟩
    all_goals (exfalso; omega)
  | some v =>
    rcases h with ⟨e, _⟩ | ⟨e, _⟩ | ⟨_, n, rfl⟩
    · exfalso; omega
    · exfalso; omega
    · exact ⟨n, rfl⟩
end
def toldL : Option V → List V
  | none => [.str "none"]
  | some v => [.str "place", v]
def spTold (K : PySem.W.Frag) (CR : Addr) : Sp := fun vs H Q _ => ∃ (a dx l : Addr) (w N : Nat) (door : Int) (x y : V) (d d' : PyData) (z : Option V), vs = [.ref a, .int door, x, y] ∧ Rm CR H a dx l w ∧ H l = some (.lst ((cellsF N 0 w).map V.int)) ∧ w ≤ 8192 ∧ DatF K H x d ∧ (door = 2 → DatF K H y d') ∧ Tells door d d' w x y z ∧
  ∀ r H', Same H H' → H r = none → H' r = some (.lst (toldL z)) → Q (.ref r) H'
def spSameT (K : PySem.W.Frag) : Sp := fun vs H Q _ => ∃ (r : Addr) (x : V) (d : PyData), vs = [.ref r, x] ∧ H r = some (.lst [.str "place", x]) ∧ Th K H x d ∧ ∀ H', Same H H' → Q (.bl true) H'
theorem St3.ne {H : Hp} {p t : Addr} (h : St3 H p) (ht : H t = none) : t ≠ p := fun z => by
  obtain ⟨x, y, u, e⟩ := h
  rw [← z, ht] at e; cases e
/-- a thing that stays one as long as only p turns -/
def ThP (K : PySem.W.Frag) (p : Addr) (H : Hp) (x : V) (d : PyData) : Prop := ∀ H', But p H H' → Th K H' x d
structure TPd (K : PySem.W.Frag) (p : Addr) (H : Hp) (x : V) (d : PyData) (n m : Nat) : Prop where
  dat : ∀ H', But p H H' → Dat K H' x d
  sm : Sm d n m
structure TPa (K : PySem.W.Frag) (p : Addr) (H : Hp) (xs : List V) (ds : List PyData) (n m : Nat) : Prop where
  dat : ∀ H', But p H H' → DatAll K H' xs ds
  sm : SmA ds n m
theorem len_of {d : PyData} (h : d.leavesShort 200 = true) (hw : d.weight ≤ 10000) : d.shown.length ≤ sizeLine := by
  have h1 := PyData.shown_le 200 (by decide) d h
  rw [sizeLine_eq]
  omega
section
variable {K : PySem.W.Frag} {p : Addr} {H H' : Hp} {x : V} {xs : List V} {d : PyData} {ds : List PyData} {n m n' m' : Nat}
theorem ThP.go (h : ThP K p H x d) (g : But p H H') : ThP K p H' x d := fun H2 g2 => h H2 (g.trans g2)
theorem ThP.now (h : ThP K p H x d) : Th K H x d := h H But.refl
theorem TPd.go (h : TPd K p H x d n m) (g : But p H H') : TPd K p H' x d n m := ⟨fun H2 g2 => h.dat H2 (g.trans g2), h.sm⟩
theorem TPd.le (h : TPd K p H x d n m) (hn : n ≤ n') (hm : m ≤ m') : TPd K p H x d n' m' := ⟨h.dat, h.sm.le hn hm⟩
theorem TPa.nil : TPa K p H [] [] 0 0 := ⟨fun _ _ => .nil, SmA.nil⟩
theorem TPa.cons (h : TPd K p H x d n m) (t : TPa K p H xs ds n' m') : TPa K p H (x :: xs) (d :: ds) (n + 1 + n') (max m m') := ⟨fun H' g => .cons (h.dat H' g) (t.dat H' g), SmA.cons h.sm t.sm⟩
theorem TPd.tup {t : Addr} (h : H t = some (.tup xs)) (ne : t ≠ p) (a : TPa K p H xs ds n m) : TPd K p H (.ref t) (.tuple ds) n (m + 1) := ⟨fun H' g => .tup (SqT.of (g _ _ ne h)) (a.dat H' g), a.sm.tup⟩
theorem TPd.lst {t : Addr} (h : H t = some (.lst xs)) (ne : t ≠ p) (a : TPa K p H xs ds n m) : TPd K p H (.ref t) (.list ds) n (m + 1) := ⟨fun H' g => .lst (SqL.of (g _ _ ne h)) (a.dat H' g), a.sm.lst⟩
theorem TPd.th (h : TPd K p H x d n m) (hn : n ≤ 10000) (hm : m ≤ 8) : ThP K p H x d := fun H' g => ⟨.inl ⟨h.dat H' g, h.sm.nd⟩, h.sm.sh, Nat.le_trans h.sm.dp hm, h.sm.len hn⟩
theorem TPd.int {i : Int} (h : i.natAbs < 2 ^ 100) : TPd K p H (.int i) (.int i) 101 0 := ⟨fun _ _ => .int i, Sm.int h⟩
theorem TPd.non : TPd K p H .non .none 0 0 := ⟨fun _ _ => .non, Sm.none⟩
theorem TPd.bl (b : Bool) : TPd K p H (.bl b) (.bool b) 0 0 := ⟨fun _ _ => .bl b, Sm.bool b⟩
theorem TPd.str {s : Str} (h : Sm (.str s) 20 0) : TPd K p H (.str s) (.str s) 20 0 := ⟨fun _ _ => .str s, h⟩
theorem ThP.dict {a : Addr} {kvs : List (Key × V)} (h : H a = some (.dK kvs)) (ne : a ≠ p) (hf : ∀ z ∈ kvs, flatV z.2 = true) (hs : (PyData.dict (kvs.map fun z => (keyD z.1, flatD z.2))).showable = true) (hd : (PyData.dict (kvs.map fun z => (keyD z.1, flatD z.2))).depth ≤ 8)
    (hl : (PyData.dict (kvs.map fun z => (keyD z.1, flatD z.2))).leavesShort 200 = true) (hw : (PyData.dict (kvs.map fun z => (keyD z.1, flatD z.2))).weight ≤ 10000) : ThP K p H (.ref a) (.dict (kvs.map fun z => (keyD z.1, flatD z.2))) :=
  fun H' g => ⟨.inr ⟨a, kvs, rfl, g _ _ ne h, hf, rfl⟩, hs, hd, len_of hl hw⟩
end
theorem ng1 {d d1 d2 : PyData} (h : ∀ n, d = .int n → n < 0) : ¬ GoodD (.tuple [d, d1, d2]) := fun z => by
  obtain ⟨c, s, b, e, ho⟩ := z
  cases e
  have := h c rfl
  have := ho.1
  omega
theorem ng2 {c : Int} {d : PyData} (h : ∀ n, d = .int n → n ≠ 0 ∧ n ≠ 2 ∧ n ≠ 4 ∧ n ≠ 6) : ¬ GoodD (.tuple [.int c, d, .int 2]) := fun z => by
  obtain ⟨c', s, b, e, ho⟩ := z
  cases e
  have := h s rfl
  obtain ⟨_, ⟨_, h1⟩ | ⟨_, n, h1, h2, h3⟩⟩ := ho <;> omega
theorem ng3 {c v : Int} {d : PyData} (h : ∀ n, d = .int n → n ≠ 0) (hv : 0 ≤ v) : ¬ GoodD (.tuple [.int c, d, .int (8 + 8 * v)]) := fun z => by
  obtain ⟨c', s, b, e, ho⟩ := z
  cases e
  have := h s rfl
  obtain ⟨_, ⟨h0, h1⟩ | ⟨h0, n, h1, h2, h3⟩⟩ := ho <;> omega
theorem ng4 {c : Int} {d : PyData} (h : ∀ n, d = .int n → n ≠ 2 ∧ (n < 8 ∨ n > 512 ∨ n % 8 ≠ 0)) : ¬ GoodD (.tuple [.int c, .int 0, d]) := fun z => by
  obtain ⟨c', s, b, e, ho⟩ := z
  cases e
  have := h b rfl
  obtain ⟨_, ⟨h0, h1⟩ | ⟨h0, n, h1, h2, h3⟩⟩ := ho <;> omega
theorem ngT {ds : List PyData} (h : ds.length ≠ 3) : ¬ GoodD (.tuple ds) := fun z => by
  obtain ⟨c', s, b, e, ho⟩ := z
  cases e
  exact h rfl
theorem ngN {d : PyData} (h : ∀ ds, d ≠ .tuple ds) : ¬ GoodD d := fun z => by
  obtain ⟨c', s, b, e, ho⟩ := z
  exact h _ e
theorem good_of_in {d : PyData} {w : Nat} (h : InD d w) : GoodD d := by
  obtain ⟨c, s, b, e, ho⟩ := h
  exact ⟨c, s, b, e, ho.1⟩
def spBad (K : PySem.W.Frag) : Sp := fun vs H Q _ => ∃ (p : Addr) (wide : Int), vs = [.ref p, .int wide] ∧ 1 ≤ wide ∧ wide ≤ 8192 ∧ St3 H p ∧
  ∀ (x : V) (d : PyData) (H' : Hp), Drawn p H H' → ThP K p H' x d → ¬ GoodD d → Q x H'
/-- a room as it stands -/
structure RS (CR : Addr) (H : Hp) (a dx l : Addr) (w N : Nat) : Prop where
  r : Rm CR H a dx l w
  c : H l = some (.lst ((cellsF N 0 w).map V.int))
  w : w ≤ 8192
theorem RS.same {CR : Addr} {H H' : Hp} {a dx l : Addr} {w N : Nat} (h : RS CR H a dx l w N) (g : Same H H') : RS CR H' a dx l w N := ⟨g _ _ h.r, g _ _ h.c, h.w⟩
theorem RS.drawn {CR : Addr} {H H' : Hp} {p a dx l : Addr} {w N : Nat} (h : RS CR H a dx l w N) (hs : St3 H p) (np : l ≠ p) (g : Drawn p H H') : RS CR H' a dx l w N := by
  obtain ⟨x, y, u, e⟩ := hs
  exact ⟨g.2 _ _ (ne_of h.r e (by intro z; cases z)) h.r, g.2 _ _ np h.c, h.w⟩
theorem Drawn.of_same {p : Addr} {H H' : Hp} (h : St3 H p) (g : Same H H') : Drawn p H H' := by
  obtain ⟨x, y, u, e⟩ := h
  exact ⟨⟨x, y, u, g _ _ e⟩, fun b o _ q => g b o q⟩
theorem dat3 {K : PySem.W.Frag} {H : Hp} {t : Addr} {c s b : Int} (h : T3 K H t c s b) : DatF K H (.ref t) (.tuple [.int c, .int s, .int b]) := .inl ⟨.tup h (.cons (.int _) (.cons (.int _) (.cons (.int _) .nil))), rfl⟩
theorem th3 {K : PySem.W.Frag} {H : Hp} {t : Addr} {c s b : Int} (h : T3 K H t c s b) (hc : c.natAbs < 2 ^ 100) (hs : s.natAbs < 2 ^ 100) (hb : b.natAbs < 2 ^ 100) : Th K H (.ref t) (.tuple [.int c, .int s, .int b]) := by
  have sm := (SmA.cons (Sm.int hc) (SmA.cons (Sm.int hs) (SmA.cons (Sm.int hb) SmA.nil))).tup
  exact ⟨dat3 h, sm.sh, Nat.le_trans sm.dp (by decide), sm.len (by decide)⟩
def spDoors (K : PySem.W.Frag) (CR : Addr) : Sp := fun vs H Q _ => ∃ (p a dx l t : Addr) (w N : Nat) (x : V) (d : PyData) (c s b : Int), vs = [.ref p, .ref a, x, .ref t] ∧ St3 H p ∧ RS CR H a dx l w N ∧ l ≠ p ∧ ThP K p H x d ∧ ¬ GoodD d ∧ T3 K H t c s b ∧ Ok3 c s b ∧ ∀ H', Drawn p H H' → Q (.bl true) H'
def spPast (K : PySem.W.Frag) (CR : Addr) : Sp := fun vs H Q _ => ∃ (p a dx l : Addr) (w N : Nat), vs = [.ref p, .ref a, .int w] ∧ St3 H p ∧ RS CR H a dx l w N ∧ 1 ≤ w ∧ l ≠ p ∧ ∀ H', Drawn p H H' → Q (.bl true) H'
def spNoRoom (K : PySem.W.Frag) : Sp := fun vs H Q _ => ∃ (x : V) (d : PyData), vs = [x] ∧ (∀ H', Same H H' → BadW K H' x) ∧ Th K H x d ∧ (∀ H', Same H H' → (flatV x = true) ∨ (∃ d, Dat K H' x d ∧ SeqAt.shaped d = true) ∨ ∃ a, x = .ref a ∧ H' a = some (.dK [])) ∧ ∀ H', Same H H' → Q (.bl true) H'
theorem put_self (N p b : Nat) : put N p b ((N / 2 ^ p % 2 ^ b : Nat) : Int) = N := by
  apply Nat.eq_of_testBit_eq
  intro j
  rw [put_bit]
  split
  · rfl
  · split
    · have h0 : (2 : Int) ^ b = ((2 ^ b : Nat) : Int) := by rw [Int.natCast_pow]; rfl
      rw [h0, ← Int.natCast_emod, Int.toNat_natCast, Nat.mod_mod, Nat.testBit_mod_two_pow, Nat.testBit_div_two_pow, decide_eq_true (by omega), Bool.true_and, show j - p + p = j by omega]
    · rfl
theorem made_room {CR x dx l : Addr} {H' H2 : Hp} (hx : H' x = none) (hd : H' dx = none) (hl : upd (upd H' dx (.own x)) x (.ins CR dx []) l = none) (hk : ∀ b o, b ≠ x → upd (upd H' dx (.own x)) x (.ins CR dx []) b = some o → H2 b = some o) : Same H' H2 ∧ H' l = none := by
  refine ⟨fun b o q => ?_, ?_⟩
  · have n1 : b ≠ x := ne_of_none q hx
    have n2 : b ≠ dx := ne_of_none q hd
    exact hk b o n1 (by rw [upd_ne n1, upd_ne n2]; exact q)
  · have n1 : l ≠ x := fun z => by rw [z, upd_same] at hl; cases hl
    have n2 : l ≠ dx := fun z => by
      rw [upd_ne n1, z, upd_same] at hl; cases hl
    rw [upd_ne n1, upd_ne n2] at hl; exact hl
theorem made_same {x dx : Addr} {o o' : HO} {H : Hp} (hx : H x = none) (hd : H dx = none) : Same H (upd (upd H dx o) x o') := fun b u q => by
  rw [upd_ne (ne_of_none q hx), upd_ne (ne_of_none q hd)]; exact q
end K06

namespace K06
open PySem L2 PyProof.Rows K01 K03
abbrev s_is_whole : Stmt := top 5
theorem sc_is_whole : FnScope ["thing"] ["thing"] (defScope s_is_whole) := ⟨rfl, rfl, rfl, by decide +kernel, rfl, by decide +kernel, by decide +kernel⟩
section
variable {P : Program} {w : World} {K : PySem.W.Frag} {mg : Str → Option Value} {base : Heap}
theorem ok_is_whole {k : Nat} {f : Addr} {fd : FuncData} (F : Fun K "is_whole" "is_whole" s_is_whole f fd) (M : Blt mg) {t1 t2 t3 t4 : Tok} {ts : Addr} (C : Cst K mg t1 t2 t3 t4 ts) {C_Room f_Room_init : Addr} (T_Room : TCls K mg "Room" C_Room f_Room_init ["wide", "held"]) {C_RoomError f_RoomError_init : Addr} (T_RoomError : TXB K mg C_RoomError f_RoomError_init) (VI : VInit K) {C_NoPlace f_NoPlace_init : Addr} (T_NoPlace : TX K mg "NoPlace" C_NoPlace C_RoomError f_NoPlace_init ["found"]) {C_NoRoom f_NoRoom_init : Addr} (T_NoRoom : TX K mg "NoRoom" C_NoRoom C_RoomError f_NoRoom_init ["found"]) : FnOk P w K mg base CX0 (k + 2) f fd ["thing"] (spIsW K) := by
  refine F.ok sc_is_whole (fun vs H Q E h => ?_) (fun cdv A outer s0 H vs Q E hr0 h => ?_)
  · rcases h with ⟨n, rfl, _⟩ | ⟨x, rfl, _⟩ <;> rfl

  have hr := hr0.mono (Nat.le_succ _)
  refine ⟨_, (pss_one (ps_ret (pe_and (pe_callB call_isiM rfl M.isinstance boot_isinstance (pa_cons (pv 0) (pa_cons (pe_bltn (v := .ty "int") rfl M.int boot_int rfl) pa_nil))) (pe_one (pe_not (pe_callB call_isiM rfl M.isinstance boot_isinstance (pa_cons (pv 0) (pa_cons (pe_bltn (v := .ty "bool") rfl M.bool boot_bool rfl) pa_nil)))))))), ?_⟩
  rcases h with ⟨n, rfl, q⟩ | ⟨x, rfl, ⟨t, ht, hty⟩, q⟩
  · refine ⟨_, rfl, _, _, "int", rfl, by decide, .inl rfl, _, rfl, iteP (by decide) ⟨_, rfl, _, _, "int", rfl, by decide, .inl rfl, _, rfl, ?_⟩⟩
    rw [show isa "int" "bool" = false by decide]
    exact q
  · refine ⟨_, rfl, _, _, t, rfl, by decide, hty, _, rfl, ite2 (fun c => ⟨_, rfl, _, _, t, rfl, by decide, hty, _, rfl, ?_⟩) (fun c => q)⟩
    have e : isa t "bool" = true := by
      simp only [oddT, List.mem_cons, List.not_mem_nil, or_false] at ht
      rcases ht with rfl | rfl | rfl | rfl | rfl | rfl
      · decide
      all_goals exact absurd c (by decide)
    rw [e]
    exact q
end
end K06

namespace K06
open PySem L2 PyProof.Rows K01 K03
abbrev s_is_packed : Stmt := top 16
theorem sc_is_packed : FnScope ["shift", "bits"] ["shift", "bits"] (defScope s_is_packed) := ⟨rfl, rfl, rfl, by decide +kernel, rfl, by decide +kernel, by decide +kernel⟩
section
variable {P : Program} {w : World} {K : PySem.W.Frag} {mg : Str → Option Value} {base : Heap}
theorem ok_is_packed {k : Nat} {f : Addr} {fd : FuncData} (F : Fun K "is_packed" "is_packed" s_is_packed f fd) (M : Blt mg) {t1 t2 t3 t4 : Tok} {ts : Addr} (C : Cst K mg t1 t2 t3 t4 ts) {C_Room f_Room_init : Addr} (T_Room : TCls K mg "Room" C_Room f_Room_init ["wide", "held"]) {C_RoomError f_RoomError_init : Addr} (T_RoomError : TXB K mg C_RoomError f_RoomError_init) (VI : VInit K) {C_NoPlace f_NoPlace_init : Addr} (T_NoPlace : TX K mg "NoPlace" C_NoPlace C_RoomError f_NoPlace_init ["found"]) {C_NoRoom f_NoRoom_init : Addr} (T_NoRoom : TX K mg "NoRoom" C_NoRoom C_RoomError f_NoRoom_init ["found"]) : FnOk P w K mg base CX0 (k + 2) f fd ["shift", "bits"] spPacked := by
  refine F.ok sc_is_packed (fun vs H Q E h => ?_) (fun cdv A outer s0 H vs Q E hr0 h => ?_)
  · obtain ⟨s, b, rfl, _⟩ := h; rfl
  obtain ⟨s, b, rfl, q⟩ := h
  have hr := hr0.mono (Nat.le_succ _)
  refine ⟨_, (pss_one (ps_ret (pe_and (pe_cmpR op_eq (pv 1) (pe_glob (v := .int 2) rfl C.TAG_BITS ⟨_, rfl⟩) (nomark _)) (pe_one (pe_cmpR op_in_seq (pv 0) (pe_glob (v := .ref ts) rfl C.TAG_SHIFTS rfl) (by with_unfolding_all rfl)))))), ?_⟩
  refine ⟨_, rfl, rfl, _, rfl, ite2 (fun c => ?_) (fun c => ?_)⟩
  · have hb : b = 2 := by
      have := of_decide_eq_true c
      exact V.int.inj this
    refine ⟨_, rfl, ts, _, rfl, .inr (C.shifts _), rfl, rfl, q _ ?_⟩
    show inV (.int s) (([0, 2, 4, 6] : List Int).map V.int) = true ↔ _
    rw [inV_ints, decide_eq_true_eq]
    simp [hb]
  · refine q false ⟨fun z => (by cases z), fun z => absurd (decide_eq_true (congrArg V.int z.1)) c⟩
end
end K06

namespace K06
open PySem L2 PyProof.Rows K01 K03
abbrev s_is_whole_cells : Stmt := top 17
theorem sc_is_whole_cells : FnScope ["shift", "bits", "cells", "rest"] ["shift", "bits"] (defScope s_is_whole_cells) := ⟨rfl, rfl, rfl, by decide +kernel, rfl, by decide +kernel, by decide +kernel⟩
section
variable {P : Program} {w : World} {K : PySem.W.Frag} {mg : Str → Option Value} {base : Heap}
theorem ok_is_whole_cells {k : Nat} {f : Addr} {fd : FuncData} (F : Fun K "is_whole_cells" "is_whole_cells" s_is_whole_cells f fd) (M : Blt mg) {t1 t2 t3 t4 : Tok} {ts : Addr} (C : Cst K mg t1 t2 t3 t4 ts) {C_Room f_Room_init : Addr} (T_Room : TCls K mg "Room" C_Room f_Room_init ["wide", "held"]) {C_RoomError f_RoomError_init : Addr} (T_RoomError : TXB K mg C_RoomError f_RoomError_init) (VI : VInit K) {C_NoPlace f_NoPlace_init : Addr} (T_NoPlace : TX K mg "NoPlace" C_NoPlace C_RoomError f_NoPlace_init ["found"]) {C_NoRoom f_NoRoom_init : Addr} (T_NoRoom : TX K mg "NoRoom" C_NoRoom C_RoomError f_NoRoom_init ["found"]) : FnOk P w K mg base CX0 (k + 2) f fd ["shift", "bits"] spWholeC := by
  refine F.ok sc_is_whole_cells (fun vs H Q E h => ?_) (fun cdv A outer s0 H vs Q E hr0 h => ?_)
  · obtain ⟨s, b, rfl, _⟩ := h; rfl
  obtain ⟨s, b, rfl, q⟩ := h
  have hr := hr0.mono (Nat.le_succ _)
  refine ⟨_, (pss_cons (ps_asg (pe_callB call_divmod rfl M.divmod boot_divmod (pa_cons (pv 1) (pa_cons (pe_glob (v := .int 8) rfl C.CELL_BITS ⟨_, rfl⟩) pa_nil))) (pg_tup rfl (pgs_cons (pg_name (i := 2) sc_is_whole_cells.nd rfl (Or.inl rfl)) (pgs_cons (pg_name (i := 3) sc_is_whole_cells.nd rfl (Or.inl rfl)) pgs_nil))))
      (pss_one (ps_ret (pe_and (pe_cmpR op_eq (pv 0) pe_int (nomark _)) (pe_and (pe_cmpR op_eq (pv 3) pe_int (nomark _)) (pe_one (pe_chain op_le op_le pe_int (pv 2) (pe_glob (v := .int 64) rfl C.MOST_PLACE_CELLS ⟨_, rfl⟩)))))))), ?_⟩
  refine ⟨_, rfl, _, _, rfl, ⟨by decide, by decide⟩, fun p hp => ⟨p, _, rfl, SqT.of upd_same, rfl, _, _, rfl, _, _, rfl, rfl, ?_⟩⟩
  have g := same_new hp (.tup [.int (b / 8), .int (b % 8)])
  refine ⟨_, rfl, rfl, _, rfl, ite2 (fun c => ?_) (fun c => ?_)⟩
  · have h1 : s = 0 := V.int.inj (of_decide_eq_true c)
    refine ⟨_, rfl, rfl, _, rfl, ite2 (fun c => ?_) (fun c => ?_)⟩
    · have h2 : b % 8 = 0 := V.int.inj (of_decide_eq_true c)
      refine ⟨_, rfl, _, _, rfl, rfl, _, rfl, ite2 (fun c => ?_) (fun c => ?_)⟩
      · have h3 : 1 ≤ b / 8 := of_decide_eq_true c
        refine ⟨_, _, rfl, rfl, q _ _ g ?_⟩
        rw [decide_eq_true_eq]
        exact ⟨fun z => ⟨h1, h2, h3, z⟩, fun z => z.2.2.2⟩
      · exact q false _ g ⟨fun z => (by cases z), fun z => absurd (decide_eq_true z.2.2.1) c⟩
    · exact q false _ g ⟨fun z => (by cases z), fun z => absurd (decide_eq_true (congrArg V.int z.2.1)) c⟩
  · exact q false _ g ⟨fun z => (by cases z), fun z => absurd (decide_eq_true (congrArg V.int z.1)) c⟩
end
end K06

namespace K06
open PySem L2 PyProof.Rows K01 K03
abbrev s_cells_of : Stmt := top 7
theorem sc_cells_of : FnScope ["word", "width", "cells", "rest", "at"] ["word", "width"] (defScope s_cells_of) := ⟨rfl, rfl, rfl, by decide +kernel, rfl, by decide +kernel, by decide +kernel⟩
section
variable {P : Program} {w : World} {K : PySem.W.Frag} {mg : Str → Option Value} {base : Heap}
theorem ok_cells_of {k : Nat} {f : Addr} {fd : FuncData} (F : Fun K "cells_of" "cells_of" s_cells_of f fd) (M : Blt mg) {t1 t2 t3 t4 : Tok} {ts : Addr} (C : Cst K mg t1 t2 t3 t4 ts) {C_Room f_Room_init : Addr} (T_Room : TCls K mg "Room" C_Room f_Room_init ["wide", "held"]) {C_RoomError f_RoomError_init : Addr} (T_RoomError : TXB K mg C_RoomError f_RoomError_init) (VI : VInit K) {C_NoPlace f_NoPlace_init : Addr} (T_NoPlace : TX K mg "NoPlace" C_NoPlace C_RoomError f_NoPlace_init ["found"]) {C_NoRoom f_NoRoom_init : Addr} (T_NoRoom : TX K mg "NoRoom" C_NoRoom C_RoomError f_NoRoom_init ["found"]) : FnOk P w K mg base CX0 (k + 2) f fd ["word", "width"] spCells := by
  refine F.ok sc_cells_of (fun vs H Q E h => ?_) (fun cdv A outer s0 H vs Q E hr0 h => ?_)
  · obtain ⟨n, w', rfl, _⟩ := h; rfl
  obtain ⟨n, w', rfl, hw0, hw1, q⟩ := h
  have hr := hr0.mono (Nat.le_succ _)
  refine ⟨_, (pss_cons (ps_set (i := 2) sc_cells_of.nd rfl (by first | exact Or.inl rfl | exact Or.inr rfl) (pe_lst pa_nil))
      (pss_cons (ps_set (i := 3) sc_cells_of.nd rfl (by first | exact Or.inl rfl | exact Or.inr rfl) (pv 0))
      (pss_cons (ps_for PassesOwn.never rfl (pi_range1 rfl M.range (pa_cons (pv 1) pa_nil)) (pg_name (i := 4) sc_cells_of.nd rfl (Or.inl rfl)) (pss_cons (ps_expr (pe_bm PySem.F.plainAttrs_list PySem.F.slot_list_append PySem.F.type_list_append mt_append (pv 2) (pa_cons (pe_op op_mod (pv 3) pe_int) pa_nil)))
      (pss_one (ps_set (i := 3) sc_cells_of.nd rfl (by first | exact Or.inl rfl | exact Or.inr rfl) (pe_op op_fdiv (pv 3) pe_int)))))
      (pss_one (ps_ret (pv 2)))))), ?_⟩
  refine ⟨(by show 0 ≤ sizeLine; decide), fun r hn => ?_⟩
  refine ⟨_, rfl, _, rfl, _, rfl, by omega, by omega, for_range (fun i σ H' => ∃ (pre : List Int) (rest : Int) (o : Option V), σ = [some (.int n), some (.int w'), some (.ref r), some (.int rest), o] ∧ H' = upd H r (.lst (pre.map V.int)) ∧ pre.length = i ∧ i ≤ w'.toNat ∧ pre ++ cellsL (w'.toNat - i) rest = cellsL w'.toNat n) ⟨[], n, none, rfl, rfl, rfl, Nat.zero_le _, rfl⟩ (fun i σ H' hi z => ?_) (fun σ H' z => ?_)⟩
  · obtain ⟨pre, rest, o, rfl, rfl, hl, hle, e⟩ := z
    refine ⟨_, rfl, .inl ⟨rfl, _, SqL.of upd_same⟩, _, rfl, _, _, rfl, rfl, (by show (0 : Int) < _; decide), r, _, _, rfl, rfl, upd_same, ?_, ?_⟩
    · rw [List.length_map, hl]; exact small1000 (by omega)
    refine ⟨_, rfl, _, _, rfl, rfl, ⟨by decide, by decide⟩, pre ++ [rest % 256], rest / 256, _, rfl, ?_, ?_, hi, ?_⟩
    · rw [upd_upd, List.map_append]; rfl
    · rw [List.length_append, hl]; rfl
    · have e2 : w'.toNat - i = (w'.toNat - (i + 1)) + 1 := by omega
      rw [← e, e2, cellsL, List.append_assoc]; rfl
  · obtain ⟨pre, rest, o, rfl, rfl, hl, hle, e⟩ := z
    rw [Nat.sub_self, cellsL, List.append_nil] at e
    exact ⟨_, rfl, e ▸ q r hn⟩
end
end K06

namespace K06
open PySem L2 PyProof.Rows K01 K03
abbrev s_word_of : Stmt := top 8
theorem sc_word_of : FnScope ["cells", "word", "cell"] ["cells"] (defScope s_word_of) := ⟨rfl, rfl, rfl, by decide +kernel, rfl, by decide +kernel, by decide +kernel⟩
section
variable {P : Program} {w : World} {K : PySem.W.Frag} {mg : Str → Option Value} {base : Heap}
theorem ok_word_of {k : Nat} {f : Addr} {fd : FuncData} (F : Fun K "word_of" "word_of" s_word_of f fd) (M : Blt mg) {t1 t2 t3 t4 : Tok} {ts : Addr} (C : Cst K mg t1 t2 t3 t4 ts) {C_Room f_Room_init : Addr} (T_Room : TCls K mg "Room" C_Room f_Room_init ["wide", "held"]) {C_RoomError f_RoomError_init : Addr} (T_RoomError : TXB K mg C_RoomError f_RoomError_init) (VI : VInit K) {C_NoPlace f_NoPlace_init : Addr} (T_NoPlace : TX K mg "NoPlace" C_NoPlace C_RoomError f_NoPlace_init ["found"]) {C_NoRoom f_NoRoom_init : Addr} (T_NoRoom : TX K mg "NoRoom" C_NoRoom C_RoomError f_NoRoom_init ["found"]) : FnOk P w K mg base CX0 (k + 2) f fd ["cells"] (spWord K) := by
  refine F.ok sc_word_of (fun vs H Q E h => ?_) (fun cdv A outer s0 H vs Q E hr0 h => ?_)
  · obtain ⟨a, ns, rfl, _⟩ := h; rfl
  obtain ⟨a, ns, rfl, hS, q⟩ := h
  have hr := hr0.mono (Nat.le_succ _)
  refine ⟨_, (pss_cons (ps_set (i := 1) sc_word_of.nd rfl (by first | exact Or.inl rfl | exact Or.inr rfl) pe_int)
      (pss_cons (ps_for PassesOwn.never rfl (pi_rev rfl M.reversed (pa_cons (pv 0) pa_nil)) (pg_name (i := 2) sc_word_of.nd rfl (Or.inl rfl)) (pss_one (ps_set (i := 1) sc_word_of.nd rfl (by first | exact Or.inl rfl | exact Or.inr rfl) (pe_op op_add (pe_op op_mul (pv 1) pe_int) (pv 2)))))
      (pss_one (ps_ret (pv 1))))), ?_⟩
  refine ⟨_, rfl, a, _, rfl, hS, for_rev (xs := ns.map V.int) (fun i σ H' => (∃ o, σ = [some (.ref a), some (.int (val (ns.drop (ns.length - i)))), o]) ∧ H' = H) ⟨⟨none, ?_⟩, rfl⟩ (fun i σ H' _ z => z.2 ▸ hS) (fun i x σ H' hx z => ?_) (fun σ H' z => ?_)⟩
  · rw [Nat.sub_zero, List.drop_length]; rfl
  · obtain ⟨⟨o, rfl⟩, rfl⟩ := z
    have hi : i < ns.length := by
      have := List.getElem?_eq_some_iff.mp hx
      obtain ⟨h1, _⟩ := this
      simpa using h1
    rw [List.getElem?_reverse (by rw [List.length_map]; exact hi), List.length_map] at hx
    obtain ⟨c, hc, rfl⟩ := get_ints hx
    refine ⟨_, rfl, _, _, rfl, rfl, .inr ⟨by omega, by omega⟩, _, rfl, _, _, rfl, rfl, ⟨some (.int c), ?_⟩, rfl⟩
    rw [val_drop hi hc]
    rfl
  · obtain ⟨⟨o, rfl⟩, rfl⟩ := z
    rw [List.length_map, Nat.sub_self, List.drop_zero]
    exact ⟨_, rfl, q⟩
end
end K06

namespace K06
open PySem L2 PyProof.Rows K01 K03
abbrev s_RoomError_init : Stmt := inClass (top 1) 0
theorem sc_RoomError_init : FnScope ["self", "words"] ["self", "words"] (defScope s_RoomError_init) := ⟨rfl, rfl, rfl, by decide +kernel, rfl, by decide +kernel, by decide +kernel⟩
section
variable {P : Program} {w : World} {K : PySem.W.Frag} {mg : Str → Option Value} {base : Heap}
theorem ok_RoomError_init {k : Nat} {f : Addr} {fd : FuncData} (F : Fun K "__init__" "RoomError.__init__" s_RoomError_init f fd) (M : Blt mg) {t1 t2 t3 t4 : Tok} {ts : Addr} (C : Cst K mg t1 t2 t3 t4 ts) {C_Room f_Room_init : Addr} (T_Room : TCls K mg "Room" C_Room f_Room_init ["wide", "held"]) {C_RoomError f_RoomError_init : Addr} (T_RoomError : TXB K mg C_RoomError f_RoomError_init) (VI : VInit K) {C_NoPlace f_NoPlace_init : Addr} (T_NoPlace : TX K mg "NoPlace" C_NoPlace C_RoomError f_NoPlace_init ["found"]) {C_NoRoom f_NoRoom_init : Addr} (T_NoRoom : TX K mg "NoRoom" C_NoRoom C_RoomError f_NoRoom_init ["found"]) : FnOk P w K mg base CX0 (k + 2) f fd ["self", "words"] (spRE K) := by
  refine F.ok sc_RoomError_init (fun vs H Q E h => ?_) (fun cdv A outer s0 H vs Q E hr0 h => ?_)
  · obtain ⟨e, v, C', R, fI, dx, rfl, _⟩ := h; rfl
  obtain ⟨e, v, C', R, fI, dx, rfl, he, cx, q⟩ := h
  have hr := hr0.mono (Nat.le_succ _)
  refine ⟨_, (pss_one (ps_expr (pe_vinit VI (pe_bltn (v := .ty "ValueError") rfl M.ValueError (show bootBuiltins "ValueError" = some (.type "ValueError") from by decide +kernel) rfl) (pa_cons (pv 0) (pa_cons (pv 1) pa_nil))))), ?_⟩
  exact ⟨_, rfl, _, rfl, e, v, C', R, fI, dx, rfl, he, cx, q⟩
end
end K06

namespace K06
open PySem L2 PyProof.Rows K01 K03
abbrev s_NoPlace_init : Stmt := inClass (top 3) 0
theorem sc_NoPlace_init : FnScope ["self", "found"] ["self", "found"] (defScope s_NoPlace_init) := ⟨rfl, rfl, rfl, by decide +kernel, rfl, by decide +kernel, by decide +kernel⟩
section
variable {P : Program} {w : World} {K : PySem.W.Frag} {mg : Str → Option Value} {base : Heap}
theorem ok_NoPlace_init {k : Nat} {f : Addr} {fd : FuncData} (F : Fun K "__init__" "NoPlace.__init__" s_NoPlace_init f fd) (M : Blt mg) {t1 t2 t3 t4 : Tok} {ts : Addr} (C : Cst K mg t1 t2 t3 t4 ts) {C_Room f_Room_init : Addr} (T_Room : TCls K mg "Room" C_Room f_Room_init ["wide", "held"]) {C_RoomError f_RoomError_init : Addr} (T_RoomError : TXB K mg C_RoomError f_RoomError_init) (VI : VInit K) {C_NoPlace f_NoPlace_init : Addr} (T_NoPlace : TX K mg "NoPlace" C_NoPlace C_RoomError f_NoPlace_init ["found"]) {C_NoRoom f_NoRoom_init : Addr} (T_NoRoom : TX K mg "NoRoom" C_NoRoom C_RoomError f_NoRoom_init ["found"]) {fd_RoomError_init : FuncData} (D_RoomError_init : DfI K fd_RoomError_init ["self", "words"]) (G_RoomError_init : FnOk P w K mg base CX0 k f_RoomError_init fd_RoomError_init ["self", "words"] (spRE K)) : FnOk P w K mg base (CXE P w) (k + 2) f fd ["self", "found"] (spNP C_NoPlace) := by
  refine F.okE sc_NoPlace_init (fun vs H Q E h => ?_) (fun cdv A outer s0 H vs Q E hr0 h => ?_)
  · obtain ⟨e, v, rfl, _⟩ := h; rfl
  obtain ⟨e, v, rfl, he, q⟩ := h
  have hr := hr0.mono (Nat.le_succ _)
  refine ⟨_, (pss_cons (ps_expr (pe_cinit T_RoomError.i (pe_glob (v := .ref C_RoomError) rfl T_RoomError.m rfl) G_RoomError_init hr D_RoomError_init.b .nil pass0 (pa_cons (pv 0) (pa_cons pe_str pa_nil))))
      (pss_one (ps_xfld (pv 0) (pv 1) rfl))), ?_⟩
  refine ⟨_, rfl, e, _, C_NoPlace, C_RoomError, f_NoPlace_init, none, rfl, he, T_NoPlace.c, ?_⟩
  exact ⟨_, rfl, _, rfl, e, C_NoPlace, C_RoomError, f_NoPlace_init, rfl, T_NoPlace.c, T_NoPlace.n _ (List.mem_singleton.mpr rfl), .inl ⟨he, fun dx hd => q dx hd⟩⟩
end
end K06

namespace K06
open PySem L2 PyProof.Rows K01 K03
abbrev s_Room_kept_in : Stmt := inClass (top 23) 5
theorem sc_Room_kept_in : FnScope ["self", "numbers"] ["self", "numbers"] (defScope s_Room_kept_in) := ⟨rfl, rfl, rfl, by decide +kernel, rfl, by decide +kernel, by decide +kernel⟩
section
variable {P : Program} {w : World} {K : PySem.W.Frag} {mg : Str → Option Value} {base : Heap}
theorem ok_Room_kept_in {k : Nat} {f : Addr} {fd : FuncData} (F : Fun K "kept_in" "Room.kept_in" s_Room_kept_in f fd) (M : Blt mg) {t1 t2 t3 t4 : Tok} {ts : Addr} (C : Cst K mg t1 t2 t3 t4 ts) {C_Room f_Room_init : Addr} (T_Room : TCls K mg "Room" C_Room f_Room_init ["wide", "held"]) {C_RoomError f_RoomError_init : Addr} (T_RoomError : TXB K mg C_RoomError f_RoomError_init) (VI : VInit K) {C_NoPlace f_NoPlace_init : Addr} (T_NoPlace : TX K mg "NoPlace" C_NoPlace C_RoomError f_NoPlace_init ["found"]) {C_NoRoom f_NoRoom_init : Addr} (T_NoRoom : TX K mg "NoRoom" C_NoRoom C_RoomError f_NoRoom_init ["found"]) {f_word_of : Addr} {fd_word_of : FuncData} (D_word_of : Df K mg "word_of" f_word_of fd_word_of ["cells"]) (G_word_of : FnOk P w K mg base CX0 k f_word_of fd_word_of ["cells"] (spWord K)) : FnOk P w K mg base CX0 (k + 2) f fd ["self", "numbers"] (spKept K C_Room) := by
  refine F.ok sc_Room_kept_in (fun vs H Q E h => ?_) (fun cdv A outer s0 H vs Q E hr0 h => ?_)
  · obtain ⟨a, dx, l, r, w', N, c, m, rfl, _⟩ := h; rfl
  obtain ⟨a, dx, l, r, w', N, c, m, rfl, hR, hL, hS, hcm, hm, q⟩ := h
  have hr := hr0.mono (Nat.le_succ _)
  refine ⟨_, (pss_one (ps_ret (pe_call G_word_of hr rfl D_word_of.m D_word_of.k D_word_of.b .nil pass0 (pa_cons (pe_comp ["cell"] ["self"] [0] rfl (pi_list (pv 1)) rfl ⟨rfl, trivial⟩ ⟨⟨rfl, rfl, rfl, _, rfl⟩, trivial⟩ (fun _ _ _ _ => (pg_name (i := 0) (show List.Nodup (["cell", "self"] : List Str) from by decide +kernel) rfl (Or.inl rfl))) (fun _ _ _ _ => pif_nil) (fun _ _ _ _ => (pe_ix (ix_listK K rfl) (pe_fldK (K := K) rfl (pv 1) rfl) (pv 0) (fun _ _ => rfl)))) pa_nil)))), ?_⟩
  have el : ((rangeL (c : Int) m).map V.int).length = m := by rw [List.length_map, rangeL_length]
  refine ⟨_, rfl, r, rfl, ⟨_, hS⟩, comp_list (xs := (rangeL (c : Int) m).map V.int) (fun i ys H' => H' = H ∧ ys = (cellsF N c i).map V.int) ⟨rfl, rfl⟩ (fun i ys H' _ z => ⟨z.1 ▸ hS, by rw [z.2, List.length_map, cellsF_length]; exact Nat.le_refl _⟩) (by rw [el]; exact small1000 (by omega)) (fun i x ys H' hx z => ?_) (fun ys H' z p hp => ?_)⟩
  · obtain ⟨rfl, rfl⟩ := z
    have hi : i < m := by
      have := (List.getElem?_eq_some_iff.mp hx).1
      rwa [el] at this
    obtain ⟨n, hn, rfl⟩ := get_ints hx
    have en : n = ((c + i : Nat) : Int) := by
      have e := hn
      simp only [rangeL, List.getElem?_map, List.getElem?_range hi, Option.map_some, Option.some.injEq] at e
      omega
    subst en
    have at1 : atI ((cellsF N 0 w').map V.int) ((c + i : Nat) : Int) = some (.int ((N / 256 ^ (c + i) % 256 : Nat) : Int)) := atI_nat (by rw [List.getElem?_map, cellsF_get (by omega), Nat.zero_add]; rfl)
    refine ⟨_, rfl, a, C_Room, dx, _, _, rfl, hR, T_Room.cl, T_Room.na _ (by decide), rfl, _, rfl, l, _, _, _, rfl, rfl, SqL.of hL, at1, ⟨rfl, ?_⟩, _, rfl⟩
    rw [cellsF_succ, List.map_append]; rfl
  · obtain ⟨rfl, rfl⟩ := z
    rw [el]
    refine ⟨p, cellsF N c m, rfl, SqL.of upd_same, ?_⟩
    rw [val_cellsF]
    exact q _ (same_new hp _)
end
end K06

namespace K06
open PySem L2 PyProof.Rows K01 K03
abbrev s_Room_cells : Stmt := inClass (top 23) 3
theorem sc_Room_cells : FnScope ["self"] ["self"] (defScope s_Room_cells) := ⟨rfl, rfl, rfl, by decide +kernel, rfl, by decide +kernel, by decide +kernel⟩
section
variable {P : Program} {w : World} {K : PySem.W.Frag} {mg : Str → Option Value} {base : Heap}
theorem ok_Room_cells {k : Nat} {f : Addr} {fd : FuncData} (F : Fun K "cells" "Room.cells" s_Room_cells f fd) (M : Blt mg) {t1 t2 t3 t4 : Tok} {ts : Addr} (C : Cst K mg t1 t2 t3 t4 ts) {C_Room f_Room_init : Addr} (T_Room : TCls K mg "Room" C_Room f_Room_init ["wide", "held"]) {C_RoomError f_RoomError_init : Addr} (T_RoomError : TXB K mg C_RoomError f_RoomError_init) (VI : VInit K) {C_NoPlace f_NoPlace_init : Addr} (T_NoPlace : TX K mg "NoPlace" C_NoPlace C_RoomError f_NoPlace_init ["found"]) {C_NoRoom f_NoRoom_init : Addr} (T_NoRoom : TX K mg "NoRoom" C_NoRoom C_RoomError f_NoRoom_init ["found"]) : FnOk P w K mg base CX0 (k + 2) f fd ["self"] (spRoomCells C_Room) := by
  refine F.ok sc_Room_cells (fun vs H Q E h => ?_) (fun cdv A outer s0 H vs Q E hr0 h => ?_)
  · obtain ⟨a, dx, l, w', N, rfl, _⟩ := h; rfl
  obtain ⟨a, dx, l, w', N, rfl, hR, hL, hw, q⟩ := h
  have hr := hr0.mono (Nat.le_succ _)
  refine ⟨_, (pss_one (ps_ret (pe_callTy call_list_of rfl M.list boot_list (pa_cons (pe_fld (pv 0) rfl) pa_nil)))), ?_⟩
  exact ⟨_, rfl, a, C_Room, dx, _, _, rfl, hR, T_Room.cl, T_Room.na _ (by decide), rfl, l, _, rfl, .inl (SqL.of hL), fun r hr => q r hr⟩
end
end K06

namespace K06
open PySem L2 PyProof.Rows K01 K03
abbrev s_NoRoom_init : Stmt := inClass (top 2) 0
theorem sc_NoRoom_init : FnScope ["self", "found"] ["self", "found"] (defScope s_NoRoom_init) := ⟨rfl, rfl, rfl, by decide +kernel, rfl, by decide +kernel, by decide +kernel⟩
section
variable {P : Program} {w : World} {K : PySem.W.Frag} {mg : Str → Option Value} {base : Heap}
theorem ok_NoRoom_init {k : Nat} {f : Addr} {fd : FuncData} (F : Fun K "__init__" "NoRoom.__init__" s_NoRoom_init f fd) (M : Blt mg) {t1 t2 t3 t4 : Tok} {ts : Addr} (C : Cst K mg t1 t2 t3 t4 ts) {C_Room f_Room_init : Addr} (T_Room : TCls K mg "Room" C_Room f_Room_init ["wide", "held"]) {C_RoomError f_RoomError_init : Addr} (T_RoomError : TXB K mg C_RoomError f_RoomError_init) (VI : VInit K) {C_NoPlace f_NoPlace_init : Addr} (T_NoPlace : TX K mg "NoPlace" C_NoPlace C_RoomError f_NoPlace_init ["found"]) {C_NoRoom f_NoRoom_init : Addr} (T_NoRoom : TX K mg "NoRoom" C_NoRoom C_RoomError f_NoRoom_init ["found"]) {fd_RoomError_init : FuncData} (D_RoomError_init : DfI K fd_RoomError_init ["self", "words"]) (G_RoomError_init : FnOk P w K mg base CX0 k f_RoomError_init fd_RoomError_init ["self", "words"] (spRE K)) : FnOk P w K mg base (CXE P w) (k + 2) f fd ["self", "found"] (spNP C_NoRoom) := by
  refine F.okE sc_NoRoom_init (fun vs H Q E h => ?_) (fun cdv A outer s0 H vs Q E hr0 h => ?_)
  · obtain ⟨e, v, rfl, _⟩ := h; rfl
  obtain ⟨e, v, rfl, he, q⟩ := h
  have hr := hr0.mono (Nat.le_succ _)
  refine ⟨_, (pss_cons (ps_expr (pe_cinit T_RoomError.i (pe_glob (v := .ref C_RoomError) rfl T_RoomError.m rfl) G_RoomError_init hr D_RoomError_init.b .nil pass0 (pa_cons (pv 0) (pa_cons pe_str pa_nil))))
      (pss_one (ps_xfld (pv 0) (pv 1) rfl))), ?_⟩
  refine ⟨_, rfl, e, _, C_NoRoom, C_RoomError, f_NoRoom_init, none, rfl, he, T_NoRoom.c, ?_⟩
  exact ⟨_, rfl, _, rfl, e, C_NoRoom, C_RoomError, f_NoRoom_init, rfl, T_NoRoom.c, T_NoRoom.n _ (List.mem_singleton.mpr rfl), .inl ⟨he, fun dx hd => q dx hd⟩⟩
end
end K06

namespace K06
open PySem L2 PyProof.Rows K01 K03
abbrev s_is_place : Stmt := top 15
theorem sc_is_place : FnScope ["thing", "cell", "shift", "bits"] ["thing"] (defScope s_is_place) := ⟨rfl, rfl, rfl, by decide +kernel, rfl, by decide +kernel, by decide +kernel⟩
section
variable {P : Program} {w : World} {K : PySem.W.Frag} {mg : Str → Option Value} {base : Heap}
theorem ok_is_place {k : Nat} {f : Addr} {fd : FuncData} (F : Fun K "is_place" "is_place" s_is_place f fd) (M : Blt mg) {t1 t2 t3 t4 : Tok} {ts : Addr} (C : Cst K mg t1 t2 t3 t4 ts) {C_Room f_Room_init : Addr} (T_Room : TCls K mg "Room" C_Room f_Room_init ["wide", "held"]) {C_RoomError f_RoomError_init : Addr} (T_RoomError : TXB K mg C_RoomError f_RoomError_init) (VI : VInit K) {C_NoPlace f_NoPlace_init : Addr} (T_NoPlace : TX K mg "NoPlace" C_NoPlace C_RoomError f_NoPlace_init ["found"]) {C_NoRoom f_NoRoom_init : Addr} (T_NoRoom : TX K mg "NoRoom" C_NoRoom C_RoomError f_NoRoom_init ["found"]) {f_is_whole : Addr} {fd_is_whole : FuncData} (D_is_whole : Df K mg "is_whole" f_is_whole fd_is_whole ["thing"]) (G_is_whole : FnOk P w K mg base CX0 k f_is_whole fd_is_whole ["thing"] (spIsW K)) {f_is_packed : Addr} {fd_is_packed : FuncData} (D_is_packed : Df K mg "is_packed" f_is_packed fd_is_packed ["shift", "bits"]) (G_is_packed : FnOk P w K mg base CX0 k f_is_packed fd_is_packed ["shift", "bits"] spPacked) {f_is_whole_cells : Addr} {fd_is_whole_cells : FuncData} (D_is_whole_cells : Df K mg "is_whole_cells" f_is_whole_cells fd_is_whole_cells ["shift", "bits"]) (G_is_whole_cells : FnOk P w K mg base CX0 k f_is_whole_cells fd_is_whole_cells ["shift", "bits"] spWholeC) : FnOk P w K mg base CX0 (k + 2) f fd ["thing"] (spIsPG K) := by
  refine F.ok sc_is_place (fun vs H Q E h => ?_) (fun cdv A outer s0 H vs Q E hr0 h => ?_)
  · obtain ⟨x, d, rfl, _⟩ := h; rfl
  obtain ⟨x, d, rfl, hd, q⟩ := h
  have hr := hr0.mono (Nat.le_succ _)
  refine ⟨_, (pss_cons (ps_if (PW.pt (pw_or (pt_not (pt_val (pe_callB call_isiM rfl M.isinstance boot_isinstance (pa_cons (pv 0) (pa_cons (pe_bltn (v := .ty "tuple") rfl M.tuple boot_tuple rfl) pa_nil))))) (pw_or1 (pt_cmpR op_ne (pe_callB call_len_seq rfl M.len PySem.boot_len (pa_cons (pv 0) pa_nil)) pe_int (nomark _))))) (pss_one (ps_ret pe_bl)) pss_nil)
      (pss_cons (ps_if (pt_not (pt_val (pe_callB (call_all rfl) rfl M.all boot_all (pa_cons (pe_comp ["part"] [] [] rfl (pi_tup (pv 0)) rfl trivial trivial (fun _ _ _ _ => (pg_name (i := 0) (show List.Nodup (["part"] : List Str) from by decide +kernel) rfl (Or.inl rfl))) (fun _ _ _ _ => pif_nil) (fun _ _ _ _ => (pe_call G_is_whole hr rfl D_is_whole.m D_is_whole.k D_is_whole.b .nil pass0 (pa_cons (pv 0) pa_nil)))) pa_nil)))) (pss_one (ps_ret pe_bl)) pss_nil)
      (pss_cons (ps_asg (pv 0) (pg_tup rfl (pgs_cons (pg_name (i := 1) sc_is_place.nd rfl (Or.inl rfl)) (pgs_cons (pg_name (i := 2) sc_is_place.nd rfl (Or.inl rfl)) (pgs_cons (pg_name (i := 3) sc_is_place.nd rfl (Or.inl rfl)) pgs_nil)))))
      (pss_one (ps_ret (pe_and (pe_cmpR op_ge (pv 1) pe_int (nomark _)) (pe_one (pe_or (pe_call G_is_packed hr rfl D_is_packed.m D_is_packed.k D_is_packed.b .nil pass0 (pa_cons (pv 2) (pa_cons (pv 3) pa_nil))) (pe_one (pe_call G_is_whole_cells hr rfl D_is_whole_cells.m D_is_whole_cells.k D_is_whole_cells.b .nil pass0 (pa_cons (pv 2) (pa_cons (pv 3) pa_nil)))))))))))), ?_⟩
  rcases hd with ⟨hd, _⟩ | ⟨a, kvs, rfl, ha, hf, rfl⟩
  case' inr => exact ⟨_, rfl, _, _, "dict", rfl, by decide, .inr ⟨rfl, a, kvs, rfl, ha⟩, _, rfl, iteP (by decide) (iteP rfl (q false H (Same.refl _) ⟨fun z => (by cases z), fun z => (by obtain ⟨_, _, _, e, _⟩ := z; cases e)⟩))⟩
  cases hd with
  | non => exact ⟨_, rfl, _, _, "NoneType", rfl, by decide, .inl rfl, _, rfl, iteP (by decide) (iteP rfl (q false H (Same.refl _) ⟨fun z => (by cases z), fun z => (by obtain ⟨_, _, _, e, _⟩ := z; cases e)⟩))⟩
  | bl b => exact ⟨_, rfl, _, _, "bool", rfl, by decide, .inl rfl, _, rfl, iteP (by decide) (iteP rfl (q false H (Same.refl _) ⟨fun z => (by cases z), fun z => (by obtain ⟨_, _, _, e, _⟩ := z; cases e)⟩))⟩
  | int i => exact ⟨_, rfl, _, _, "int", rfl, by decide, .inl rfl, _, rfl, iteP (by decide) (iteP rfl (q false H (Same.refl _) ⟨fun z => (by cases z), fun z => (by obtain ⟨_, _, _, e, _⟩ := z; cases e)⟩))⟩
  | str s => exact ⟨_, rfl, _, _, "str", rfl, by decide, .inl rfl, _, rfl, iteP (by decide) (iteP rfl (q false H (Same.refl _) ⟨fun z => (by cases z), fun z => (by obtain ⟨_, _, _, e, _⟩ := z; cases e)⟩))⟩
  | lst hL _ => exact ⟨_, rfl, _, _, "list", rfl, by decide, .inl (.inl ⟨rfl, _, hL⟩), _, rfl, iteP (by decide) (iteP rfl (q false H (Same.refl _) ⟨fun z => (by cases z), fun z => (by obtain ⟨_, _, _, e, _⟩ := z; cases e)⟩))⟩
  | @tup t xs ds hT hds =>
    have hlen := datAll_len hds
    refine ⟨_, rfl, _, _, "tuple", rfl, by decide, .inl (.inr ⟨rfl, _, hT⟩), _, rfl, iteN (by decide) ⟨_, rfl, t, _, rfl, .inr hT, rfl, _, rfl, ite2 (fun c3 => ?_) (fun c3 => ?_)⟩⟩
    · refine q false H (Same.refl _) ⟨fun z => (by cases z), fun z => ?_⟩
      obtain ⟨c, s, b, e, _⟩ := z
      cases e
      rw [hlen] at c3
      exact absurd c3 (by simp)
    · have h3 : xs.length = 3 := by
        have : V.int (xs.length : Nat) = V.int 3 := Decidable.of_not_not fun z => c3 (by simp [z])
        have := V.int.inj this
        omega
      refine ⟨_, rfl, t, rfl, ⟨_, hT⟩, comp_tup (xs := xs) (fun i ys H' => H' = H ∧ ys = ((xs.take i).map isIntV).map V.bl) ⟨rfl, rfl⟩ (fun i ys H' hi z => ⟨z.1 ▸ hT, by rw [z.2, List.length_map, List.length_map, List.length_take]; exact Nat.min_le_left _ _⟩) (by rw [h3]; show 3 < sizeLine; decide) (fun i x ys H' hx z => ?_) (fun ys H' z p2 hp2 => ?_)⟩
      · obtain ⟨rfl, rfl⟩ := z
        have tk : xs.take (i + 1) = xs.take i ++ [x] := by rw [List.take_add_one, hx] <;> rfl
        obtain ⟨dx, hdx⟩ := datAll_get hds hx
        rcases odd_of hdx with ⟨n, rfl⟩ | ⟨hi, ho⟩
        · exact ⟨_, rfl, .inl ⟨n, rfl, ⟨rfl, by rw [tk, List.map_append, List.map_append]; rfl⟩, _, rfl⟩⟩
        · refine ⟨_, rfl, .inr ⟨x, rfl, ho, ⟨rfl, ?_⟩, _, rfl⟩⟩
          rw [tk, List.map_append, List.map_append]
          show _ = _ ++ [V.bl (isIntV x)]
          rw [hi]
      · obtain ⟨rfl, rfl⟩ := z
        rw [List.take_length]
        have g := same_new hp2 (.lst ((xs.map isIntV).map V.bl))
        have k2 : upd H' p2 (.lst ((xs.map isIntV).map V.bl)) p2 = some (.lst ((xs.map isIntV).map V.bl)) := upd_same
        generalize upd H' p2 (.lst ((xs.map isIntV).map V.bl)) = H2 at g k2 ⊢
        refine ⟨p2, xs.map isIntV, rfl, SqL.of k2, _, rfl, ite2 (fun ca => ?_) (fun ca => ?_)⟩
        · refine q false H2 g ⟨fun z => (by cases z), fun z => ?_⟩
          obtain ⟨c, s, b, e, _⟩ := z
          cases e
          cases hds with
          | cons h0 hs =>
            cases hs with
            | cons h1 hs =>
              cases hs with
              | cons h2 hs =>
                cases hs; cases h0; cases h1; cases h2
                exact absurd ca (by simp [isIntV])
        · obtain ⟨c, s, b, rfl, e⟩ : ∃ c s b, xs = [.int c, .int s, .int b] ∧ ds = [.int c, .int s, .int b] := by
            cases hds with
            | nil => simp at h3
            | cons h0 hs =>
              cases hs with
              | nil => simp at h3
              | cons h1 hs =>
                cases hs with
                | nil => simp at h3
                | cons h2 hs =>
                  cases hs with
                  | cons _ _ => simp at h3
                  | nil =>
                    cases h0 <;> cases h1 <;> cases h2 <;> first
                      | exact ⟨_, _, _, rfl, rfl⟩
                      | exact absurd (by rfl) ca
          subst e
          have gd : ∀ {c' s' b' : Int}, GoodD (.tuple [.int c', .int s', .int b']) ↔ Ok3 c' s' b' := fun {c' s' b'} => ⟨fun z => by obtain ⟨_, _, _, e, h⟩ := z; cases e; exact h, fun z => ⟨_, _, _, rfl, z⟩⟩
          refine ⟨_, rfl, t, _, rfl, Same.tup g hT, rfl, _, _, rfl, _, _, rfl, _, _, rfl, rfl, ?_⟩
          refine ⟨_, rfl, _, _, rfl, rfl, _, rfl, ite2 (fun c0 => ?_) (fun c0 => ?_)⟩
          · have c0' : 0 ≤ c := of_decide_eq_true c0
            refine ⟨_, rfl, _, rfl, s, b, rfl, fun k1 hk1 => ⟨_, rfl, ite2 (fun c1 => ?_) (fun c1 => ?_)⟩⟩
            · exact q _ _ g ⟨fun _ => gd.mpr ⟨c0', .inl (hk1.mp c1)⟩, fun _ => rfl⟩
            · refine ⟨_, rfl, _, rfl, s, b, rfl, fun k2 H3 g2 hk2 => q _ _ (g.trans g2) ⟨fun z => gd.mpr ?_, fun z => ?_⟩⟩
              · have := hk2.mp z
                exact ⟨c0', .inr ⟨this.1, b / 8, this.2.2.1, this.2.2.2, by omega⟩⟩
              · refine hk2.mpr ?_
                obtain ⟨_, h | ⟨h, n, h1, h2, h3'⟩⟩ := gd.mp z
                · exact absurd (hk1.mpr h) c1
                · subst h3'; omega
          · exact q false _ g ⟨fun z => (by cases z), fun z => absurd (decide_eq_true (gd.mp z).1) c0⟩
end
end K06

namespace K06
open PySem L2 PyProof.Rows K01 K03
abbrev s_need_place : Stmt := top 18
theorem sc_need_place : FnScope ["thing"] ["thing"] (defScope s_need_place) := ⟨rfl, rfl, rfl, by decide +kernel, rfl, by decide +kernel, by decide +kernel⟩
section
variable {P : Program} {w : World} {K : PySem.W.Frag} {mg : Str → Option Value} {base : Heap}
theorem ok_need_place {k : Nat} {f : Addr} {fd : FuncData} (F : Fun K "need_place" "need_place" s_need_place f fd) (M : Blt mg) {t1 t2 t3 t4 : Tok} {ts : Addr} (C : Cst K mg t1 t2 t3 t4 ts) {C_Room f_Room_init : Addr} (T_Room : TCls K mg "Room" C_Room f_Room_init ["wide", "held"]) {C_RoomError f_RoomError_init : Addr} (T_RoomError : TXB K mg C_RoomError f_RoomError_init) (VI : VInit K) {C_NoPlace f_NoPlace_init : Addr} (T_NoPlace : TX K mg "NoPlace" C_NoPlace C_RoomError f_NoPlace_init ["found"]) {C_NoRoom f_NoRoom_init : Addr} (T_NoRoom : TX K mg "NoRoom" C_NoRoom C_RoomError f_NoRoom_init ["found"]) {f_is_place : Addr} {fd_is_place : FuncData} (D_is_place : Df K mg "is_place" f_is_place fd_is_place ["thing"]) (G_is_place : FnOk P w K mg base CX0 k f_is_place fd_is_place ["thing"] (spIsPG K)) {fd_NoPlace_init : FuncData} (D_NoPlace_init : DfI K fd_NoPlace_init ["self", "found"]) (G_NoPlace_init : FnOk P w K mg base (CXE P w) k f_NoPlace_init fd_NoPlace_init ["self", "found"] (spNP C_NoPlace)) : FnOk P w K mg base (CXE P w) (k + 2) f fd ["thing"] (spNeedG K C_NoPlace) := by
  refine F.okE sc_need_place (fun vs H Q E h => ?_) (fun cdv A outer s0 H vs Q E hr0 h => ?_)
  · obtain ⟨x, d, rfl, _⟩ := h; rfl
  obtain ⟨x, d, rfl, hd, qo, qx⟩ := h
  have hr := hr0.mono (Nat.le_succ _)
  refine ⟨_, (pss_one (ps_if (pt_not (pt_val (pe_call G_is_place hr rfl D_is_place.m D_is_place.k D_is_place.b .nil pass0 (pa_cons (pv 0) pa_nil)))) (pss_one (ps_raise T_NoPlace.c G_NoPlace_init hr0 rfl T_NoPlace.m D_NoPlace_init.b .nil raisesE (pa_cons (pv 0) pa_nil))) pss_nil)), ?_⟩
  refine ⟨_, rfl, x, d, rfl, hd, fun k H' g hk => ⟨_, rfl, ?_⟩⟩
  cases k with
  | true => exact iteN (by decide) (qo (hk.mp rfl) H' g)
  | false =>
    have hn : ¬ GoodD d := fun z => by have := hk.mpr z; cases this
    refine iteP (by decide) ⟨True.intro, _, rfl, (by show 1 ≤ 1000; decide), fun e he => ⟨e, x, rfl, upd_same, fun dx hd => ⟨rfl, e, some dx, rfl, upd_same, ?_⟩⟩⟩
    obtain ⟨g2, hx⟩ := np_fin (v := x) g he hd
    exact qx hn e _ g2 (g.free he) hx
end
end K06

namespace K06
open PySem L2 PyProof.Rows K01 K03
abbrev s_cells_in : Stmt := top 19
theorem sc_cells_in : FnScope ["place", "cell", "shift", "bits"] ["place"] (defScope s_cells_in) := ⟨rfl, rfl, rfl, by decide +kernel, rfl, by decide +kernel, by decide +kernel⟩
section
variable {P : Program} {w : World} {K : PySem.W.Frag} {mg : Str → Option Value} {base : Heap}
theorem ok_cells_in {k : Nat} {f : Addr} {fd : FuncData} (F : Fun K "cells_in" "cells_in" s_cells_in f fd) (M : Blt mg) {t1 t2 t3 t4 : Tok} {ts : Addr} (C : Cst K mg t1 t2 t3 t4 ts) {C_Room f_Room_init : Addr} (T_Room : TCls K mg "Room" C_Room f_Room_init ["wide", "held"]) {C_RoomError f_RoomError_init : Addr} (T_RoomError : TXB K mg C_RoomError f_RoomError_init) (VI : VInit K) {C_NoPlace f_NoPlace_init : Addr} (T_NoPlace : TX K mg "NoPlace" C_NoPlace C_RoomError f_NoPlace_init ["found"]) {C_NoRoom f_NoRoom_init : Addr} (T_NoRoom : TX K mg "NoRoom" C_NoRoom C_RoomError f_NoRoom_init ["found"]) {f_need_place : Addr} {fd_need_place : FuncData} (D_need_place : Df K mg "need_place" f_need_place fd_need_place ["thing"]) (G_need_place : FnOk P w K mg base (CXE P w) k f_need_place fd_need_place ["thing"] (spNeedG K C_NoPlace)) : FnOk P w K mg base (CXE P w) (k + 2) f fd ["place"] (spCellsG K C_NoPlace) := by
  refine F.okE sc_cells_in (fun vs H Q E h => ?_) (fun cdv A outer s0 H vs Q E hr0 h => ?_)
  · obtain ⟨x, d, rfl, _⟩ := h; rfl
  obtain ⟨x, d, rfl, hd, qo, qx⟩ := h
  have hr := hr0.mono (Nat.le_succ _)
  refine ⟨_, (pss_cons (ps_expr (pe_call G_need_place hr rfl D_need_place.m D_need_place.k D_need_place.b .nil (passE fun _ _ _ z => z) (pa_cons (pv 0) pa_nil)))
      (pss_cons (ps_asg (pv 0) (pg_tup rfl (pgs_cons (pg_name (i := 1) sc_cells_in.nd rfl (Or.inl rfl)) (pgs_cons (pg_name (i := 2) sc_cells_in.nd rfl (Or.inl rfl)) (pgs_cons (pg_name (i := 3) sc_cells_in.nd rfl (Or.inl rfl)) pgs_nil)))))
      (pss_one (ps_ret (pe_callTy (call_list_rng rfl) rfl M.list boot_list (pa_cons (pe_callTy call_range2 rfl M.range boot_range (pa_cons (pv 1) (pa_cons (pe_op op_add (pv 1) (pe_callB (call_max2 rfl) rfl M.max boot_max (pa_cons pe_int (pa_cons (pe_op op_fdiv (pv 3) (pe_glob (v := .int 8) rfl C.CELL_BITS ⟨_, rfl⟩)) pa_nil)))) pa_nil))) pa_nil)))))), ?_⟩
  refine ⟨_, rfl, x, d, rfl, hd, fun ho H1 g1 => ?_, qx⟩
  obtain ⟨c, s, b, rfl, ho⟩ := ho
  obtain ⟨t, rfl, hT⟩ := th_tuple hd
  have hb := ho.bits
  have q := qo c s b rfl ho
  refine ⟨_, rfl, t, _, rfl, Same.tup g1 hT, rfl, _, _, rfl, _, _, rfl, _, _, rfl, rfl, ?_⟩
  refine ⟨_, rfl, _, rfl, _, rfl, _, _, rfl, rfl, ⟨by decide, by decide⟩, _, _, rfl, _, _, rfl, rfl, _, _, rfl, fun p hp => ?_⟩
  have g2 := g1.trans (same_new hp (.rng c (c + if b / 8 > 1 then b / 8 else 1)))
  refine ⟨p, _, _, rfl, upd_same, by split <;> omega, fun l hl => ?_⟩
  refine q l _ (g2.trans (same_new hl _)) (g2.free hl) ?_
  rw [upd_same, show (c + (if b / 8 > 1 then b / 8 else 1) - c).toNat = nCells b by unfold nCells; rw [show c + (if b / 8 > 1 then b / 8 else 1) - c = (if b / 8 > 1 then b / 8 else 1) by omega]]
end
end K06

namespace K06
open PySem L2 PyProof.Rows K01 K03
abbrev s_first_bit : Stmt := top 21
theorem sc_first_bit : FnScope ["place", "cell", "shift", "bits"] ["place"] (defScope s_first_bit) := ⟨rfl, rfl, rfl, by decide +kernel, rfl, by decide +kernel, by decide +kernel⟩
section
variable {P : Program} {w : World} {K : PySem.W.Frag} {mg : Str → Option Value} {base : Heap}
theorem ok_first_bit {k : Nat} {f : Addr} {fd : FuncData} (F : Fun K "first_bit" "first_bit" s_first_bit f fd) (M : Blt mg) {t1 t2 t3 t4 : Tok} {ts : Addr} (C : Cst K mg t1 t2 t3 t4 ts) {C_Room f_Room_init : Addr} (T_Room : TCls K mg "Room" C_Room f_Room_init ["wide", "held"]) {C_RoomError f_RoomError_init : Addr} (T_RoomError : TXB K mg C_RoomError f_RoomError_init) (VI : VInit K) {C_NoPlace f_NoPlace_init : Addr} (T_NoPlace : TX K mg "NoPlace" C_NoPlace C_RoomError f_NoPlace_init ["found"]) {C_NoRoom f_NoRoom_init : Addr} (T_NoRoom : TX K mg "NoRoom" C_NoRoom C_RoomError f_NoRoom_init ["found"]) : FnOk P w K mg base CX0 (k + 2) f fd ["place"] (spFirst K) := by
  refine F.ok sc_first_bit (fun vs H Q E h => ?_) (fun cdv A outer s0 H vs Q E hr0 h => ?_)
  · obtain ⟨t, c, s, b, rfl, _⟩ := h; rfl
  obtain ⟨t, c, s, b, rfl, hT, q⟩ := h
  have hr := hr0.mono (Nat.le_succ _)
  refine ⟨_, (pss_cons (ps_asg (pv 0) (pg_tup rfl (pgs_cons (pg_name (i := 1) sc_first_bit.nd rfl (Or.inl rfl)) (pgs_cons (pg_name (i := 2) sc_first_bit.nd rfl (Or.inl rfl)) (pgs_cons (pg_name (i := 3) sc_first_bit.nd rfl (Or.inl rfl)) pgs_nil)))))
      (pss_one (ps_ret (pe_op op_add (pe_op op_mul (pv 1) (pe_glob (v := .int 8) rfl C.CELL_BITS ⟨_, rfl⟩)) (pv 2))))), ?_⟩
  refine ⟨_, rfl, t, _, rfl, hT, rfl, _, _, rfl, _, _, rfl, _, _, rfl, rfl, ?_⟩
  exact ⟨_, rfl, _, _, rfl, rfl, .inr ⟨by decide, by decide⟩, _, rfl, _, _, rfl, rfl, q _⟩
end
end K06

namespace K06
open PySem L2 PyProof.Rows K01 K03
abbrev s_bit_behind : Stmt := top 22
theorem sc_bit_behind : FnScope ["place", "cell", "shift", "bits"] ["place"] (defScope s_bit_behind) := ⟨rfl, rfl, rfl, by decide +kernel, rfl, by decide +kernel, by decide +kernel⟩
section
variable {P : Program} {w : World} {K : PySem.W.Frag} {mg : Str → Option Value} {base : Heap}
theorem ok_bit_behind {k : Nat} {f : Addr} {fd : FuncData} (F : Fun K "bit_behind" "bit_behind" s_bit_behind f fd) (M : Blt mg) {t1 t2 t3 t4 : Tok} {ts : Addr} (C : Cst K mg t1 t2 t3 t4 ts) {C_Room f_Room_init : Addr} (T_Room : TCls K mg "Room" C_Room f_Room_init ["wide", "held"]) {C_RoomError f_RoomError_init : Addr} (T_RoomError : TXB K mg C_RoomError f_RoomError_init) (VI : VInit K) {C_NoPlace f_NoPlace_init : Addr} (T_NoPlace : TX K mg "NoPlace" C_NoPlace C_RoomError f_NoPlace_init ["found"]) {C_NoRoom f_NoRoom_init : Addr} (T_NoRoom : TX K mg "NoRoom" C_NoRoom C_RoomError f_NoRoom_init ["found"]) {f_first_bit : Addr} {fd_first_bit : FuncData} (D_first_bit : Df K mg "first_bit" f_first_bit fd_first_bit ["place"]) (G_first_bit : FnOk P w K mg base CX0 k f_first_bit fd_first_bit ["place"] (spFirst K)) : FnOk P w K mg base CX0 (k + 2) f fd ["place"] (spFirst K) := by
  refine F.ok sc_bit_behind (fun vs H Q E h => ?_) (fun cdv A outer s0 H vs Q E hr0 h => ?_)
  · obtain ⟨t, c, s, b, rfl, _⟩ := h; rfl
  obtain ⟨t, c, s, b, rfl, hT, q⟩ := h
  have hr := hr0.mono (Nat.le_succ _)
  refine ⟨_, (pss_cons (ps_asg (pv 0) (pg_tup rfl (pgs_cons (pg_name (i := 1) sc_bit_behind.nd rfl (Or.inl rfl)) (pgs_cons (pg_name (i := 2) sc_bit_behind.nd rfl (Or.inl rfl)) (pgs_cons (pg_name (i := 3) sc_bit_behind.nd rfl (Or.inl rfl)) pgs_nil)))))
      (pss_one (ps_ret (pe_op op_add (pe_call G_first_bit hr rfl D_first_bit.m D_first_bit.k D_first_bit.b .nil pass0 (pa_cons (pv 0) pa_nil)) (pv 3))))), ?_⟩
  refine ⟨_, rfl, t, _, rfl, hT, rfl, _, _, rfl, _, _, rfl, _, _, rfl, rfl, ?_⟩
  exact ⟨_, rfl, t, c, s, b, rfl, hT, fun n => ⟨_, rfl, _, _, rfl, rfl, q _⟩⟩
end
end K06

namespace K06
open PySem L2 PyProof.Rows K01 K03
abbrev s_shares : Stmt := top 20
theorem sc_shares : FnScope ["one", "other"] ["one", "other"] (defScope s_shares) := ⟨rfl, rfl, rfl, by decide +kernel, rfl, by decide +kernel, by decide +kernel⟩
section
variable {P : Program} {w : World} {K : PySem.W.Frag} {mg : Str → Option Value} {base : Heap}
theorem ok_shares {k : Nat} {f : Addr} {fd : FuncData} (F : Fun K "shares" "shares" s_shares f fd) (M : Blt mg) {t1 t2 t3 t4 : Tok} {ts : Addr} (C : Cst K mg t1 t2 t3 t4 ts) {C_Room f_Room_init : Addr} (T_Room : TCls K mg "Room" C_Room f_Room_init ["wide", "held"]) {C_RoomError f_RoomError_init : Addr} (T_RoomError : TXB K mg C_RoomError f_RoomError_init) (VI : VInit K) {C_NoPlace f_NoPlace_init : Addr} (T_NoPlace : TX K mg "NoPlace" C_NoPlace C_RoomError f_NoPlace_init ["found"]) {C_NoRoom f_NoRoom_init : Addr} (T_NoRoom : TX K mg "NoRoom" C_NoRoom C_RoomError f_NoRoom_init ["found"]) {f_need_place : Addr} {fd_need_place : FuncData} (D_need_place : Df K mg "need_place" f_need_place fd_need_place ["thing"]) (G_need_place : FnOk P w K mg base (CXE P w) k f_need_place fd_need_place ["thing"] (spNeedG K C_NoPlace)) {f_first_bit : Addr} {fd_first_bit : FuncData} (D_first_bit : Df K mg "first_bit" f_first_bit fd_first_bit ["place"]) (G_first_bit : FnOk P w K mg base CX0 k f_first_bit fd_first_bit ["place"] (spFirst K)) {f_bit_behind : Addr} {fd_bit_behind : FuncData} (D_bit_behind : Df K mg "bit_behind" f_bit_behind fd_bit_behind ["place"]) (G_bit_behind : FnOk P w K mg base CX0 k f_bit_behind fd_bit_behind ["place"] (spFirst K)) : FnOk P w K mg base (CXE P w) (k + 2) f fd ["one", "other"] (spSharesG K C_NoPlace) := by
  refine F.okE sc_shares (fun vs H Q E h => ?_) (fun cdv A outer s0 H vs Q E hr0 h => ?_)
  · obtain ⟨x, d, y, d', rfl, _⟩ := h; rfl
  obtain ⟨x, d, y, d', rfl, hd, hd', qo, qx, qy⟩ := h
  have hr := hr0.mono (Nat.le_succ _)
  refine ⟨_, (pss_cons (ps_expr (pe_call G_need_place hr rfl D_need_place.m D_need_place.k D_need_place.b .nil (passE fun _ _ _ z => z) (pa_cons (pv 0) pa_nil)))
      (pss_cons (ps_expr (pe_call G_need_place hr rfl D_need_place.m D_need_place.k D_need_place.b .nil (passE fun _ _ _ z => z) (pa_cons (pv 1) pa_nil)))
      (pss_one (ps_ret (pe_and (pe_cmpR op_lt (pe_call G_first_bit hr rfl D_first_bit.m D_first_bit.k D_first_bit.b .nil pass0 (pa_cons (pv 0) pa_nil)) (pe_call G_bit_behind hr rfl D_bit_behind.m D_bit_behind.k D_bit_behind.b .nil pass0 (pa_cons (pv 1) pa_nil)) (nomark _)) (pe_one (pe_cmpR op_lt (pe_call G_first_bit hr rfl D_first_bit.m D_first_bit.k D_first_bit.b .nil pass0 (pa_cons (pv 1) pa_nil)) (pe_call G_bit_behind hr rfl D_bit_behind.m D_bit_behind.k D_bit_behind.b .nil pass0 (pa_cons (pv 0) pa_nil)) (nomark _)))))))), ?_⟩
  refine ⟨_, rfl, x, d, rfl, hd, fun ho H1 g1 => ?_, qx⟩
  refine ⟨_, rfl, y, d', rfl, hd'.same g1, fun ho' H2 g2 => ?_, fun hn e H2 g2 he hx => qy ho hn e H2 (g1.trans g2) (g1.free he) hx⟩
  have g12 := g1.trans g2
  have q := qo ho ho'
  obtain ⟨c, s, b, rfl, ho⟩ := ho
  obtain ⟨t, rfl, hT⟩ := th_tuple (hd.same g12)
  obtain ⟨c', s', b', rfl, ho'⟩ := ho'
  obtain ⟨t', rfl, hT'⟩ := th_tuple (hd'.same g12)
  refine ⟨_, rfl, t, c, s, b, rfl, hT, fun n1 => ⟨_, rfl, t', c', s', b', rfl, hT', fun n2 => ⟨_, _, rfl, rfl, _, rfl, ite2 (fun _ => ?_) (fun _ => q false H2 g12)⟩⟩⟩
  exact ⟨_, rfl, t', c', s', b', rfl, hT', fun n3 => ⟨_, rfl, t, c, s, b, rfl, hT, fun n4 => ⟨_, _, rfl, rfl, q _ H2 g12⟩⟩⟩
end
end K06

namespace K06
open PySem L2 PyProof.Rows K01 K03
abbrev s_Room_numbers_within : Stmt := inClass (top 23) 4
theorem sc_Room_numbers_within : FnScope ["self", "place", "numbers"] ["self", "place"] (defScope s_Room_numbers_within) := ⟨rfl, rfl, rfl, by decide +kernel, rfl, by decide +kernel, by decide +kernel⟩
section
variable {P : Program} {w : World} {K : PySem.W.Frag} {mg : Str → Option Value} {base : Heap}
theorem ok_Room_numbers_within {k : Nat} {f : Addr} {fd : FuncData} (F : Fun K "numbers_within" "Room.numbers_within" s_Room_numbers_within f fd) (M : Blt mg) {t1 t2 t3 t4 : Tok} {ts : Addr} (C : Cst K mg t1 t2 t3 t4 ts) {C_Room f_Room_init : Addr} (T_Room : TCls K mg "Room" C_Room f_Room_init ["wide", "held"]) {C_RoomError f_RoomError_init : Addr} (T_RoomError : TXB K mg C_RoomError f_RoomError_init) (VI : VInit K) {C_NoPlace f_NoPlace_init : Addr} (T_NoPlace : TX K mg "NoPlace" C_NoPlace C_RoomError f_NoPlace_init ["found"]) {C_NoRoom f_NoRoom_init : Addr} (T_NoRoom : TX K mg "NoRoom" C_NoRoom C_RoomError f_NoRoom_init ["found"]) {f_cells_in : Addr} {fd_cells_in : FuncData} (D_cells_in : Df K mg "cells_in" f_cells_in fd_cells_in ["place"]) (G_cells_in : FnOk P w K mg base (CXE P w) k f_cells_in fd_cells_in ["place"] (spCellsG K C_NoPlace)) {fd_NoPlace_init : FuncData} (D_NoPlace_init : DfI K fd_NoPlace_init ["self", "found"]) (G_NoPlace_init : FnOk P w K mg base (CXE P w) k f_NoPlace_init fd_NoPlace_init ["self", "found"] (spNP C_NoPlace)) : FnOk P w K mg base (CXE P w) (k + 2) f fd ["self", "place"] (spWithinG K C_Room C_NoPlace) := by
  refine F.okE sc_Room_numbers_within (fun vs H Q E h => ?_) (fun cdv A outer s0 H vs Q E hr0 h => ?_)
  · obtain ⟨a, dx, l, w', x, d, rfl, _⟩ := h; rfl
  obtain ⟨a, dx, l, w', x, d, rfl, hR, hd, qo, qx⟩ := h
  have hr := hr0.mono (Nat.le_succ _)
  refine ⟨_, (pss_cons (ps_set (i := 2) sc_Room_numbers_within.nd rfl (by first | exact Or.inl rfl | exact Or.inr rfl) (pe_call G_cells_in hr rfl D_cells_in.m D_cells_in.k D_cells_in.b .nil (passE fun _ _ _ z => z) (pa_cons (pv 1) pa_nil)))
      (pss_cons (ps_if (pt_cmpR op_ge (pe_ix ix_list (pv 2) (pe_un un_neg pe_int) (fun _ _ => rfl)) (pe_fld (pv 0) rfl) (nomark _)) (pss_one (ps_raise T_NoPlace.c G_NoPlace_init hr0 rfl T_NoPlace.m D_NoPlace_init.b .nil raisesE (pa_cons (pv 1) pa_nil))) pss_nil)
      (pss_one (ps_ret (pv 2))))), ?_⟩
  refine ⟨_, rfl, x, d, rfl, hd, fun c s b ed ho r H1 g1 hr1 hl1 => ?_, fun hn => qx fun z => hn (by obtain ⟨c, s, b, e, hi⟩ := z; exact ⟨c, s, b, e, hi.1⟩)⟩
  have n1 := nCells_pos b
  have atl : atI ((rangeL c (nCells b)).map V.int) (-1) = some (.int (c + nCells b - 1)) := by
    obtain ⟨n, hn⟩ : ∃ n, nCells b = n + 1 := ⟨nCells b - 1, by omega⟩
    rw [hn, rangeL_succ, List.map_append]
    have e : c + ((n + 1 : Nat) : Int) - 1 = c + (n : Int) := by omega
    rw [e]
    exact atI_last _ _
  refine ⟨_, rfl, _, rfl, r, _, _, _, rfl, rfl, SqL.of hl1, atl, _, rfl, a, C_Room, dx, _, _, rfl, g1 _ _ hR, T_Room.cl, T_Room.na _ (by decide), rfl, _, _, rfl, rfl, _, rfl, ite2 (fun cc => ?_) (fun cc => ?_)⟩
  · have hn : ¬ InD d w' := fun z => by
      obtain ⟨c', s', b', e, hi⟩ := z
      rw [ed] at e
      cases e
      have c1 : (w' : Int) ≤ c + nCells b - 1 := of_decide_eq_true cc
      have := hi.2
      omega
    refine ⟨True.intro, _, rfl, (by show 1 ≤ 1000; decide), fun e he => ⟨e, x, rfl, upd_same, fun dx' hd => ⟨rfl, e, some dx', rfl, upd_same, ?_⟩⟩⟩
    obtain ⟨g2, hx⟩ := np_fin (v := x) g1 he hd
    exact qx hn e _ g2 (g1.free he) hx
  · have c1 : ¬ (w' : Int) ≤ c + nCells b - 1 := fun z => cc (decide_eq_true z)
    exact ⟨_, rfl, qo c s b ed ⟨ho, by omega⟩ r H1 g1 hr1 hl1⟩
end
end K06

namespace K06
open PySem L2 PyProof.Rows K01 K03
abbrev s_Room_taken : Stmt := inClass (top 23) 1
theorem sc_Room_taken : FnScope ["self", "place", "numbers", "cell", "shift", "bits"] ["self", "place"] (defScope s_Room_taken) := ⟨rfl, rfl, rfl, by decide +kernel, rfl, by decide +kernel, by decide +kernel⟩
section
variable {P : Program} {w : World} {K : PySem.W.Frag} {mg : Str → Option Value} {base : Heap}
theorem ok_Room_taken {k : Nat} {f : Addr} {fd : FuncData} (F : Fun K "taken" "Room.taken" s_Room_taken f fd) (M : Blt mg) {t1 t2 t3 t4 : Tok} {ts : Addr} (C : Cst K mg t1 t2 t3 t4 ts) {C_Room f_Room_init : Addr} (T_Room : TCls K mg "Room" C_Room f_Room_init ["wide", "held"]) {C_RoomError f_RoomError_init : Addr} (T_RoomError : TXB K mg C_RoomError f_RoomError_init) (VI : VInit K) {C_NoPlace f_NoPlace_init : Addr} (T_NoPlace : TX K mg "NoPlace" C_NoPlace C_RoomError f_NoPlace_init ["found"]) {C_NoRoom f_NoRoom_init : Addr} (T_NoRoom : TX K mg "NoRoom" C_NoRoom C_RoomError f_NoRoom_init ["found"]) {f_Room_numbers_within : Addr} {fd_Room_numbers_within : FuncData} (D_Room_numbers_within : DfM K C_Room "numbers_within" f_Room_numbers_within fd_Room_numbers_within ["self", "place"]) (G_Room_numbers_within : FnOk P w K mg base (CXE P w) k f_Room_numbers_within fd_Room_numbers_within ["self", "place"] (spWithinG K C_Room C_NoPlace)) {f_Room_kept_in : Addr} {fd_Room_kept_in : FuncData} (D_Room_kept_in : DfM K C_Room "kept_in" f_Room_kept_in fd_Room_kept_in ["self", "numbers"]) (G_Room_kept_in : FnOk P w K mg base CX0 k f_Room_kept_in fd_Room_kept_in ["self", "numbers"] (spKept K C_Room)) : FnOk P w K mg base (CXE P w) (k + 2) f fd ["self", "place"] (spTakenG K C_Room C_NoPlace) := by
  refine F.okE sc_Room_taken (fun vs H Q E h => ?_) (fun cdv A outer s0 H vs Q E hr0 h => ?_)
  · obtain ⟨a, dx, l, w', N, x, d, rfl, _⟩ := h; rfl
  obtain ⟨a, dx, l, w', N, x, d, rfl, hR, hL, hd, qo, qx⟩ := h
  have hr := hr0.mono (Nat.le_succ _)
  refine ⟨_, (pss_cons (ps_set (i := 2) sc_Room_taken.nd rfl (by first | exact Or.inl rfl | exact Or.inr rfl) (pe_meth (pv 0) T_Room.cl D_Room_numbers_within.me G_Room_numbers_within hr D_Room_numbers_within.b .nil (passE fun _ _ _ z => z) (pa_cons (pv 1) pa_nil)))
      (pss_cons (ps_asg (pv 1) (pg_tup rfl (pgs_cons (pg_name (i := 3) sc_Room_taken.nd rfl (Or.inl rfl)) (pgs_cons (pg_name (i := 4) sc_Room_taken.nd rfl (Or.inl rfl)) (pgs_cons (pg_name (i := 5) sc_Room_taken.nd rfl (Or.inl rfl)) pgs_nil)))))
      (pss_one (ps_ret (pe_op op_mod (pe_op op_shr (pe_meth (pv 0) T_Room.cl D_Room_kept_in.me G_Room_kept_in hr D_Room_kept_in.b .nil pass0 (pa_cons (pv 2) pa_nil)) (pv 4)) (pe_op op_shl pe_int (pv 5))))))), ?_⟩
  refine ⟨_, rfl, a, dx, _, rfl, hR, rfl, _, rfl, a, dx, l, w', x, d, rfl, hR, hd, fun c s b ed hi r H1 g1 hr1 hl1 => ?_, qx⟩
  have q := qo c s b ed hi
  subst ed
  obtain ⟨t, rfl, hT⟩ := th_tuple hd
  obtain ⟨cn, sn, bn, rfl, rfl, rfl, k1, k2, k3, k4, k5, k6, k7⟩ := hi.nat
  refine ⟨_, rfl, t, _, rfl, Same.tup g1 hT, rfl, _, _, rfl, _, _, rfl, _, _, rfl, rfl, ?_⟩
  refine ⟨_, rfl, a, dx, _, rfl, g1 _ _ hR, rfl, _, rfl, a, dx, l, r, w', N, cn, nCells bn, rfl, g1 _ _ hR, g1 _ _ hL, SqL.of hl1, k2, k3, fun H2 g2 => ?_⟩
  refine ⟨_, rfl, _, _, rfl, rfl, (by omega), _, rfl, _, _, rfl, rfl, ⟨by omega, by omega, by decide⟩, _, _, rfl, rfl, ?_, ?_⟩
  · show (0 : Int) < 1 * 2 ^ (bn : Int).toNat
    rw [Int.one_mul]; exact Int.pow_pos (by decide)
  · have e := taken_int (N := N) (c := cn) k1
    have e2 : (8 * (cn : Int) + (sn : Int)).toNat = 8 * cn + sn := by omega
    have := q H2 (g1.trans g2)
    rw [e2, Int.toNat_natCast, ← e] at this
    exact this
end
end K06

namespace K06
open PySem L2 PyProof.Rows K01 K03
abbrev s_Room_left : Stmt := inClass (top 23) 2
theorem sc_Room_left : FnScope ["self", "place", "number", "numbers", "cell", "shift", "bits", "kept", "change"] ["self", "place", "number"] (defScope s_Room_left) := ⟨rfl, rfl, rfl, by decide +kernel, rfl, by decide +kernel, by decide +kernel⟩
section
variable {P : Program} {w : World} {K : PySem.W.Frag} {mg : Str → Option Value} {base : Heap}
theorem ok_Room_left {k : Nat} {f : Addr} {fd : FuncData} (F : Fun K "left" "Room.left" s_Room_left f fd) (M : Blt mg) {t1 t2 t3 t4 : Tok} {ts : Addr} (C : Cst K mg t1 t2 t3 t4 ts) {C_Room f_Room_init : Addr} (T_Room : TCls K mg "Room" C_Room f_Room_init ["wide", "held"]) {C_RoomError f_RoomError_init : Addr} (T_RoomError : TXB K mg C_RoomError f_RoomError_init) (VI : VInit K) {C_NoPlace f_NoPlace_init : Addr} (T_NoPlace : TX K mg "NoPlace" C_NoPlace C_RoomError f_NoPlace_init ["found"]) {C_NoRoom f_NoRoom_init : Addr} (T_NoRoom : TX K mg "NoRoom" C_NoRoom C_RoomError f_NoRoom_init ["found"]) {f_Room_numbers_within : Addr} {fd_Room_numbers_within : FuncData} (D_Room_numbers_within : DfM K C_Room "numbers_within" f_Room_numbers_within fd_Room_numbers_within ["self", "place"]) (G_Room_numbers_within : FnOk P w K mg base (CXE P w) k f_Room_numbers_within fd_Room_numbers_within ["self", "place"] (spWithinG K C_Room C_NoPlace)) {f_Room_kept_in : Addr} {fd_Room_kept_in : FuncData} (D_Room_kept_in : DfM K C_Room "kept_in" f_Room_kept_in fd_Room_kept_in ["self", "numbers"]) (G_Room_kept_in : FnOk P w K mg base CX0 k f_Room_kept_in fd_Room_kept_in ["self", "numbers"] (spKept K C_Room)) {f_cells_of : Addr} {fd_cells_of : FuncData} (D_cells_of : Df K mg "cells_of" f_cells_of fd_cells_of ["word", "width"]) (G_cells_of : FnOk P w K mg base CX0 k f_cells_of fd_cells_of ["word", "width"] spCells) : FnOk P w K mg base (CXE P w) (k + 2) f fd ["self", "place", "number"] (spLeftG K C_Room C_NoPlace) := by
  refine F.okE sc_Room_left (fun vs H Q E h => ?_) (fun cdv A outer s0 H vs Q E hr0 h => ?_)
  · obtain ⟨a, dx, l, w', N, xx, d, x, rfl, _⟩ := h; rfl
  obtain ⟨a, dx, l, w', N, xx, d, x, rfl, hR, hL, hw, hd, qo, qx⟩ := h
  have hr := hr0.mono (Nat.le_succ _)
  refine ⟨_, (pss_cons (ps_set (i := 3) sc_Room_left.nd rfl (by first | exact Or.inl rfl | exact Or.inr rfl) (pe_meth (pv 0) T_Room.cl D_Room_numbers_within.me G_Room_numbers_within hr D_Room_numbers_within.b .nil (passE fun _ _ _ z => z) (pa_cons (pv 1) pa_nil)))
      (pss_cons (ps_asg (pv 1) (pg_tup rfl (pgs_cons (pg_name (i := 4) sc_Room_left.nd rfl (Or.inl rfl)) (pgs_cons (pg_name (i := 5) sc_Room_left.nd rfl (Or.inl rfl)) (pgs_cons (pg_name (i := 6) sc_Room_left.nd rfl (Or.inl rfl)) pgs_nil)))))
      (pss_cons (ps_set (i := 7) sc_Room_left.nd rfl (by first | exact Or.inl rfl | exact Or.inr rfl) (pe_meth (pv 0) T_Room.cl D_Room_kept_in.me G_Room_kept_in hr D_Room_kept_in.b .nil pass0 (pa_cons (pv 3) pa_nil)))
      (pss_cons (ps_set (i := 8) sc_Room_left.nd rfl (by first | exact Or.inl rfl | exact Or.inr rfl) (pe_op op_sub (pe_op op_mod (pv 2) (pe_op op_shl pe_int (pv 6))) (pe_op op_mod (pe_op op_shr (pv 7) (pv 5)) (pe_op op_shl pe_int (pv 6)))))
      (pss_one (ps_asg (pe_call G_cells_of hr rfl D_cells_of.m D_cells_of.k D_cells_of.b .nil pass0 (pa_cons (pe_op op_add (pv 7) (pe_op op_shlL (pv 8) (pv 5))) (pa_cons (pe_callB call_len_seq rfl M.len PySem.boot_len (pa_cons (pv 3) pa_nil)) pa_nil))) (pg_slc (pe_fld (pv 0) rfl) (po_some (pv 4)) (po_some (pe_op op_add (pv 4) (pe_callB call_len_seq rfl M.len PySem.boot_len (pa_cons (pv 3) pa_nil))))))))))), ?_⟩
  refine ⟨_, rfl, a, dx, _, rfl, hR, rfl, _, rfl, a, dx, l, w', xx, d, rfl, hR, hd, fun c s b ed hi r H1 g1 hr1 hl1 => ?_, qx⟩
  have q := qo c s b ed hi
  subst ed
  obtain ⟨t, rfl, hT⟩ := th_tuple hd
  obtain ⟨cn, sn, bn, rfl, rfl, rfl, k1, k2, k3, k4, k5, k6, k7⟩ := hi.nat
  have hp2 : (0 : Int) < 1 * 2 ^ (bn : Int).toNat := by rw [Int.one_mul]; exact Int.pow_pos (by decide)
  have elen : ((rangeL (cn : Int) (nCells bn)).map V.int).length = nCells bn := by rw [List.length_map, rangeL_length]
  refine ⟨_, rfl, t, _, rfl, Same.tup g1 hT, rfl, _, _, rfl, _, _, rfl, _, _, rfl, rfl, ?_⟩
  refine ⟨_, rfl, a, dx, _, rfl, g1 _ _ hR, rfl, _, rfl, a, dx, l, r, w', N, cn, nCells bn, rfl, g1 _ _ hR, g1 _ _ hL, SqL.of hl1, k2, k3, fun H2 g2 => ?_⟩
  have g12 := g1.trans g2
  refine ⟨_, rfl, _, rfl, _, _, rfl, rfl, ⟨by omega, by omega, by decide⟩, _, _, rfl, rfl, hp2, _, rfl, _, rfl, _, _, rfl, rfl, (by omega), _, rfl, _, _, rfl, rfl, ⟨by omega, by omega, by decide⟩, _, _, rfl, rfl, hp2, _, _, rfl, rfl, ?_⟩
  have hch := change_lt (u := x % (1 * 2 ^ (bn : Int).toNat)) (v := ((N / 256 ^ cn % 256 ^ nCells bn : Nat) : Int) / 2 ^ (sn : Int).toNat % (1 * 2 ^ (bn : Int).toNat)) ⟨Int.emod_nonneg _ (Int.ne_of_gt hp2), Int.emod_lt_of_pos _ hp2⟩ ⟨Int.emod_nonneg _ (Int.ne_of_gt hp2), Int.emod_lt_of_pos _ hp2⟩ rfl (by omega)
  have hl2 := g2 _ _ hl1
  have hL2 := g12 _ _ hL
  refine ⟨_, rfl, _, rfl, _, rfl, _, _, rfl, rfl, ⟨by omega, by omega, hch⟩, _, _, rfl, rfl, _, rfl, r, _, rfl, .inl (SqL.of hl2), _, _, rfl, by omega, by rw [elen]; omega, fun r2 hr2 => ?_⟩
  have nl : l ≠ r2 := ne_of_none hL2 hr2
  have g3 := fun o => g12.trans (same_new hr2 o)
  refine ⟨_, rfl, a, C_Room, dx, _, _, rfl, g3 _ _ _ hR, T_Room.cl, T_Room.na _ (by decide), rfl, _, rfl, _, rfl, _, rfl, _, rfl, r, _, rfl, .inl (SqL.of (same_new hr2 _ _ _ hl2)), _, _, rfl, rfl, _, rfl, ?_⟩
  refine ⟨l, r2, _, _, _, _, rfl, rfl, (by rw [upd_ne nl]; exact hL2), upd_same, nl, rfl, rfl, by omega, by rw [elen]; omega, ?_, ?_, ?_⟩
  · rw [elen, List.length_map, cellsF_length]; omega
  · rw [elen, List.length_map, List.length_map, cellsF_length, cellsL_length, sizeLine_eq]; clear hch; omega
  · refine q _ (fun b' o nb q' => ?_) ?_
    · rw [upd_ne nb]; exact g3 _ _ _ q'
    · have e2 : (8 * (cn : Int) + (sn : Int)).toNat = 8 * cn + sn := by omega
      rw [upd_same, elen, e2, Int.toNat_natCast, Int.toNat_natCast, Int.toNat_natCast, Int.toNat_natCast, show ((cn : Int) + (nCells bn : Nat)).toNat = cn + nCells bn by omega, ← List.map_take, ← List.map_drop, ← List.map_append, ← List.map_append, cells_put k1 k2, ← left_int k1]
end
end K06

namespace K06
open PySem L2 PyProof.Rows K01 K03
abbrev s_law_same : Stmt := top 30
theorem sc_law_same : FnScope ["_law_told_here", "_law_thing"] ["_law_told_here", "_law_thing"] (defScope s_law_same) := ⟨rfl, rfl, rfl, by decide +kernel, rfl, by decide +kernel, by decide +kernel⟩
section
variable {P : Program} {w : World} {K : PySem.W.Frag} {mg : Str → Option Value} {base : Heap}
theorem ok_law_same {k : Nat} {f : Addr} {fd : FuncData} (F : Fun K "_law_same" "_law_same" s_law_same f fd) (M : Blt mg) {t1 t2 t3 t4 : Tok} {ts : Addr} (C : Cst K mg t1 t2 t3 t4 ts) {C_Room f_Room_init : Addr} (T_Room : TCls K mg "Room" C_Room f_Room_init ["wide", "held"]) {C_RoomError f_RoomError_init : Addr} (T_RoomError : TXB K mg C_RoomError f_RoomError_init) (VI : VInit K) {C_NoPlace f_NoPlace_init : Addr} (T_NoPlace : TX K mg "NoPlace" C_NoPlace C_RoomError f_NoPlace_init ["found"]) {C_NoRoom f_NoRoom_init : Addr} (T_NoRoom : TX K mg "NoRoom" C_NoRoom C_RoomError f_NoRoom_init ["found"]) : FnOk P w K mg base CX0 (k + 2) f fd ["_law_told_here", "_law_thing"] (spSameT K) := by
  refine F.ok sc_law_same (fun vs H Q E h => ?_) (fun cdv A outer s0 H vs Q E hr0 h => ?_)
  · obtain ⟨r, x, d, rfl, _⟩ := h; rfl
  obtain ⟨r, x, d, rfl, hr1, hd, q⟩ := h
  have hr := hr0.mono (Nat.le_succ _)
  refine ⟨_, (pss_one (ps_ret (pe_and (pe_cmpR (op_eqSame hr.units) (pv 0) (pe_lst (pa_cons pe_str (pa_cons (pv 1) pa_nil))) (nomark _)) (pe_one (pe_cmpR op_eq (pe_callB (call_reprF (K := K) rfl hr.gd hr.units) rfl M.repr (show bootBuiltins "repr" = some (.builtin "repr") from by decide +kernel) (pa_cons (pe_ix ix_list (pv 0) pe_int (fun _ _ => rfl)) pa_nil)) (pe_callB (call_reprF (K := K) rfl hr.gd hr.units) rfl M.repr (show bootBuiltins "repr" = some (.builtin "repr") from by decide +kernel) (pa_cons (pv 1) pa_nil)) (nomark _)))))), ?_⟩
  refine ⟨_, rfl, _, rfl, (by show 2 ≤ sizeLine; decide), fun p hp => ?_⟩
  have g := same_new hp (.lst [.str "place", x])
  have k : upd H p (.lst [.str "place", x]) p = some (.lst [.str "place", x]) := upd_same
  generalize upd H p (.lst [.str "place", x]) = H1 at g k ⊢
  have hd1 := hd.same g
  refine ⟨r, p, _, rfl, rfl, SqL.of (g _ _ hr1), SqL.of k, fun v hv => ?_, _, rfl, iteP rfl ?_⟩
  · simp only [List.mem_cons, List.not_mem_nil, or_false] at hv
    rcases hv with rfl | rfl
    · exact .inl rfl
    · exact self_of hd.dat
  refine ⟨_, rfl, r, _, _, _, rfl, rfl, SqL.of (g _ _ hr1), rfl, x, d, rfl, hd1.dat, hd1.sh, hd1.dp, hd1.ln, _, rfl, x, d, rfl, hd1.dat, hd1.sh, hd1.dp, hd1.ln, rfl, ?_⟩
  rw [decide_eq_true rfl]
  exact q H1 g
end
end K06

namespace K06
open PySem L2 PyProof.Rows K01 K03
abbrev s_is_between : Stmt := top 6
theorem sc_is_between : FnScope ["thing", "low", "high"] ["thing", "low", "high"] (defScope s_is_between) := ⟨rfl, rfl, rfl, by decide +kernel, rfl, by decide +kernel, by decide +kernel⟩
section
variable {P : Program} {w : World} {K : PySem.W.Frag} {mg : Str → Option Value} {base : Heap}
theorem ok_is_between {k : Nat} {f : Addr} {fd : FuncData} (F : Fun K "is_between" "is_between" s_is_between f fd) (M : Blt mg) {t1 t2 t3 t4 : Tok} {ts : Addr} (C : Cst K mg t1 t2 t3 t4 ts) {C_Room f_Room_init : Addr} (T_Room : TCls K mg "Room" C_Room f_Room_init ["wide", "held"]) {C_RoomError f_RoomError_init : Addr} (T_RoomError : TXB K mg C_RoomError f_RoomError_init) (VI : VInit K) {C_NoPlace f_NoPlace_init : Addr} (T_NoPlace : TX K mg "NoPlace" C_NoPlace C_RoomError f_NoPlace_init ["found"]) {C_NoRoom f_NoRoom_init : Addr} (T_NoRoom : TX K mg "NoRoom" C_NoRoom C_RoomError f_NoRoom_init ["found"]) {f_is_whole : Addr} {fd_is_whole : FuncData} (D_is_whole : Df K mg "is_whole" f_is_whole fd_is_whole ["thing"]) (G_is_whole : FnOk P w K mg base CX0 k f_is_whole fd_is_whole ["thing"] (spIsW K)) : FnOk P w K mg base CX0 (k + 2) f fd ["thing", "low", "high"] (spBtwG K) := by
  refine F.ok sc_is_between (fun vs H Q E h => ?_) (fun cdv A outer s0 H vs Q E hr0 h => ?_)
  · rcases h with ⟨x, lo, hi, rfl, _⟩ | ⟨x, lo, hi, rfl, _⟩ <;> rfl

  have hr := hr0.mono (Nat.le_succ _)
  refine ⟨_, (pss_one (ps_ret (pe_and (pe_call G_is_whole hr rfl D_is_whole.m D_is_whole.k D_is_whole.b .nil pass0 (pa_cons (pv 0) pa_nil)) (pe_one (pe_chain op_le op_le (pv 1) (pv 0) (pv 2)))))), ?_⟩
  rcases h with ⟨x, lo, hi, rfl, q⟩ | ⟨x, lo, hi, rfl, ho, q⟩
  · refine ⟨_, rfl, .inl ⟨x, rfl, _, rfl, iteP (by decide) ⟨_, rfl, _, rfl, _, _, rfl, rfl, _, rfl, ite2 (fun c => ⟨_, rfl, _, _, rfl, rfl, q _ ?_⟩) (fun c => q false ?_)⟩⟩⟩
    · have c' : lo ≤ x := of_decide_eq_true c
      exact ⟨fun z => ⟨c', of_decide_eq_true z⟩, fun z => decide_eq_true z.2⟩
    · exact ⟨fun z => (by cases z), fun z => absurd (decide_eq_true z.1) c⟩
  · exact ⟨_, rfl, .inr ⟨x, rfl, ho, _, rfl, iteN (by decide) q⟩⟩
end
end K06

namespace K06
open PySem L2 PyProof.Rows K01 K03
abbrev s_Room_init : Stmt := inClass (top 23) 0
theorem sc_Room_init : FnScope ["self", "wide"] ["self", "wide"] (defScope s_Room_init) := ⟨rfl, rfl, rfl, by decide +kernel, rfl, by decide +kernel, by decide +kernel⟩
section
variable {P : Program} {w : World} {K : PySem.W.Frag} {mg : Str → Option Value} {base : Heap}
theorem ok_Room_init {k : Nat} {f : Addr} {fd : FuncData} (F : Fun K "__init__" "Room.__init__" s_Room_init f fd) (M : Blt mg) {t1 t2 t3 t4 : Tok} {ts : Addr} (C : Cst K mg t1 t2 t3 t4 ts) {C_Room f_Room_init : Addr} (T_Room : TCls K mg "Room" C_Room f_Room_init ["wide", "held"]) {C_RoomError f_RoomError_init : Addr} (T_RoomError : TXB K mg C_RoomError f_RoomError_init) (VI : VInit K) {C_NoPlace f_NoPlace_init : Addr} (T_NoPlace : TX K mg "NoPlace" C_NoPlace C_RoomError f_NoPlace_init ["found"]) {C_NoRoom f_NoRoom_init : Addr} (T_NoRoom : TX K mg "NoRoom" C_NoRoom C_RoomError f_NoRoom_init ["found"]) {f_is_between : Addr} {fd_is_between : FuncData} (D_is_between : Df K mg "is_between" f_is_between fd_is_between ["thing", "low", "high"]) (G_is_between : FnOk P w K mg base CX0 k f_is_between fd_is_between ["thing", "low", "high"] (spBtwG K)) {fd_NoRoom_init : FuncData} (D_NoRoom_init : DfI K fd_NoRoom_init ["self", "found"]) (G_NoRoom_init : FnOk P w K mg base (CXE P w) k f_NoRoom_init fd_NoRoom_init ["self", "found"] (spNP C_NoRoom)) : FnOk P w K mg base (CXE P w) (k + 2) f fd ["self", "wide"] (spRoomInitG K C_Room C_NoRoom) := by
  refine F.okE sc_Room_init (fun vs H Q E h => ?_) (fun cdv A outer s0 H vs Q E hr0 h => ?_)
  · obtain ⟨a, dx, x, rfl, _⟩ := h; rfl
  obtain ⟨a, dx, x, rfl, hA, hq⟩ := h
  have hr := hr0.mono (Nat.le_succ _)
  refine ⟨_, (pss_cons (ps_if (pt_not (pt_val (pe_call G_is_between hr rfl D_is_between.m D_is_between.k D_is_between.b .nil pass0 (pa_cons (pv 1) (pa_cons pe_int (pa_cons (pe_glob (v := .int 8192) rfl C.MOST_ROOM_CELLS ⟨_, rfl⟩) pa_nil)))))) (pss_one (ps_raise T_NoRoom.c G_NoRoom_init hr0 rfl T_NoRoom.m D_NoRoom_init.b .nil raisesE (pa_cons (pv 1) pa_nil))) pss_nil)
      (pss_cons (ps_fld (pv 0) (pv 1) rfl)
      (pss_one (ps_fld (pv 0) (pe_op op_rep (pe_lst (pa_cons pe_int pa_nil)) (pv 1)) rfl)))), ?_⟩
  rcases hq with ⟨w', rfl, hw1, hw2, q⟩ | ⟨hb, qx⟩
  case' inr =>
    have fin : ∀ e, H e = none → ∀ dx', upd H e (Ex0 e C_NoRoom none) dx' = none → E (.ref e) none (upd (upd (upd (upd H e (Ex0 e C_NoRoom none)) dx' (XD dx' [("found", x)])) e (Ex0 e C_NoRoom (some dx'))) e (ExF e C_NoRoom (some dx'))) := fun e he dx' hd => by
      obtain ⟨g2, hx⟩ := np_fin (v := x) (Same.refl H) he hd
      exact qx e _ g2 he hx
    rcases hb with ⟨n, rfl, hn⟩ | ho
    · exact ⟨_, rfl, .inl ⟨n, 1, 8192, rfl, fun k hk => ⟨_, rfl, iteP (by cases k with | false => rfl | true => exact absurd (hk.mp rfl) hn) ⟨True.intro, _, rfl, (by show 1 ≤ 1000; decide), fun e he => ⟨e, _, rfl, upd_same, fun dx' hd => ⟨rfl, e, some dx', rfl, upd_same, fin e he dx' hd⟩⟩⟩⟩⟩⟩
    · exact ⟨_, rfl, .inr ⟨x, 1, 8192, rfl, ho, _, rfl, iteP (by decide) ⟨True.intro, _, rfl, (by show 1 ≤ 1000; decide), fun e he => ⟨e, _, rfl, upd_same, fun dx' hd => ⟨rfl, e, some dx', rfl, upd_same, fin e he dx' hd⟩⟩⟩⟩⟩
  refine ⟨_, rfl, .inl ⟨w', 1, 8192, rfl, fun k hk => ⟨_, rfl, iteN (by rw [hk.mpr ⟨by omega, by omega⟩]; decide) ?_⟩⟩⟩
  refine ⟨_, rfl, _, rfl, a, C_Room, dx, [], rfl, hA, T_Room.cl, T_Room.na _ (by decide), by decide, ?_⟩
  refine ⟨(by show 1 ≤ sizeLine; decide), fun p hp => ⟨_, rfl, p, _, _, rfl, rfl, upd_same, by omega, by omega, ?_, fun l hl => ?_⟩⟩
  · show 1 * (w' : Int).toNat ≤ sizeLine
    rw [sizeLine_eq]; omega
  · have nap : a ≠ p := fun z => by rw [← z, upd_same] at hp; cases hp
    have nal : a ≠ l := fun z => by rw [← z, upd_ne nap, upd_same] at hl; cases hl
    have npl : p ≠ l := fun z => by rw [← z, upd_same] at hl; cases hl
    have hl0 : H l = none := by rw [upd_ne (Ne.symm npl), upd_ne (Ne.symm nal)] at hl; exact hl
    have hp0 : H p = none := by rw [upd_ne (Ne.symm nap)] at hp; exact hp
    refine ⟨_, rfl, a, C_Room, dx, _, rfl, (by rw [upd_ne nal, upd_ne nap, upd_same]), T_Room.cl, T_Room.na _ (by decide), (by show 1 < 1000; decide), ?_⟩
    refine q l _ hl0 (fun b o nb q' => ?_) upd_same ?_
    · rw [upd_ne nb, upd_ne (ne_of_none q' hl0), upd_ne (ne_of_none q' hp0), upd_ne nb]; exact q'
    · rw [upd_ne (Ne.symm nal), upd_same, cellsF_zero, List.map_replicate]
      have : (List.replicate (w' : Int).toNat [V.int 0]).flatten = List.replicate w' (V.int 0) := by
        rw [Int.toNat_natCast]
        exact List.flatten_replicate_singleton
      rw [this]
end
end K06

namespace K06
open PySem L2 PyProof.Rows K01 K03
abbrev s_law_told : Stmt := top 29
theorem sc_law_told : FnScope ["_law_room", "_law_door", "_law_one", "_law_other", "_law_told_here", "e"] ["_law_room", "_law_door", "_law_one", "_law_other"] (defScope s_law_told) := ⟨rfl, rfl, rfl, by decide +kernel, rfl, by decide +kernel, by decide +kernel⟩
section
variable {P : Program} {w : World} {K : PySem.W.Frag} {mg : Str → Option Value} {base : Heap}
theorem ok_law_told {k : Nat} {f : Addr} {fd : FuncData} (F : Fun K "_law_told" "_law_told" s_law_told f fd) (M : Blt mg) {t1 t2 t3 t4 : Tok} {ts : Addr} (C : Cst K mg t1 t2 t3 t4 ts) {C_Room f_Room_init : Addr} (T_Room : TCls K mg "Room" C_Room f_Room_init ["wide", "held"]) {C_RoomError f_RoomError_init : Addr} (T_RoomError : TXB K mg C_RoomError f_RoomError_init) (VI : VInit K) {C_NoPlace f_NoPlace_init : Addr} (T_NoPlace : TX K mg "NoPlace" C_NoPlace C_RoomError f_NoPlace_init ["found"]) {C_NoRoom f_NoRoom_init : Addr} (T_NoRoom : TX K mg "NoRoom" C_NoRoom C_RoomError f_NoRoom_init ["found"]) {f_need_place : Addr} {fd_need_place : FuncData} (D_need_place : Df K mg "need_place" f_need_place fd_need_place ["thing"]) (G_need_place : FnOk P w K mg base (CXE P w) k f_need_place fd_need_place ["thing"] (spNeedG K C_NoPlace)) {f_cells_in : Addr} {fd_cells_in : FuncData} (D_cells_in : Df K mg "cells_in" f_cells_in fd_cells_in ["place"]) (G_cells_in : FnOk P w K mg base (CXE P w) k f_cells_in fd_cells_in ["place"] (spCellsG K C_NoPlace)) {f_shares : Addr} {fd_shares : FuncData} (D_shares : Df K mg "shares" f_shares fd_shares ["one", "other"]) (G_shares : FnOk P w K mg base (CXE P w) k f_shares fd_shares ["one", "other"] (spSharesG K C_NoPlace)) {f_Room_taken : Addr} {fd_Room_taken : FuncData} (D_Room_taken : DfM K C_Room "taken" f_Room_taken fd_Room_taken ["self", "place"]) (G_Room_taken : FnOk P w K mg base (CXE P w) k f_Room_taken fd_Room_taken ["self", "place"] (spTakenG K C_Room C_NoPlace)) {f_Room_left : Addr} {fd_Room_left : FuncData} (D_Room_left : DfM K C_Room "left" f_Room_left fd_Room_left ["self", "place", "number"]) (G_Room_left : FnOk P w K mg base (CXE P w) k f_Room_left fd_Room_left ["self", "place", "number"] (spLeftG K C_Room C_NoPlace)) : FnOk P w K mg base CX0 (k + 2) f fd ["_law_room", "_law_door", "_law_one", "_law_other"] (spTold K C_Room) := by
  refine F.ok sc_law_told (fun vs H Q E h => ?_) (fun cdv A outer s0 H vs Q E hr0 h => ?_)
  · obtain ⟨a, dx, l, w', N, door, x, y, d, d', z, rfl, _⟩ := h; rfl
  obtain ⟨a, dx, l, w', N, door, x, y, d, d', z, rfl, hR, hL, hw, hd, hd', ht, q⟩ := h
  have hr := hr0.mono (Nat.le_succ _)
  refine ⟨_, (pss_cons (ps_set (i := 4) sc_law_told.nd rfl (by first | exact Or.inl rfl | exact Or.inr rfl) (pe_lst (pa_cons pe_str pa_nil)))
      (pss_cons (ps_try (i := 5) rfl rfl rfl rfl T_NoPlace.m T_NoPlace.x sc_law_told.nd rfl rfl (fun _ _ _ => (pss_one (ps_if (pt_cmpR op_eq (pv 1) pe_int (nomark _)) (pss_one (ps_expr (pe_callS G_need_place hr rfl D_need_place.m D_need_place.k D_need_place.b .nil passT (pa_cons (pv 2) pa_nil)))) (pss_one (ps_if (pt_cmpR op_eq (pv 1) pe_int (nomark _)) (pss_one (ps_expr (pe_callS G_cells_in hr rfl D_cells_in.m D_cells_in.k D_cells_in.b .nil passT (pa_cons (pv 2) pa_nil)))) (pss_one (ps_if (pt_cmpR op_eq (pv 1) pe_int (nomark _)) (pss_one (ps_expr (pe_callS G_shares hr rfl D_shares.m D_shares.k D_shares.b .nil passT (pa_cons (pv 2) (pa_cons (pv 3) pa_nil))))) (pss_one (ps_if (pt_cmpR op_eq (pv 1) pe_int (nomark _)) (pss_one (ps_expr (pe_methS (pv 0) T_Room.cl D_Room_taken.me G_Room_taken hr D_Room_taken.b .nil passT (pa_cons (pv 2) pa_nil)))) (pss_one (ps_expr (pe_methS (pv 0) T_Room.cl D_Room_left.me G_Room_left hr D_Room_left.b .nil passT (pa_cons (pv 2) (pa_cons (pe_op op_sub pe_int pe_int) pa_nil)))))))))))))) (fun _ => (pss_one (ps_set (i := 4) sc_law_told.nd rfl (by first | exact Or.inl rfl | exact Or.inr rfl) (pe_lst (pa_cons pe_str (pa_cons (pe_xfldK (K := K) rfl (pv 5) rfl) pa_nil)))))))
      (pss_one (ps_ret (pv 4))))), ?_⟩
  refine ⟨(by show 1 ≤ sizeLine; decide), fun n0 hn0 => ?_⟩
  have g0 := same_new hn0 (.lst [.str "none"])
  have k0 : upd H n0 (.lst [.str "none"]) n0 = some (.lst [.str "none"]) := upd_same
  generalize upd H n0 (.lst [.str "none"]) = H0 at g0 k0 ⊢
  have hd0 := hd.same g0
  refine ⟨fun σ => σ = [some (.ref a), some (.int door), some x, some y, some (.ref n0), none], fun v _ H' => ∃ e zz, v = .ref e ∧ z = some zz ∧ Same H H' ∧ H e = none ∧ NPx C_NoPlace H' e zz, ?_, fun σ' e H' hS hW => ?_⟩
  · refine ⟨_, rfl, rfl, _, rfl, ite2 (fun c => ?_) (fun c => ?_)⟩
    · have e0 : door = 0 := V.int.inj (of_decide_eq_true c)
      have t := ht.t0 (.inl e0)
      exact ⟨_, rfl, rfl, x, d, rfl, hd0, fun hg H1 g1 => ⟨_, rfl, q n0 H1 (g0.trans g1) hn0 (by rw [g1 _ _ k0, t.1 hg]; rfl)⟩, fun hn e H1 g he hx => ⟨e, x, rfl, t.2 hn, g0.trans g, g0.free he, hx⟩⟩
    refine ⟨_, rfl, rfl, _, rfl, ite2 (fun c1 => ?_) (fun c1 => ?_)⟩
    · have e0 : door = 1 := V.int.inj (of_decide_eq_true c1)
      have t := ht.t0 (.inr e0)
      exact ⟨_, rfl, rfl, x, d, rfl, hd0, fun c' s' b' ed ho r H1 g1 _ _ => ⟨_, rfl, q n0 H1 (g0.trans g1) hn0 (by rw [g1 _ _ k0, t.1 ⟨c', s', b', ed, ho⟩]; rfl)⟩, fun hn e H1 g he hx => ⟨e, x, rfl, t.2 hn, g0.trans g, g0.free he, hx⟩⟩
    refine ⟨_, rfl, rfl, _, rfl, ite2 (fun c2 => ?_) (fun c2 => ?_)⟩
    · have e0 : door = 2 := V.int.inj (of_decide_eq_true c2)
      have t := ht.t2 e0
      exact ⟨_, rfl, _, rfl, rfl, x, d, y, d', rfl, hd0, (hd' e0).same g0, fun hg hg' k H1 g1 => ⟨_, rfl, q n0 H1 (g0.trans g1) hn0 (by rw [g1 _ _ k0, t.1 hg hg']; rfl)⟩, fun hn e H1 g he hx => ⟨e, x, rfl, t.2.1 hn, g0.trans g, g0.free he, hx⟩, fun hg hn e H1 g he hx => ⟨e, y, rfl, t.2.2 hg hn, g0.trans g, g0.free he, hx⟩⟩
    refine ⟨_, rfl, rfl, _, rfl, ite2 (fun c3 => ?_) (fun c3 => ?_)⟩
    · have e0 : door = 3 := V.int.inj (of_decide_eq_true c3)
      have t := ht.t3 e0
      exact ⟨_, rfl, a, dx, _, rfl, g0 _ _ hR, rfl, _, rfl, rfl, a, dx, l, w', N, x, d, rfl, g0 _ _ hR, g0 _ _ hL, hd0, fun c' s' b' ed ho H1 g1 => ⟨_, rfl, q n0 H1 (g0.trans g1) hn0 (by rw [g1 _ _ k0, t.1 ⟨c', s', b', ed, ho⟩]; rfl)⟩, fun hn e H1 g he hx => ⟨e, x, rfl, t.2 hn, g0.trans g, g0.free he, hx⟩⟩
    have nd : ∀ {n : Int}, ¬ decide (V.int door = V.int n) = true → door ≠ n := fun {n} h z => h (decide_eq_true (by rw [z]))
    have t := ht.t4 (nd c) (nd c1) (nd c2) (nd c3)
    exact ⟨_, rfl, a, dx, _, rfl, g0 _ _ hR, rfl, _, rfl, _, _, rfl, rfl, rfl, a, dx, l, w', N, x, d, _, rfl, g0 _ _ hR, g0 _ _ hL, hw, hd0, fun c' s' b' ed ho => absurd ⟨c', s', b', ed, ho⟩ t.1, fun _ e H1 g he hx => ⟨e, x, rfl, t.2, g0.trans g, g0.free he, hx⟩⟩
  · subst hS
    obtain ⟨e2, zz, ee, rfl, g, he, dx', hE, hX⟩ := hW
    cases ee
    refine ⟨C_NoPlace, some dx', _, hE, T_NoPlace.x, (by simp), ?_⟩
    refine ⟨_, rfl, e, C_NoPlace, C_RoomError, f_NoPlace_init, dx', _, _, rfl, .inl hE, hX, T_NoPlace.c, T_NoPlace.n _ (List.mem_singleton.mpr rfl), rfl, (by show 2 ≤ sizeLine; decide), fun p hp => ?_⟩
    exact ⟨_, rfl, q p _ (g.trans (same_new hp _)) (g.free hp) upd_same⟩
end
end K06

namespace K06
open PySem L2 PyProof.Rows K01 K03
abbrev s_law_cell : Stmt := top 25
theorem sc_law_cell : FnScope ["_law_script", "_law_k", "_law_number"] ["_law_script", "_law_k"] (defScope s_law_cell) := ⟨rfl, rfl, rfl, by decide +kernel, rfl, by decide +kernel, by decide +kernel⟩
section
variable {P : Program} {w : World} {K : PySem.W.Frag} {mg : Str → Option Value} {base : Heap}
theorem ok_law_cell {k : Nat} {f : Addr} {fd : FuncData} (F : Fun K "_law_cell" "_law_cell" s_law_cell f fd) (M : Blt mg) {t1 t2 t3 t4 : Tok} {ts : Addr} (C : Cst K mg t1 t2 t3 t4 ts) {C_Room f_Room_init : Addr} (T_Room : TCls K mg "Room" C_Room f_Room_init ["wide", "held"]) {C_RoomError f_RoomError_init : Addr} (T_RoomError : TXB K mg C_RoomError f_RoomError_init) (VI : VInit K) {C_NoPlace f_NoPlace_init : Addr} (T_NoPlace : TX K mg "NoPlace" C_NoPlace C_RoomError f_NoPlace_init ["found"]) {C_NoRoom f_NoRoom_init : Addr} (T_NoRoom : TX K mg "NoRoom" C_NoRoom C_RoomError f_NoRoom_init ["found"]) : FnOk P w K mg base CX0 (k + 2) f fd ["_law_script", "_law_k"] (spCell K) := by
  refine F.ok sc_law_cell (fun vs H Q E h => ?_) (fun cdv A outer s0 H vs Q E hr0 h => ?_)
  · obtain ⟨a, ns, k, rfl, _⟩ := h; rfl
  obtain ⟨a, ns, k, rfl, hS, hk0, hk1, q⟩ := h
  have hr := hr0.mono (Nat.le_succ _)
  refine ⟨_, (pss_cons (ps_if (pt_cmpR op_lt (pv 1) (pe_callB call_len_seq rfl M.len PySem.boot_len (pa_cons (pv 0) pa_nil)) (nomark _)) (pss_one (ps_ret (pe_ix ix_list (pv 0) (pv 1) (fun _ _ => rfl)))) pss_nil)
      (pss_cons (ps_set (i := 2) sc_law_cell.nd rfl (by first | exact Or.inl rfl | exact Or.inr rfl) (pe_op op_add (pe_op op_mul (pv 1) pe_int) pe_int))
      (pss_cons (ps_if (pt_cmpR op_gt (pe_callB call_len_seq rfl M.len PySem.boot_len (pa_cons (pv 0) pa_nil)) pe_int (nomark _)) (pss_one (ps_set (i := 2) sc_law_cell.nd rfl (by first | exact Or.inl rfl | exact Or.inr rfl) (pe_op op_mod (pe_op op_add (pe_op op_mul (pe_ix ix_list (pv 0) (pe_op op_mod (pe_op op_mul (pv 1) pe_int) (pe_callB call_len_seq rfl M.len PySem.boot_len (pa_cons (pv 0) pa_nil))) (fun _ _ => rfl)) pe_int) (pe_op op_mul (pv 1) pe_int)) pe_int))) pss_nil)
      (pss_one (ps_ret (pe_op op_mod (pe_op op_mul (pv 2) (pv 2)) pe_int)))))), ?_⟩
  have hl : (ns.map V.int).length = ns.length := List.length_map _
  refine ⟨_, rfl, _, rfl, a, _, rfl, .inl hS, _, _, rfl, rfl, _, rfl, ?_⟩
  refine ite2 (fun c => ?_) (fun c => ?_)
  · have c' : k < (((ns.map V.int).length : Nat) : Int) := of_decide_eq_true c
    rw [hl] at c'
    obtain ⟨v, hv⟩ := atI_ints ns hk0 c'
    exact ⟨_, rfl, _, rfl, a, _, _, _, rfl, rfl, hS, hv, q _⟩
  · refine ⟨_, rfl, _, _, rfl, rfl, .inr ⟨by omega, by omega⟩, _, _, rfl, rfl, ?_⟩
    refine ⟨_, rfl, a, _, rfl, .inl hS, _, _, rfl, rfl, _, rfl, ?_⟩
    refine ite2 (fun c => ?_) (fun c => ?_)
    · have c' : (0 : Int) < (((ns.map V.int).length : Nat) : Int) := of_decide_eq_true c
      have c2 := c'
      rw [hl] at c2
      obtain ⟨v, hv⟩ := atI_ints ns (i := k * 7 % (((ns.map V.int).length : Nat) : Int)) (Int.emod_nonneg _ (by omega)) (by rw [hl]; exact Int.emod_lt_of_pos _ c2)
      refine ⟨_, rfl, _, rfl, _, _, rfl, rfl, .inr ⟨by omega, by omega⟩, _, rfl, a, _, rfl, .inl hS, _, _, rfl, rfl, c', a, _, _, _, rfl, rfl, hS, hv, _, _, rfl, rfl, .inr ⟨by omega, by omega⟩, _, rfl, _, _, rfl, rfl, .inr ⟨by omega, by omega⟩, _, _, rfl, rfl, _, _, rfl, rfl, (by show (0 : Int) < _; decide), ?_⟩
      exact ⟨_, rfl, _, rfl, _, _, rfl, rfl, .inl ⟨by omega, by omega⟩, _, _, rfl, rfl, (by show (0 : Int) < _; decide), q _⟩
    · exact ⟨_, rfl, _, rfl, _, _, rfl, rfl, .inl ⟨by omega, by omega⟩, _, _, rfl, rfl, (by show (0 : Int) < _; decide), q _⟩
end
end K06

namespace K06
open PySem L2 PyProof.Rows K01 K03
abbrev s_law_begun : Stmt := top 26
theorem sc_law_begun : FnScope ["_law_cell_here", "_law_rest"] ["_law_cell_here"] (defScope s_law_begun) := ⟨rfl, rfl, rfl, by decide +kernel, rfl, by decide +kernel, by decide +kernel⟩
section
variable {P : Program} {w : World} {K : PySem.W.Frag} {mg : Str → Option Value} {base : Heap}
theorem ok_law_begun {k : Nat} {f : Addr} {fd : FuncData} (F : Fun K "_law_begun" "_law_begun" s_law_begun f fd) (M : Blt mg) {t1 t2 t3 t4 : Tok} {ts : Addr} (C : Cst K mg t1 t2 t3 t4 ts) {C_Room f_Room_init : Addr} (T_Room : TCls K mg "Room" C_Room f_Room_init ["wide", "held"]) {C_RoomError f_RoomError_init : Addr} (T_RoomError : TXB K mg C_RoomError f_RoomError_init) (VI : VInit K) {C_NoPlace f_NoPlace_init : Addr} (T_NoPlace : TX K mg "NoPlace" C_NoPlace C_RoomError f_NoPlace_init ["found"]) {C_NoRoom f_NoRoom_init : Addr} (T_NoRoom : TX K mg "NoRoom" C_NoRoom C_RoomError f_NoRoom_init ["found"]) : FnOk P w K mg base CX0 (k + 2) f fd ["_law_cell_here"] spBegun := by
  refine F.ok sc_law_begun (fun vs H Q E h => ?_) (fun cdv A outer s0 H vs Q E hr0 h => ?_)
  · obtain ⟨c, rfl, _⟩ := h; rfl
  obtain ⟨c, rfl, q⟩ := h
  have hr := hr0.mono (Nat.le_succ _)
  refine ⟨_, (pss_cons (ps_set (i := 1) sc_law_begun.nd rfl (by first | exact Or.inl rfl | exact Or.inr rfl) pe_int)
      (pss_cons (ps_if (pt_cmpR op_ge (pv 0) (pe_op op_pow pe_int pe_int) (nomark _)) (pss_one (ps_set (i := 1) sc_law_begun.nd rfl (by first | exact Or.inl rfl | exact Or.inr rfl) (pv 0))) pss_nil)
      (pss_one (ps_ret (pe_lst (pa_cons (pv 1) (pa_cons pe_int (pa_cons (pe_op op_mod (pv 0) pe_int) pa_nil)))))))), ?_⟩
  refine ⟨_, rfl, _, _, rfl, rfl, ⟨by decide, by decide, by decide⟩, _, _, rfl, rfl, _, rfl, ?_⟩
  refine ite2 (fun cc => ?_) (fun cc => ?_)
  · exact ⟨_, rfl, _, rfl, _, rfl, _, _, rfl, rfl, (by show (0 : Int) < _; decide), (by show 3 ≤ sizeLine; decide), fun p hp => q p _ hp ⟨⟨_, _, _, upd_same⟩, fun b o n e => by rw [upd_ne n]; exact e⟩⟩
  · exact ⟨_, rfl, _, rfl, _, _, rfl, rfl, (by show (0 : Int) < _; decide), (by show 3 ≤ sizeLine; decide), fun p hp => q p _ hp ⟨⟨_, _, _, upd_same⟩, fun b o n e => by rw [upd_ne n]; exact e⟩⟩
end
end K06

namespace K06
open PySem L2 PyProof.Rows K01 K03
abbrev s_law_draw : Stmt := top 27
theorem sc_law_draw : FnScope ["_law_state", "_law_many", "_law_found", "_law_number"] ["_law_state", "_law_many"] (defScope s_law_draw) := ⟨rfl, rfl, rfl, by decide +kernel, rfl, by decide +kernel, by decide +kernel⟩
section
variable {P : Program} {w : World} {K : PySem.W.Frag} {mg : Str → Option Value} {base : Heap}
theorem ok_law_draw {k : Nat} {f : Addr} {fd : FuncData} (F : Fun K "_law_draw" "_law_draw" s_law_draw f fd) (M : Blt mg) {t1 t2 t3 t4 : Tok} {ts : Addr} (C : Cst K mg t1 t2 t3 t4 ts) {C_Room f_Room_init : Addr} (T_Room : TCls K mg "Room" C_Room f_Room_init ["wide", "held"]) {C_RoomError f_RoomError_init : Addr} (T_RoomError : TXB K mg C_RoomError f_RoomError_init) (VI : VInit K) {C_NoPlace f_NoPlace_init : Addr} (T_NoPlace : TX K mg "NoPlace" C_NoPlace C_RoomError f_NoPlace_init ["found"]) {C_NoRoom f_NoRoom_init : Addr} (T_NoRoom : TX K mg "NoRoom" C_NoRoom C_RoomError f_NoRoom_init ["found"]) : FnOk P w K mg base CX0 (k + 2) f fd ["_law_state", "_law_many"] spDraw := by
  refine F.ok sc_law_draw (fun vs H Q E h => ?_) (fun cdv A outer s0 H vs Q E hr0 h => ?_)
  · obtain ⟨p, m, rfl, _⟩ := h; rfl
  obtain ⟨p, m, rfl, hm, hm2, ⟨a, b, c, h⟩, q⟩ := h
  have hr := hr0.mono (Nat.le_succ _)
  refine ⟨_, (pss_cons (ps_if (pt_cmpR op_gt (pe_ix ix_list (pv 0) pe_int (fun _ _ => rfl)) pe_int (nomark _)) (pss_cons (ps_set (i := 2) sc_law_draw.nd rfl (by first | exact Or.inl rfl | exact Or.inr rfl) (pe_op op_mod (pe_ix ix_list (pv 0) pe_int (fun _ _ => rfl)) (pv 1)))
      (pss_cons (ps_asg (pe_op op_fdiv (pe_ix ix_list (pv 0) pe_int (fun _ _ => rfl)) (pv 1)) (pg_sub (pv 0) pe_int set_list))
      (pss_one (ps_ret (pv 2))))) pss_nil)
      (pss_cons (ps_asg (pe_op op_add (pe_ix ix_list (pv 0) pe_int (fun _ _ => rfl)) pe_int) (pg_sub (pv 0) pe_int set_list))
      (pss_cons (ps_set (i := 3) sc_law_draw.nd rfl (by first | exact Or.inl rfl | exact Or.inr rfl) (pe_op op_mod (pe_op op_add (pe_op op_mul (pe_ix ix_list (pv 0) pe_int (fun _ _ => rfl)) pe_int) (pe_op op_mul (pe_ix ix_list (pv 0) pe_int (fun _ _ => rfl)) pe_int)) pe_int))
      (pss_cons (ps_set (i := 3) sc_law_draw.nd rfl (by first | exact Or.inl rfl | exact Or.inr rfl) (pe_op op_mod (pe_op op_add (pe_op op_mul (pv 3) (pv 3)) (pe_op op_mul (pe_ix ix_list (pv 0) pe_int (fun _ _ => rfl)) pe_int)) pe_int))
      (pss_one (ps_ret (pe_op op_mod (pe_op op_mod (pe_op op_mul (pv 3) (pv 3)) pe_int) (pv 1)))))))), ?_⟩
  refine ⟨_, rfl, p, _, _, _, rfl, rfl, SqL.of h, rfl, _, _, rfl, rfl, _, rfl, ?_⟩
  refine ite2 (fun cc => ?_) (fun cc => ?_)
  · refine ⟨_, rfl, p, _, _, _, rfl, rfl, SqL.of h, rfl, _, rfl, _, _, rfl, rfl, hm, ?_⟩
    refine ⟨_, rfl, p, _, _, _, rfl, rfl, SqL.of h, rfl, _, rfl, _, _, rfl, rfl, ⟨hm, hm2⟩, _, rfl, p, _, _, 0, rfl, rfl, h, rfl, ?_⟩
    refine ⟨_, rfl, q _ _ (Int.emod_nonneg _ (by omega)) (Int.emod_lt_of_pos _ hm) ⟨⟨_, _, _, upd_same⟩, fun b' o n e => by rw [upd_ne n]; exact e⟩⟩
  · refine ⟨_, rfl, p, _, _, _, rfl, rfl, SqL.of h, rfl, _, _, rfl, rfl, _, rfl, p, _, _, 1, rfl, rfl, h, rfl, ?_⟩
    have h1 : upd H p (.lst [.int a, .int (b + 1), .int c]) p = some (.lst [.int a, .int (b + 1), .int c]) := upd_same
    refine ⟨_, rfl, p, _, _, _, rfl, rfl, SqL.of h1, rfl, _, _, rfl, rfl, .inr ⟨by omega, by omega⟩, _, rfl, p, _, _, _, rfl, rfl, SqL.of h1, rfl, _, _, rfl, rfl, .inr ⟨by omega, by omega⟩, _, _, rfl, rfl, _, _, rfl, rfl, (by show (0 : Int) < _; decide), ?_⟩
    refine ⟨_, rfl, _, rfl, _, _, rfl, rfl, .inl ⟨by omega, by omega⟩, _, rfl, p, _, _, _, rfl, rfl, SqL.of h1, rfl, _, _, rfl, rfl, .inr ⟨by omega, by omega⟩, _, _, rfl, rfl, _, _, rfl, rfl, (by show (0 : Int) < _; decide), ?_⟩
    refine ⟨_, rfl, _, rfl, _, _, rfl, rfl, .inl ⟨by omega, by omega⟩, _, _, rfl, rfl, (by show (0 : Int) < _; decide), _, rfl, _, _, rfl, rfl, hm, ?_⟩
    exact q _ _ (Int.emod_nonneg _ (by omega)) (Int.emod_lt_of_pos _ hm) ⟨⟨_, _, _, upd_same⟩, fun b' o n e => by rw [upd_ne n]; exact e⟩
end
end K06

namespace K06
open PySem L2 PyProof.Rows K01 K03
abbrev s_law_place : Stmt := top 28
theorem sc_law_place : FnScope ["_law_state", "_law_wide", "_law_cell_here", "_law_most", "_law_many"] ["_law_state", "_law_wide"] (defScope s_law_place) := ⟨rfl, rfl, rfl, by decide +kernel, rfl, by decide +kernel, by decide +kernel⟩
section
variable {P : Program} {w : World} {K : PySem.W.Frag} {mg : Str → Option Value} {base : Heap}
theorem ok_law_place {k : Nat} {f : Addr} {fd : FuncData} (F : Fun K "_law_place" "_law_place" s_law_place f fd) (M : Blt mg) {t1 t2 t3 t4 : Tok} {ts : Addr} (C : Cst K mg t1 t2 t3 t4 ts) {C_Room f_Room_init : Addr} (T_Room : TCls K mg "Room" C_Room f_Room_init ["wide", "held"]) {C_RoomError f_RoomError_init : Addr} (T_RoomError : TXB K mg C_RoomError f_RoomError_init) (VI : VInit K) {C_NoPlace f_NoPlace_init : Addr} (T_NoPlace : TX K mg "NoPlace" C_NoPlace C_RoomError f_NoPlace_init ["found"]) {C_NoRoom f_NoRoom_init : Addr} (T_NoRoom : TX K mg "NoRoom" C_NoRoom C_RoomError f_NoRoom_init ["found"]) {f_law_draw : Addr} {fd_law_draw : FuncData} (D_law_draw : Df K mg "_law_draw" f_law_draw fd_law_draw ["_law_state", "_law_many"]) (G_law_draw : FnOk P w K mg base CX0 k f_law_draw fd_law_draw ["_law_state", "_law_many"] spDraw) : FnOk P w K mg base CX0 (k + 2) f fd ["_law_state", "_law_wide"] (spPlaceR K) := by
  refine F.ok sc_law_place (fun vs H Q E h => ?_) (fun cdv A outer s0 H vs Q E hr0 h => ?_)
  · obtain ⟨p, wide, rfl, _⟩ := h; rfl
  obtain ⟨p, wide, rfl, hw1, hw2, hs, q⟩ := h
  have hr := hr0.mono (Nat.le_succ _)
  refine ⟨_, (pss_cons (ps_set (i := 2) sc_law_place.nd rfl (by first | exact Or.inl rfl | exact Or.inr rfl) (pe_ix ix_list (pe_lst (pa_cons pe_int (pa_cons (pe_op op_sub (pv 1) pe_int) (pa_cons (pe_call G_law_draw hr rfl D_law_draw.m D_law_draw.k D_law_draw.b .nil pass0 (pa_cons (pv 0) (pa_cons (pv 1) pa_nil))) (pa_cons (pe_call G_law_draw hr rfl D_law_draw.m D_law_draw.k D_law_draw.b .nil pass0 (pa_cons (pv 0) (pa_cons (pv 1) pa_nil))) pa_nil))))) (pe_call G_law_draw hr rfl D_law_draw.m D_law_draw.k D_law_draw.b .nil pass0 (pa_cons (pv 0) (pa_cons pe_int pa_nil))) (fun _ _ => rfl)))
      (pss_cons (ps_if (pt_cmpR op_eq (pe_call G_law_draw hr rfl D_law_draw.m D_law_draw.k D_law_draw.b .nil pass0 (pa_cons (pv 0) (pa_cons pe_int pa_nil))) pe_int (nomark _)) (pss_one (ps_ret (pe_tup (pa_cons (pv 2) (pa_cons (pe_op op_mul pe_int (pe_call G_law_draw hr rfl D_law_draw.m D_law_draw.k D_law_draw.b .nil pass0 (pa_cons (pv 0) (pa_cons pe_int pa_nil)))) (pa_cons pe_int pa_nil)))))) pss_nil)
      (pss_cons (ps_set (i := 3) sc_law_place.nd rfl (by first | exact Or.inl rfl | exact Or.inr rfl) (pe_callB (call_min2 rfl) rfl M.min boot_min (pa_cons pe_int (pa_cons (pe_op op_sub (pv 1) (pv 2)) pa_nil))))
      (pss_cons (ps_set (i := 4) sc_law_place.nd rfl (by first | exact Or.inl rfl | exact Or.inr rfl) (pe_ix ix_list (pe_lst (pa_cons pe_int (pa_cons (pv 3) (pa_cons (pe_op op_add pe_int (pe_call G_law_draw hr rfl D_law_draw.m D_law_draw.k D_law_draw.b .nil pass0 (pa_cons (pv 0) (pa_cons (pv 3) pa_nil)))) (pa_cons (pe_op op_add pe_int (pe_call G_law_draw hr rfl D_law_draw.m D_law_draw.k D_law_draw.b .nil pass0 (pa_cons (pv 0) (pa_cons (pe_callB (call_min2 rfl) rfl M.min boot_min (pa_cons (pv 3) (pa_cons pe_int pa_nil))) pa_nil)))) pa_nil))))) (pe_call G_law_draw hr rfl D_law_draw.m D_law_draw.k D_law_draw.b .nil pass0 (pa_cons (pv 0) (pa_cons pe_int pa_nil))) (fun _ _ => rfl)))
      (pss_one (ps_ret (pe_tup (pa_cons (pv 2) (pa_cons pe_int (pa_cons (pe_op op_mul pe_int (pv 4)) pa_nil)))))))))), ?_⟩
  refine ⟨_, rfl, _, _, rfl, rfl, _, rfl, _, rfl, p, _, rfl, by omega, by omega, hs, fun v1 H1 v10 v11 d1 => ?_⟩
  refine ⟨_, rfl, _, rfl, p, _, rfl, by omega, by omega, d1.1, fun v2 H2 v20 v21 d2 => ⟨(by show 4 ≤ sizeLine; decide), fun l hl => ?_⟩⟩
  have e2 := (d1.trans d2).new (o := .lst [.int 0, .int (wide - 1), .int v1, .int v2]) hl
  have kl : upd H2 l (.lst [.int 0, .int (wide - 1), .int v1, .int v2]) l = some (.lst [.int 0, .int (wide - 1), .int v1, .int v2]) := upd_same
  have npl : l ≠ p := fun z => by
    obtain ⟨x, y, u, e⟩ := d2.1
    rw [← z, hl] at e; cases e
  generalize upd H2 l (.lst [.int 0, .int (wide - 1), .int v1, .int v2]) = H2' at e2 kl ⊢
  refine ⟨_, rfl, p, _, rfl, by decide, by decide, e2.1, fun v3 H3 v30 v31 d3 => ?_⟩
  have hc : ∃ c : Int, atI ([.int 0, .int (wide - 1), .int v1, .int v2] : List V) v3 = some (.int c) ∧ 0 ≤ c ∧ c < wide := by
    have : v3 = 0 ∨ v3 = 1 ∨ v3 = 2 ∨ v3 = 3 := by omega
    rcases this with rfl | rfl | rfl | rfl
    · exact ⟨0, rfl, by omega, by omega⟩
    · exact ⟨wide - 1, rfl, by omega, by omega⟩
    · exact ⟨v1, rfl, by omega, by omega⟩
    · exact ⟨v2, rfl, by omega, by omega⟩
  obtain ⟨c, ec, c0, c1⟩ := hc
  refine ⟨l, _, _, _, rfl, rfl, SqL.of (d3.2 l _ npl kl), ec, ?_⟩
  have e3 := e2.trans d3
  refine ⟨_, rfl, p, _, rfl, by decide, by decide, e3.1, fun v4 H4 v40 v41 d4 => ⟨rfl, _, rfl, ite2 (fun _ => ?_) (fun _ => ?_)⟩⟩
  · have e4 := e3.trans d4
    refine ⟨_, rfl, _, rfl, p, _, rfl, by decide, by decide, e4.1, fun v5 H5 v50 v51 d5 => ⟨_, _, rfl, rfl, .inl ⟨by omega, by omega⟩, (by show 3 ≤ sizeLine; decide), fun t ht => ?_⟩⟩
    exact q t _ c (2 * v5) 2 ⟨c0, .inl ⟨rfl, by omega⟩⟩ (by have := nC2; omega) ((e4.trans d5).new ht) (SqT.of upd_same)
  · have e4 := e3.trans d4
    refine ⟨_, rfl, _, rfl, _, _, rfl, rfl, _, _, rfl, ?_⟩
    have hm : 1 ≤ (if wide - c < 64 then wide - c else 64) ∧ (if wide - c < 64 then wide - c else 64) ≤ 64 ∧ (if wide - c < 64 then wide - c else 64) ≤ wide - c := by split <;> omega
    generalize (if wide - c < 64 then wide - c else 64) = most at hm ⊢
    have hm4 : 1 ≤ (if (4 : Int) < most then 4 else most) ∧ (if (4 : Int) < most then 4 else most) ≤ most := by split <;> omega
    refine ⟨_, rfl, _, rfl, _, rfl, p, _, rfl, by omega, by omega, e4.1, fun v5 H5 v50 v51 d5 => ⟨_, _, rfl, rfl, ?_⟩⟩
    refine ⟨_, rfl, _, rfl, _, _, rfl, p, _, rfl, by omega, by omega, (e4.trans d5).1, fun v6 H6 v60 v61 d6 => ⟨_, _, rfl, rfl, (by show 4 ≤ sizeLine; decide), fun l2 hl2 => ?_⟩⟩
    have e6 := ((e4.trans d5).trans d6).new (o := .lst [.int 1, .int most, .int (1 + v5), .int (1 + v6)]) hl2
    have kl2 : upd H6 l2 (.lst [.int 1, .int most, .int (1 + v5), .int (1 + v6)]) l2 = some (.lst [.int 1, .int most, .int (1 + v5), .int (1 + v6)]) := upd_same
    have npl2 : l2 ≠ p := fun z => by
      obtain ⟨x, y, u, e⟩ := d6.1
      rw [← z, hl2] at e; cases e
    generalize upd H6 l2 (.lst [.int 1, .int most, .int (1 + v5), .int (1 + v6)]) = H6' at e6 kl2 ⊢
    refine ⟨_, rfl, p, _, rfl, by decide, by decide, e6.1, fun v7 H7 v70 v71 d7 => ?_⟩
    have hmany : ∃ n : Int, atI ([.int 1, .int most, .int (1 + v5), .int (1 + v6)] : List V) v7 = some (.int n) ∧ 1 ≤ n ∧ n ≤ most := by
      have : v7 = 0 ∨ v7 = 1 ∨ v7 = 2 ∨ v7 = 3 := by omega
      rcases this with rfl | rfl | rfl | rfl
      · exact ⟨1, rfl, by omega, by omega⟩
      · exact ⟨most, rfl, by omega, by omega⟩
      · exact ⟨1 + v5, rfl, by omega, by omega⟩
      · exact ⟨1 + v6, rfl, by omega, by omega⟩
    obtain ⟨n, en, n1, n2⟩ := hmany
    refine ⟨l2, _, _, _, rfl, rfl, SqL.of (d7.2 l2 _ npl2 kl2), en, ?_⟩
    refine ⟨_, rfl, _, rfl, _, _, rfl, rfl, .inl ⟨by omega, by omega⟩, (by show 3 ≤ sizeLine; decide), fun t ht => ?_⟩
    exact q t _ c 0 (8 * n) ⟨c0, .inr ⟨rfl, n, n1, by omega, rfl⟩⟩ (by have := nC8 n1; omega) ((e6.trans d7).new ht) (SqT.of upd_same)
end
end K06

namespace K06
open PySem L2 PyProof.Rows K01 K03
abbrev s_law_bad : Stmt := top 31
theorem sc_law_bad : FnScope ["_law_state", "_law_wide", "_law_cell_here", "_law_shift", "_law_bits", "_law_way", "_law_some"] ["_law_state", "_law_wide"] (defScope s_law_bad) := ⟨rfl, rfl, rfl, by decide +kernel, rfl, by decide +kernel, by decide +kernel⟩
section
variable {P : Program} {w : World} {K : PySem.W.Frag} {mg : Str → Option Value} {base : Heap}
theorem ok_law_bad {k : Nat} {f : Addr} {fd : FuncData} (F : Fun K "_law_bad" "_law_bad" s_law_bad f fd) (M : Blt mg) {t1 t2 t3 t4 : Tok} {ts : Addr} (C : Cst K mg t1 t2 t3 t4 ts) {C_Room f_Room_init : Addr} (T_Room : TCls K mg "Room" C_Room f_Room_init ["wide", "held"]) {C_RoomError f_RoomError_init : Addr} (T_RoomError : TXB K mg C_RoomError f_RoomError_init) (VI : VInit K) {C_NoPlace f_NoPlace_init : Addr} (T_NoPlace : TX K mg "NoPlace" C_NoPlace C_RoomError f_NoPlace_init ["found"]) {C_NoRoom f_NoRoom_init : Addr} (T_NoRoom : TX K mg "NoRoom" C_NoRoom C_RoomError f_NoRoom_init ["found"]) {f_law_place : Addr} {fd_law_place : FuncData} (D_law_place : Df K mg "_law_place" f_law_place fd_law_place ["_law_state", "_law_wide"]) (G_law_place : FnOk P w K mg base CX0 k f_law_place fd_law_place ["_law_state", "_law_wide"] (spPlaceR K)) {f_law_draw : Addr} {fd_law_draw : FuncData} (D_law_draw : Df K mg "_law_draw" f_law_draw fd_law_draw ["_law_state", "_law_many"]) (G_law_draw : FnOk P w K mg base CX0 k f_law_draw fd_law_draw ["_law_state", "_law_many"] spDraw) : FnOk P w K mg base CX0 (k + 2) f fd ["_law_state", "_law_wide"] (spBad K) := by
  refine F.ok sc_law_bad (fun vs H Q E h => ?_) (fun cdv A outer s0 H vs Q E hr0 h => ?_)
  · obtain ⟨p, wide, rfl, _⟩ := h; rfl
  obtain ⟨p, wide, rfl, hw1, hw2, hs, q⟩ := h
  have hr := hr0.mono (Nat.le_succ _)
  refine ⟨_, (PSx.h (psx_cons (pstx_of (ps_asg (pe_call G_law_place hr rfl D_law_place.m D_law_place.k D_law_place.b .nil pass0 (pa_cons (pv 0) (pa_cons (pv 1) pa_nil))) (pg_tup rfl (pgs_cons (pg_name (i := 2) sc_law_bad.nd rfl (Or.inl rfl)) (pgs_cons (pg_name (i := 3) sc_law_bad.nd rfl (Or.inl rfl)) (pgs_cons (pg_name (i := 4) sc_law_bad.nd rfl (Or.inl rfl)) pgs_nil))))))
      (psx_cons (pstx_of (ps_set (i := 5) sc_law_bad.nd rfl (by first | exact Or.inl rfl | exact Or.inr rfl) (pe_call G_law_draw hr rfl D_law_draw.m D_law_draw.k D_law_draw.b .nil pass0 (pa_cons (pv 0) (pa_cons pe_int pa_nil)))))
      (psx_cons (pstx_if (pt_cmpR op_eq (pv 5) pe_int (nomark _)) (psx_one (pstx_ret (pex_tup (pax_cons (pex_menu (pax_cons (pex_of (pe_op op_sub pe_int pe_int)) (pax_cons (pex_of pe_non) (pax_cons (pex_of pe_bl) (pax_cons (pex_of pe_str) (pax_cons (pex_lst (pax_cons (pex_of pe_int) pax_nil se_const)) (pax_cons (pex_of (pe_op op_sub pe_int (pe_op op_pow pe_int pe_int))) pax_nil se_bin) se_list) se_const) se_const) se_const) se_bin) (pex_of (pe_call G_law_draw hr rfl D_law_draw.m D_law_draw.k D_law_draw.b .nil pass0 (pa_cons (pv 0) (pa_cons pe_int pa_nil)))) (fun _ _ => rfl)) (pax_cons (pex_of (pv 3)) (pax_cons (pex_of (pv 4)) pax_nil se_name) se_name) se_sub)))) pss_nil)
      (psx_cons (pstx_if (pt_cmpR op_eq (pv 5) pe_int (nomark _)) (psx_one (pstx_ret (pex_tup (pax_cons (pex_of (pv 2)) (pax_cons (pex_menu (pax_cons (pex_of (pe_op op_sub pe_int pe_int)) (pax_cons (pex_of pe_int) (pax_cons (pex_of pe_int) (pax_cons (pex_of pe_int) (pax_cons (pex_of pe_non) (pax_cons (pex_of pe_bl) (pax_cons (pex_of pe_str) (pax_cons (pex_of pe_int) pax_nil se_const) se_const) se_const) se_const) se_const) se_const) se_const) se_bin) (pex_of (pe_call G_law_draw hr rfl D_law_draw.m D_law_draw.k D_law_draw.b .nil pass0 (pa_cons (pv 0) (pa_cons pe_int pa_nil)))) (fun _ _ => rfl)) (pax_cons (pex_of pe_int) pax_nil se_const) se_sub) se_name)))) pss_nil)
      (psx_cons (pstx_if (pt_cmpR op_eq (pv 5) pe_int (nomark _)) (psx_one (pstx_ret (pex_tup (pax_cons (pex_of (pv 2)) (pax_cons (pex_menu (pax_cons (pex_of pe_int) (pax_cons (pex_of pe_int) (pax_cons (pex_of (pe_op op_sub pe_int pe_int)) (pax_cons (pex_of pe_int) (pax_cons (pex_of pe_non) (pax_cons (pex_of pe_bl) pax_nil se_const) se_const) se_const) se_bin) se_const) se_const) (pex_of (pe_call G_law_draw hr rfl D_law_draw.m D_law_draw.k D_law_draw.b .nil pass0 (pa_cons (pv 0) (pa_cons pe_int pa_nil)))) (fun _ _ => rfl)) (pax_cons (pex_of (pe_op op_add pe_int (pe_op op_mul pe_int (pe_call G_law_draw hr rfl D_law_draw.m D_law_draw.k D_law_draw.b .nil pass0 (pa_cons (pv 0) (pa_cons pe_int pa_nil)))))) pax_nil se_bin) se_sub) se_name)))) pss_nil)
      (psx_cons (pstx_if (pt_cmpR op_eq (pv 5) pe_int (nomark _)) (psx_one (pstx_ret (pex_tup (pax_cons (pex_of (pv 2)) (pax_cons (pex_of pe_int) (pax_cons (pex_menu (pax_cons (pex_of pe_int) (pax_cons (pex_of pe_int) (pax_cons (pex_of pe_int) (pax_cons (pex_of pe_int) (pax_cons (pex_of pe_int) (pax_cons (pex_of pe_int) (pax_cons (pex_of (pe_op op_sub pe_int pe_int)) (pax_cons (pex_of pe_non) (pax_cons (pex_of pe_bl) (pax_cons (pex_of pe_str) (pax_cons (pex_of (pe_op op_pow pe_int pe_int)) pax_nil se_bin) se_const) se_const) se_const) se_bin) se_const) se_const) se_const) se_const) se_const) se_const) (pex_of (pe_call G_law_draw hr rfl D_law_draw.m D_law_draw.k D_law_draw.b .nil pass0 (pa_cons (pv 0) (pa_cons pe_int pa_nil)))) (fun _ _ => rfl)) pax_nil se_sub) se_const) se_name)))) pss_nil)
      (psx_cons (pstx_if (pt_cmpR op_eq (pv 5) pe_int (nomark _)) (psx_cons (pstx_lst (i := 6) sc_law_bad.nd rfl rfl (pex_lst (pax_cons (pex_lst (pax_cons (pex_of (pv 2)) (pax_cons (pex_of (pv 3)) (pax_cons (pex_of (pv 4)) pax_nil se_name) se_name) se_name)) (pax_cons (pex_tup (pax_cons (pex_of (pv 2)) (pax_cons (pex_of (pv 3)) pax_nil se_name) se_name)) (pax_cons (pex_tup (pax_cons (pex_of (pv 2)) (pax_cons (pex_of (pv 3)) (pax_cons (pex_of (pv 4)) (pax_cons (pex_of pe_int) pax_nil se_const) se_name) se_name) se_name)) (pax_cons (pex_tup pax_nil) (pax_cons (pex_tup (pax_cons (pex_tup (pax_cons (pex_of (pv 2)) (pax_cons (pex_of (pv 3)) (pax_cons (pex_of (pv 4)) pax_nil se_name) se_name) se_name)) pax_nil se_tuple)) pax_nil se_tuple) se_tuple) se_tuple) se_tuple) se_list)))
      (psx_one (pstx_ret (pex_of (pe_ix ix_list (pv 6) (pe_call G_law_draw hr rfl D_law_draw.m D_law_draw.k D_law_draw.b .nil pass0 (pa_cons (pv 0) (pa_cons pe_int pa_nil))) (fun _ _ => rfl)))))) pss_nil)
      (psx_one (pstx_ret (pex_menu (pax_cons (pex_of pe_non) (pax_cons (pex_of pe_bl) (pax_cons (pex_of pe_int) (pax_cons (pex_of pe_str) (pax_cons (pex_lst pax_nil) (pax_cons (pex_of pe_dnewK) (pax_cons (pex_of (pe_disp (pps_cons pe_str pe_int pps_nil) rfl rfl (fun z => nomatch z) (by decide))) (pax_cons (pex_of pe_str) pax_nil se_const) se_dict) se_dict) se_list) se_const) se_const) se_const) se_const) (pex_of (pe_call G_law_draw hr rfl D_law_draw.m D_law_draw.k D_law_draw.b .nil pass0 (pa_cons (pv 0) (pa_cons pe_int pa_nil)))) (fun _ _ => rfl)))))))))))), ?_⟩
  refine ⟨_, rfl, _, rfl, p, wide, rfl, hw1, hw2, hs, fun t0 H1 c s b ho hcw d1 hT => ⟨t0, _, rfl, hT, rfl, _, _, rfl, _, _, rfl, _, _, rfl, rfl, ?_⟩⟩
  refine ⟨_, rfl, p, _, rfl, by decide, by decide, d1.1, fun way H2 way0 way1 d2 => ?_⟩
  have d := d1.trans d2
  have bs := ho.bits
  have hc0 := ho.1
  have tc : ∀ H', TPd K p H' (.int c) (.int c) 101 0 := fun H' => TPd.int (by omega)
  have ts' : ∀ H', TPd K p H' (.int s) (.int s) 101 0 := fun H' => TPd.int (by omega)
  have tb : ∀ H', TPd K p H' (.int b) (.int b) 101 0 := fun H' => TPd.int (by omega)
  clear hT
  refine ⟨_, rfl, rfl, _, rfl, ite2 (fun c0 => ?_) (fun c0 => ?_)⟩
  · refine ⟨_, _, rfl, rfl, (by show 1 ≤ sizeLine; decide), fun p1 hp1 => ⟨_, _, rfl, rfl, ⟨by decide, by decide, by decide⟩, _, _, rfl, rfl, (by show 6 ≤ sizeLine; decide), ?_⟩⟩
    have e3 := d.new (o := .lst [.int 0]) hp1
    have b3 : But p H2 (upd H2 p1 (.lst [.int 0])) := But.of (same_new hp1 _)
    have k3 : upd H2 p1 (.lst [.int 0]) p1 = some (.lst [.int 0]) := upd_same
    have n3 : p1 ≠ p := d.1.ne hp1
    generalize upd H2 p1 (.lst [.int 0]) = H3 at e3 b3 k3 ⊢
    intro l hl
    have e4 := e3.new (o := .lst [.int (0 - 1), .non, .bl true, .str "0", .ref p1, .int (0 - 10 ^ (29 : Int).toNat)]) hl
    have b4 : But p H3 (upd H3 l (.lst [.int (0 - 1), .non, .bl true, .str "0", .ref p1, .int (0 - 10 ^ (29 : Int).toNat)])) := But.of (same_new hl _)
    have k4 : upd H3 l (.lst [.int (0 - 1), .non, .bl true, .str "0", .ref p1, .int (0 - 10 ^ (29 : Int).toNat)]) l = some (.lst [.int (0 - 1), .non, .bl true, .str "0", .ref p1, .int (0 - 10 ^ (29 : Int).toNat)]) := upd_same
    have n4 : l ≠ p := e3.1.ne hl
    generalize upd H3 l (.lst [.int (0 - 1), .non, .bl true, .str "0", .ref p1, .int (0 - 10 ^ (29 : Int).toNat)]) = H4 at e4 b4 k4 ⊢
    have m1 := (TPd.lst (K := K) k3 n3 (TPa.cons (TPd.int (i := 0) (by decide)) TPa.nil)).go b4
    refine ⟨_, rfl, p, _, rfl, by decide, by decide, e4.1, fun v H5 v0 v1 d5 => ?_⟩
    have hm : ∃ x d, atI ([.int (0 - 1), .non, .bl true, .str "0", .ref p1, .int (0 - 10 ^ (29 : Int).toNat)] : List V) v = some x ∧ TPd K p H4 x d 200 1 ∧ (∀ n, d = .int n → n < 0) := by
      have : v = 0 ∨ v = 1 ∨ v = 2 ∨ v = 3 ∨ v = 4 ∨ v = 5 := by omega
      rcases this with rfl | rfl | rfl | rfl | rfl | rfl
      · exact ⟨_, _, rfl, (TPd.int (by decide +kernel)).le (by decide) (by decide), fun n e => by cases e; decide +kernel⟩
      · exact ⟨_, _, rfl, TPd.non.le (by decide) (by decide), fun n e => by cases e⟩
      · exact ⟨_, _, rfl, (TPd.bl _).le (by decide) (by decide), fun n e => by cases e⟩
      · exact ⟨_, _, rfl, (TPd.str ⟨rfl, by decide +kernel, by decide +kernel, by decide, rfl⟩).le (by decide) (by decide), fun n e => by cases e⟩
      · exact ⟨_, _, rfl, m1.le (by decide) (by decide), fun n e => by cases e⟩
      · exact ⟨_, _, rfl, (TPd.int (by decide +kernel)).le (by decide) (by decide), fun n e => by cases e; decide +kernel⟩
    obtain ⟨x, dx, ex, tx, px⟩ := hm
    refine ⟨l, _, _, _, rfl, rfl, SqL.of (d5.2 l _ n4 k4), ex, _, rfl, _, rfl, (by show 3 ≤ sizeLine; decide), fun t ht => ?_⟩
    have e5 := e4.trans d5
    have b5 : But p H4 (upd H5 t (.tup [x, .int s, .int b])) := But.trans d5.2 (But.of (same_new ht _))
    exact q (.ref t) _ _ (e5.new ht) ((TPd.tup upd_same (e5.1.ne ht) (TPa.cons (tx.go b5) (TPa.cons (ts' _) (TPa.cons (tb _) TPa.nil)))).th (by decide) (by decide)) (ng1 px)
  refine ⟨_, rfl, rfl, _, rfl, ite2 (fun c1 => ?_) (fun c1 => ?_)⟩
  · refine ⟨_, rfl, _, _, rfl, rfl, (by show 8 ≤ sizeLine; decide), fun l hl => ?_⟩
    have e4 := d.new (o := .lst [.int (0 - 2), .int 1, .int 3, .int 8, .non, .bl false, .str "0", .int 10]) hl
    have b4 : But p H2 (upd H2 l (.lst [.int (0 - 2), .int 1, .int 3, .int 8, .non, .bl false, .str "0", .int 10])) := But.of (same_new hl _)
    have k4 : upd H2 l (.lst [.int (0 - 2), .int 1, .int 3, .int 8, .non, .bl false, .str "0", .int 10]) l = some (.lst [.int (0 - 2), .int 1, .int 3, .int 8, .non, .bl false, .str "0", .int 10]) := upd_same
    have n4 : l ≠ p := d.1.ne hl
    generalize upd H2 l (.lst [.int (0 - 2), .int 1, .int 3, .int 8, .non, .bl false, .str "0", .int 10]) = H4 at e4 b4 k4 ⊢
    refine ⟨_, rfl, p, _, rfl, by decide, by decide, e4.1, fun v H5 v0 v1 d5 => ?_⟩
    have hm : ∃ x d, atI ([.int (0 - 2), .int 1, .int 3, .int 8, .non, .bl false, .str "0", .int 10] : List V) v = some x ∧ TPd K p H4 x d 200 1 ∧ (∀ n, d = .int n → n ≠ 0 ∧ n ≠ 2 ∧ n ≠ 4 ∧ n ≠ 6) := by
      have : v = 0 ∨ v = 1 ∨ v = 2 ∨ v = 3 ∨ v = 4 ∨ v = 5 ∨ v = 6 ∨ v = 7 := by omega
      rcases this with rfl | rfl | rfl | rfl | rfl | rfl | rfl | rfl
      · exact ⟨_, _, rfl, (TPd.int (by decide +kernel)).le (by decide) (by decide), fun n e => by cases e; decide +kernel⟩
      · exact ⟨_, _, rfl, (TPd.int (by decide +kernel)).le (by decide) (by decide), fun n e => by cases e; decide +kernel⟩
      · exact ⟨_, _, rfl, (TPd.int (by decide +kernel)).le (by decide) (by decide), fun n e => by cases e; decide +kernel⟩
      · exact ⟨_, _, rfl, (TPd.int (by decide +kernel)).le (by decide) (by decide), fun n e => by cases e; decide +kernel⟩
      · exact ⟨_, _, rfl, TPd.non.le (by decide) (by decide), fun n e => by cases e⟩
      · exact ⟨_, _, rfl, (TPd.bl _).le (by decide) (by decide), fun n e => by cases e⟩
      · exact ⟨_, _, rfl, (TPd.str ⟨rfl, by decide +kernel, by decide +kernel, by decide, rfl⟩).le (by decide) (by decide), fun n e => by cases e⟩
      · exact ⟨_, _, rfl, (TPd.int (by decide +kernel)).le (by decide) (by decide), fun n e => by cases e; decide +kernel⟩
    obtain ⟨x, dx, ex, tx, px⟩ := hm
    refine ⟨l, _, _, _, rfl, rfl, SqL.of (d5.2 l _ n4 k4), ex, (by show 3 ≤ sizeLine; decide), fun t ht => ?_⟩
    have e5 := e4.trans d5
    have b5 : But p H4 (upd H5 t (.tup [.int c, x, .int 2])) := But.trans d5.2 (But.of (same_new ht _))
    exact q (.ref t) _ _ (e5.new ht) ((TPd.tup upd_same (e5.1.ne ht) (TPa.cons (tc _) (TPa.cons (tx.go b5) (TPa.cons (TPd.int (i := 2) (by decide)) TPa.nil)))).th (by decide) (by decide)) (ng2 px)
  refine ⟨_, rfl, rfl, _, rfl, ite2 (fun c2 => ?_) (fun c2 => ?_)⟩
  · refine ⟨_, rfl, _, _, rfl, rfl, (by show 6 ≤ sizeLine; decide), fun l hl => ?_⟩
    have e4 := d.new (o := .lst [.int 2, .int 8, .int (0 - 8), .int 1, .non, .bl false]) hl
    have b4 : But p H2 (upd H2 l (.lst [.int 2, .int 8, .int (0 - 8), .int 1, .non, .bl false])) := But.of (same_new hl _)
    have k4 : upd H2 l (.lst [.int 2, .int 8, .int (0 - 8), .int 1, .non, .bl false]) l = some (.lst [.int 2, .int 8, .int (0 - 8), .int 1, .non, .bl false]) := upd_same
    have n4 : l ≠ p := d.1.ne hl
    generalize upd H2 l (.lst [.int 2, .int 8, .int (0 - 8), .int 1, .non, .bl false]) = H4 at e4 b4 k4 ⊢
    refine ⟨_, rfl, p, _, rfl, by decide, by decide, e4.1, fun v H5 v0 v1 d5 => ?_⟩
    have hm : ∃ x d, atI ([.int 2, .int 8, .int (0 - 8), .int 1, .non, .bl false] : List V) v = some x ∧ TPd K p H4 x d 200 1 ∧ (∀ n, d = .int n → n ≠ 0) := by
      have : v = 0 ∨ v = 1 ∨ v = 2 ∨ v = 3 ∨ v = 4 ∨ v = 5 := by omega
      rcases this with rfl | rfl | rfl | rfl | rfl | rfl
      · exact ⟨_, _, rfl, (TPd.int (by decide +kernel)).le (by decide) (by decide), fun n e => by cases e; decide +kernel⟩
      · exact ⟨_, _, rfl, (TPd.int (by decide +kernel)).le (by decide) (by decide), fun n e => by cases e; decide +kernel⟩
      · exact ⟨_, _, rfl, (TPd.int (by decide +kernel)).le (by decide) (by decide), fun n e => by cases e; decide +kernel⟩
      · exact ⟨_, _, rfl, (TPd.int (by decide +kernel)).le (by decide) (by decide), fun n e => by cases e; decide +kernel⟩
      · exact ⟨_, _, rfl, TPd.non.le (by decide) (by decide), fun n e => by cases e⟩
      · exact ⟨_, _, rfl, (TPd.bl _).le (by decide) (by decide), fun n e => by cases e⟩
    obtain ⟨x, dx, ex, tx, px⟩ := hm
    refine ⟨l, _, _, _, rfl, rfl, SqL.of (d5.2 l _ n4 k4), ex, ?_⟩
    have e5 := e4.trans d5
    refine ⟨_, rfl, p, _, rfl, by decide, by decide, e5.1, fun u H6 u0 u1 d6 => ⟨_, _, rfl, rfl, .inl ⟨by decide, by decide⟩, _, _, rfl, rfl, (by show 3 ≤ sizeLine; decide), fun t ht => ?_⟩⟩
    have e6 := e5.trans d6
    have b6 : But p H4 (upd H6 t (.tup [.int c, x, .int (8 + 8 * u)])) := But.trans d5.2 (But.trans d6.2 (But.of (same_new ht _)))
    exact q (.ref t) _ _ (e6.new ht) ((TPd.tup upd_same (e6.1.ne ht) (TPa.cons (tc _) (TPa.cons (tx.go b6) (TPa.cons (TPd.int (i := 8 + 8 * u) (by omega)) TPa.nil)))).th (by decide) (by decide)) (ng3 px u0)
  refine ⟨_, rfl, rfl, _, rfl, ite2 (fun c3 => ?_) (fun c3 => ?_)⟩
  · refine ⟨_, rfl, _, _, rfl, rfl, _, _, rfl, rfl, ⟨by decide, by decide, by decide⟩, (by show 11 ≤ sizeLine; decide), fun l hl => ?_⟩
    have e4 := d.new (o := .lst [.int 0, .int 1, .int 3, .int 4, .int 12, .int 520, .int (0 - 8), .non, .bl true, .str "8", .int (10 ^ (29 : Int).toNat)]) hl
    have b4 : But p H2 (upd H2 l (.lst [.int 0, .int 1, .int 3, .int 4, .int 12, .int 520, .int (0 - 8), .non, .bl true, .str "8", .int (10 ^ (29 : Int).toNat)])) := But.of (same_new hl _)
    have k4 : upd H2 l (.lst [.int 0, .int 1, .int 3, .int 4, .int 12, .int 520, .int (0 - 8), .non, .bl true, .str "8", .int (10 ^ (29 : Int).toNat)]) l = some (.lst [.int 0, .int 1, .int 3, .int 4, .int 12, .int 520, .int (0 - 8), .non, .bl true, .str "8", .int (10 ^ (29 : Int).toNat)]) := upd_same
    have n4 : l ≠ p := d.1.ne hl
    generalize upd H2 l (.lst [.int 0, .int 1, .int 3, .int 4, .int 12, .int 520, .int (0 - 8), .non, .bl true, .str "8", .int (10 ^ (29 : Int).toNat)]) = H4 at e4 b4 k4 ⊢
    refine ⟨_, rfl, p, _, rfl, by decide, by decide, e4.1, fun v H5 v0 v1 d5 => ?_⟩
    have hm : ∃ x d, atI ([.int 0, .int 1, .int 3, .int 4, .int 12, .int 520, .int (0 - 8), .non, .bl true, .str "8", .int (10 ^ (29 : Int).toNat)] : List V) v = some x ∧ TPd K p H4 x d 200 1 ∧ (∀ n, d = .int n → n ≠ 2 ∧ (n < 8 ∨ n > 512 ∨ n % 8 ≠ 0)) := by
      have : v = 0 ∨ v = 1 ∨ v = 2 ∨ v = 3 ∨ v = 4 ∨ v = 5 ∨ v = 6 ∨ v = 7 ∨ v = 8 ∨ v = 9 ∨ v = 10 := by omega
      rcases this with rfl | rfl | rfl | rfl | rfl | rfl | rfl | rfl | rfl | rfl | rfl
      · exact ⟨_, _, rfl, (TPd.int (by decide +kernel)).le (by decide) (by decide), fun n e => by cases e; decide +kernel⟩
      · exact ⟨_, _, rfl, (TPd.int (by decide +kernel)).le (by decide) (by decide), fun n e => by cases e; decide +kernel⟩
      · exact ⟨_, _, rfl, (TPd.int (by decide +kernel)).le (by decide) (by decide), fun n e => by cases e; decide +kernel⟩
      · exact ⟨_, _, rfl, (TPd.int (by decide +kernel)).le (by decide) (by decide), fun n e => by cases e; decide +kernel⟩
      · exact ⟨_, _, rfl, (TPd.int (by decide +kernel)).le (by decide) (by decide), fun n e => by cases e; decide +kernel⟩
      · exact ⟨_, _, rfl, (TPd.int (by decide +kernel)).le (by decide) (by decide), fun n e => by cases e; decide +kernel⟩
      · exact ⟨_, _, rfl, (TPd.int (by decide +kernel)).le (by decide) (by decide), fun n e => by cases e; decide +kernel⟩
      · exact ⟨_, _, rfl, TPd.non.le (by decide) (by decide), fun n e => by cases e⟩
      · exact ⟨_, _, rfl, (TPd.bl _).le (by decide) (by decide), fun n e => by cases e⟩
      · exact ⟨_, _, rfl, (TPd.str ⟨rfl, by decide +kernel, by decide +kernel, by decide, rfl⟩).le (by decide) (by decide), fun n e => by cases e⟩
      · exact ⟨_, _, rfl, (TPd.int (by decide +kernel)).le (by decide) (by decide), fun n e => by cases e; decide +kernel⟩
    obtain ⟨x, dx, ex, tx, px⟩ := hm
    refine ⟨l, _, _, _, rfl, rfl, SqL.of (d5.2 l _ n4 k4), ex, (by show 3 ≤ sizeLine; decide), fun t ht => ?_⟩
    have e5 := e4.trans d5
    have b5 : But p H4 (upd H5 t (.tup [.int c, .int 0, x])) := But.trans d5.2 (But.of (same_new ht _))
    exact q (.ref t) _ _ (e5.new ht) ((TPd.tup upd_same (e5.1.ne ht) (TPa.cons (tc _) (TPa.cons (TPd.int (i := 0) (by decide)) (TPa.cons (tx.go b5) TPa.nil)))).th (by decide) (by decide)) (ng4 px)
  refine ⟨_, rfl, rfl, _, rfl, ite2 (fun c4 => ?_) (fun c4 => ?_)⟩
  · refine ⟨_, rfl, _, rfl, _, rfl, (by show 3 ≤ sizeLine; decide), fun p1 hp1 => ?_⟩
    have e3 := d.new (o := .lst [.int c, .int s, .int b]) hp1
    have b3 : But p H2 (upd H2 p1 (.lst [.int c, .int s, .int b])) := But.of (same_new hp1 _)
    have k3 : upd H2 p1 (.lst [.int c, .int s, .int b]) p1 = some (.lst [.int c, .int s, .int b]) := upd_same
    have n3 : p1 ≠ p := d.1.ne hp1
    generalize upd H2 p1 (.lst [.int c, .int s, .int b]) = H3 at e3 b3 k3 ⊢
    refine ⟨_, rfl, _, rfl, (by show 2 ≤ sizeLine; decide), fun p2 hp2 => ?_⟩
    have e4 := e3.new (o := .tup [.int c, .int s]) hp2
    have b4 : But p H3 (upd H3 p2 (.tup [.int c, .int s])) := But.of (same_new hp2 _)
    have k4 : upd H3 p2 (.tup [.int c, .int s]) p2 = some (.tup [.int c, .int s]) := upd_same
    have n4 : p2 ≠ p := e3.1.ne hp2
    generalize upd H3 p2 (.tup [.int c, .int s]) = H4 at e4 b4 k4 ⊢
    refine ⟨_, rfl, _, rfl, _, rfl, (by show 4 ≤ sizeLine; decide), fun p3 hp3 => ?_⟩
    have e6 := e4.new (o := .tup [.int c, .int s, .int b, .int 0]) hp3
    have b6 : But p H4 (upd H4 p3 (.tup [.int c, .int s, .int b, .int 0])) := But.of (same_new hp3 _)
    have k6 : upd H4 p3 (.tup [.int c, .int s, .int b, .int 0]) p3 = some (.tup [.int c, .int s, .int b, .int 0]) := upd_same
    have n6 : p3 ≠ p := e4.1.ne hp3
    generalize upd H4 p3 (.tup [.int c, .int s, .int b, .int 0]) = H6 at e6 b6 k6 ⊢
    refine ⟨(by show 0 ≤ sizeLine; decide), fun p4 hp4 => ?_⟩
    have e7 := e6.new (o := .tup []) hp4
    have b7 : But p H6 (upd H6 p4 (.tup [])) := But.of (same_new hp4 _)
    have k7 : upd H6 p4 (.tup []) p4 = some (.tup []) := upd_same
    have n7 : p4 ≠ p := e6.1.ne hp4
    generalize upd H6 p4 (.tup []) = H7 at e7 b7 k7 ⊢
    refine ⟨_, rfl, _, rfl, _, rfl, (by show 3 ≤ sizeLine; decide), fun p5 hp5 => ?_⟩
    have e8 := e7.new (o := .tup [.int c, .int s, .int b]) hp5
    have b8 : But p H7 (upd H7 p5 (.tup [.int c, .int s, .int b])) := But.of (same_new hp5 _)
    have k8 : upd H7 p5 (.tup [.int c, .int s, .int b]) p5 = some (.tup [.int c, .int s, .int b]) := upd_same
    have n8 : p5 ≠ p := e7.1.ne hp5
    generalize upd H7 p5 (.tup [.int c, .int s, .int b]) = H8 at e8 b8 k8 ⊢
    refine ⟨(by show 1 ≤ sizeLine; decide), fun p6 hp6 => ?_⟩
    have e9 := e8.new (o := .tup [.ref p5]) hp6
    have b9 : But p H8 (upd H8 p6 (.tup [.ref p5])) := But.of (same_new hp6 _)
    have k9 : upd H8 p6 (.tup [.ref p5]) p6 = some (.tup [.ref p5]) := upd_same
    have n9 : p6 ≠ p := e8.1.ne hp6
    generalize upd H8 p6 (.tup [.ref p5]) = H9 at e9 b9 k9 ⊢
    refine ⟨(by show 5 ≤ sizeLine; decide), fun l hl => ?_⟩
    have eA := e9.new (o := .lst [.ref p1, .ref p2, .ref p3, .ref p4, .ref p6]) hl
    have bA : But p H9 (upd H9 l (.lst [.ref p1, .ref p2, .ref p3, .ref p4, .ref p6])) := But.of (same_new hl _)
    have kA : upd H9 l (.lst [.ref p1, .ref p2, .ref p3, .ref p4, .ref p6]) l = some (.lst [.ref p1, .ref p2, .ref p3, .ref p4, .ref p6]) := upd_same
    have nA : l ≠ p := e9.1.ne hl
    generalize upd H9 l (.lst [.ref p1, .ref p2, .ref p3, .ref p4, .ref p6]) = HA at eA bA kA ⊢
    have A3 : ∀ H', TPa K p H' [.int c, .int s, .int b] [.int c, .int s, .int b] _ _ := fun H' => TPa.cons (tc _) (TPa.cons (ts' _) (TPa.cons (tb _) TPa.nil))
    have m1 := (TPd.lst (K := K) k3 n3 (A3 _)).go (b4.trans (b6.trans (b7.trans (b8.trans (b9.trans bA)))))
    have m2 := (TPd.tup (K := K) k4 n4 (TPa.cons (tc _) (TPa.cons (ts' _) TPa.nil))).go (b6.trans (b7.trans (b8.trans (b9.trans bA))))
    have m3 := (TPd.tup (K := K) k6 n6 (TPa.cons (tc _) (TPa.cons (ts' _) (TPa.cons (tb _) (TPa.cons (TPd.int (i := 0) (by decide)) TPa.nil))))).go (b7.trans (b8.trans (b9.trans bA)))
    have m4 := (TPd.tup (K := K) k7 n7 TPa.nil).go (b8.trans (b9.trans bA))
    have m5 := (TPd.tup (K := K) k9 n9 (TPa.cons ((TPd.tup (K := K) k8 n8 (A3 _)).go b9) TPa.nil)).go bA
    refine ⟨_, rfl, ?_⟩
    refine ⟨_, rfl, p, _, rfl, by decide, by decide, eA.1, fun v H5 v0 v1 d5 => ?_⟩
    have e5 := eA.trans d5
    have hm : ∃ x dx, atI ([.ref p1, .ref p2, .ref p3, .ref p4, .ref p6] : List V) v = some x ∧ ThP K p H5 x dx ∧ ¬ GoodD dx := by
      have : v = 0 ∨ v = 1 ∨ v = 2 ∨ v = 3 ∨ v = 4 := by omega
      rcases this with rfl | rfl | rfl | rfl | rfl
      · exact ⟨_, _, rfl, (m1.go d5.2).th (by decide) (by decide), ngN (by intro _ z; cases z)⟩
      · exact ⟨_, _, rfl, (m2.go d5.2).th (by decide) (by decide), ngT (by simp)⟩
      · exact ⟨_, _, rfl, (m3.go d5.2).th (by decide) (by decide), ngT (by simp)⟩
      · exact ⟨_, _, rfl, (m4.go d5.2).th (by decide) (by decide), ngT (by simp)⟩
      · exact ⟨_, _, rfl, (m5.go d5.2).th (by decide) (by decide), ngT (by simp)⟩
    obtain ⟨x, dx, ex, tx, nx⟩ := hm
    exact ⟨l, _, _, _, rfl, rfl, SqL.of (d5.2 l _ nA kA), ex, q x dx _ e5 tx nx⟩
  refine ⟨(by show 0 ≤ sizeLine; decide), fun p1 hp1 => ?_⟩
  have e3 := d.new (o := .lst []) hp1
  have b3 : But p H2 (upd H2 p1 (.lst [])) := But.of (same_new hp1 _)
  have k3 : upd H2 p1 (.lst []) p1 = some (.lst []) := upd_same
  have n3 : p1 ≠ p := d.1.ne hp1
  generalize upd H2 p1 (.lst []) = H3 at e3 b3 k3 ⊢
  refine fun p2 hp2 => ?_
  have e4 := e3.new (o := .dK []) hp2
  have b4 : But p H3 (upd H3 p2 (.dK [])) := But.of (same_new hp2 _)
  have k4 : upd H3 p2 (.dK []) p2 = some (.dK []) := upd_same
  have n4 : p2 ≠ p := e3.1.ne hp2
  generalize upd H3 p2 (.dK []) = H4 at e4 b4 k4 ⊢
  refine fun p3 hp3 => ⟨upd_same, [(.inr "cell", .int 0)], rfl, by decide, ?_⟩
  rw [upd_upd]
  rw [show mergeK [] [((.inr "cell", .int 0) : Key × V)] = [(.inr "cell", .int 0)] from rfl]
  have e6 := e4.new (o := .dK [(.inr "cell", .int 0)]) hp3
  have b6 : But p H4 (upd H4 p3 (.dK [(.inr "cell", .int 0)])) := But.of (same_new hp3 _)
  have k6 : upd H4 p3 (.dK [(.inr "cell", .int 0)]) p3 = some (.dK [(.inr "cell", .int 0)]) := upd_same
  have n6 : p3 ≠ p := e4.1.ne hp3
  generalize upd H4 p3 (.dK [(.inr "cell", .int 0)]) = H6 at e6 b6 k6 ⊢
  refine ⟨(by show 8 ≤ sizeLine; decide), fun l hl => ?_⟩
  have e7 := e6.new (o := .lst [.non, .bl true, .int 7, .str "place", .ref p1, .ref p2, .ref p3, .str ""]) hl
  have b7 : But p H6 (upd H6 l (.lst [.non, .bl true, .int 7, .str "place", .ref p1, .ref p2, .ref p3, .str ""])) := But.of (same_new hl _)
  have k7 : upd H6 l (.lst [.non, .bl true, .int 7, .str "place", .ref p1, .ref p2, .ref p3, .str ""]) l = some (.lst [.non, .bl true, .int 7, .str "place", .ref p1, .ref p2, .ref p3, .str ""]) := upd_same
  have n7 : l ≠ p := e6.1.ne hl
  generalize upd H6 l (.lst [.non, .bl true, .int 7, .str "place", .ref p1, .ref p2, .ref p3, .str ""]) = H7 at e7 b7 k7 ⊢
  refine ⟨_, rfl, p, _, rfl, by decide, by decide, e7.1, fun v H5 v0 v1 d5 => ?_⟩
  have e5 := e7.trans d5
  have hm : ∃ x dx, atI ([.non, .bl true, .int 7, .str "place", .ref p1, .ref p2, .ref p3, .str ""] : List V) v = some x ∧ ThP K p H5 x dx ∧ ¬ GoodD dx := by
    have : v = 0 ∨ v = 1 ∨ v = 2 ∨ v = 3 ∨ v = 4 ∨ v = 5 ∨ v = 6 ∨ v = 7 := by omega
    rcases this with rfl | rfl | rfl | rfl | rfl | rfl | rfl | rfl
    · exact ⟨_, _, rfl, TPd.non.th (by decide) (by decide), ngN (by intro _ z; cases z)⟩
    · exact ⟨_, _, rfl, (TPd.bl _).th (by decide) (by decide), ngN (by intro _ z; cases z)⟩
    · exact ⟨_, _, rfl, (TPd.int (by decide)).th (by decide) (by decide), ngN (by intro _ z; cases z)⟩
    · exact ⟨_, _, rfl, (TPd.str ⟨rfl, by decide +kernel, by decide +kernel, by decide, rfl⟩).th (by decide) (by decide), ngN (by intro _ z; cases z)⟩
    · exact ⟨_, _, rfl, (TPd.lst (K := K) (d5.2 _ _ n3 (b7 _ _ n3 (b6 _ _ n3 (b4 _ _ n3 k3)))) n3 TPa.nil).th (by decide) (by decide), ngN (by intro _ z; cases z)⟩
    · exact ⟨_, _, rfl, ThP.dict (d5.2 _ _ n4 (b7 _ _ n4 (b6 _ _ n4 k4))) n4 (by simp) rfl (by decide) rfl (by decide), ngN (by intro _ z; cases z)⟩
    · exact ⟨_, _, rfl, ThP.dict (d5.2 _ _ n6 (b7 _ _ n6 k6)) n6 (by simp [flatV]) (by decide +kernel) (by decide) (by decide +kernel) (by decide +kernel), ngN (by intro _ z; cases z)⟩
    · exact ⟨_, _, rfl, (TPd.str ⟨rfl, by decide +kernel, by decide +kernel, by decide, rfl⟩).th (by decide) (by decide), ngN (by intro _ z; cases z)⟩
  obtain ⟨x, dx, ex, tx, nx⟩ := hm
  exact ⟨l, _, _, _, rfl, rfl, SqL.of (d5.2 l _ n7 k7), ex, q x dx _ e5 tx nx⟩
end
end K06

namespace K06
open PySem L2 PyProof.Rows K01 K03
abbrev s_law_all_doors : Stmt := top 32
theorem sc_law_all_doors : FnScope ["_law_state", "_law_room", "_law_bad_here", "_law_good", "_law_shift", "_law_k", "_law_door", "_law_very", "_law_told_here"] ["_law_state", "_law_room", "_law_bad_here", "_law_good"] (defScope s_law_all_doors) := ⟨rfl, rfl, rfl, by decide +kernel, rfl, by decide +kernel, by decide +kernel⟩
section
variable {P : Program} {w : World} {K : PySem.W.Frag} {mg : Str → Option Value} {base : Heap}
theorem ok_law_all_doors {k : Nat} {f : Addr} {fd : FuncData} (F : Fun K "_law_all_doors" "_law_all_doors" s_law_all_doors f fd) (M : Blt mg) {t1 t2 t3 t4 : Tok} {ts : Addr} (C : Cst K mg t1 t2 t3 t4 ts) {C_Room f_Room_init : Addr} (T_Room : TCls K mg "Room" C_Room f_Room_init ["wide", "held"]) {C_RoomError f_RoomError_init : Addr} (T_RoomError : TXB K mg C_RoomError f_RoomError_init) (VI : VInit K) {C_NoPlace f_NoPlace_init : Addr} (T_NoPlace : TX K mg "NoPlace" C_NoPlace C_RoomError f_NoPlace_init ["found"]) {C_NoRoom f_NoRoom_init : Addr} (T_NoRoom : TX K mg "NoRoom" C_NoRoom C_RoomError f_NoRoom_init ["found"]) {f_law_draw : Addr} {fd_law_draw : FuncData} (D_law_draw : Df K mg "_law_draw" f_law_draw fd_law_draw ["_law_state", "_law_many"]) (G_law_draw : FnOk P w K mg base CX0 k f_law_draw fd_law_draw ["_law_state", "_law_many"] spDraw) {f_law_same : Addr} {fd_law_same : FuncData} (D_law_same : Df K mg "_law_same" f_law_same fd_law_same ["_law_told_here", "_law_thing"]) (G_law_same : FnOk P w K mg base CX0 k f_law_same fd_law_same ["_law_told_here", "_law_thing"] (spSameT K)) {f_law_told : Addr} {fd_law_told : FuncData} (D_law_told : Df K mg "_law_told" f_law_told fd_law_told ["_law_room", "_law_door", "_law_one", "_law_other"]) (G_law_told : FnOk P w K mg base CX0 k f_law_told fd_law_told ["_law_room", "_law_door", "_law_one", "_law_other"] (spTold K C_Room)) : FnOk P w K mg base CX0 (k + 2) f fd ["_law_state", "_law_room", "_law_bad_here", "_law_good"] (spDoors K C_Room) := by
  refine F.ok sc_law_all_doors (fun vs H Q E h => ?_) (fun cdv A outer s0 H vs Q E hr0 h => ?_)
  · obtain ⟨p, a, dx, l, t, w', N, x, d, c, s, b, rfl, _⟩ := h; rfl
  obtain ⟨p, a, dx, l, t, w', N, x, d, c, s, b, rfl, hs, rs, np, tx, ng, hT, ho, q⟩ := h
  have hr := hr0.mono (Nat.le_succ _)
  refine ⟨_, (pss_cons (ps_set (i := 4) sc_law_all_doors.nd rfl (by first | exact Or.inl rfl | exact Or.inr rfl) (pe_call G_law_draw hr rfl D_law_draw.m D_law_draw.k D_law_draw.b .nil pass0 (pa_cons (pv 0) (pa_cons pe_int pa_nil))))
      (pss_cons (ps_for PassesOwn.never rfl (pi_range1 rfl M.range (pa_cons pe_int pa_nil)) (pg_name (i := 5) sc_law_all_doors.nd rfl (Or.inl rfl)) (pss_cons (ps_set (i := 6) sc_law_all_doors.nd rfl (by first | exact Or.inl rfl | exact Or.inr rfl) (pe_op op_mod (pe_op op_add (pv 5) (pv 4)) pe_int))
      (pss_one (ps_if (pt_not (pt_val (pe_call G_law_same hr rfl D_law_same.m D_law_same.k D_law_same.b .nil pass0 (pa_cons (pe_call G_law_told hr rfl D_law_told.m D_law_told.k D_law_told.b .nil pass0 (pa_cons (pv 1) (pa_cons (pv 6) (pa_cons (pv 2) (pa_cons (pv 3) pa_nil))))) (pa_cons (pv 2) pa_nil))))) (pss_one (ps_ret pe_bl)) pss_nil))))
      (pss_cons (ps_set (i := 7) sc_law_all_doors.nd rfl (by first | exact Or.inl rfl | exact Or.inr rfl) (pe_lst (pa_cons (pv 4) pa_nil)))
      (pss_cons (ps_set (i := 8) sc_law_all_doors.nd rfl (by first | exact Or.inl rfl | exact Or.inr rfl) (pe_call G_law_told hr rfl D_law_told.m D_law_told.k D_law_told.b .nil pass0 (pa_cons (pv 1) (pa_cons (pv 4) (pa_cons (pv 7) (pa_cons (pv 3) pa_nil))))))
      (pss_cons (ps_expr (pe_bm PySem.F.plainAttrs_list PySem.F.slot_list_append PySem.F.type_list_append mt_append (pv 7) (pa_cons (pv 2) pa_nil)))
      (pss_one (ps_ret (pe_and (pe_call G_law_same hr rfl D_law_same.m D_law_same.k D_law_same.b .nil pass0 (pa_cons (pe_call G_law_told hr rfl D_law_told.m D_law_told.k D_law_told.b .nil pass0 (pa_cons (pv 1) (pa_cons pe_int (pa_cons (pv 3) (pa_cons (pv 2) pa_nil))))) (pa_cons (pv 2) pa_nil))) (pe_and (pe_cmpR (op_eqSame hr.units) (pv 8) (pe_lst (pa_cons pe_str (pa_cons (pv 7) pa_nil))) (nomark _)) (pe_one (pe_cmpR op_eq (pe_callB call_len_seq rfl M.len PySem.boot_len (pa_cons (pe_ix ix_list (pv 8) pe_int (fun _ _ => rfl)) pa_nil)) pe_int (nomark _)))))))))))), ?_⟩
  have ni : ¬ InD d w' := fun z => ng (good_of_in z)
  have gt : GoodD (.tuple [.int c, .int s, .int b]) := ⟨c, s, b, rfl, ho⟩
  refine ⟨_, rfl, p, _, rfl, by decide, by decide, hs, fun sh H1 sh0 sh1 d1 => ?_⟩
  have rs1 := rs.drawn hs np d1
  have hT1 : T3 K H1 t c s b := Drawn.tup hs d1 hT
  have told : ∀ dr : Int, 0 ≤ dr → dr < 5 → Tells dr d (.tuple [.int c, .int s, .int b]) w' x (.ref t) (some x) := fun dr h0 h5 => by
    by_cases h3 : dr < 3
    · exact .inl ⟨by omega, ng, rfl⟩
    · exact .inr (.inr ⟨by omega, ni, rfl⟩)
  refine ⟨_, rfl, by decide, by decide, for_range (fun i σ H' => (∃ o1 o2, σ = [some (.ref p), some (.ref a), some x, some (.ref t), some (.int sh), o1, o2, none, none]) ∧ Same H1 H') ⟨⟨_, _, rfl⟩, Same.refl _⟩ (fun i σ H' hi z => ?_) (fun σ H' z => ?_)⟩
  · obtain ⟨⟨o1, o2, rfl⟩, g⟩ := z
    have hi5 : i < 5 := hi
    refine ⟨_, rfl, _, rfl, _, _, rfl, rfl, _, _, rfl, rfl, (by show (0 : Int) < _; decide), ?_⟩
    have rs2 := rs1.same g
    have tx2 : ThP K p H' x d := tx.go (But.trans d1.2 (But.of g))
    refine ⟨_, rfl, _, rfl, _, rfl, _, rfl, a, dx, l, w', N, _, x, .ref t, d, _, some x, rfl, rs2.r, rs2.c, rs2.w, tx2.now.dat, fun _ => dat3 (Same.tup g hT1), told _ (by omega) (by omega), fun r H2 g2 hr2 hl2 => ?_⟩
    exact ⟨_, rfl, r, x, d, rfl, hl2, tx2.now.same g2, fun H3 g3 => ⟨_, rfl, iteN (by decide) ⟨⟨_, _, rfl⟩, (g.trans g2).trans g3⟩⟩⟩
  · obtain ⟨⟨o1, o2, rfl⟩, g⟩ := z
    refine ⟨_, rfl, (by show 1 ≤ sizeLine; decide), fun v hv => ?_⟩
    have gv := same_new hv (.lst [.int sh])
    have kv : upd H' v (.lst [.int sh]) v = some (.lst [.int sh]) := upd_same
    generalize upd H' v (.lst [.int sh]) = H2 at gv kv ⊢
    have g2 := g.trans gv
    have rs2 := rs1.same g2
    have nv : ¬ GoodD (.list [.int sh]) := ngN (by intro _ z; cases z)
    have tv : Tells sh (.list [.int sh]) (.tuple [.int c, .int s, .int b]) w' (.ref v) (.ref t) (some (.ref v)) := by
      by_cases h3 : sh < 3
      · exact .inl ⟨by omega, nv, rfl⟩
      · exact .inr (.inr ⟨by omega, fun z => nv (good_of_in z), rfl⟩)
    refine ⟨_, rfl, _, rfl, _, rfl, _, rfl, a, dx, l, w', N, _, .ref v, .ref t, _, _, _, rfl, rs2.r, rs2.c, rs2.w, .inl ⟨.lst (SqL.of kv) (.cons (.int _) .nil), rfl⟩, fun _ => dat3 (Same.tup g2 hT1), tv, fun r H3 g3 hr3 hl3 => ?_⟩
    have kv3 := g3 _ _ kv
    have nrv : r ≠ v := fun z => by rw [z, kv] at hr3; cases hr3
    refine ⟨_, rfl, .inl ⟨rfl, _, SqL.of kv3⟩, _, rfl, v, _, _, rfl, rfl, kv3, (by show 1 < sizeLine; decide), ?_⟩
    have bv : But v H' (upd H3 v (.lst ([.int sh] ++ [x]))) := But.trans (But.of (gv.trans g3)) But.upd
    have s4 := bv.same hv
    have kv4 : upd H3 v (.lst ([.int sh] ++ [x])) v = some (.lst [.int sh, x]) := upd_same
    have kr4 : upd H3 v (.lst ([.int sh] ++ [x])) r = some (.lst [.str "place", .ref v]) := by rw [upd_ne nrv]; exact hl3
    generalize upd H3 v (.lst ([.int sh] ++ [x])) = H4 at s4 kv4 kr4 ⊢
    have g4 := g.trans s4
    have rs4 := rs1.same g4
    have tx4 : ThP K p H4 x d := tx.go (But.trans d1.2 (But.of g4))
    refine ⟨_, rfl, _, rfl, _, rfl, a, dx, l, w', N, 2, .ref t, x, _, d, some x, rfl, rs4.r, rs4.c, rs4.w, dat3 (Same.tup g4 hT1), fun _ => tx4.now.dat, .inr (.inl ⟨rfl, gt, ng, rfl⟩), fun r5 H5 g5 hr5 hl5 => ?_⟩
    refine ⟨_, rfl, r5, x, d, rfl, hl5, tx4.now.same g5, fun H6 g6 => ⟨_, rfl, iteP rfl ?_⟩⟩
    have g46 := g5.trans g6
    have kr6 := g46 _ _ kr4
    refine ⟨_, rfl, _, rfl, (by show 2 ≤ sizeLine; decide), fun n hn => ?_⟩
    have g7 := same_new hn (.lst [.str "place", .ref v])
    refine ⟨r, n, _, rfl, rfl, SqL.of (g7 _ _ kr6), SqL.of upd_same, fun z hz => ?_, _, rfl, iteP rfl ?_⟩
    · simp only [List.mem_cons, List.not_mem_nil, or_false] at hz
      rcases hz with rfl | rfl
      · exact .inl rfl
      · exact .inr ⟨_, rfl⟩
    refine ⟨_, rfl, r, _, _, _, rfl, rfl, SqL.of (g7 _ _ kr6), rfl, v, _, rfl, .inl (SqL.of (g7 _ _ (g46 _ _ kv4))), rfl, ?_⟩
    rw [show decide (V.int (([V.int sh, x] : List V).length : Nat) = V.int 2) = true from decide_eq_true rfl]
    exact q _ (d1.trans (Drawn.of_same d1.1 (g4.trans (g46.trans g7))))
end
end K06

namespace K06
open PySem L2 PyProof.Rows K01 K03
abbrev s_law_no_room : Stmt := top 34
theorem sc_law_no_room : FnScope ["_law_wide", "_law_refused", "e"] ["_law_wide"] (defScope s_law_no_room) := ⟨rfl, rfl, rfl, by decide +kernel, rfl, by decide +kernel, by decide +kernel⟩
section
variable {P : Program} {w : World} {K : PySem.W.Frag} {mg : Str → Option Value} {base : Heap}
theorem ok_law_no_room {k : Nat} {f : Addr} {fd : FuncData} (F : Fun K "_law_no_room" "_law_no_room" s_law_no_room f fd) (M : Blt mg) {t1 t2 t3 t4 : Tok} {ts : Addr} (C : Cst K mg t1 t2 t3 t4 ts) {C_Room f_Room_init : Addr} (T_Room : TCls K mg "Room" C_Room f_Room_init ["wide", "held"]) {C_RoomError f_RoomError_init : Addr} (T_RoomError : TXB K mg C_RoomError f_RoomError_init) (VI : VInit K) {C_NoPlace f_NoPlace_init : Addr} (T_NoPlace : TX K mg "NoPlace" C_NoPlace C_RoomError f_NoPlace_init ["found"]) {C_NoRoom f_NoRoom_init : Addr} (T_NoRoom : TX K mg "NoRoom" C_NoRoom C_RoomError f_NoRoom_init ["found"]) (XN : XNot K C_NoRoom C_NoPlace) {fd_Room_init : FuncData} (D_Room_init : DfI K fd_Room_init ["self", "wide"]) (G_Room_init : FnOk P w K mg base (CXE P w) k f_Room_init fd_Room_init ["self", "wide"] (spRoomInitG K C_Room C_NoRoom)) : FnOk P w K mg base CX0 (k + 2) f fd ["_law_wide"] (spNoRoom K) := by
  refine F.ok sc_law_no_room (fun vs H Q E h => ?_) (fun cdv A outer s0 H vs Q E hr0 h => ?_)
  · obtain ⟨x, d, rfl, _⟩ := h; rfl
  obtain ⟨x, d, rfl, hb, tx, hx, q⟩ := h
  have hr := hr0.mono (Nat.le_succ _)
  refine ⟨_, (pss_cons (ps_set (i := 1) sc_law_no_room.nd rfl (by first | exact Or.inl rfl | exact Or.inr rfl) pe_bl)
      (pss_cons (ps_try (i := 2) rfl rfl rfl rfl T_NoRoom.m T_NoRoom.x sc_law_no_room.nd rfl rfl (fun _ _ _ => (pss_one (ps_expr (pe_makeS T_Room.ma G_Room_init hr0 rfl T_Room.m D_Room_init.b .nil passT (pa_cons (pv 0) pa_nil))))) (fun _ => (pss_one (ps_set (i := 1) sc_law_no_room.nd rfl (by first | exact Or.inl rfl | exact Or.inr rfl) (pe_and (pe_cmpR (op_eqSelf (K := K) rfl hr.units) (pe_xfldK (K := K) rfl (pv 2) rfl) (pv 0) (nomark _)) (pe_and (pe_cmpR op_eq (pe_callB (call_reprF (K := K) rfl hr.gd hr.units) rfl M.repr (show bootBuiltins "repr" = some (.builtin "repr") from by decide +kernel) (pa_cons (pe_xfldK (K := K) rfl (pv 2) rfl) pa_nil)) (pe_callB (call_reprF (K := K) rfl hr.gd hr.units) rfl M.repr (show bootBuiltins "repr" = some (.builtin "repr") from by decide +kernel) (pa_cons (pv 0) pa_nil)) (nomark _)) (pe_one (pe_not (pe_callB (call_isxN (K := K) rfl) rfl M.isinstance boot_isinstance (pa_cons (pv 2) (pa_cons (pe_glob (v := .ref C_NoPlace) rfl T_NoPlace.m rfl) pa_nil)))))))))))
      (pss_one (ps_ret (pv 1))))), ?_⟩
  refine ⟨fun σ => σ = [some x, some (.bl false), none], fun v _ H' => ∃ e, v = .ref e ∧ Same H H' ∧ H e = none ∧ NPx C_NoRoom H' e x, ?_, fun σ' e H' hS hW => ?_⟩
  · refine ⟨_, rfl, rfl, fun a dx ha hd ne => ⟨a, dx, x, rfl, upd_same, .inr ⟨hb _ (made_same ha hd), fun e H1 g he hE => ⟨e, rfl, (made_same ha hd).trans g, (made_same ha hd).free he, hE⟩⟩⟩⟩
  · subst hS
    obtain ⟨e2, ee, g, he, dx', hE, hX⟩ := hW
    cases ee
    have tx' := tx.same g
    refine ⟨C_NoRoom, some dx', _, hE, T_NoRoom.x, (by simp), ?_⟩
    refine ⟨_, rfl, e, C_NoRoom, C_RoomError, f_NoRoom_init, dx', _, _, rfl, .inl hE, hX, T_NoRoom.c, T_NoRoom.n _ (List.mem_singleton.mpr rfl), rfl, _, rfl, rfl, hx _ g, _, rfl, iteP rfl ?_⟩
    refine ⟨_, rfl, e, C_NoRoom, C_RoomError, f_NoRoom_init, dx', _, _, rfl, .inl hE, hX, T_NoRoom.c, T_NoRoom.n _ (List.mem_singleton.mpr rfl), rfl, x, d, rfl, tx'.dat, tx'.sh, tx'.dp, tx'.ln, _, rfl, x, d, rfl, tx'.dat, tx'.sh, tx'.dp, tx'.ln, rfl, _, rfl, iteP (decide_eq_true rfl) ?_⟩
    exact ⟨_, rfl, e, C_NoRoom, C_NoPlace, C_RoomError, f_NoRoom_init, dx', _, rfl, hE, hX, T_NoRoom.c, XN, _, rfl, _, rfl, q H' g⟩
end
end K06

namespace K06
open PySem L2 PyProof.Rows K01 K03
abbrev s_law_past : Stmt := top 33
theorem sc_law_past : FnScope ["_law_state", "_law_room", "_law_wide", "_law_many", "_law_some", "_law_spot", "_law_past_here", "_law_door", "_law_within", "_law_kept"] ["_law_state", "_law_room", "_law_wide"] (defScope s_law_past) := ⟨rfl, rfl, rfl, by decide +kernel, rfl, by decide +kernel, by decide +kernel⟩
section
variable {P : Program} {w : World} {K : PySem.W.Frag} {mg : Str → Option Value} {base : Heap}
theorem ok_law_past {k : Nat} {f : Addr} {fd : FuncData} (F : Fun K "_law_past" "_law_past" s_law_past f fd) (M : Blt mg) {t1 t2 t3 t4 : Tok} {ts : Addr} (C : Cst K mg t1 t2 t3 t4 ts) {C_Room f_Room_init : Addr} (T_Room : TCls K mg "Room" C_Room f_Room_init ["wide", "held"]) {C_RoomError f_RoomError_init : Addr} (T_RoomError : TXB K mg C_RoomError f_RoomError_init) (VI : VInit K) {C_NoPlace f_NoPlace_init : Addr} (T_NoPlace : TX K mg "NoPlace" C_NoPlace C_RoomError f_NoPlace_init ["found"]) {C_NoRoom f_NoRoom_init : Addr} (T_NoRoom : TX K mg "NoRoom" C_NoRoom C_RoomError f_NoRoom_init ["found"]) {f_law_draw : Addr} {fd_law_draw : FuncData} (D_law_draw : Df K mg "_law_draw" f_law_draw fd_law_draw ["_law_state", "_law_many"]) (G_law_draw : FnOk P w K mg base CX0 k f_law_draw fd_law_draw ["_law_state", "_law_many"] spDraw) {f_law_same : Addr} {fd_law_same : FuncData} (D_law_same : Df K mg "_law_same" f_law_same fd_law_same ["_law_told_here", "_law_thing"]) (G_law_same : FnOk P w K mg base CX0 k f_law_same fd_law_same ["_law_told_here", "_law_thing"] (spSameT K)) {f_law_told : Addr} {fd_law_told : FuncData} (D_law_told : Df K mg "_law_told" f_law_told fd_law_told ["_law_room", "_law_door", "_law_one", "_law_other"]) (G_law_told : FnOk P w K mg base CX0 k f_law_told fd_law_told ["_law_room", "_law_door", "_law_one", "_law_other"] (spTold K C_Room)) {f_Room_taken : Addr} {fd_Room_taken : FuncData} (D_Room_taken : DfM K C_Room "taken" f_Room_taken fd_Room_taken ["self", "place"]) (G_Room_taken : FnOk P w K mg base (CXE P w) k f_Room_taken fd_Room_taken ["self", "place"] (spTakenG K C_Room C_NoPlace)) {f_Room_left : Addr} {fd_Room_left : FuncData} (D_Room_left : DfM K C_Room "left" f_Room_left fd_Room_left ["self", "place", "number"]) (G_Room_left : FnOk P w K mg base (CXE P w) k f_Room_left fd_Room_left ["self", "place", "number"] (spLeftG K C_Room C_NoPlace)) : FnOk P w K mg base CX0 (k + 2) f fd ["_law_state", "_law_room", "_law_wide"] (spPast K C_Room) := by
  refine F.ok sc_law_past (fun vs H Q E h => ?_) (fun cdv A outer s0 H vs Q E hr0 h => ?_)
  · obtain ⟨p, a, dx, l, w', N, rfl, _⟩ := h; rfl
  obtain ⟨p, a, dx, l, w', N, rfl, hs, rs, hw1, np, q⟩ := h
  have hr := hr0.mono (Nat.le_succ _)
  refine ⟨_, (pss_cons (ps_set (i := 3) sc_law_past.nd rfl (by first | exact Or.inl rfl | exact Or.inr rfl) (pe_op op_add pe_int (pe_call G_law_draw hr rfl D_law_draw.m D_law_draw.k D_law_draw.b .nil pass0 (pa_cons (pv 0) (pa_cons pe_int pa_nil)))))
      (pss_cons (ps_set (i := 4) sc_law_past.nd rfl (by first | exact Or.inl rfl | exact Or.inr rfl) (pe_lst (pa_cons (pe_tup (pa_cons (pv 2) (pa_cons pe_int (pa_cons pe_int pa_nil)))) (pa_cons (pe_tup (pa_cons (pv 2) (pa_cons pe_int (pa_cons pe_int pa_nil)))) (pa_cons (pe_tup (pa_cons (pv 2) (pa_cons pe_int (pa_cons pe_int pa_nil)))) (pa_cons (pe_tup (pa_cons (pe_op op_sub (pv 2) pe_int) (pa_cons pe_int (pa_cons pe_int pa_nil)))) pa_nil))))))
      (pss_cons (ps_expr (pe_bm PySem.F.plainAttrs_list PySem.F.slot_list_append PySem.F.type_list_append mt_append (pv 4) (pa_cons (pe_tup (pa_cons (pe_callB (call_max2 rfl) rfl M.max boot_max (pa_cons pe_int (pa_cons (pe_op op_add (pe_op op_sub (pv 2) (pv 3)) pe_int) pa_nil))) (pa_cons pe_int (pa_cons (pe_op op_mul pe_int (pv 3)) pa_nil)))) pa_nil)))
      (pss_cons (ps_for PassesOwn.never rfl (pi_list (pv 4)) (pg_name (i := 5) sc_law_past.nd rfl (Or.inl rfl)) (pss_cons (ps_set (i := 6) sc_law_past.nd rfl (by first | exact Or.inl rfl | exact Or.inr rfl) (pe_cmpR op_gt (pe_op op_add (pe_ix ix_tup (pv 5) pe_int (fun _ _ => rfl)) (pe_op op_fdiv (pe_op op_add (pe_ix ix_tup (pv 5) pe_int (fun _ _ => rfl)) pe_int) pe_int)) (pv 2) (nomark _)))
      (pss_cons (ps_for PassesOwn.never rfl (pi_list (pe_lst (pa_cons pe_int (pa_cons pe_int pa_nil)))) (pg_name (i := 7) sc_law_past.nd rfl (Or.inl rfl)) (pss_one (ps_if (PW.pt (pw_and (pt_val (pv 6)) (pw_and1 (pt_not (pt_val (pe_call G_law_same hr rfl D_law_same.m D_law_same.k D_law_same.b .nil pass0 (pa_cons (pe_call G_law_told hr rfl D_law_told.m D_law_told.k D_law_told.b .nil pass0 (pa_cons (pv 1) (pa_cons (pv 7) (pa_cons (pv 5) (pa_cons (pv 5) pa_nil))))) (pa_cons (pv 5) pa_nil)))))))) (pss_one (ps_ret pe_bl)) pss_nil)))
      (pss_one (ps_for PassesOwn.never rfl (pi_list (pe_lst (pa_cons pe_int (pa_cons pe_int pa_nil)))) (pg_name (i := 7) sc_law_past.nd rfl (Or.inl rfl)) (pss_one (ps_if (pt_cmpR (op_neS hr.units) (pe_call G_law_told hr rfl D_law_told.m D_law_told.k D_law_told.b .nil pass0 (pa_cons (pv 1) (pa_cons (pv 7) (pa_cons (pv 5) (pa_cons (pv 5) pa_nil))))) (pe_lst (pa_cons pe_str pa_nil)) (nomark _)) (pss_one (ps_ret pe_bl)) pss_nil)))))))
      (pss_cons (ps_set (i := 8) sc_law_past.nd rfl (by first | exact Or.inl rfl | exact Or.inr rfl) (pe_tup (pa_cons (pe_callB (call_max2 rfl) rfl M.max boot_max (pa_cons pe_int (pa_cons (pe_op op_sub (pv 2) (pv 3)) pa_nil))) (pa_cons pe_int (pa_cons (pe_op op_mul pe_int (pe_callB (call_min2 rfl) rfl M.min boot_min (pa_cons (pv 3) (pa_cons (pv 2) pa_nil)))) pa_nil)))))
      (pss_cons (ps_set (i := 9) sc_law_past.nd rfl (by first | exact Or.inl rfl | exact Or.inr rfl) (pe_meth (pv 1) T_Room.cl D_Room_taken.me G_Room_taken hr D_Room_taken.b .nil passX (pa_cons (pv 8) pa_nil)))
      (pss_cons (ps_expr (pe_meth (pv 1) T_Room.cl D_Room_left.me G_Room_left hr D_Room_left.b .nil passX (pa_cons (pv 8) (pa_cons (pv 9) pa_nil))))
      (pss_one (ps_ret (pe_and (pe_cmpR op_eq (pe_meth (pv 1) T_Room.cl D_Room_taken.me G_Room_taken hr D_Room_taken.b .nil passX (pa_cons (pv 8) pa_nil)) (pv 9) (nomark _)) (pe_one (pe_cmpR (op_eqSame hr.units) (pe_call G_law_told hr rfl D_law_told.m D_law_told.k D_law_told.b .nil pass0 (pa_cons (pv 1) (pa_cons pe_int (pa_cons (pe_tup (pa_cons (pe_op op_sub (pv 2) pe_int) (pa_cons pe_int (pa_cons pe_int pa_nil)))) (pa_cons pe_non pa_nil))))) (pe_lst (pa_cons pe_str pa_nil)) (nomark _))))))))))))), ?_⟩
  refine ⟨_, rfl, p, _, rfl, by decide, by decide, hs, fun m0 H1 m00 m01 d1 => ⟨_, _, rfl, rfl, ?_⟩⟩
  obtain ⟨m, hm⟩ : ∃ m : Int, m = 1 + m0 := ⟨_, rfl⟩
  dsimp only
  rw [← hm]
  have hm1 : 1 ≤ m := by omega
  have hm2 : m ≤ 64 := by omega
  clear hm m00 m01
  have rs1 := rs.drawn hs np d1
  have hw2 := rs.w
  refine ⟨_, rfl, (by show 3 ≤ sizeLine; decide), fun t1 h1 => ?_⟩
  have g1 := same_new h1 (.tup [.int w', .int 0, .int 2])
  have k1 : upd H1 t1 (.tup [.int w', .int 0, .int 2]) t1 = some (.tup [.int w', .int 0, .int 2]) := upd_same
  generalize upd H1 t1 (.tup [.int w', .int 0, .int 2]) = H2 at g1 k1 ⊢
  refine ⟨_, rfl, (by show 3 ≤ sizeLine; decide), fun t2 h2 => ?_⟩
  have g2 := same_new h2 (.tup [.int w', .int 6, .int 2])
  have k2 : upd H2 t2 (.tup [.int w', .int 6, .int 2]) t2 = some (.tup [.int w', .int 6, .int 2]) := upd_same
  generalize upd H2 t2 (.tup [.int w', .int 6, .int 2]) = H3 at g2 k2 ⊢
  refine ⟨_, rfl, (by show 3 ≤ sizeLine; decide), fun t3 h3 => ?_⟩
  have g3 := same_new h3 (.tup [.int w', .int 0, .int 8])
  have k3 : upd H3 t3 (.tup [.int w', .int 0, .int 8]) t3 = some (.tup [.int w', .int 0, .int 8]) := upd_same
  generalize upd H3 t3 (.tup [.int w', .int 0, .int 8]) = H4 at g3 k3 ⊢
  refine ⟨_, rfl, _, _, rfl, rfl, (by show 3 ≤ sizeLine; decide), fun t4 h4 => ?_⟩
  have g4 := same_new h4 (.tup [.int (w' - 1), .int 0, .int 16])
  have k4 : upd H4 t4 (.tup [.int (w' - 1), .int 0, .int 16]) t4 = some (.tup [.int (w' - 1), .int 0, .int 16]) := upd_same
  generalize upd H4 t4 (.tup [.int (w' - 1), .int 0, .int 16]) = H5 at g4 k4 ⊢
  refine ⟨(by show 4 ≤ sizeLine; decide), fun ls hls => ?_⟩
  have b5 := same_new hls (.lst [.ref t1, .ref t2, .ref t3, .ref t4])
  have k5 : upd H5 ls (.lst [.ref t1, .ref t2, .ref t3, .ref t4]) ls = some (.lst [.ref t1, .ref t2, .ref t3, .ref t4]) := upd_same
  generalize upd H5 ls (.lst [.ref t1, .ref t2, .ref t3, .ref t4]) = H6 at b5 k5 ⊢
  refine ⟨_, rfl, .inl ⟨rfl, _, SqL.of k5⟩, _, rfl, _, rfl, _, _, rfl, rfl, _, _, rfl, rfl, _, _, rfl, _, rfl, _, _, rfl, rfl, .inl ⟨by decide, by decide⟩, (by show 3 ≤ sizeLine; decide), fun t5 h5 => ?_⟩
  have hx0 : 0 ≤ (if (w' : Int) - m + 1 > 0 then (w' : Int) - m + 1 else 0) ∧ (if (w' : Int) - m + 1 > 0 then (w' : Int) - m + 1 else 0) ≤ 8192 := by split <;> omega
  generalize (if (w' : Int) - m + 1 > 0 then (w' : Int) - m + 1 else 0) = mx at hx0 ⊢
  have g6 := same_new h5 (.tup [.int mx, .int 0, .int (8 * m)])
  have k6 : upd H6 t5 (.tup [.int mx, .int 0, .int (8 * m)]) t5 = some (.tup [.int mx, .int 0, .int (8 * m)]) := upd_same
  have n56 : t5 ≠ ls := fun z => by rw [z, k5] at h5; cases h5
  have b6 := b5.trans g6
  have k5' := g6 _ _ k5
  generalize upd H6 t5 (.tup [.int mx, .int 0, .int (8 * m)]) = H7 at g6 k6 b6 k5' ⊢
  refine ⟨ls, _, _, rfl, rfl, k5', (by show 4 < sizeLine; decide), ?_⟩
  have b7 : But ls H5 (upd H7 ls (.lst ([.ref t1, .ref t2, .ref t3, .ref t4] ++ [.ref t5]))) := But.trans (But.of b6) But.upd
  have g7 := b7.same hls
  have k7 : upd H7 ls (.lst ([.ref t1, .ref t2, .ref t3, .ref t4] ++ [.ref t5])) ls = some (.lst [.ref t1, .ref t2, .ref t3, .ref t4, .ref t5]) := upd_same
  have k6' : upd H7 ls (.lst ([.ref t1, .ref t2, .ref t3, .ref t4] ++ [.ref t5])) t5 = some (.tup [.int mx, .int 0, .int (8 * m)]) := by rw [upd_ne n56]; exact k6
  generalize upd H7 ls (.lst ([.ref t1, .ref t2, .ref t3, .ref t4] ++ [.ref t5])) = H8 at g7 k7 k6' ⊢
  have g17 : Same H1 H8 := g1.trans (g2.trans (g3.trans (g4.trans g7)))
  have rs8 := rs1.same g17
  have hx : ∀ (i : Nat) (x : V), ([.ref t1, .ref t2, .ref t3, .ref t4, .ref t5] : List V)[i]? = some x → ∃ t c s b, x = .ref t ∧ T3 K H8 t c s b ∧ Ok3 c s b ∧ c ≤ 8192 := fun i x e => by
    match i, e with
    | 0, e => cases e; exact ⟨t1, w', 0, 2, rfl, SqT.of (g7 _ _ (g4 _ _ (g3 _ _ (g2 _ _ k1)))), ⟨by omega, .inl ⟨rfl, .inl rfl⟩⟩, by omega⟩
    | 1, e => cases e; exact ⟨t2, w', 6, 2, rfl, SqT.of (g7 _ _ (g4 _ _ (g3 _ _ k2))), ⟨by omega, .inl ⟨rfl, .inr (.inr (.inr rfl))⟩⟩, by omega⟩
    | 2, e => cases e; exact ⟨t3, w', 0, 8, rfl, SqT.of (g7 _ _ (g4 _ _ k3)), ⟨by omega, .inr ⟨rfl, 1, by decide, by decide, rfl⟩⟩, by omega⟩
    | 3, e => cases e; exact ⟨t4, w' - 1, 0, 16, rfl, SqT.of (g7 _ _ k4), ⟨by omega, .inr ⟨rfl, 2, by decide, by decide, rfl⟩⟩, by omega⟩
    | 4, e => cases e; exact ⟨t5, mx, 0, 8 * m, rfl, SqT.of k6', ⟨hx0.1, .inr ⟨rfl, m, hm1, hm2, rfl⟩⟩, hx0.2⟩
    | n + 5, e => simp at e
  clear k1 k2 k3 k4 k5 k6 k5' k6' g1 g2 g3 g4 g6 b5 b6 b7 g7
  refine ⟨_, rfl, ls, rfl, ⟨_, SqL.of k7⟩, for_list (xs := [.ref t1, .ref t2, .ref t3, .ref t4, .ref t5]) (fun i σ H' => (∃ o5 o6 o7, σ = [some (.ref p), some (.ref a), some (.int w'), some (.int m), some (.ref ls), o5, o6, o7, none, none]) ∧ Same H8 H') ⟨⟨_, _, _, rfl⟩, Same.refl _⟩ (fun i σ H' _ z => SqL.of (z.2 _ _ k7)) (fun i x σ H' hxi z => ?_) (fun σ H' z => ?_)⟩
  · obtain ⟨⟨o5, o6, o7, rfl⟩, g⟩ := z
    obtain ⟨t, c, s, b, rfl, hT0, ho, hc8⟩ := hx i x hxi
    have hT : T3 K H' t c s b := Same.tup g hT0
    have bs := ho.bits
    have hc0 := ho.1
    have gt : GoodD (.tuple [.int c, .int s, .int b]) := ⟨c, s, b, rfl, ho⟩
    refine ⟨_, rfl, t, _, _, _, rfl, rfl, hT, rfl, _, rfl, t, _, _, _, rfl, rfl, hT, rfl, _, _, rfl, rfl, _, _, rfl, rfl, ⟨by decide, by decide⟩, _, _, rfl, rfl, _, rfl, _, _, rfl, rfl, ?_⟩
    dsimp only
    have hk : decide ((w' : Int) < c + (b + 7) / 8) = true → ¬ InD (.tuple [.int c, .int s, .int b]) w' := fun z => by
      have z1 : c + (b + 7) / 8 > (w' : Int) := of_decide_eq_true z
      intro z2
      obtain ⟨c', s', b', e, hi⟩ := z2
      cases e
      obtain ⟨_, h2⟩ := hi
      unfold nCells at h2
      obtain ⟨_, ⟨h3, _⟩ | ⟨_, n, h3, h4, h5⟩⟩ := ho
      · subst h3; simp at h2 z1; omega
      · split at h2 <;> omega
    generalize decide ((w' : Int) < c + (b + 7) / 8) = k at hk ⊢
    have thS : ∀ {H2 : Hp}, Same H' H2 → Th K H2 (.ref t) (.tuple [.int c, .int s, .int b]) := fun {H2} g2 => th3 (Same.tup g2 hT) (by omega) (by omega) (by omega)
    refine ⟨(by show 2 ≤ sizeLine; decide), fun ld hld => ?_⟩
    have gd := same_new hld (.lst [.int 3, .int 4])
    have kd : upd H' ld (.lst [.int 3, .int 4]) ld = some (.lst [.int 3, .int 4]) := upd_same
    generalize upd H' ld (.lst [.int 3, .int 4]) = H9 at gd kd ⊢
    refine ⟨ld, rfl, ⟨_, SqL.of kd⟩, for_list (xs := [.int 3, .int 4]) (fun i σ H2 => (∃ o7, σ = [some (.ref p), some (.ref a), some (.int w'), some (.int m), some (.ref ls), some (.ref t), some (.bl k), o7, none, none]) ∧ Same H9 H2) ⟨⟨_, rfl⟩, Same.refl _⟩ (fun i σ H2 _ z => SqL.of (z.2 _ _ kd)) (fun i x σ H2 hxi z => ?_) (fun σ H2 z => ?_)⟩
    · obtain ⟨⟨o7, rfl⟩, g2⟩ := z
      obtain ⟨dr, hdr, rfl⟩ : ∃ dr : Int, (dr = 3 ∨ dr = 4) ∧ x = .int dr := by
        match i, hxi with
        | 0, e => cases e; exact ⟨3, .inl rfl, rfl⟩
        | 1, e => cases e; exact ⟨4, .inr rfl, rfl⟩
        | n + 2, e => simp at e
      have g02 := gd.trans g2
      have rs2 := rs8.same (g.trans g02)
      refine ⟨_, rfl, _, rfl, ite2 (fun ck => ?_) (fun ck => iteN (by decide) ⟨⟨_, rfl⟩, g2⟩)⟩
      refine ⟨_, rfl, _, rfl, _, rfl, _, rfl, a, dx, l, w', N, dr, .ref t, .ref t, _, _, some (.ref t), rfl, rs2.r, rs2.c, rs2.w, (thS g02).dat, fun _ => (thS g02).dat, .inr (.inr ⟨hdr, hk ck, rfl⟩), fun r H3 g3 hr3 hl3 => ?_⟩
      exact ⟨_, rfl, r, .ref t, _, rfl, hl3, thS (g02.trans g3), fun H10 g10 => ⟨_, rfl, iteN (by decide) ⟨⟨_, rfl⟩, (g2.trans g3).trans g10⟩⟩⟩
    · obtain ⟨⟨o7, rfl⟩, g2⟩ := z
      have g02 := gd.trans g2
      refine ⟨(by show 2 ≤ sizeLine; decide), fun le hle => ?_⟩
      have ge := same_new hle (.lst [.int 0, .int 1])
      have ke : upd H2 le (.lst [.int 0, .int 1]) le = some (.lst [.int 0, .int 1]) := upd_same
      generalize upd H2 le (.lst [.int 0, .int 1]) = HE at ge ke ⊢
      refine ⟨le, rfl, ⟨_, SqL.of ke⟩, for_list (xs := [.int 0, .int 1]) (fun i σ H2 => (∃ o7, σ = [some (.ref p), some (.ref a), some (.int w'), some (.int m), some (.ref ls), some (.ref t), some (.bl k), o7, none, none]) ∧ Same HE H2) ⟨⟨_, rfl⟩, Same.refl _⟩ (fun i σ H2 _ z => SqL.of (z.2 _ _ ke)) (fun i x σ HF hxi z => ?_) (fun σ HF z => ?_)⟩
      · obtain ⟨⟨o7, rfl⟩, g3⟩ := z
        obtain ⟨dr, hdr, rfl⟩ : ∃ dr : Int, (dr = 0 ∨ dr = 1) ∧ x = .int dr := by
          match i, hxi with
          | 0, e => cases e; exact ⟨0, .inl rfl, rfl⟩
          | 1, e => cases e; exact ⟨1, .inr rfl, rfl⟩
          | n + 2, e => simp at e
        have g03 := g02.trans (ge.trans g3)
        have rs2 := rs8.same (g.trans g03)
        refine ⟨_, rfl, _, rfl, _, rfl, _, rfl, a, dx, l, w', N, dr, .ref t, .ref t, _, _, none, rfl, rs2.r, rs2.c, rs2.w, (thS g03).dat, fun _ => (thS g03).dat, .inl ⟨hdr, gt⟩, fun r H3 g3' hr3 hl3 => ⟨(by show 1 ≤ sizeLine; decide), fun n hn => ?_⟩⟩
        have gn := same_new hn (.lst [.str "none"])
        exact ⟨r, n, ["none"], rfl, rfl, SqL.of (gn _ _ hl3), SqL.of upd_same, by decide +kernel, by decide +kernel, _, rfl, iteN (by decide) ⟨⟨_, rfl⟩, (g3.trans g3').trans gn⟩⟩
      · obtain ⟨⟨o7, rfl⟩, g3⟩ := z
        exact ⟨⟨_, _, _, rfl⟩, g.trans (g02.trans (ge.trans g3))⟩
  · obtain ⟨⟨o5, o6, o7, rfl⟩, g⟩ := z
    refine ⟨_, rfl, _, rfl, _, _, rfl, rfl, _, _, rfl, _, rfl, _, rfl, _, _, rfl, _, _, rfl, rfl, .inl ⟨by decide, by decide⟩, (by show 3 ≤ sizeLine; decide), fun t ht => ?_⟩
    dsimp only at ht ⊢
    have hI : In3 (if (w' : Int) - m > 0 then (w' : Int) - m else 0) 0 (8 * (if (w' : Int) < m then (w' : Int) else m)) w' := by
      have e : ((nCells (8 * (if (w' : Int) < m then (w' : Int) else m)) : Nat) : Int) = (if (w' : Int) < m then (w' : Int) else m) := nC8 (by split <;> omega)
      refine ⟨⟨by split <;> omega, .inr ⟨rfl, (if (w' : Int) < m then (w' : Int) else m), by split <;> omega, by split <;> omega, rfl⟩⟩, ?_⟩
      rw [e]
      split <;> split <;> omega
    generalize (if (w' : Int) - m > 0 then (w' : Int) - m else 0) = c at hI ⊢
    generalize (8 * (if (w' : Int) < m then (w' : Int) else m)) = b at hI ⊢
    have gt := g17.trans (g.trans (same_new ht (.tup [.int c, .int 0, .int b])))
    have kt : upd H' t (.tup [.int c, .int 0, .int b]) t = some (.tup [.int c, .int 0, .int b]) := upd_same
    generalize upd H' t (.tup [.int c, .int 0, .int b]) = H9 at gt kt ⊢
    have rs9 := rs1.same gt
    have hi : InD (.tuple [.int c, .int 0, .int b]) w' := ⟨c, 0, b, rfl, hI⟩
    refine ⟨_, rfl, a, dx, _, rfl, rs9.r, rfl, _, rfl, a, dx, l, w', N, .ref t, _, rfl, rs9.r, rs9.c, dat3 (SqT.of kt), fun c' s' b' ed _ HA gA => ?_, fun hn => absurd hi hn⟩
    cases ed
    have rsA := rs9.same gA
    have ktA := gA _ _ kt
    refine ⟨_, rfl, a, dx, _, rfl, rsA.r, rfl, _, rfl, _, rfl, a, dx, l, w', N, .ref t, _, _, rfl, rsA.r, rsA.c, rsA.w, dat3 (SqT.of ktA), fun c' s' b' ed _ HB kB lB => ?_, fun hn => absurd hi hn⟩
    cases ed
    rw [put_self] at lB
    have gB : Same HA HB := fun y o z => by
      by_cases hy : y = l
      · subst hy; rw [rsA.c] at z; cases z; exact lB
      · exact kB y o hy z
    have rsB := rsA.same gB
    have ktB := gB _ _ ktA
    refine ⟨_, rfl, a, dx, _, rfl, rsB.r, rfl, _, rfl, a, dx, l, w', N, .ref t, _, rfl, rsB.r, rsB.c, dat3 (SqT.of ktB), fun c' s' b' ed _ HC gC => ?_, fun hn => absurd hi hn⟩
    cases ed
    refine ⟨_, rfl, rfl, _, rfl, iteP (decide_eq_true rfl) ?_⟩
    refine ⟨_, rfl, _, rfl, _, _, rfl, rfl, (by show 3 ≤ sizeLine; decide), fun t2 ht2 => ?_⟩
    have gD := same_new ht2 (.tup [.int (w' - 1), .int 6, .int 2])
    have kD : upd HC t2 (.tup [.int (w' - 1), .int 6, .int 2]) t2 = some (.tup [.int (w' - 1), .int 6, .int 2]) := upd_same
    generalize upd HC t2 (.tup [.int (w' - 1), .int 6, .int 2]) = HD at gD kD ⊢
    have rsD := rsB.same (gC.trans gD)
    have hi2 : InD (.tuple [.int (w' - 1), .int 6, .int 2]) w' := ⟨_, _, _, rfl, ⟨by omega, .inl ⟨rfl, .inr (.inr (.inr rfl))⟩⟩, by have := nC2; omega⟩
    refine ⟨a, dx, l, w', N, 3, .ref t2, .non, _, .none, none, rfl, rsD.r, rsD.c, rsD.w, dat3 (SqT.of kD), fun z => absurd z (by decide), .inr (.inr ⟨rfl, hi2⟩), fun r HE gE hrE hlE => ⟨(by show 1 ≤ sizeLine; decide), fun n hn => ?_⟩⟩
    have gn := same_new hn (.lst [.str "none"])
    refine ⟨r, n, _, rfl, rfl, SqL.of (gn _ _ hlE), SqL.of upd_same, fun z hz => ?_, ?_⟩
    · simp only [toldL, List.mem_singleton] at hz
      subst hz
      exact .inl rfl
    exact q _ (d1.trans (Drawn.of_same d1.1 (gt.trans (gA.trans (gB.trans (gC.trans (gD.trans (gE.trans gn))))))))
end
end K06

namespace K06
open PySem L2 PyProof.Rows K01 K03
abbrev s_law : Stmt := top 35
theorem sc_law : FnScope ["_law_script", "_law_k", "_law_state", "_law_wide", "_law_room", "_law_good", "_law_cells", "_law_j", "_law_bad_here", "_law_none"] ["_law_script"] (defScope s_law) := ⟨rfl, rfl, rfl, by decide +kernel, rfl, by decide +kernel, by decide +kernel⟩
section
variable {P : Program} {w : World} {K : PySem.W.Frag} {mg : Str → Option Value} {base : Heap}
theorem ok_law {k : Nat} {f : Addr} {fd : FuncData} (F : Fun K "law" "law" s_law f fd) (M : Blt mg) {t1 t2 t3 t4 : Tok} {ts : Addr} (C : Cst K mg t1 t2 t3 t4 ts) {C_Room f_Room_init : Addr} (T_Room : TCls K mg "Room" C_Room f_Room_init ["wide", "held"]) {C_RoomError f_RoomError_init : Addr} (T_RoomError : TXB K mg C_RoomError f_RoomError_init) (VI : VInit K) {C_NoPlace f_NoPlace_init : Addr} (T_NoPlace : TX K mg "NoPlace" C_NoPlace C_RoomError f_NoPlace_init ["found"]) {C_NoRoom f_NoRoom_init : Addr} (T_NoRoom : TX K mg "NoRoom" C_NoRoom C_RoomError f_NoRoom_init ["found"]) {f_law_begun : Addr} {fd_law_begun : FuncData} (D_law_begun : Df K mg "_law_begun" f_law_begun fd_law_begun ["_law_cell_here"]) (G_law_begun : FnOk P w K mg base CX0 k f_law_begun fd_law_begun ["_law_cell_here"] spBegun) {f_law_cell : Addr} {fd_law_cell : FuncData} (D_law_cell : Df K mg "_law_cell" f_law_cell fd_law_cell ["_law_script", "_law_k"]) (G_law_cell : FnOk P w K mg base CX0 k f_law_cell fd_law_cell ["_law_script", "_law_k"] (spCell K)) {f_law_draw : Addr} {fd_law_draw : FuncData} (D_law_draw : Df K mg "_law_draw" f_law_draw fd_law_draw ["_law_state", "_law_many"]) (G_law_draw : FnOk P w K mg base CX0 k f_law_draw fd_law_draw ["_law_state", "_law_many"] spDraw) {fd_Room_init : FuncData} (D_Room_init : DfI K fd_Room_init ["self", "wide"]) (G_Room_init : FnOk P w K mg base (CXE P w) k f_Room_init fd_Room_init ["self", "wide"] (spRoomInitG K C_Room C_NoRoom)) {f_law_place : Addr} {fd_law_place : FuncData} (D_law_place : Df K mg "_law_place" f_law_place fd_law_place ["_law_state", "_law_wide"]) (G_law_place : FnOk P w K mg base CX0 k f_law_place fd_law_place ["_law_state", "_law_wide"] (spPlaceR K)) {f_Room_left : Addr} {fd_Room_left : FuncData} (D_Room_left : DfM K C_Room "left" f_Room_left fd_Room_left ["self", "place", "number"]) (G_Room_left : FnOk P w K mg base (CXE P w) k f_Room_left fd_Room_left ["self", "place", "number"] (spLeftG K C_Room C_NoPlace)) {f_Room_cells : Addr} {fd_Room_cells : FuncData} (D_Room_cells : DfM K C_Room "cells" f_Room_cells fd_Room_cells ["self"]) (G_Room_cells : FnOk P w K mg base CX0 k f_Room_cells fd_Room_cells ["self"] (spRoomCells C_Room)) {f_law_bad : Addr} {fd_law_bad : FuncData} (D_law_bad : Df K mg "_law_bad" f_law_bad fd_law_bad ["_law_state", "_law_wide"]) (G_law_bad : FnOk P w K mg base CX0 k f_law_bad fd_law_bad ["_law_state", "_law_wide"] (spBad K)) {f_law_all_doors : Addr} {fd_law_all_doors : FuncData} (D_law_all_doors : Df K mg "_law_all_doors" f_law_all_doors fd_law_all_doors ["_law_state", "_law_room", "_law_bad_here", "_law_good"]) (G_law_all_doors : FnOk P w K mg base CX0 k f_law_all_doors fd_law_all_doors ["_law_state", "_law_room", "_law_bad_here", "_law_good"] (spDoors K C_Room)) {f_law_same : Addr} {fd_law_same : FuncData} (D_law_same : Df K mg "_law_same" f_law_same fd_law_same ["_law_told_here", "_law_thing"]) (G_law_same : FnOk P w K mg base CX0 k f_law_same fd_law_same ["_law_told_here", "_law_thing"] (spSameT K)) {f_law_told : Addr} {fd_law_told : FuncData} (D_law_told : Df K mg "_law_told" f_law_told fd_law_told ["_law_room", "_law_door", "_law_one", "_law_other"]) (G_law_told : FnOk P w K mg base CX0 k f_law_told fd_law_told ["_law_room", "_law_door", "_law_one", "_law_other"] (spTold K C_Room)) {f_law_past : Addr} {fd_law_past : FuncData} (D_law_past : Df K mg "_law_past" f_law_past fd_law_past ["_law_state", "_law_room", "_law_wide"]) (G_law_past : FnOk P w K mg base CX0 k f_law_past fd_law_past ["_law_state", "_law_room", "_law_wide"] (spPast K C_Room)) {f_law_no_room : Addr} {fd_law_no_room : FuncData} (D_law_no_room : Df K mg "_law_no_room" f_law_no_room fd_law_no_room ["_law_wide"]) (G_law_no_room : FnOk P w K mg base CX0 k f_law_no_room fd_law_no_room ["_law_wide"] (spNoRoom K)) : FnOk P w K mg base CX0 (k + 2) f fd ["_law_script"] (spLaw K) := by
  refine F.ok sc_law (fun vs H Q E h => ?_) (fun cdv A outer s0 H vs Q E hr0 h => ?_)
  · obtain ⟨a, ns, rfl, _⟩ := h; rfl
  obtain ⟨a, ns, rfl, hS, h63, q⟩ := h
  have hr := hr0.mono (Nat.le_succ _)
  refine ⟨_, (pss_cons (ps_for PassesOwn.never rfl (pi_range1 rfl M.range (pa_cons (pe_callB (call_max2 rfl) rfl M.max boot_max (pa_cons pe_int (pa_cons (pe_callB (call_min2 rfl) rfl M.min boot_min (pa_cons pe_int (pa_cons (pe_callB call_len_seq rfl M.len PySem.boot_len (pa_cons (pv 0) pa_nil)) pa_nil))) pa_nil))) pa_nil)) (pg_name (i := 1) sc_law.nd rfl (Or.inl rfl)) (PSx.h (psx_cons (pstx_of (ps_set (i := 2) sc_law.nd rfl (by first | exact Or.inl rfl | exact Or.inr rfl) (pe_call G_law_begun hr rfl D_law_begun.m D_law_begun.k D_law_begun.b .nil pass0 (pa_cons (pe_call G_law_cell hr rfl D_law_cell.m D_law_cell.k D_law_cell.b .nil pass0 (pa_cons (pv 0) (pa_cons (pv 1) pa_nil))) pa_nil))))
      (psx_cons (pstx_of (ps_set (i := 3) sc_law.nd rfl (by first | exact Or.inl rfl | exact Or.inr rfl) (pe_ix ix_list (pe_lst (pa_cons pe_int (pa_cons pe_int (pa_cons pe_int (pa_cons (pe_op op_add pe_int (pe_call G_law_draw hr rfl D_law_draw.m D_law_draw.k D_law_draw.b .nil pass0 (pa_cons (pv 2) (pa_cons pe_int pa_nil)))) pa_nil))))) (pe_call G_law_draw hr rfl D_law_draw.m D_law_draw.k D_law_draw.b .nil pass0 (pa_cons (pv 2) (pa_cons pe_int pa_nil))) (fun _ _ => rfl))))
      (psx_cons (pstx_of (ps_set (i := 4) sc_law.nd rfl (by first | exact Or.inl rfl | exact Or.inr rfl) (pe_make T_Room.ma G_Room_init hr0 rfl T_Room.m D_Room_init.b .nil passX (pa_cons (pv 3) pa_nil))))
      (psx_cons (pstx_of (ps_set (i := 5) sc_law.nd rfl (by first | exact Or.inl rfl | exact Or.inr rfl) (pe_call G_law_place hr rfl D_law_place.m D_law_place.k D_law_place.b .nil pass0 (pa_cons (pv 2) (pa_cons (pv 3) pa_nil)))))
      (psx_cons (pstx_of (ps_expr (pe_meth (pv 4) T_Room.cl D_Room_left.me G_Room_left hr D_Room_left.b .nil passX (pa_cons (pv 5) (pa_cons (pe_op op_sub pe_int pe_int) pa_nil)))))
      (psx_cons (pstx_of (ps_set (i := 6) sc_law.nd rfl (by first | exact Or.inl rfl | exact Or.inr rfl) (pe_meth0 (pv 4) T_Room.cl D_Room_cells.me G_Room_cells hr D_Room_cells.b .nil pass0)))
      (psx_cons (pstx_of (ps_for PassesOwn.never rfl (pi_range1 rfl M.range (pa_cons pe_int pa_nil)) (pg_name (i := 7) sc_law.nd rfl (Or.inl rfl)) (PSx.h (psx_cons (pstx_of (ps_set (i := 8) sc_law.nd rfl (by first | exact Or.inl rfl | exact Or.inr rfl) (pe_call G_law_bad hr rfl D_law_bad.m D_law_bad.k D_law_bad.b .nil pass0 (pa_cons (pv 2) (pa_cons (pv 3) pa_nil)))))
      (psx_cons (pstx_if (PW.pt (pw_or (pt_not (pt_val (pe_call G_law_all_doors hr rfl D_law_all_doors.m D_law_all_doors.k D_law_all_doors.b .nil pass0 (pa_cons (pv 2) (pa_cons (pv 4) (pa_cons (pv 8) (pa_cons (pv 5) pa_nil))))))) (pw_or1 (pt_cmpR (op_neI hr.units) (pe_meth0 (pv 4) T_Room.cl D_Room_cells.me G_Room_cells hr D_Room_cells.b .nil pass0) (pv 6) (nomark _))))) (psx_one (pstx_of (ps_ret pe_bl))) pss_nil)
      (psx_one (pstx_if (pt_not (pt_val (pe_call G_law_same hr rfl D_law_same.m D_law_same.k D_law_same.b .nil pass0 (pa_cons (pe_call G_law_told hr rfl D_law_told.m D_law_told.k D_law_told.b .nil pass0 (pa_cons (pv 4) (pa_cons pe_int (pa_cons (pv 8) (pa_cons (pe_call G_law_bad hr rfl D_law_bad.m D_law_bad.k D_law_bad.b .nil pass0 (pa_cons (pv 2) (pa_cons (pv 3) pa_nil))) pa_nil))))) (pa_cons (pv 8) pa_nil))))) (psx_one (pstx_of (ps_ret pe_bl))) pss_nil)))))))
      (psx_cons (pstx_if (PW.pt (pw_or (pt_not (pt_val (pe_call G_law_past hr rfl D_law_past.m D_law_past.k D_law_past.b .nil pass0 (pa_cons (pv 2) (pa_cons (pv 4) (pa_cons (pv 3) pa_nil)))))) (pw_or1 (pt_cmpR (op_neI hr.units) (pe_meth0 (pv 4) T_Room.cl D_Room_cells.me G_Room_cells hr D_Room_cells.b .nil pass0) (pv 6) (nomark _))))) (psx_one (pstx_of (ps_ret pe_bl))) pss_nil)
      (psx_cons (pstx_menu (i := 9) sc_law.nd rfl rfl (pex_menu (pax_cons (pex_of pe_int) (pax_cons (pex_of pe_int) (pax_cons (pex_of (pe_op op_sub pe_int pe_int)) (pax_cons (pex_of pe_non) (pax_cons (pex_of pe_bl) (pax_cons (pex_of pe_str) (pax_cons (pex_of (pe_lst (pa_cons pe_int pa_nil))) (pax_cons (pex_of (pe_tup (pa_cons pe_int pa_nil))) (pax_cons (pex_of pe_dnewK) (pax_cons (pex_of (pe_op op_pow pe_int pe_int)) pax_nil se_bin) se_dict) se_tuple) se_list) se_const) se_const) se_const) se_bin) se_const) se_const) (pex_of (pe_call G_law_draw hr rfl D_law_draw.m D_law_draw.k D_law_draw.b .nil pass0 (pa_cons (pv 2) (pa_cons pe_int pa_nil)))) (fun _ _ => rfl)))
      (psx_one (pstx_if (PW.pt (pw_or (pt_not (pt_val (pe_call G_law_no_room hr rfl D_law_no_room.m D_law_no_room.k D_law_no_room.b .nil pass0 (pa_cons (pv 9) pa_nil)))) (pw_or (pt_cmpR (op_neI hr.units) (pe_meth0 (pe_make T_Room.ma G_Room_init hr0 rfl T_Room.m D_Room_init.b .nil passX (pa_cons pe_int pa_nil)) T_Room.cl D_Room_cells.me G_Room_cells hr D_Room_cells.b .nil pass0) (pe_lst (pa_cons pe_int pa_nil)) (nomark _)) (pw_or1 (pt_cmpR op_ne (pe_fld (pe_make T_Room.ma G_Room_init hr0 rfl T_Room.m D_Room_init.b .nil passX (pa_cons pe_int pa_nil)) rfl) pe_int (nomark _)))))) (psx_one (pstx_of (ps_ret pe_bl))) pss_nil)))))))))))))
      (pss_one (ps_ret pe_bl))), ?_⟩
  have hl : (ns.map V.int).length = ns.length := List.length_map _
  refine ⟨_, rfl, a, _, rfl, .inl hS, _, _, rfl, _, _, rfl, _, rfl, ?_, ?_, for_range (fun i σ H' => (∃ o1 o2 o3 o4 o5 o6 o7 o8 o9, σ = [some (.ref a), o1, o2, o3, o4, o5, o6, o7, o8, o9]) ∧ Same H H') ⟨⟨_, _, _, _, _, _, _, _, _, rfl⟩, Same.refl H⟩ (fun i σ H' hi z => ?_) (fun σ H' z => q _)⟩
  · rw [hl]; split <;> split <;> omega
  · rw [hl]; split <;> split <;> omega
  · obtain ⟨⟨o1, o2, o3, o4, o5, o6, o7, o8, o9, rfl⟩, g⟩ := z
    rw [hl] at hi
    have hi64 : i < 64 := by
      have : i < 10 + 1 := by
        refine Nat.lt_of_lt_of_le hi ?_
        split <;> split <;> omega
      omega
    refine ⟨_, rfl, _, rfl, a, ns, _, rfl, g.seq hS, by omega, by omega, fun c0 => ⟨c0, rfl, fun p H1 hp d1 => ?_⟩⟩
    refine ⟨_, rfl, p, _, rfl, by decide, by decide, d1.1, fun v2 H2 v20 v21 d2 => ⟨_, _, rfl, rfl, (by show 4 ≤ sizeLine; decide), fun l0 hl0 => ?_⟩⟩
    have d12 := d1.trans d2
    have e3 := d12.new (o := .lst [.int 1, .int 2, .int 64, .int (1 + v2)]) hl0
    have b3 : But p H2 (upd H2 l0 (.lst [.int 1, .int 2, .int 64, .int (1 + v2)])) := But.of (same_new hl0 _)
    have k3 : upd H2 l0 (.lst [.int 1, .int 2, .int 64, .int (1 + v2)]) l0 = some (.lst [.int 1, .int 2, .int 64, .int (1 + v2)]) := upd_same
    have n3 : l0 ≠ p := d12.1.ne hl0
    generalize upd H2 l0 (.lst [.int 1, .int 2, .int 64, .int (1 + v2)]) = H3 at e3 b3 k3 ⊢
    refine ⟨_, rfl, p, _, rfl, by decide, by decide, e3.1, fun v4 H4 v40 v41 d4 => ?_⟩
    have hw : ∃ w1 : Nat, atI ([.int 1, .int 2, .int 64, .int (1 + v2)] : List V) v4 = some (.int w1) ∧ 1 ≤ w1 ∧ w1 ≤ 8192 := by
      have : v4 = 0 ∨ v4 = 1 ∨ v4 = 2 ∨ v4 = 3 := by omega
      rcases this with rfl | rfl | rfl | rfl
      · exact ⟨1, rfl, by omega, by omega⟩
      · exact ⟨2, rfl, by omega, by omega⟩
      · exact ⟨64, rfl, by omega, by omega⟩
      · obtain ⟨n, rfl⟩ := Int.eq_ofNat_of_zero_le v20
        exact ⟨1 + n, rfl, by omega, by omega⟩
    obtain ⟨w1, ew, w10, w11⟩ := hw
    have e4 := e3.trans d4
    refine ⟨l0, _, _, _, rfl, rfl, SqL.of (d4.2 l0 _ n3 k3), ew, ?_⟩
    refine ⟨_, rfl, fun ra dx hx hd _ => ⟨ra, dx, .int w1, rfl, upd_same, .inl ⟨w1, rfl, w10, w11, fun l H5 hl5 hk5 hR5 hC5 => ⟨rfl, ?_⟩⟩⟩⟩
    obtain ⟨g5, hl4⟩ := made_room hx hd hl5 hk5
    have rs5 : RS C_Room H5 ra dx l w1 0 := ⟨hR5, hC5, w11⟩
    have e5 := e4.trans (Drawn.of_same e4.1 g5)
    have np : l ≠ p := e4.1.ne hl4
    refine ⟨_, rfl, _, rfl, p, _, rfl, by omega, by omega, e5.1, fun t H6 c s b ho hcw d6 hT6 => ?_⟩
    have rs6 := rs5.drawn e5.1 np d6
    have e6 := e5.trans d6
    have hI : In3 c s b w1 := ⟨ho, hcw⟩
    refine ⟨_, rfl, ra, dx, _, rfl, rs6.r, rfl, _, rfl, _, _, rfl, rfl, ra, dx, l, w1, 0, .ref t, _, _, rfl, rs6.r, rs6.c, rs6.w, dat3 hT6, fun c' s' b' ed _ H7 hk7 hl7 => ?_, fun hn => absurd ⟨c, s, b, rfl, hI⟩ hn⟩
    cases ed
    generalize put 0 _ _ _ = N at hl7
    have rs7 : RS C_Room H7 ra dx l w1 N := ⟨hk7 _ _ (ne_of rs6.r rs6.c (by intro z; cases z)) rs6.r, hl7, w11⟩
    have hT7 : T3 K H7 t c s b := But.tup (l := l) hk7 rs6.c hT6
    have s7 : St3 H7 p := by
      obtain ⟨x, y, u, e⟩ := e6.1
      exact ⟨x, y, u, hk7 _ _ np.symm e⟩
    have gH7 : Same H' H7 := fun y o z => hk7 y o (ne_of_none (e4.2 y o (ne_of_none z hp) z) hl4) (e6.2 y o (ne_of_none z hp) z)
    refine ⟨_, rfl, ra, dx, _, rfl, rs7.r, rfl, ra, dx, l, w1, N, rfl, rs7.r, rs7.c, w11, fun r hr7 => ?_⟩
    have g8 := same_new hr7 (.lst ((cellsF N 0 w1).map V.int))
    have k8 : upd H7 r (.lst ((cellsF N 0 w1).map V.int)) r = some (.lst ((cellsF N 0 w1).map V.int)) := upd_same
    have nr : r ≠ p := s7.ne hr7
    generalize upd H7 r (.lst ((cellsF N 0 w1).map V.int)) = H8 at g8 k8 ⊢
    have s8 : St3 H8 p := (Drawn.of_same s7 g8).1
    have rs8 := rs7.same g8
    have hT8 : T3 K H8 t c s b := Same.tup g8 hT7
    refine ⟨_, rfl, by decide, by decide, for_range (fun i σ H' => (∃ o1 o7 o8 o9, σ = [some (.ref a), o1, some (.ref p), some (.int w1), some (.ref ra), some (.ref t), some (.ref r), o7, o8, o9]) ∧ Drawn p H8 H') ⟨⟨_, _, _, _, rfl⟩, Drawn.refl s8⟩ (fun j σ H9 hj z => ?_) (fun σ H9 z => ?_)⟩
    · obtain ⟨⟨o1', o7', o8', o9', rfl⟩, d9⟩ := z
      refine ⟨_, rfl, _, rfl, p, _, rfl, by omega, by omega, d9.1, fun x d H10 d10 tx ng => ?_⟩
      have e10 := d9.trans d10
      refine ⟨_, rfl, _, rfl, _, rfl, _, rfl, p, ra, dx, l, t, w1, N, x, d, c, s, b, rfl, e10.1, rs8.drawn s8 np e10, np, tx, ng, Drawn.tup s8 e10 hT8, ho, fun H11 d11 => ⟨_, rfl, iteN (by decide) ?_⟩⟩
      have e11 := e10.trans d11
      have rs11 := rs8.drawn s8 np e11
      refine ⟨_, rfl, ra, dx, _, rfl, rs11.r, rfl, ra, dx, l, w1, N, rfl, rs11.r, rs11.c, w11, fun r2 hr2 => ?_⟩
      have g12 := same_new hr2 (.lst ((cellsF N 0 w1).map V.int))
      have k12 : upd H11 r2 (.lst ((cellsF N 0 w1).map V.int)) r2 = some (.lst ((cellsF N 0 w1).map V.int)) := upd_same
      generalize upd H11 r2 (.lst ((cellsF N 0 w1).map V.int)) = H12 at g12 k12 ⊢
      refine ⟨_, rfl, r2, r, _, _, rfl, rfl, SqL.of k12, SqL.of (g12 _ _ (e11.2 _ _ nr k8)), _, rfl, iteN (by simp) ?_⟩
      have e12 := e11.trans (Drawn.of_same e11.1 g12)
      have tx12 : ThP K p H12 x d := tx.go (But.trans d11.2 (But.of g12))
      refine ⟨_, rfl, _, rfl, _, rfl, _, rfl, p, _, rfl, by omega, by omega, e12.1, fun x2 d2 H13 d13 tx2 ng2 => ?_⟩
      have e13 := e12.trans d13
      have rs13 := rs8.drawn s8 np e13
      have tx13 := tx12.go d13.2
      refine ⟨ra, dx, l, w1, N, 2, x, x2, d, d2, some x, rfl, rs13.r, rs13.c, w11, tx13.now.dat, fun _ => tx2.now.dat, .inl ⟨.inr (.inr rfl), ng, rfl⟩, fun r3 H14 g14 hr3 hl3 => ?_⟩
      exact ⟨_, rfl, r3, x, d, rfl, hl3, tx13.now.same g14, fun H15 g15 => ⟨_, rfl, iteN (by decide) ⟨⟨_, _, _, _, rfl⟩, e13.trans (Drawn.of_same e13.1 (g14.trans g15))⟩⟩⟩
    · obtain ⟨⟨o1', o7', o8', o9', rfl⟩, d9⟩ := z
      refine ⟨_, rfl, _, rfl, _, rfl, p, ra, dx, l, w1, N, rfl, d9.1, rs8.drawn s8 np d9, w10, np, fun H11 d11 => ⟨_, rfl, iteN (by decide) ?_⟩⟩
      have e11 := d9.trans d11
      have rs11 := rs8.drawn s8 np e11
      refine ⟨_, rfl, ra, dx, _, rfl, rs11.r, rfl, ra, dx, l, w1, N, rfl, rs11.r, rs11.c, w11, fun r2 hr2 => ?_⟩
      have g12 := same_new hr2 (.lst ((cellsF N 0 w1).map V.int))
      have k12 : upd H11 r2 (.lst ((cellsF N 0 w1).map V.int)) r2 = some (.lst ((cellsF N 0 w1).map V.int)) := upd_same
      generalize upd H11 r2 (.lst ((cellsF N 0 w1).map V.int)) = H12 at g12 k12 ⊢
      refine ⟨_, rfl, r2, r, _, _, rfl, rfl, SqL.of k12, SqL.of (g12 _ _ (e11.2 _ _ nr k8)), _, rfl, iteN (by simp) ?_⟩
      have e12 := e11.trans (Drawn.of_same e11.1 g12)
      refine ⟨_, _, rfl, rfl, (by show 1 ≤ sizeLine; decide), fun q1 hq1 => ?_⟩
      have e13 := e12.new (o := .lst [.int 8]) hq1
      have b13 : But p H12 (upd H12 q1 (.lst [.int 8])) := But.of (same_new hq1 _)
      have k13 : upd H12 q1 (.lst [.int 8]) q1 = some (.lst [.int 8]) := upd_same
      have n13 : q1 ≠ p := e12.1.ne hq1
      generalize upd H12 q1 (.lst [.int 8]) = H13 at e13 b13 k13 ⊢
      refine ⟨(by show 1 ≤ sizeLine; decide), fun q2 hq2 => ?_⟩
      have e14 := e13.new (o := .tup [.int 8]) hq2
      have b14 : But p H13 (upd H13 q2 (.tup [.int 8])) := But.of (same_new hq2 _)
      have k14 : upd H13 q2 (.tup [.int 8]) q2 = some (.tup [.int 8]) := upd_same
      have n14 : q2 ≠ p := e13.1.ne hq2
      generalize upd H13 q2 (.tup [.int 8]) = H14 at e14 b14 k14 ⊢
      refine fun q3 hq3 => ?_
      have e15 := e14.new (o := .dK []) hq3
      have b15 : But p H14 (upd H14 q3 (.dK [])) := But.of (same_new hq3 _)
      have k15 : upd H14 q3 (.dK []) q3 = some (.dK []) := upd_same
      have n15 : q3 ≠ p := e14.1.ne hq3
      generalize upd H14 q3 (.dK []) = H15 at e15 b15 k15 ⊢
      refine ⟨_, _, rfl, rfl, ⟨by decide, by decide, by decide⟩, (by show 10 ≤ sizeLine; decide), fun lm hlm => ?_⟩
      have e16 := e15.new (o := .lst [.int 0, .int 8193, .int (0 - 1), .non, .bl true, .str "8", .ref q1, .ref q2, .ref q3, .int (10 ^ (29 : Int).toNat)]) hlm
      have b16 : But p H15 (upd H15 lm (.lst [.int 0, .int 8193, .int (0 - 1), .non, .bl true, .str "8", .ref q1, .ref q2, .ref q3, .int (10 ^ (29 : Int).toNat)])) := But.of (same_new hlm _)
      have k16 : upd H15 lm (.lst [.int 0, .int 8193, .int (0 - 1), .non, .bl true, .str "8", .ref q1, .ref q2, .ref q3, .int (10 ^ (29 : Int).toNat)]) lm = some (.lst [.int 0, .int 8193, .int (0 - 1), .non, .bl true, .str "8", .ref q1, .ref q2, .ref q3, .int (10 ^ (29 : Int).toNat)]) := upd_same
      have n16 : lm ≠ p := e15.1.ne hlm
      generalize upd H15 lm (.lst [.int 0, .int 8193, .int (0 - 1), .non, .bl true, .str "8", .ref q1, .ref q2, .ref q3, .int (10 ^ (29 : Int).toNat)]) = H16 at e16 b16 k16 ⊢
      refine ⟨_, rfl, p, _, rfl, by decide, by decide, e16.1, fun v H17 v0 v1 d17 => ?_⟩
      have e17 := e16.trans d17
      have k13' := d17.2 _ _ n13 (b16 _ _ n13 (b15 _ _ n13 (b14 _ _ n13 k13)))
      have k14' := d17.2 _ _ n14 (b16 _ _ n14 (b15 _ _ n14 k14))
      have k15' := d17.2 _ _ n15 (b16 _ _ n15 k15)
      have hm : ∃ x d, atI ([.int 0, .int 8193, .int (0 - 1), .non, .bl true, .str "8", .ref q1, .ref q2, .ref q3, .int (10 ^ (29 : Int).toNat)] : List V) v = some x ∧ (∀ H', Same H17 H' → BadW K H' x) ∧ Th K H17 x d ∧ (∀ H', Same H17 H' → (flatV x = true) ∨ (∃ d, Dat K H' x d ∧ SeqAt.shaped d = true) ∨ ∃ a, x = .ref a ∧ H' a = some (.dK [])) := by
        have : v = 0 ∨ v = 1 ∨ v = 2 ∨ v = 3 ∨ v = 4 ∨ v = 5 ∨ v = 6 ∨ v = 7 ∨ v = 8 ∨ v = 9 := by omega
        rcases this with rfl | rfl | rfl | rfl | rfl | rfl | rfl | rfl | rfl | rfl
        · exact ⟨_, _, rfl, fun _ _ => .inl ⟨_, rfl, by decide +kernel⟩, ((TPd.int (p := p) (by decide +kernel)).th (by decide) (by decide)).now, fun _ _ => .inl rfl⟩
        · exact ⟨_, _, rfl, fun _ _ => .inl ⟨_, rfl, by decide +kernel⟩, ((TPd.int (p := p) (by decide +kernel)).th (by decide) (by decide)).now, fun _ _ => .inl rfl⟩
        · exact ⟨_, _, rfl, fun _ _ => .inl ⟨_, rfl, by decide +kernel⟩, ((TPd.int (p := p) (by decide +kernel)).th (by decide) (by decide)).now, fun _ _ => .inl rfl⟩
        · exact ⟨_, _, rfl, fun _ _ => .inr ⟨"NoneType", by decide, .inl rfl⟩, ((TPd.non (p := p)).th (by decide) (by decide)).now, fun _ _ => .inl rfl⟩
        · exact ⟨_, _, rfl, fun _ _ => .inr ⟨"bool", by decide, .inl rfl⟩, ((TPd.bl (p := p) _).th (by decide) (by decide)).now, fun _ _ => .inl rfl⟩
        · exact ⟨_, _, rfl, fun _ _ => .inr ⟨"str", by decide, .inl rfl⟩, ((TPd.str (p := p) ⟨rfl, by decide +kernel, by decide +kernel, by decide, rfl⟩).th (by decide) (by decide)).now, fun _ _ => .inl rfl⟩
        · exact ⟨_, _, rfl, fun _ g => .inr ⟨"list", by decide, .inl (.inl ⟨rfl, _, SqL.of (g _ _ k13')⟩)⟩, ((TPd.lst k13' n13 (TPa.cons (TPd.int (i := 8) (by decide)) TPa.nil)).th (by decide) (by decide)).now, fun _ g => .inr (.inl ⟨_, .lst (SqL.of (g _ _ k13')) (.cons (.int _) .nil), by decide⟩)⟩
        · exact ⟨_, _, rfl, fun _ g => .inr ⟨"tuple", by decide, .inl (.inr ⟨rfl, _, SqT.of (g _ _ k14')⟩)⟩, ((TPd.tup k14' n14 (TPa.cons (TPd.int (i := 8) (by decide)) TPa.nil)).th (by decide) (by decide)).now, fun _ g => .inr (.inl ⟨_, .tup (SqT.of (g _ _ k14')) (.cons (.int _) .nil), by decide⟩)⟩
        · exact ⟨_, _, rfl, fun _ g => .inr ⟨"dict", by decide, .inr ⟨rfl, q3, [], rfl, g _ _ k15'⟩⟩, (ThP.dict k15' n15 (by simp) rfl (by decide) rfl (by decide)).now, fun _ g => .inr (.inr ⟨q3, rfl, g _ _ k15'⟩)⟩
        · exact ⟨_, _, rfl, fun _ _ => .inl ⟨_, rfl, by decide +kernel⟩, ((TPd.int (p := p) (by decide +kernel)).th (by decide) (by decide)).now, fun _ _ => .inl rfl⟩
      obtain ⟨x, d, ex, hb, tx, hxx⟩ := hm
      refine ⟨lm, _, _, _, rfl, rfl, SqL.of (d17.2 lm _ n16 k16), ex, ?_⟩
      refine ⟨_, rfl, x, d, rfl, hb, tx, hxx, fun H18 g18 => ⟨_, rfl, iteN (by decide) ?_⟩⟩
      refine fun ra2 dx2 hx2 hd2 _ => ⟨ra2, dx2, .int 1, rfl, upd_same, .inl ⟨1, rfl, by decide, by decide, fun l2 H19 hl2 hk2 hR2 hC2 => ⟨rfl, ra2, dx2, _, rfl, hR2, rfl, ra2, dx2, l2, 1, 0, rfl, hR2, hC2, by decide, fun r4 hr4 => ?_⟩⟩⟩
      obtain ⟨g19, _⟩ := made_room hx2 hd2 hl2 hk2
      have g20 := same_new hr4 (.lst ((cellsF 0 0 1).map V.int))
      have k20 : upd H19 r4 (.lst ((cellsF 0 0 1).map V.int)) r4 = some (.lst ((cellsF 0 0 1).map V.int)) := upd_same
      generalize upd H19 r4 (.lst ((cellsF 0 0 1).map V.int)) = H20 at g20 k20 ⊢
      refine ⟨(by show 1 ≤ sizeLine; decide), fun z0 hz0 => ?_⟩
      have g21 := same_new hz0 (.lst [.int 0])
      have k21 : upd H20 z0 (.lst [.int 0]) z0 = some (.lst (([0] : List Int).map V.int)) := upd_same
      generalize upd H20 z0 (.lst [.int 0]) = H21 at g21 k21 ⊢
      refine ⟨r4, z0, cellsF 0 0 1, [0], rfl, rfl, SqL.of (g21 _ _ k20), SqL.of k21, _, rfl, iteN (by decide) ?_⟩
      refine fun ra3 dx3 hx3 hd3 _ => ⟨ra3, dx3, .int 8192, rfl, upd_same, .inl ⟨8192, rfl, by decide, by decide, fun l3 H22 hl3 hk3 hR3 hC3 => ⟨rfl, ra3, C_Room, dx3, _, _, rfl, hR3, T_Room.cl, T_Room.na _ (by decide), rfl, rfl, _, rfl, iteN (by decide) ?_⟩⟩⟩
      obtain ⟨g22, _⟩ := made_room hx3 hd3 hl3 hk3
      have gH17 : Same H' H17 := fun y o z => e17.2 y o (ne_of_none z hp) (g8 _ _ (gH7 _ _ z))
      exact ⟨⟨_, _, _, _, _, _, _, _, _, rfl⟩, g.trans (gH17.trans (g18.trans (g19.trans (g20.trans (g21.trans g22)))))⟩
end
end K06

namespace K06
open PySem L2 PyProof.Rows
theorem all_mk {l : PySem.W.OpenLaw} {w : World} {K : PySem.W.Frag} {h : Heap} {mg : Str → Option Value} {fa f0 f1 f2 f3 f4 f5 f6 f7 f8 f9 f10 f11 f12 f13 f14 f15 f16 f17 f18 f19 f20 f21 f22 f23 f24 f25 f26 f27 f28 f29 f30 f31 C_Room C_RoomError C_NoPlace C_NoRoom : Addr} (X : K.In h) (G : h.Ns mainGlobals mg) (hfa : mg "law" = some (.ref fa))
    {od0 an0 od1 an1 od2 an2 od3 an3 od4 an4 od5 an5 od6 an6 od7 an7 od8 an8 od9 an9 od10 an10 od11 an11 od12 an12 od13 an13 od14 an14 od15 an15 od16 an16 od17 an17 od18 an18 od19 an19 od20 an20 od21 an21 od22 an22 od23 an23 od24 an24 od25 an25 od26 an26 od27 an27 od28 an28 od29 an29 od30 an30 od31 an31 : Option Addr} {sl0 sl1 sl2 sl3 sl4 sl5 sl6 sl7 sl8 sl9 sl10 sl11 sl12 sl13 sl14 sl15 sl16 sl17 sl18 sl19 sl20 sl21 sl22 sl23 sl24 sl25 sl26 sl27 sl28 sl29 sl30 sl31 : Array (Option Value)} {oc0 kV0 dc0 pm0 cd0 ct0 oc1 kV1 dc1 pm1 cd1 ct1 oc2 kV2 dc2 pm2 cd2 ct2 oc3 kV3 dc3 pm3 cd3 ct3 oc4 kV4 dc4 pm4 cd4 ct4 oc5 kV5 dc5 pm5 cd5 ct5 oc6 kV6 dc6 pm6 cd6 ct6 oc7 kV7 dc7 pm7 cd7 ct7 oc8 kV8 dc8 pm8 cd8 ct8 oc9 kV9 dc9 pm9 cd9 ct9 oc10 kV10 dc10 pm10 cd10 ct10 oc11 kV11 dc11 pm11 cd11 ct11 oc12 kV12 dc12 pm12 cd12 ct12 oc13 kV13 dc13 pm13 cd13 ct13 oc14 kV14 dc14 pm14 cd14 ct14 oc15 kV15 dc15 pm15 cd15 ct15 oc16 kV16 dc16 pm16 cd16 ct16 oc17 kV17 dc17 pm17 cd17 ct17 oc18 kV18 dc18 pm18 cd18 ct18 oc19 kV19 dc19 pm19 cd19 ct19 oc20 kV20 dc20 pm20 cd20 ct20 oc21 kV21 dc21 pm21 cd21 ct21 oc22 kV22 dc22 pm22 cd22 ct22 oc23 kV23 dc23 pm23 cd23 ct23 oc24 kV24 dc24 pm24 cd24 ct24 oc25 kV25 dc25 pm25 cd25 ct25 oc26 kV26 dc26 pm26 cd26 ct26 oc27 kV27 dc27 pm27 cd27 ct27 oc28 kV28 dc28 pm28 cd28 ct28 oc29 kV29 dc29 pm29 cd29 ct29 oc30 kV30 dc30 pm30 cd30 ct30 oc31 kV31 dc31 pm31 cd31 ct31 : Value} {t1 t2 t3 t4 u0 u1 u2 u3 : Tok} {ts : Addr} {odt : Option Addr} {nt : Nat} {slt : Array (Option Value)} {xn0 xq0 : Str} {xN0 : Addr} {xb0 xs0 : List Value} {xl0 : List Str} {xa0 : Bool} {xc0 : Option Bool} {xd0 : Option Addr} {x00 x10 x20 x30 x50 : Option Value} {xn1 xq1 : Str} {xN1 : Addr} {xb1 xs1 : List Value} {xl1 : List Str} {xa1 : Bool} {xc1 : Option Bool} {xd1 : Option Addr} {x01 x11 x21 x31 x51 : Option Value} {xn2 xq2 : Str} {xN2 : Addr} {xb2 xs2 : List Value} {xl2 : List Str} {xa2 : Bool} {xc2 : Option Bool} {xd2 : Option Addr} {x02 x12 x22 x32 x52 : Option Value}
    (g_Room : PySem.W.nsIn K mainGlobals "Room" = some (some (.ref C_Room)))
    (g_RoomError : PySem.W.nsIn K mainGlobals "RoomError" = some (some (.ref C_RoomError)))
    (g_NoPlace : PySem.W.nsIn K mainGlobals "NoPlace" = some (some (.ref C_NoPlace)))
    (g_NoRoom : PySem.W.nsIn K mainGlobals "NoRoom" = some (some (.ref C_NoRoom)))
    (a0 : PySem.W.findIn K (.ref C_RoomError) "__init__" = some (some (.ref f0)))
    (i0 : PySem.W.isFn K (.ref f0) = true)
    (l0 : K.lookup f0 = some ⟨oc0, od0, .func (PySem.W.fnOf "__init__" "RoomError.__init__" (defArgs s_RoomError_init) (defBody s_RoomError_init) (defScope s_RoomError_init) .none kV0 dc0 pm0 an0 cd0 ct0), sl0⟩)
    (c0 : PySem.W.codeIn K cd0 "RoomError.__init__" = true)
    (k0 : PySem.W.keepIn K (.ref f0) = true)
    (a1 : PySem.W.findIn K (.ref C_NoRoom) "__init__" = some (some (.ref f1)))
    (i1 : PySem.W.isFn K (.ref f1) = true)
    (l1 : K.lookup f1 = some ⟨oc1, od1, .func (PySem.W.fnOf "__init__" "NoRoom.__init__" (defArgs s_NoRoom_init) (defBody s_NoRoom_init) (defScope s_NoRoom_init) .none kV1 dc1 pm1 an1 cd1 ct1), sl1⟩)
    (c1 : PySem.W.codeIn K cd1 "NoRoom.__init__" = true)
    (k1 : PySem.W.keepIn K (.ref f1) = true)
    (a2 : PySem.W.findIn K (.ref C_NoPlace) "__init__" = some (some (.ref f2)))
    (i2 : PySem.W.isFn K (.ref f2) = true)
    (l2 : K.lookup f2 = some ⟨oc2, od2, .func (PySem.W.fnOf "__init__" "NoPlace.__init__" (defArgs s_NoPlace_init) (defBody s_NoPlace_init) (defScope s_NoPlace_init) .none kV2 dc2 pm2 an2 cd2 ct2), sl2⟩)
    (c2 : PySem.W.codeIn K cd2 "NoPlace.__init__" = true)
    (k2 : PySem.W.keepIn K (.ref f2) = true)
    (a3 : PySem.W.nsIn K mainGlobals "is_whole" = some (some (.ref f3)))
    (l3 : K.lookup f3 = some ⟨oc3, od3, .func (PySem.W.fnOf "is_whole" "is_whole" (defArgs s_is_whole) (defBody s_is_whole) (defScope s_is_whole) .none kV3 dc3 pm3 an3 cd3 ct3), sl3⟩)
    (c3 : PySem.W.codeIn K cd3 "is_whole" = true)
    (k3 : PySem.W.keepIn K (.ref f3) = true)
    (a4 : PySem.W.nsIn K mainGlobals "is_between" = some (some (.ref f4)))
    (l4 : K.lookup f4 = some ⟨oc4, od4, .func (PySem.W.fnOf "is_between" "is_between" (defArgs s_is_between) (defBody s_is_between) (defScope s_is_between) .none kV4 dc4 pm4 an4 cd4 ct4), sl4⟩)
    (c4 : PySem.W.codeIn K cd4 "is_between" = true)
    (k4 : PySem.W.keepIn K (.ref f4) = true)
    (a5 : PySem.W.nsIn K mainGlobals "cells_of" = some (some (.ref f5)))
    (l5 : K.lookup f5 = some ⟨oc5, od5, .func (PySem.W.fnOf "cells_of" "cells_of" (defArgs s_cells_of) (defBody s_cells_of) (defScope s_cells_of) .none kV5 dc5 pm5 an5 cd5 ct5), sl5⟩)
    (c5 : PySem.W.codeIn K cd5 "cells_of" = true)
    (k5 : PySem.W.keepIn K (.ref f5) = true)
    (a6 : PySem.W.nsIn K mainGlobals "word_of" = some (some (.ref f6)))
    (l6 : K.lookup f6 = some ⟨oc6, od6, .func (PySem.W.fnOf "word_of" "word_of" (defArgs s_word_of) (defBody s_word_of) (defScope s_word_of) .none kV6 dc6 pm6 an6 cd6 ct6), sl6⟩)
    (c6 : PySem.W.codeIn K cd6 "word_of" = true)
    (k6 : PySem.W.keepIn K (.ref f6) = true)
    (a7 : PySem.W.nsIn K mainGlobals "is_place" = some (some (.ref f7)))
    (l7 : K.lookup f7 = some ⟨oc7, od7, .func (PySem.W.fnOf "is_place" "is_place" (defArgs s_is_place) (defBody s_is_place) (defScope s_is_place) .none kV7 dc7 pm7 an7 cd7 ct7), sl7⟩)
    (c7 : PySem.W.codeIn K cd7 "is_place" = true)
    (k7 : PySem.W.keepIn K (.ref f7) = true)
    (a8 : PySem.W.nsIn K mainGlobals "is_packed" = some (some (.ref f8)))
    (l8 : K.lookup f8 = some ⟨oc8, od8, .func (PySem.W.fnOf "is_packed" "is_packed" (defArgs s_is_packed) (defBody s_is_packed) (defScope s_is_packed) .none kV8 dc8 pm8 an8 cd8 ct8), sl8⟩)
    (c8 : PySem.W.codeIn K cd8 "is_packed" = true)
    (k8 : PySem.W.keepIn K (.ref f8) = true)
    (a9 : PySem.W.nsIn K mainGlobals "is_whole_cells" = some (some (.ref f9)))
    (l9 : K.lookup f9 = some ⟨oc9, od9, .func (PySem.W.fnOf "is_whole_cells" "is_whole_cells" (defArgs s_is_whole_cells) (defBody s_is_whole_cells) (defScope s_is_whole_cells) .none kV9 dc9 pm9 an9 cd9 ct9), sl9⟩)
    (c9 : PySem.W.codeIn K cd9 "is_whole_cells" = true)
    (k9 : PySem.W.keepIn K (.ref f9) = true)
    (a10 : PySem.W.nsIn K mainGlobals "need_place" = some (some (.ref f10)))
    (l10 : K.lookup f10 = some ⟨oc10, od10, .func (PySem.W.fnOf "need_place" "need_place" (defArgs s_need_place) (defBody s_need_place) (defScope s_need_place) .none kV10 dc10 pm10 an10 cd10 ct10), sl10⟩)
    (c10 : PySem.W.codeIn K cd10 "need_place" = true)
    (k10 : PySem.W.keepIn K (.ref f10) = true)
    (a11 : PySem.W.nsIn K mainGlobals "cells_in" = some (some (.ref f11)))
    (l11 : K.lookup f11 = some ⟨oc11, od11, .func (PySem.W.fnOf "cells_in" "cells_in" (defArgs s_cells_in) (defBody s_cells_in) (defScope s_cells_in) .none kV11 dc11 pm11 an11 cd11 ct11), sl11⟩)
    (c11 : PySem.W.codeIn K cd11 "cells_in" = true)
    (k11 : PySem.W.keepIn K (.ref f11) = true)
    (a12 : PySem.W.nsIn K mainGlobals "shares" = some (some (.ref f12)))
    (l12 : K.lookup f12 = some ⟨oc12, od12, .func (PySem.W.fnOf "shares" "shares" (defArgs s_shares) (defBody s_shares) (defScope s_shares) .none kV12 dc12 pm12 an12 cd12 ct12), sl12⟩)
    (c12 : PySem.W.codeIn K cd12 "shares" = true)
    (k12 : PySem.W.keepIn K (.ref f12) = true)
    (a13 : PySem.W.nsIn K mainGlobals "first_bit" = some (some (.ref f13)))
    (l13 : K.lookup f13 = some ⟨oc13, od13, .func (PySem.W.fnOf "first_bit" "first_bit" (defArgs s_first_bit) (defBody s_first_bit) (defScope s_first_bit) .none kV13 dc13 pm13 an13 cd13 ct13), sl13⟩)
    (c13 : PySem.W.codeIn K cd13 "first_bit" = true)
    (k13 : PySem.W.keepIn K (.ref f13) = true)
    (a14 : PySem.W.nsIn K mainGlobals "bit_behind" = some (some (.ref f14)))
    (l14 : K.lookup f14 = some ⟨oc14, od14, .func (PySem.W.fnOf "bit_behind" "bit_behind" (defArgs s_bit_behind) (defBody s_bit_behind) (defScope s_bit_behind) .none kV14 dc14 pm14 an14 cd14 ct14), sl14⟩)
    (c14 : PySem.W.codeIn K cd14 "bit_behind" = true)
    (k14 : PySem.W.keepIn K (.ref f14) = true)
    (a15 : PySem.W.findIn K (.ref C_Room) "__init__" = some (some (.ref f15)))
    (i15 : PySem.W.isFn K (.ref f15) = true)
    (l15 : K.lookup f15 = some ⟨oc15, od15, .func (PySem.W.fnOf "__init__" "Room.__init__" (defArgs s_Room_init) (defBody s_Room_init) (defScope s_Room_init) .none kV15 dc15 pm15 an15 cd15 ct15), sl15⟩)
    (c15 : PySem.W.codeIn K cd15 "Room.__init__" = true)
    (k15 : PySem.W.keepIn K (.ref f15) = true)
    (a16 : PySem.W.findIn K (.ref C_Room) "taken" = some (some (.ref f16)))
    (i16 : PySem.W.isFn K (.ref f16) = true)
    (l16 : K.lookup f16 = some ⟨oc16, od16, .func (PySem.W.fnOf "taken" "Room.taken" (defArgs s_Room_taken) (defBody s_Room_taken) (defScope s_Room_taken) .none kV16 dc16 pm16 an16 cd16 ct16), sl16⟩)
    (c16 : PySem.W.codeIn K cd16 "Room.taken" = true)
    (k16 : PySem.W.keepIn K (.ref f16) = true)
    (a17 : PySem.W.findIn K (.ref C_Room) "left" = some (some (.ref f17)))
    (i17 : PySem.W.isFn K (.ref f17) = true)
    (l17 : K.lookup f17 = some ⟨oc17, od17, .func (PySem.W.fnOf "left" "Room.left" (defArgs s_Room_left) (defBody s_Room_left) (defScope s_Room_left) .none kV17 dc17 pm17 an17 cd17 ct17), sl17⟩)
    (c17 : PySem.W.codeIn K cd17 "Room.left" = true)
    (k17 : PySem.W.keepIn K (.ref f17) = true)
    (a18 : PySem.W.findIn K (.ref C_Room) "cells" = some (some (.ref f18)))
    (i18 : PySem.W.isFn K (.ref f18) = true)
    (l18 : K.lookup f18 = some ⟨oc18, od18, .func (PySem.W.fnOf "cells" "Room.cells" (defArgs s_Room_cells) (defBody s_Room_cells) (defScope s_Room_cells) .none kV18 dc18 pm18 an18 cd18 ct18), sl18⟩)
    (c18 : PySem.W.codeIn K cd18 "Room.cells" = true)
    (k18 : PySem.W.keepIn K (.ref f18) = true)
    (a19 : PySem.W.findIn K (.ref C_Room) "numbers_within" = some (some (.ref f19)))
    (i19 : PySem.W.isFn K (.ref f19) = true)
    (l19 : K.lookup f19 = some ⟨oc19, od19, .func (PySem.W.fnOf "numbers_within" "Room.numbers_within" (defArgs s_Room_numbers_within) (defBody s_Room_numbers_within) (defScope s_Room_numbers_within) .none kV19 dc19 pm19 an19 cd19 ct19), sl19⟩)
    (c19 : PySem.W.codeIn K cd19 "Room.numbers_within" = true)
    (k19 : PySem.W.keepIn K (.ref f19) = true)
    (a20 : PySem.W.findIn K (.ref C_Room) "kept_in" = some (some (.ref f20)))
    (i20 : PySem.W.isFn K (.ref f20) = true)
    (l20 : K.lookup f20 = some ⟨oc20, od20, .func (PySem.W.fnOf "kept_in" "Room.kept_in" (defArgs s_Room_kept_in) (defBody s_Room_kept_in) (defScope s_Room_kept_in) .none kV20 dc20 pm20 an20 cd20 ct20), sl20⟩)
    (c20 : PySem.W.codeIn K cd20 "Room.kept_in" = true)
    (k20 : PySem.W.keepIn K (.ref f20) = true)
    (a21 : PySem.W.nsIn K mainGlobals "_law_cell" = some (some (.ref f21)))
    (l21 : K.lookup f21 = some ⟨oc21, od21, .func (PySem.W.fnOf "_law_cell" "_law_cell" (defArgs s_law_cell) (defBody s_law_cell) (defScope s_law_cell) .none kV21 dc21 pm21 an21 cd21 ct21), sl21⟩)
    (c21 : PySem.W.codeIn K cd21 "_law_cell" = true)
    (k21 : PySem.W.keepIn K (.ref f21) = true)
    (a22 : PySem.W.nsIn K mainGlobals "_law_begun" = some (some (.ref f22)))
    (l22 : K.lookup f22 = some ⟨oc22, od22, .func (PySem.W.fnOf "_law_begun" "_law_begun" (defArgs s_law_begun) (defBody s_law_begun) (defScope s_law_begun) .none kV22 dc22 pm22 an22 cd22 ct22), sl22⟩)
    (c22 : PySem.W.codeIn K cd22 "_law_begun" = true)
    (k22 : PySem.W.keepIn K (.ref f22) = true)
    (a23 : PySem.W.nsIn K mainGlobals "_law_draw" = some (some (.ref f23)))
    (l23 : K.lookup f23 = some ⟨oc23, od23, .func (PySem.W.fnOf "_law_draw" "_law_draw" (defArgs s_law_draw) (defBody s_law_draw) (defScope s_law_draw) .none kV23 dc23 pm23 an23 cd23 ct23), sl23⟩)
    (c23 : PySem.W.codeIn K cd23 "_law_draw" = true)
    (k23 : PySem.W.keepIn K (.ref f23) = true)
    (a24 : PySem.W.nsIn K mainGlobals "_law_place" = some (some (.ref f24)))
    (l24 : K.lookup f24 = some ⟨oc24, od24, .func (PySem.W.fnOf "_law_place" "_law_place" (defArgs s_law_place) (defBody s_law_place) (defScope s_law_place) .none kV24 dc24 pm24 an24 cd24 ct24), sl24⟩)
    (c24 : PySem.W.codeIn K cd24 "_law_place" = true)
    (k24 : PySem.W.keepIn K (.ref f24) = true)
    (a25 : PySem.W.nsIn K mainGlobals "_law_told" = some (some (.ref f25)))
    (l25 : K.lookup f25 = some ⟨oc25, od25, .func (PySem.W.fnOf "_law_told" "_law_told" (defArgs s_law_told) (defBody s_law_told) (defScope s_law_told) .none kV25 dc25 pm25 an25 cd25 ct25), sl25⟩)
    (c25 : PySem.W.codeIn K cd25 "_law_told" = true)
    (k25 : PySem.W.keepIn K (.ref f25) = true)
    (a26 : PySem.W.nsIn K mainGlobals "_law_same" = some (some (.ref f26)))
    (l26 : K.lookup f26 = some ⟨oc26, od26, .func (PySem.W.fnOf "_law_same" "_law_same" (defArgs s_law_same) (defBody s_law_same) (defScope s_law_same) .none kV26 dc26 pm26 an26 cd26 ct26), sl26⟩)
    (c26 : PySem.W.codeIn K cd26 "_law_same" = true)
    (k26 : PySem.W.keepIn K (.ref f26) = true)
    (a27 : PySem.W.nsIn K mainGlobals "_law_bad" = some (some (.ref f27)))
    (l27 : K.lookup f27 = some ⟨oc27, od27, .func (PySem.W.fnOf "_law_bad" "_law_bad" (defArgs s_law_bad) (defBody s_law_bad) (defScope s_law_bad) .none kV27 dc27 pm27 an27 cd27 ct27), sl27⟩)
    (c27 : PySem.W.codeIn K cd27 "_law_bad" = true)
    (k27 : PySem.W.keepIn K (.ref f27) = true)
    (a28 : PySem.W.nsIn K mainGlobals "_law_all_doors" = some (some (.ref f28)))
    (l28 : K.lookup f28 = some ⟨oc28, od28, .func (PySem.W.fnOf "_law_all_doors" "_law_all_doors" (defArgs s_law_all_doors) (defBody s_law_all_doors) (defScope s_law_all_doors) .none kV28 dc28 pm28 an28 cd28 ct28), sl28⟩)
    (c28 : PySem.W.codeIn K cd28 "_law_all_doors" = true)
    (k28 : PySem.W.keepIn K (.ref f28) = true)
    (a29 : PySem.W.nsIn K mainGlobals "_law_past" = some (some (.ref f29)))
    (l29 : K.lookup f29 = some ⟨oc29, od29, .func (PySem.W.fnOf "_law_past" "_law_past" (defArgs s_law_past) (defBody s_law_past) (defScope s_law_past) .none kV29 dc29 pm29 an29 cd29 ct29), sl29⟩)
    (c29 : PySem.W.codeIn K cd29 "_law_past" = true)
    (k29 : PySem.W.keepIn K (.ref f29) = true)
    (a30 : PySem.W.nsIn K mainGlobals "_law_no_room" = some (some (.ref f30)))
    (l30 : K.lookup f30 = some ⟨oc30, od30, .func (PySem.W.fnOf "_law_no_room" "_law_no_room" (defArgs s_law_no_room) (defBody s_law_no_room) (defScope s_law_no_room) .none kV30 dc30 pm30 an30 cd30 ct30), sl30⟩)
    (c30 : PySem.W.codeIn K cd30 "_law_no_room" = true)
    (k30 : PySem.W.keepIn K (.ref f30) = true)
    (a31 : PySem.W.nsIn K mainGlobals "law" = some (some (.ref f31)))
    (l31 : K.lookup f31 = some ⟨oc31, od31, .func (PySem.W.fnOf "law" "law" (defArgs s_law) (defBody s_law) (defScope s_law) .none kV31 dc31 pm31 an31 cd31 ct31), sl31⟩)
    (c31 : PySem.W.codeIn K cd31 "law" = true)
    (k31 : PySem.W.keepIn K (.ref f31) = true)
    (pg_Room : PySem.W.plainGet K C_Room Str.empty = true)
    (hd_Room : PySem.W.hasDictIn K C_Room = true)
    (po_Room : PySem.W.plainOver K C_Room = true)
    (sa_Room : PySem.W.findIn K (.ref C_Room) "__setattr__" = some (some (.builtin "object.__setattr__")))
    (mk_Room : PySem.W.makesIn K C_Room = true)
    (kc_Room : PySem.W.keepIn K (.ref C_Room) = true)
    (n_Room_wide : PySem.W.findIn K (.ref C_Room) "wide" = some none)
    (n_Room_held : PySem.W.findIn K (.ref C_Room) "held" = some none)
    (xo_RoomError : K.lookup C_RoomError = some (xcls xn0 xq0 C_RoomError xN0 xb0 VB true xl0 xs0 xa0 xc0 xd0 x00 x10 x20 x30 x50))
    (xk_RoomError : PySem.W.keepIn K (.ref C_RoomError) = true)
    (xr : PySem.W.readsIn K C_RoomError (.type "type") = true)
    (xf : PySem.W.findCls K (.ref C_RoomError) (.type "type") "__init__" = some (.val (.ref f0)))
    (xp : PySem.W.specialIn K (.ref C_RoomError) "__getattribute__" = some (some (.builtin "type.__getattribute__")))
    (xo_NoPlace : K.lookup C_NoPlace = some (xcls xn1 xq1 C_NoPlace xN1 xb1 (.ref C_RoomError :: VB) true xl1 xs1 xa1 xc1 xd1 x01 x11 x21 x31 x51))
    (xk_NoPlace : PySem.W.keepIn K (.ref C_NoPlace) = true)
    (xn_NoPlace : PySem.W.nsOkIn K xN1 = true)
    (xi_NoPlace : PySem.W.nsIn K xN1 "__init__" = some (some (.ref f2)))
    (xs_NoPlace : PySem.W.findIn K (.ref C_NoPlace) "__setattr__" = some (some (.builtin "object.__setattr__")))
    (xg_NoPlace : PySem.W.findIn K (.ref C_NoPlace) "__getattribute__" = some (some (.builtin "BaseException.__getattribute__")))
    (xh_NoPlace : PySem.W.findIn K (.ref C_NoPlace) "__getattr__" = some none)
    (n_NoPlace_found : PySem.W.findIn K (.ref C_NoPlace) "found" = some none)
    (xo_NoRoom : K.lookup C_NoRoom = some (xcls xn2 xq2 C_NoRoom xN2 xb2 (.ref C_RoomError :: VB) true xl2 xs2 xa2 xc2 xd2 x02 x12 x22 x32 x52))
    (xk_NoRoom : PySem.W.keepIn K (.ref C_NoRoom) = true)
    (xn_NoRoom : PySem.W.nsOkIn K xN2 = true)
    (xi_NoRoom : PySem.W.nsIn K xN2 "__init__" = some (some (.ref f1)))
    (xs_NoRoom : PySem.W.findIn K (.ref C_NoRoom) "__setattr__" = some (some (.builtin "object.__setattr__")))
    (xg_NoRoom : PySem.W.findIn K (.ref C_NoRoom) "__getattribute__" = some (some (.builtin "BaseException.__getattribute__")))
    (xh_NoRoom : PySem.W.findIn K (.ref C_NoRoom) "__getattr__" = some none)
    (n_NoRoom_found : PySem.W.findIn K (.ref C_NoRoom) "found" = some none)
    (vi1 : PySem.W.findIn K (.type "type") "__getattribute__" = some (some (.builtin "type.__getattribute__")))
    (vi2 : PySem.W.subIn K (.type "type") (.type "type") = some true)
    (vi3 : PySem.W.findCls K (.type "ValueError") (.type "type") "__init__" = some (.val (.builtin "ValueError.__init__")))
    (z0 : PySem.W.nsIn K mainGlobals "range" = some none)
    (z1 : PySem.W.nsIn K mainGlobals "len" = some none)
    (z2 : PySem.W.nsIn K mainGlobals "isinstance" = some none)
    (z3 : PySem.W.nsIn K mainGlobals "int" = some none)
    (z4 : PySem.W.nsIn K mainGlobals "bool" = some none)
    (z5 : PySem.W.nsIn K mainGlobals "list" = some none)
    (z6 : PySem.W.nsIn K mainGlobals "all" = some none)
    (z7 : PySem.W.nsIn K mainGlobals "max" = some none)
    (z8 : PySem.W.nsIn K mainGlobals "min" = some none)
    (z9 : PySem.W.nsIn K mainGlobals "reversed" = some none)
    (z10 : PySem.W.nsIn K mainGlobals "tuple" = some none)
    (z11 : PySem.W.nsIn K mainGlobals "divmod" = some none)
    (z12 : PySem.W.nsIn K mainGlobals "ValueError" = some none)
    (z13 : PySem.W.nsIn K mainGlobals "repr" = some none)
    (v1 : PySem.W.nsIn K mainGlobals "CELL_BITS" = some (some (.int 8 t1))) (v2 : PySem.W.nsIn K mainGlobals "MOST_PLACE_CELLS" = some (some (.int 64 t2))) (v3 : PySem.W.nsIn K mainGlobals "TAG_BITS" = some (some (.int 2 t3))) (v6 : PySem.W.nsIn K mainGlobals "MOST_ROOM_CELLS" = some (some (.int 8192 t4)))
    (v4 : PySem.W.nsIn K mainGlobals "TAG_SHIFTS" = some (some (.ref ts))) (v5 : K.lookup ts = some ⟨.type "tuple", odt, .seq #[.int 0 u0, .int 2 u1, .int 4 u2, .int 6 u3] nt, slt⟩)
    (y1 : PySem.W.findIn K (.ref C_NoRoom) "__class__" = some (some (.builtin "object.__class__"))) (y2 : PySem.W.specialIn K (.builtin "object.__class__") "__get__" = some (some (.builtin "getset_descriptor.__get__"))) (y3 : PySem.W.takesIn K (.builtin "object.__class__") = some true)
    (y4 : PySem.W.mroIn K C_NoRoom (.type "object") = some true) (y5 : PySem.W.kin_not K C_NoRoom C_NoPlace = true) :
    ∃ fd : FuncData, (∀ (s : Shared) (v : Value), BindsTo s fd ⟨[v], []⟩ [("_law_script", v)]) ∧ ∀ base : Heap, K.In base → base.Ns mainGlobals mg → FnOk l.prog w K mg base CX0 18 fa fd ["_law_script"] (spLaw K) := by
  have e := hfa.symm.trans (PySem.W.mg_of X G a31)
  cases e
  have F0 := fun_mk (st := s_RoomError_init) l0 c0 k0
  have D0 : DfI K _ ["self", "words"] := ⟨F0.binds (ps := ["self", "words"]) fun _ _ _ _ _ _ us hl => match us, hl with | [_, _], _ => rfl⟩
  have F1 := fun_mk (st := s_NoRoom_init) l1 c1 k1
  have D1 : DfI K _ ["self", "found"] := ⟨F1.binds (ps := ["self", "found"]) fun _ _ _ _ _ _ us hl => match us, hl with | [_, _], _ => rfl⟩
  have F2 := fun_mk (st := s_NoPlace_init) l2 c2 k2
  have D2 : DfI K _ ["self", "found"] := ⟨F2.binds (ps := ["self", "found"]) fun _ _ _ _ _ _ us hl => match us, hl with | [_, _], _ => rfl⟩
  have F3 := fun_mk (st := s_is_whole) l3 c3 k3
  have D3 : Df K mg "is_whole" f3 _ ["thing"] := ⟨PySem.W.mg_of X G a3, k3, F3.binds (ps := ["thing"]) fun _ _ _ _ _ _ us hl => match us, hl with | [_], _ => rfl⟩
  have F4 := fun_mk (st := s_is_between) l4 c4 k4
  have D4 : Df K mg "is_between" f4 _ ["thing", "low", "high"] := ⟨PySem.W.mg_of X G a4, k4, F4.binds (ps := ["thing", "low", "high"]) fun _ _ _ _ _ _ us hl => match us, hl with | [_, _, _], _ => rfl⟩
  have F5 := fun_mk (st := s_cells_of) l5 c5 k5
  have D5 : Df K mg "cells_of" f5 _ ["word", "width"] := ⟨PySem.W.mg_of X G a5, k5, F5.binds (ps := ["word", "width"]) fun _ _ _ _ _ _ us hl => match us, hl with | [_, _], _ => rfl⟩
  have F6 := fun_mk (st := s_word_of) l6 c6 k6
  have D6 : Df K mg "word_of" f6 _ ["cells"] := ⟨PySem.W.mg_of X G a6, k6, F6.binds (ps := ["cells"]) fun _ _ _ _ _ _ us hl => match us, hl with | [_], _ => rfl⟩
  have F7 := fun_mk (st := s_is_place) l7 c7 k7
  have D7 : Df K mg "is_place" f7 _ ["thing"] := ⟨PySem.W.mg_of X G a7, k7, F7.binds (ps := ["thing"]) fun _ _ _ _ _ _ us hl => match us, hl with | [_], _ => rfl⟩
  have F8 := fun_mk (st := s_is_packed) l8 c8 k8
  have D8 : Df K mg "is_packed" f8 _ ["shift", "bits"] := ⟨PySem.W.mg_of X G a8, k8, F8.binds (ps := ["shift", "bits"]) fun _ _ _ _ _ _ us hl => match us, hl with | [_, _], _ => rfl⟩
  have F9 := fun_mk (st := s_is_whole_cells) l9 c9 k9
  have D9 : Df K mg "is_whole_cells" f9 _ ["shift", "bits"] := ⟨PySem.W.mg_of X G a9, k9, F9.binds (ps := ["shift", "bits"]) fun _ _ _ _ _ _ us hl => match us, hl with | [_, _], _ => rfl⟩
  have F10 := fun_mk (st := s_need_place) l10 c10 k10
  have D10 : Df K mg "need_place" f10 _ ["thing"] := ⟨PySem.W.mg_of X G a10, k10, F10.binds (ps := ["thing"]) fun _ _ _ _ _ _ us hl => match us, hl with | [_], _ => rfl⟩
  have F11 := fun_mk (st := s_cells_in) l11 c11 k11
  have D11 : Df K mg "cells_in" f11 _ ["place"] := ⟨PySem.W.mg_of X G a11, k11, F11.binds (ps := ["place"]) fun _ _ _ _ _ _ us hl => match us, hl with | [_], _ => rfl⟩
  have F12 := fun_mk (st := s_shares) l12 c12 k12
  have D12 : Df K mg "shares" f12 _ ["one", "other"] := ⟨PySem.W.mg_of X G a12, k12, F12.binds (ps := ["one", "other"]) fun _ _ _ _ _ _ us hl => match us, hl with | [_, _], _ => rfl⟩
  have F13 := fun_mk (st := s_first_bit) l13 c13 k13
  have D13 : Df K mg "first_bit" f13 _ ["place"] := ⟨PySem.W.mg_of X G a13, k13, F13.binds (ps := ["place"]) fun _ _ _ _ _ _ us hl => match us, hl with | [_], _ => rfl⟩
  have F14 := fun_mk (st := s_bit_behind) l14 c14 k14
  have D14 : Df K mg "bit_behind" f14 _ ["place"] := ⟨PySem.W.mg_of X G a14, k14, F14.binds (ps := ["place"]) fun _ _ _ _ _ _ us hl => match us, hl with | [_], _ => rfl⟩
  have F15 := fun_mk (st := s_Room_init) l15 c15 k15
  have D15 : DfI K _ ["self", "wide"] := ⟨F15.binds (ps := ["self", "wide"]) fun _ _ _ _ _ _ us hl => match us, hl with | [_, _], _ => rfl⟩
  have F16 := fun_mk (st := s_Room_taken) l16 c16 k16
  have D16 : DfM K C_Room "taken" f16 _ ["self", "place"] := ⟨⟨a16, i16, k16⟩, F16.binds (ps := ["self", "place"]) fun _ _ _ _ _ _ us hl => match us, hl with | [_, _], _ => rfl⟩
  have F17 := fun_mk (st := s_Room_left) l17 c17 k17
  have D17 : DfM K C_Room "left" f17 _ ["self", "place", "number"] := ⟨⟨a17, i17, k17⟩, F17.binds (ps := ["self", "place", "number"]) fun _ _ _ _ _ _ us hl => match us, hl with | [_, _, _], _ => rfl⟩
  have F18 := fun_mk (st := s_Room_cells) l18 c18 k18
  have D18 : DfM K C_Room "cells" f18 _ ["self"] := ⟨⟨a18, i18, k18⟩, F18.binds (ps := ["self"]) fun _ _ _ _ _ _ us hl => match us, hl with | [_], _ => rfl⟩
  have F19 := fun_mk (st := s_Room_numbers_within) l19 c19 k19
  have D19 : DfM K C_Room "numbers_within" f19 _ ["self", "place"] := ⟨⟨a19, i19, k19⟩, F19.binds (ps := ["self", "place"]) fun _ _ _ _ _ _ us hl => match us, hl with | [_, _], _ => rfl⟩
  have F20 := fun_mk (st := s_Room_kept_in) l20 c20 k20
  have D20 : DfM K C_Room "kept_in" f20 _ ["self", "numbers"] := ⟨⟨a20, i20, k20⟩, F20.binds (ps := ["self", "numbers"]) fun _ _ _ _ _ _ us hl => match us, hl with | [_, _], _ => rfl⟩
  have F21 := fun_mk (st := s_law_cell) l21 c21 k21
  have D21 : Df K mg "_law_cell" f21 _ ["_law_script", "_law_k"] := ⟨PySem.W.mg_of X G a21, k21, F21.binds (ps := ["_law_script", "_law_k"]) fun _ _ _ _ _ _ us hl => match us, hl with | [_, _], _ => rfl⟩
  have F22 := fun_mk (st := s_law_begun) l22 c22 k22
  have D22 : Df K mg "_law_begun" f22 _ ["_law_cell_here"] := ⟨PySem.W.mg_of X G a22, k22, F22.binds (ps := ["_law_cell_here"]) fun _ _ _ _ _ _ us hl => match us, hl with | [_], _ => rfl⟩
  have F23 := fun_mk (st := s_law_draw) l23 c23 k23
  have D23 : Df K mg "_law_draw" f23 _ ["_law_state", "_law_many"] := ⟨PySem.W.mg_of X G a23, k23, F23.binds (ps := ["_law_state", "_law_many"]) fun _ _ _ _ _ _ us hl => match us, hl with | [_, _], _ => rfl⟩
  have F24 := fun_mk (st := s_law_place) l24 c24 k24
  have D24 : Df K mg "_law_place" f24 _ ["_law_state", "_law_wide"] := ⟨PySem.W.mg_of X G a24, k24, F24.binds (ps := ["_law_state", "_law_wide"]) fun _ _ _ _ _ _ us hl => match us, hl with | [_, _], _ => rfl⟩
  have F25 := fun_mk (st := s_law_told) l25 c25 k25
  have D25 : Df K mg "_law_told" f25 _ ["_law_room", "_law_door", "_law_one", "_law_other"] := ⟨PySem.W.mg_of X G a25, k25, F25.binds (ps := ["_law_room", "_law_door", "_law_one", "_law_other"]) fun _ _ _ _ _ _ us hl => match us, hl with | [_, _, _, _], _ => rfl⟩
  have F26 := fun_mk (st := s_law_same) l26 c26 k26
  have D26 : Df K mg "_law_same" f26 _ ["_law_told_here", "_law_thing"] := ⟨PySem.W.mg_of X G a26, k26, F26.binds (ps := ["_law_told_here", "_law_thing"]) fun _ _ _ _ _ _ us hl => match us, hl with | [_, _], _ => rfl⟩
  have F27 := fun_mk (st := s_law_bad) l27 c27 k27
  have D27 : Df K mg "_law_bad" f27 _ ["_law_state", "_law_wide"] := ⟨PySem.W.mg_of X G a27, k27, F27.binds (ps := ["_law_state", "_law_wide"]) fun _ _ _ _ _ _ us hl => match us, hl with | [_, _], _ => rfl⟩
  have F28 := fun_mk (st := s_law_all_doors) l28 c28 k28
  have D28 : Df K mg "_law_all_doors" f28 _ ["_law_state", "_law_room", "_law_bad_here", "_law_good"] := ⟨PySem.W.mg_of X G a28, k28, F28.binds (ps := ["_law_state", "_law_room", "_law_bad_here", "_law_good"]) fun _ _ _ _ _ _ us hl => match us, hl with | [_, _, _, _], _ => rfl⟩
  have F29 := fun_mk (st := s_law_past) l29 c29 k29
  have D29 : Df K mg "_law_past" f29 _ ["_law_state", "_law_room", "_law_wide"] := ⟨PySem.W.mg_of X G a29, k29, F29.binds (ps := ["_law_state", "_law_room", "_law_wide"]) fun _ _ _ _ _ _ us hl => match us, hl with | [_, _, _], _ => rfl⟩
  have F30 := fun_mk (st := s_law_no_room) l30 c30 k30
  have D30 : Df K mg "_law_no_room" f30 _ ["_law_wide"] := ⟨PySem.W.mg_of X G a30, k30, F30.binds (ps := ["_law_wide"]) fun _ _ _ _ _ _ us hl => match us, hl with | [_], _ => rfl⟩
  have F31 := fun_mk (st := s_law) l31 c31 k31
  have T_Room : TCls K mg "Room" C_Room f15 ["wide", "held"] := ⟨PySem.W.mg_of X G g_Room, ⟨pg_Room, hd_Room, po_Room, sa_Room⟩, ⟨mk_Room, a15, i15, kc_Room⟩, fun a ha => by
      simp only [List.mem_cons, List.not_mem_nil, or_false] at ha
      rcases ha with rfl | rfl
      · exact n_Room_wide
      · exact n_Room_held⟩
  have T_RoomError : TXB K mg C_RoomError f0 := ⟨PySem.W.mg_of X G g_RoomError, ⟨xr, xf, xp, k0⟩, ⟨⟨_, _, _, _, _, _, _, _, _, _, _, _, _, _, _, _, xo_RoomError⟩, rfl⟩⟩
  have VI : VInit K := ⟨vi1, vi2, vi3⟩
  have T_NoPlace : TX K mg "NoPlace" C_NoPlace C_RoomError f2 ["found"] := ⟨PySem.W.mg_of X G g_NoPlace, ⟨⟨_, _, _, _, _, _, _, _, _, _, _, _, _, _, xo_NoPlace, xn_NoPlace, xi_NoPlace⟩, i2, xk_NoPlace, xs_NoPlace, xg_NoPlace, xh_NoPlace⟩, ⟨⟨_, _, _, _, _, _, _, _, _, _, _, _, _, _, _, _, xo_NoPlace⟩, rfl⟩, fun a ha => by
      rw [List.mem_singleton.mp ha]; exact n_NoPlace_found⟩
  have T_NoRoom : TX K mg "NoRoom" C_NoRoom C_RoomError f1 ["found"] := ⟨PySem.W.mg_of X G g_NoRoom, ⟨⟨_, _, _, _, _, _, _, _, _, _, _, _, _, _, xo_NoRoom, xn_NoRoom, xi_NoRoom⟩, i1, xk_NoRoom, xs_NoRoom, xg_NoRoom, xh_NoRoom⟩, ⟨⟨_, _, _, _, _, _, _, _, _, _, _, _, _, _, _, _, xo_NoRoom⟩, rfl⟩, fun a ha => by
      rw [List.mem_singleton.mp ha]; exact n_NoRoom_found⟩
  have M : Blt mg := ⟨PySem.W.mg_none_of X G z0, PySem.W.mg_none_of X G z1, PySem.W.mg_none_of X G z2, PySem.W.mg_none_of X G z3, PySem.W.mg_none_of X G z4, PySem.W.mg_none_of X G z5, PySem.W.mg_none_of X G z6, PySem.W.mg_none_of X G z7, PySem.W.mg_none_of X G z8, PySem.W.mg_none_of X G z9, PySem.W.mg_none_of X G z10, PySem.W.mg_none_of X G z11, PySem.W.mg_none_of X G z12, PySem.W.mg_none_of X G z13⟩
  have C : Cst K mg t1 t2 t3 t4 ts := ⟨PySem.W.mg_of X G v1, PySem.W.mg_of X G v2, PySem.W.mg_of X G v3, PySem.W.mg_of X G v6, PySem.W.mg_of X G v4, fun H => .inr ⟨_, _, _, v5, rfl, rfl, (by show 4 ≤ sizeLine; decide), .cons ⟨_, rfl⟩ (.cons ⟨_, rfl⟩ (.cons ⟨_, rfl⟩ (.cons ⟨_, rfl⟩ .nil)))⟩⟩
  have XN : XNot K C_NoRoom C_NoPlace := ⟨y1, y2, y3, y4, y5⟩
  refine ⟨PySem.W.fnOf "law" "law" (defArgs s_law) (defBody s_law) (defScope s_law) .none kV31 dc31 pm31 an31 cd31 ct31, fun s v => .of_eq rfl, fun base _ _ => ?_⟩
  have G0 := ok_RoomError_init (P := l.prog) (w := w) (base := base) (k := 0) F0 M C T_Room T_RoomError VI T_NoPlace T_NoRoom 
  have G3 := ok_is_whole (P := l.prog) (w := w) (base := base) (k := 0) F3 M C T_Room T_RoomError VI T_NoPlace T_NoRoom 
  have G5 := ok_cells_of (P := l.prog) (w := w) (base := base) (k := 0) F5 M C T_Room T_RoomError VI T_NoPlace T_NoRoom 
  have G6 := ok_word_of (P := l.prog) (w := w) (base := base) (k := 0) F6 M C T_Room T_RoomError VI T_NoPlace T_NoRoom 
  have G8 := ok_is_packed (P := l.prog) (w := w) (base := base) (k := 0) F8 M C T_Room T_RoomError VI T_NoPlace T_NoRoom 
  have G9 := ok_is_whole_cells (P := l.prog) (w := w) (base := base) (k := 0) F9 M C T_Room T_RoomError VI T_NoPlace T_NoRoom 
  have G13 := ok_first_bit (P := l.prog) (w := w) (base := base) (k := 0) F13 M C T_Room T_RoomError VI T_NoPlace T_NoRoom 
  have G18 := ok_Room_cells (P := l.prog) (w := w) (base := base) (k := 0) F18 M C T_Room T_RoomError VI T_NoPlace T_NoRoom 
  have G21 := ok_law_cell (P := l.prog) (w := w) (base := base) (k := 0) F21 M C T_Room T_RoomError VI T_NoPlace T_NoRoom 
  have G22 := ok_law_begun (P := l.prog) (w := w) (base := base) (k := 0) F22 M C T_Room T_RoomError VI T_NoPlace T_NoRoom 
  have G23 := ok_law_draw (P := l.prog) (w := w) (base := base) (k := 0) F23 M C T_Room T_RoomError VI T_NoPlace T_NoRoom 
  have G26 := ok_law_same (P := l.prog) (w := w) (base := base) (k := 0) F26 M C T_Room T_RoomError VI T_NoPlace T_NoRoom 
  have G1 := ok_NoRoom_init (P := l.prog) (w := w) (base := base) (k := 2) F1 M C T_Room T_RoomError VI T_NoPlace T_NoRoom D0 (G0.mono (by decide))
  have G2 := ok_NoPlace_init (P := l.prog) (w := w) (base := base) (k := 2) F2 M C T_Room T_RoomError VI T_NoPlace T_NoRoom D0 (G0.mono (by decide))
  have G4 := ok_is_between (P := l.prog) (w := w) (base := base) (k := 2) F4 M C T_Room T_RoomError VI T_NoPlace T_NoRoom D3 (G3.mono (by decide))
  have G7 := ok_is_place (P := l.prog) (w := w) (base := base) (k := 2) F7 M C T_Room T_RoomError VI T_NoPlace T_NoRoom D3 (G3.mono (by decide)) D8 (G8.mono (by decide)) D9 (G9.mono (by decide))
  have G14 := ok_bit_behind (P := l.prog) (w := w) (base := base) (k := 2) F14 M C T_Room T_RoomError VI T_NoPlace T_NoRoom D13 (G13.mono (by decide))
  have G20 := ok_Room_kept_in (P := l.prog) (w := w) (base := base) (k := 2) F20 M C T_Room T_RoomError VI T_NoPlace T_NoRoom D6 (G6.mono (by decide))
  have G24 := ok_law_place (P := l.prog) (w := w) (base := base) (k := 2) F24 M C T_Room T_RoomError VI T_NoPlace T_NoRoom D23 (G23.mono (by decide))
  have G10 := ok_need_place (P := l.prog) (w := w) (base := base) (k := 4) F10 M C T_Room T_RoomError VI T_NoPlace T_NoRoom D7 (G7.mono (by decide)) D2 (G2.mono (by decide))
  have G15 := ok_Room_init (P := l.prog) (w := w) (base := base) (k := 4) F15 M C T_Room T_RoomError VI T_NoPlace T_NoRoom D4 (G4.mono (by decide)) D1 (G1.mono (by decide))
  have G27 := ok_law_bad (P := l.prog) (w := w) (base := base) (k := 4) F27 M C T_Room T_RoomError VI T_NoPlace T_NoRoom D24 (G24.mono (by decide)) D23 (G23.mono (by decide))
  have G11 := ok_cells_in (P := l.prog) (w := w) (base := base) (k := 6) F11 M C T_Room T_RoomError VI T_NoPlace T_NoRoom D10 (G10.mono (by decide))
  have G12 := ok_shares (P := l.prog) (w := w) (base := base) (k := 6) F12 M C T_Room T_RoomError VI T_NoPlace T_NoRoom D10 (G10.mono (by decide)) D13 (G13.mono (by decide)) D14 (G14.mono (by decide))
  have G30 := ok_law_no_room (P := l.prog) (w := w) (base := base) (k := 6) F30 M C T_Room T_RoomError VI T_NoPlace T_NoRoom XN D15 (G15.mono (by decide))
  have G19 := ok_Room_numbers_within (P := l.prog) (w := w) (base := base) (k := 8) F19 M C T_Room T_RoomError VI T_NoPlace T_NoRoom D11 (G11.mono (by decide)) D2 (G2.mono (by decide))
  have G16 := ok_Room_taken (P := l.prog) (w := w) (base := base) (k := 10) F16 M C T_Room T_RoomError VI T_NoPlace T_NoRoom D19 (G19.mono (by decide)) D20 (G20.mono (by decide))
  have G17 := ok_Room_left (P := l.prog) (w := w) (base := base) (k := 10) F17 M C T_Room T_RoomError VI T_NoPlace T_NoRoom D19 (G19.mono (by decide)) D20 (G20.mono (by decide)) D5 (G5.mono (by decide))
  have G25 := ok_law_told (P := l.prog) (w := w) (base := base) (k := 12) F25 M C T_Room T_RoomError VI T_NoPlace T_NoRoom D10 (G10.mono (by decide)) D11 (G11.mono (by decide)) D12 (G12.mono (by decide)) D16 (G16.mono (by decide)) D17 (G17.mono (by decide))
  have G28 := ok_law_all_doors (P := l.prog) (w := w) (base := base) (k := 14) F28 M C T_Room T_RoomError VI T_NoPlace T_NoRoom D23 (G23.mono (by decide)) D26 (G26.mono (by decide)) D25 (G25.mono (by decide))
  have G29 := ok_law_past (P := l.prog) (w := w) (base := base) (k := 14) F29 M C T_Room T_RoomError VI T_NoPlace T_NoRoom D23 (G23.mono (by decide)) D26 (G26.mono (by decide)) D25 (G25.mono (by decide)) D16 (G16.mono (by decide)) D17 (G17.mono (by decide))
  have G31 := ok_law (P := l.prog) (w := w) (base := base) (k := 16) F31 M C T_Room T_RoomError VI T_NoPlace T_NoRoom D22 (G22.mono (by decide)) D21 (G21.mono (by decide)) D23 (G23.mono (by decide)) D15 (G15.mono (by decide)) D24 (G24.mono (by decide)) D17 (G17.mono (by decide)) D18 (G18.mono (by decide)) D27 (G27.mono (by decide)) D28 (G28.mono (by decide)) D26 (G26.mono (by decide)) D25 (G25.mono (by decide)) D29 (G29.mono (by decide)) D30 (G30.mono (by decide))
  exact G31
theorem walk {l : PySem.W.OpenLaw} {q : Program} {loose : List Str} {XP : (Str → Option Value) → Heap → Prop} {YP : World → Heap → Prop} {d : DefRec} {K : Params → PySem.W.Frag} (hn : l.most = some 63) (hdf : d.params.defaults = [])
    (hY : ∀ (w : World) (h : Heap), YP w h → (K w.params).In h)
    (F : ∀ (w : World) (mg : Str → Option Value) (fa : Addr) (h : Heap), (K w.params).In h → h.Ns mainGlobals mg → mg d.name = some (.ref fa) →
      ∃ fd : FuncData, (∀ (s : Shared) (u : Value), BindsTo s fd ⟨[u], []⟩ [("_law_script", u)]) ∧ ∀ base : Heap, (K w.params).In base → base.Ns mainGlobals mg → FnOk l.prog w (K w.params) mg base CX0 18 fa fd ["_law_script"] (spLaw (K w.params))) :
    PySem.W.WalkO q loose XP YP l.row.toRowW d [] (fun f vs => PySem.call f vs) :=
  L2.walk_of (n := 63) (k := 18) (x := "_law_script") (CX := fun _ => CX0) (sp := fun w => spLaw (K w.params)) hn (by decide) hdf ⟨rfl, by decide, by decide, rfl⟩ hY F (fun _ _ a ns hl _ hS => ⟨a, ns, rfl, hS, hl, fun _ => rfl⟩) fun _ _ _ _ _ z => z
end K06
open PySem PySem.W PyProof.Rows
set_option maxRecDepth 100000 in
set_option maxHeartbeats 0 in
theorem PySem.Challenge.cw_roomslaid_k06_refused_everywhere_holds : PySem.Challenge.rw_roomslaid_k06_refused_everywhere.Holds := by
  w_on; o_law; k_head; (case hw => w_witness2)
  k_fill
  refine K06.walk (l := PySem.Challenge.rw_roomslaid_k06_refused_everywhere) rfl rfl (fun w h Y => PySem.W.kIn_of Y) ?F
  case F =>
    intro w mg fa h KX G hmg
    refine' K06.all_mk KX G hmg ?g_Room ?g_RoomError ?g_NoPlace ?g_NoRoom ?a0 ?i0 ?l0 ?c0 ?k0 ?a1 ?i1 ?l1 ?c1 ?k1 ?a2 ?i2 ?l2 ?c2 ?k2 ?a3 ?l3 ?c3 ?k3 ?a4 ?l4 ?c4 ?k4 ?a5 ?l5 ?c5 ?k5 ?a6 ?l6 ?c6 ?k6 ?a7 ?l7 ?c7 ?k7 ?a8 ?l8 ?c8 ?k8 ?a9 ?l9 ?c9 ?k9 ?a10 ?l10 ?c10 ?k10 ?a11 ?l11 ?c11 ?k11 ?a12 ?l12 ?c12 ?k12 ?a13 ?l13 ?c13 ?k13 ?a14 ?l14 ?c14 ?k14 ?a15 ?i15 ?l15 ?c15 ?k15 ?a16 ?i16 ?l16 ?c16 ?k16 ?a17 ?i17 ?l17 ?c17 ?k17 ?a18 ?i18 ?l18 ?c18 ?k18 ?a19 ?i19 ?l19 ?c19 ?k19 ?a20 ?i20 ?l20 ?c20 ?k20 ?a21 ?l21 ?c21 ?k21 ?a22 ?l22 ?c22 ?k22 ?a23 ?l23 ?c23 ?k23 ?a24 ?l24 ?c24 ?k24 ?a25 ?l25 ?c25 ?k25 ?a26 ?l26 ?c26 ?k26 ?a27 ?l27 ?c27 ?k27 ?a28 ?l28 ?c28 ?k28 ?a29 ?l29 ?c29 ?k29 ?a30 ?l30 ?c30 ?k30 ?a31 ?l31 ?c31 ?k31 ?pg_Room ?hd_Room ?po_Room ?sa_Room ?mk_Room ?kc_Room ?n_Room_wide ?n_Room_held ?xo_RoomError ?xk_RoomError ?xr ?xf ?xp ?xo_NoPlace ?xk_NoPlace ?xn_NoPlace ?xi_NoPlace ?xs_NoPlace ?xg_NoPlace ?xh_NoPlace ?n_NoPlace_found ?xo_NoRoom ?xk_NoRoom ?xn_NoRoom ?xi_NoRoom ?xs_NoRoom ?xg_NoRoom ?xh_NoRoom ?n_NoRoom_found ?vi1 ?vi2 ?vi3 ?z0 ?z1 ?z2 ?z3 ?z4 ?z5 ?z6 ?z7 ?z8 ?z9 ?z10 ?z11 ?z12 ?z13 ?v1 ?v2 ?v3 ?v6 ?v4 ?v5 ?y1 ?y2 ?y3 ?y4 ?y5
    (case g_Room => k_is)
    (case g_RoomError => k_is)
    (case g_NoPlace => k_is)
    (case g_NoRoom => k_is)
    (case a0 => k_is)
    (case i0 => k_is)
    (case l0 => k_is)
    (case c0 => k_is)
    (case k0 => k_is)
    (case a1 => k_is)
    (case i1 => k_is)
    (case l1 => k_is)
    (case c1 => k_is)
    (case k1 => k_is)
    (case a2 => k_is)
    (case i2 => k_is)
    (case l2 => k_is)
    (case c2 => k_is)
    (case k2 => k_is)
    (case a3 => k_is)
    (case l3 => k_is)
    (case c3 => k_is)
    (case k3 => k_is)
    (case a4 => k_is)
    (case l4 => k_is)
    (case c4 => k_is)
    (case k4 => k_is)
    (case a5 => k_is)
    (case l5 => k_is)
    (case c5 => k_is)
    (case k5 => k_is)
    (case a6 => k_is)
    (case l6 => k_is)
    (case c6 => k_is)
    (case k6 => k_is)
    (case a7 => k_is)
    (case l7 => k_is)
    (case c7 => k_is)
    (case k7 => k_is)
    (case a8 => k_is)
    (case l8 => k_is)
    (case c8 => k_is)
    (case k8 => k_is)
    (case a9 => k_is)
    (case l9 => k_is)
    (case c9 => k_is)
    (case k9 => k_is)
    (case a10 => k_is)
    (case l10 => k_is)
    (case c10 => k_is)
    (case k10 => k_is)
    (case a11 => k_is)
    (case l11 => k_is)
    (case c11 => k_is)
    (case k11 => k_is)
    (case a12 => k_is)
    (case l12 => k_is)
    (case c12 => k_is)
    (case k12 => k_is)
    (case a13 => k_is)
    (case l13 => k_is)
    (case c13 => k_is)
    (case k13 => k_is)
    (case a14 => k_is)
    (case l14 => k_is)
    (case c14 => k_is)
    (case k14 => k_is)
    (case a15 => k_is)
    (case i15 => k_is)
    (case l15 => k_is)
    (case c15 => k_is)
    (case k15 => k_is)
    (case a16 => k_is)
    (case i16 => k_is)
    (case l16 => k_is)
    (case c16 => k_is)
    (case k16 => k_is)
    (case a17 => k_is)
    (case i17 => k_is)
    (case l17 => k_is)
    (case c17 => k_is)
    (case k17 => k_is)
    (case a18 => k_is)
    (case i18 => k_is)
    (case l18 => k_is)
    (case c18 => k_is)
    (case k18 => k_is)
    (case a19 => k_is)
    (case i19 => k_is)
    (case l19 => k_is)
    (case c19 => k_is)
    (case k19 => k_is)
    (case a20 => k_is)
    (case i20 => k_is)
    (case l20 => k_is)
    (case c20 => k_is)
    (case k20 => k_is)
    (case a21 => k_is)
    (case l21 => k_is)
    (case c21 => k_is)
    (case k21 => k_is)
    (case a22 => k_is)
    (case l22 => k_is)
    (case c22 => k_is)
    (case k22 => k_is)
    (case a23 => k_is)
    (case l23 => k_is)
    (case c23 => k_is)
    (case k23 => k_is)
    (case a24 => k_is)
    (case l24 => k_is)
    (case c24 => k_is)
    (case k24 => k_is)
    (case a25 => k_is)
    (case l25 => k_is)
    (case c25 => k_is)
    (case k25 => k_is)
    (case a26 => k_is)
    (case l26 => k_is)
    (case c26 => k_is)
    (case k26 => k_is)
    (case a27 => k_is)
    (case l27 => k_is)
    (case c27 => k_is)
    (case k27 => k_is)
    (case a28 => k_is)
    (case l28 => k_is)
    (case c28 => k_is)
    (case k28 => k_is)
    (case a29 => k_is)
    (case l29 => k_is)
    (case c29 => k_is)
    (case k29 => k_is)
    (case a30 => k_is)
    (case l30 => k_is)
    (case c30 => k_is)
    (case k30 => k_is)
    (case a31 => k_is)
    (case l31 => k_is)
    (case c31 => k_is)
    (case k31 => k_is)
    (case pg_Room => k_is)
    (case hd_Room => k_is)
    (case po_Room => k_is)
    (case sa_Room => k_is)
    (case mk_Room => k_is)
    (case kc_Room => k_is)
    (case n_Room_wide => k_is)
    (case n_Room_held => k_is)
    (case xo_RoomError => k_is)
    (case xk_RoomError => k_is)
    (case xr => k_is)
    (case xf => k_is)
    (case xp => k_is)
    (case xo_NoPlace => k_is)
    (case xk_NoPlace => k_is)
    (case xn_NoPlace => first | exact Eq.refl true | kernel_rfl | decide +kernel)
    (case xi_NoPlace => k_is)
    (case xs_NoPlace => k_is)
    (case xg_NoPlace => k_is)
    (case xh_NoPlace => k_is)
    (case n_NoPlace_found => k_is)
    (case xo_NoRoom => k_is)
    (case xk_NoRoom => k_is)
    (case xn_NoRoom => first | exact Eq.refl true | kernel_rfl | decide +kernel)
    (case xi_NoRoom => k_is)
    (case xs_NoRoom => k_is)
    (case xg_NoRoom => k_is)
    (case xh_NoRoom => k_is)
    (case n_NoRoom_found => k_is)
    (case vi1 => k_is)
    (case vi2 => k_is)
    (case vi3 => k_is)
    (case z0 => k_is)
    (case z1 => k_is)
    (case z2 => k_is)
    (case z3 => k_is)
    (case z4 => k_is)
    (case z5 => k_is)
    (case z6 => k_is)
    (case z7 => k_is)
    (case z8 => k_is)
    (case z9 => k_is)
    (case z10 => k_is)
    (case z11 => k_is)
    (case z12 => k_is)
    (case z13 => k_is)
    (case v1 => k_is)
    (case v2 => k_is)
    (case v3 => k_is)
    (case v6 => k_is)
    (case v4 => k_is)
    (case v5 => k_is)
    (case y1 => k_is)
    (case y2 => k_is)
    (case y3 => k_is)
    (case y4 => k_is)
    (case y5 => first | exact Eq.refl true | kernel_rfl | decide +kernel)

