import PyProof.Rows.All
import Wide.All
import OpenK.AllK
import Wide.FinOn
import Lean
import PyProof.EqAt
import PyProof.EqKinds
import PyProof.TupleCall
import PyProof.LongRange
import PyProof.ListRange
import PyProof.EnumMake
import PyProof.EnumFor
import PyProof.EnumStmt
import PyProof.Rows.EnumRows
import PyProof.RulesDelMore
import PyProof.Rows.SetFrom
import PySem.Challenge.RW_roomslaid_k50_whole_distances
set_option Elab.async false
set_option linter.all false
set_option maxRecDepth 100000
/-! THE HAND LAYER, for ints, bools, texts, own classes, LISTS and tuples (index, slices, in, append, pop ..), calls, loops. Paste it whole ahead of your own text; what your proof does not reach may be deleted. -/
namespace L2
open PySem PySem.Spec PyProof.Rows

/-- a key: an int or a str -/
abbrev Key := Sum Int Str
def keyIs : Key → Value → Bool
  | .inl k, v => Value.isInt k v
  | .inr x, v => Value.isStrOf x v
def keyH (w : World) : Key → Int
  | .inl k => hashInt k
  | .inr x => hashStr w x
theorem keyIs_shape : ∀ {k : Key} {v : Value}, keyIs k v = true → (∃ i t, k = Sum.inl i ∧ v = Value.int i t) ∨ (∃ x t, k = Sum.inr x ∧ v = Value.str x t)
  | .inl i, v, h => by
    obtain ⟨t, e⟩ := Value.isInt_shape (k := i) (v := v) h
    exact .inl ⟨i, t, rfl, e⟩
  | .inr x, v, h => by
    obtain ⟨t, e⟩ := Value.isStrOf_shape (x := x) (v := v) h
    exact .inr ⟨x, t, rfl, e⟩
theorem keyIs_int (i : Int) (t : Tok) : keyIs (.inl i) (.int i t) = true := by simp [keyIs, Value.isInt]
theorem keyIs_str (x : Str) (t : Tok) : keyIs (.inr x) (.str x t) = true := by simp [keyIs, Value.isStrOf]
theorem key_ll (a b : Int) : decide ((Sum.inl a : Key) = Sum.inl b) = (a == b) := by
  by_cases e : a = b
  · subst e; simp
  · have h : ¬ (Sum.inl a : Key) = Sum.inl b := fun q => e (Sum.inl.inj q)
    rw [decide_eq_false h]
    exact (beq_eq_false_iff_ne.mpr e).symm
theorem key_rr (a b : Str) : decide ((Sum.inr a : Key) = Sum.inr b) = decide (a = b) := by
  by_cases e : a = b
  · subst e; simp
  · have h : ¬ (Sum.inr a : Key) = Sum.inr b := fun q => e (Sum.inr.inj q)
    rw [decide_eq_false h, decide_eq_false e]
theorem key_lr (a : Int) (b : Str) : decide ((Sum.inl a : Key) = Sum.inr b) = false := decide_eq_false (fun q => nomatch q)
theorem key_rl (a : Str) (b : Int) : decide ((Sum.inr a : Key) = Sum.inl b) = false := decide_eq_false (fun q => nomatch q)

def mixKind (prog : Program) (w : World) : PySem.KeyKind prog w Key where
  is := keyIs
  hash := keyH w
  inj := fun v a b ha hb => by
    rcases keyIs_shape ha with ⟨i, t, rfl, rfl⟩ | ⟨x, t, rfl, rfl⟩
    · rcases keyIs_shape hb with ⟨j, u, rfl, e⟩ | ⟨y, u, rfl, e⟩
      · injection e with e1 _; rw [e1]
      · exact nomatch e
    · rcases keyIs_shape hb with ⟨j, u, rfl, e⟩ | ⟨y, u, rfl, e⟩
      · exact nomatch e
      · injection e with e1 _; rw [e1]
  byValue := fun k v h => by
    rcases keyIs_shape h with ⟨i, t, rfl, rfl⟩ | ⟨x, t, rfl, rfl⟩ <;> rfl
  pyHash := fun hv h => by
    rcases keyIs_shape hv with ⟨i, t, rfl, rfl⟩ | ⟨x, t, rfl, rfl⟩
    · exact wpAny_pyHash_int h
    · exact wpAny_pyHash_str h
  eqBool := fun hu hv h => by
    rcases keyIs_shape hu with ⟨i, t, rfl, rfl⟩ | ⟨x, t, rfl, rfl⟩
    · rcases keyIs_shape hv with ⟨j, u, rfl, rfl⟩ | ⟨y, u, rfl, rfl⟩
      · rw [key_ll] at h; exact wpAny_eqBool_int h
      · rw [key_lr] at h; exact SeqAt.EqAt.int_str i t y u _ _ _ _ h
    · rcases keyIs_shape hv with ⟨j, u, rfl, rfl⟩ | ⟨y, u, rfl, rfl⟩
      · rw [key_rl] at h; exact SeqAt.EqAt.str_int x t j u _ _ _ _ h
      · rw [key_rr] at h; exact wpAny_eqBool_str h
  «strs» := fun k x t v h => by
    rcases keyIs_shape h with ⟨i, u, rfl, e⟩ | ⟨y, u, rfl, e⟩
    · exact nomatch e
    · injection e with e1 _
      subst e1
      cases v <;> rfl

theorem mixKind_int (prog : Program) (w : World) (i : Int) (t : Tok) : (mixKind prog w).is (.inl i) (.int i t) = true := keyIs_int i t
theorem mixKind_str (prog : Program) (w : World) (x : Str) (t : Tok) : (mixKind prog w).is (.inr x) (.str x t) = true := keyIs_str x t
end L2

namespace L2
open PySem PySem.Spec PyProof.Rows

/-- a value, without the heap -/
inductive V where
  | non | bl (b : Bool) | int (i : Int) | str (x : Str) | byt (b : Array UInt8) | flt (b : UInt64) | ref (a : Addr) | ty (n : String)
  deriving DecidableEq

def RelV : V → Value → Prop
  | .non, u => u = Value.none
  | .bl b, u => u = Value.bool b
  | .int i, u => ∃ t, u = Value.int i t
  | .str x, u => ∃ t, u = Value.str x t
  | .byt b, u => ∃ t, u = Value.bytes b t
  | .flt b, u => ∃ t, u = Value.float b t
  | .ref a, u => u = Value.ref a
  | .ty n, u => u = Value.type n

abbrev Vals : List V → List Value → Prop := Paired RelV
theorem Vals.length {xs : List V} {us : List Value} (r : Vals xs us) : xs.length = us.length := Paired.length r
theorem Vals.get : ∀ {xs : List V} {us : List Value} {i : Nat} {x : V}, Vals xs us → xs[i]? = some x → ∃ u, us[i]? = some u ∧ RelV x u
  | _, _, _, _, .nil, e => by simp at e
  | _, _, 0, _, .cons r _, e => by simp at e; subst e; exact ⟨_, rfl, r⟩
  | _, _, i + 1, x, .cons _ t, e => by
    obtain ⟨u, h1, h2⟩ := Vals.get (i := i) (x := x) t (by simpa using e)
    exact ⟨u, by simpa using h1, h2⟩
theorem Vals.append : ∀ {xs ys : List V} {us ws : List Value}, Vals xs us → Vals ys ws → Vals (xs ++ ys) (us ++ ws)
  | _, _, _, _, .nil, s => s
  | _, _, _, _, .cons r t, s => .cons r (Vals.append t s)
theorem Vals.take : ∀ {xs : List V} {us : List Value} (n : Nat), Vals xs us → Vals (xs.take n) (us.take n)
  | _, _, 0, _ => .nil
  | _, _, _ + 1, .nil => .nil
  | _, _, n + 1, .cons r t => .cons r (Vals.take n t)
theorem Vals.drop : ∀ {xs : List V} {us : List Value} (n : Nat), Vals xs us → Vals (xs.drop n) (us.drop n)
  | _, _, 0, r => r
  | _, _, _ + 1, .nil => .nil
  | _, _, n + 1, .cons _ t => Vals.drop n t
def RelO : Option V → Option Value → Prop
  | some v, some u => RelV v u
  | none, none => True
  | _, _ => False
def KV {κ : Type} : List (κ × V) → List (κ × Value) → Prop := Paired fun (p : κ × V) (q : κ × Value) => p.1 = q.1 ∧ RelV p.2 q.2

/-- a key of a dict (00_mix): an int or a text -/
def kV : Key → V
  | .inl i => .int i
  | .inr x => .str x

/-- what stands at a tracked address -/
inductive HO where
  /-- a list -/
  | lst (xs : List V)
  /-- a tuple (never changes) -/
  | tup (xs : List V)
  /-- a dict whose keys are ints and texts; one whose keys are tuples of ints and texts (the empty one is both) -/
  | dK (kvs : List (Key × V)) | dT (kvs : List (List Key × V))
  /-- a set of ints: its members, its size -/
  | set (S : Int → Bool) (n : Nat)
  /-- an instance of the class at C, its dict at dx, its attributes -/
  | ins (C dx : Addr) (fs : List (Str × V))
  /-- the dict of the instance at x -/
  | own (x : Addr)
  /-- the dict of an exception -/
  | xd (fs : List (Str × V))
  /-- a bound method, f of x -/
  | met (f x : Addr)
  /-- a range object lo, lo + 1, .. below hi -/
  | rng (lo hi : Int)
  /-- a thing that is known to the object (the script; a dict while a loop walks it): read, never written while it is so -/
  | frz (o : Obj) (u : HO)
  /-- a code object's table -/
  | tbl (ps : Array Value)
  /-- any other thing, by what is true of its one object (a def of one's own: SetO a S n := HO.ext fun h => ..) -/
  | ext (φ : Heap → Prop)

abbrev Hp := Addr → Option HO
def upd (H : Hp) (a : Addr) (o : HO) : Hp := fun b => if b = a then some o else H b
theorem upd_same {H : Hp} {a : Addr} {o : HO} : upd H a o a = some o := by unfold upd; rw [if_pos rfl]
theorem upd_ne {H : Hp} {a b : Addr} {o : HO} (h : b ≠ a) : upd H a o b = H b := by unfold upd; rw [if_neg h]
theorem upd_upd {H : Hp} {a : Addr} {o u : HO} : upd (upd H a o) a u = upd H a u := by
  funext b; unfold upd; split <;> rfl
/-- two objects of different content stand apart -/
theorem ne_of {H : Hp} {a b : Addr} {o u : HO} (h : H a = some o) (h' : H b = some u) (d : o ≠ u) : a ≠ b := by
  intro e; subst e; rw [h] at h'; exact d (Option.some.inj h')
theorem ne_of_none {H : Hp} {a b : Addr} {o : HO} (h : H a = some o) (h' : H b = none) : a ≠ b := by
  intro e; subst e; rw [h] at h'; cases h'

section
variable (P : Program) (w : World)
def ObjOk (H : Hp) (h : Heap) (a : Addr) : HO → Prop
  | .lst xs => xs.length ≤ sizeLine ∧ ∃ (its : List Value) (n : Nat), Vals xs its ∧ h.get? a = some { cls := .type "list", data := .seq its.toArray n }
  | .tup xs => xs.length ≤ sizeLine ∧ ∃ its : List Value, Vals xs its ∧ IsTup h a its.toArray
  | .dK kvs => kvs.length ≤ sizeLine ∧ (a == sysModules) = false ∧ ∃ vs, KV kvs vs ∧ h.DictOf (mixKind P w) a vs
  | .dT kvs => kvs.length ≤ sizeLine ∧ (a == sysModules) = false ∧ ∃ xs : List (List Key × Addr × Value),
      Paired (fun (p : List Key × V) (q : List Key × Addr × Value) => p.1 = q.1 ∧ H q.2.1 = some (.tup (p.1.map kV)) ∧ RelV p.2 q.2.2) kvs xs ∧
      ∃ o es ep, h.get? a = some o ∧ o.ExactDict ∧ o.data = .dict es ep ∧ es.toList = xs.map (entryOfKey (tupleKind (mixKind P w))) ∧ (xs.map (·.1)).Nodup
  | .set S n => h.SetOf (intKind P w) a S n
  | .ins C dx fs => H dx = some (.own a) ∧ fs.length ≤ 1000 ∧ dx ≠ a ∧ h.get? a = some (PySem.W.instObj C dx) ∧
      ∃ mA, h.Ns1 dx mA ∧ (∀ f, RelO (fs.lookup f) (mA f)) ∧ PySem.Within mA (fs.map (·.1))
  | .own _ => ∃ o, h.get? a = some o
  | .xd fs => ∃ mA, h.Ns1 a mA ∧ ∀ f, RelO (fs.lookup f) (mA f)
  | .rng lo hi => ∃ t u v, h.get? a = some { cls := .type "range", data := .fields #[.int lo t, .int hi u, .int 1 v] }
  | .frz o u => h.get? a = some o ∧ ObjOk H h a u
  | .tbl ps => h.get? a = some { cls := .none, data := .fields ps }
  | .met f x => h.get? a = some (PySem.W.methodObj (.ref f) (.ref x))
  | .ext φ => φ h ∧ (∃ o, h.get? a = some o) ∧ ∀ h1 h2 : Heap, φ h1 → (∀ o, h1.get? a = some o → h2.get? a = some o) → φ h2
/-- the abstract heap is held -/
def HOk (H : Hp) (h : Heap) : Prop := ∀ a o, H a = some o → ObjOk P w H h a o
end

section
variable {P : Program} {w : World} {H H' : Hp} {h h' : Heap} {a : Addr} {o : HO}
theorem ObjOk.lt (x : ObjOk P w H h a o) : a < h.objs.size := by
  cases o with
  | lst xs => obtain ⟨_, _, _, _, e⟩ := x; exact Heap.lt_size e
  | tup xs => obtain ⟨_, _, _, p⟩ := x; exact p.lt
  | dK kvs => obtain ⟨_, _, _, _, o, _, _, e, _⟩ := x; exact Heap.lt_size e
  | dT kvs => obtain ⟨_, _, _, _, o, _, _, e, _⟩ := x; exact Heap.lt_size e
  | set S n => obtain ⟨o, _, _, _, e, _⟩ := x; exact Heap.lt_size e
  | ins C dx fs => obtain ⟨_, _, _, e, _⟩ := x; exact Heap.lt_size e
  | own y => obtain ⟨_, e⟩ := x; exact Heap.lt_size e
  | xd fs => obtain ⟨_, ⟨_, _, _, e, _⟩, _⟩ := x; exact Heap.lt_size e
  | rng lo hi => obtain ⟨_, _, _, e⟩ := x; exact Heap.lt_size e
  | frz ob u => obtain ⟨e, _⟩ := x; exact Heap.lt_size e
  | tbl ps => exact Heap.lt_size (show h.get? a = some _ from x)
  | met f y => exact Heap.lt_size (show h.get? a = some _ from x)
  | ext φ => obtain ⟨_, ⟨_, e⟩, _⟩ := x; exact Heap.lt_size e
theorem Paired.mapP {α β : Type} {F G : α → β → Prop} : ∀ {l₁ : List α} {l₂ : List β}, Paired F l₁ l₂ → (∀ a b, F a b → G a b) → Paired G l₁ l₂
  | _, _, .nil, _ => .nil
  | _, _, .cons r t, f => .cons (f _ _ r) (Paired.mapP t f)
/-- what an object's description leans on: its own object, its own dict, the tuples -/
theorem ObjOk.stay (x : ObjOk P w H h a o) (k : ∀ b u, (b = a ∨ H b = some (.own a)) → h.get? b = some u → h'.get? b = some u)
    (ho : ∀ b, H b = some (.own a) → H' b = some (.own a)) (ht : ∀ b xs, H b = some (.tup xs) → H' b = some (.tup xs)) : ObjOk P w H' h' a o := by
  induction o with
  | lst xs => obtain ⟨z, its, n, r, e⟩ := x; exact ⟨z, its, n, r, k _ _ (.inl rfl) e⟩
  | tup xs => obtain ⟨z, its, r, ob, e, c⟩ := x; exact ⟨z, its, r, ob, k _ _ (.inl rfl) e, c⟩
  | dK kvs => obtain ⟨z, y, vs, r, ob, es, ep, e, c⟩ := x; exact ⟨z, y, vs, r, ob, es, ep, k _ _ (.inl rfl) e, c⟩
  | dT kvs =>
    obtain ⟨z, y, xs, r, ob, es, ep, e, c⟩ := x
    exact ⟨z, y, xs, Paired.mapP r fun p q z => ⟨z.1, ht _ _ z.2.1, z.2.2⟩, ob, es, ep, k _ _ (.inl rfl) e, c⟩
  | set S n => obtain ⟨ob, es, ep, t, e, c⟩ := x; exact ⟨ob, es, ep, t, k _ _ (.inl rfl) e, c⟩
  | ins C dx fs =>
    obtain ⟨d, z, ne, e, mA, ⟨od, es, ep, e2, c⟩, r⟩ := x
    exact ⟨ho _ d, z, ne, k _ _ (.inl rfl) e, mA, ⟨od, es, ep, k _ _ (.inr d) e2, c⟩, r⟩
  | own y => obtain ⟨ob, e⟩ := x; exact ⟨ob, k _ _ (.inl rfl) e⟩
  | xd fs => obtain ⟨mA, ⟨od, es, ep, e, c⟩, r⟩ := x; exact ⟨mA, ⟨od, es, ep, k _ _ (.inl rfl) e, c⟩, r⟩
  | rng lo hi => obtain ⟨t, u, v, e⟩ := x; exact ⟨t, u, v, k _ _ (.inl rfl) e⟩
  | frz ob u ih => obtain ⟨e, q⟩ := x; exact ⟨k _ _ (.inl rfl) e, ih q⟩
  | tbl ps =>
    have e : h.get? a = some { cls := .none, data := .fields ps } := x
    show h'.get? a = some { cls := .none, data := .fields ps }
    exact k a _ (.inl rfl) e
  | met f y =>
    have e : h.get? a = some (PySem.W.methodObj (.ref f) (.ref y)) := x
    show h'.get? a = some (PySem.W.methodObj (.ref f) (.ref y))
    exact k a _ (.inl rfl) e
  | ext φ => obtain ⟨p, ⟨o, e⟩, st⟩ := x; exact ⟨st _ _ p fun o q => k _ _ (.inl rfl) q, ⟨o, k _ _ (.inl rfl) e⟩, st⟩
theorem HOk.lt (x : HOk P w H h) (e : H a = some o) : a < h.objs.size := (x a o e).lt
theorem HOk.fresh (x : HOk P w H h) (e : h.objs.size ≤ a) : H a = none := by
  cases q : H a with
  | none => rfl
  | some u => exact absurd (Nat.lt_of_lt_of_le (x.lt q) e) (Nat.lt_irrefl _)
/-- every object of the heap is kept -/
theorem HOk.kept (x : HOk P w H h) (k : ∀ b u, h.get? b = some u → h'.get? b = some u) : HOk P w H h' := fun a o e =>
  (x a o e).stay (fun b u _ q => k b u q) (fun _ q => q) fun _ _ q => q
/-- a new object is laid and tracked -/
theorem HOk.laid (x : HOk P w H h) (k : ∀ b u, h.get? b = some u → h'.get? b = some u) (hp : h.objs.size ≤ a) (new : ObjOk P w (upd H a o) h' a o) : HOk P w (upd H a o) h' := fun b u e => by
  have hn := x.fresh hp
  by_cases hb : b = a
  · subst hb; rw [upd_same] at e; cases e; exact new
  · rw [upd_ne hb] at e
    exact (x b u e).stay (fun c v _ q => k c v q) (fun c q => by rw [upd_ne (ne_of_none q hn)]; exact q) fun c xs q => by rw [upd_ne (ne_of_none q hn)]; exact q
end

/-- what may be read as u: it is u, or a known u -/
def Rd (H : Hp) (a : Addr) (u : HO) : Prop := H a = some u ∨ ∃ o, H a = some (.frz o u)
theorem Rd.ok {P : Program} {w : World} {H : Hp} {h : Heap} {a : Addr} {u : HO} (r : Rd H a u) (x : HOk P w H h) : ObjOk P w H h a u := by
  rcases r with r | ⟨o, r⟩
  · exact x a u r
  · obtain ⟨_, q⟩ := x a _ r
    exact q
/-- what may be written -/
def Mut : Option HO → Prop
  | some (.lst _) => True
  | some (.dK _) => True
  | some (.dT _) => True
  | some (.set _ _) => True
  | some (.ins _ _ _) => True
  | some (.ext _) => True
  | _ => False
section
variable {P : Program} {w : World} {H : Hp} {h h' : Heap} {x e : Addr} {o' : HO}
/-- the object at e is changed: x itself, or the dict of the instance x -/
theorem HOk.write (ok : HOk P w H h) (mu : Mut (H x)) (he : e = x ∨ H e = some (.own x)) (k : ∀ b u, b ≠ e → h.get? b = some u → h'.get? b = some u) (heo : ∃ u, h'.get? e = some u)
    (new : ObjOk P w (upd H x o') h' x o') : HOk P w (upd H x o') h' := fun b u q => by
  have nown : ∀ c y, H c = some (.own y) → c ≠ x := fun c y r z => by subst z; rw [r] at mu; exact mu
  have ntup : ∀ c xs, H c = some (.tup xs) → c ≠ x := fun c xs r z => by subst z; rw [r] at mu; exact mu
  by_cases hb : b = x
  · subst hb; rw [upd_same] at q; cases q; exact new
  · rw [upd_ne hb] at q
    by_cases hbe : b = e
    · have q' : H b = some (.own x) := by
        rcases he with z | z
        · exact absurd (hbe.trans z) hb
        · rw [hbe]; exact z
      rw [q] at q'; cases q'
      obtain ⟨v, hv⟩ := heo
      exact ⟨v, by rw [hbe]; exact hv⟩
    · refine (ok b u q).stay (fun c v hc r => k c v ?_ r) (fun c r => by rw [upd_ne (nown c b r)]; exact r) fun c xs r => by rw [upd_ne (ntup c xs r)]; exact r
      rcases hc with rfl | hc
      · exact hbe
      · rintro rfl
        rcases he with z | z
        · exact nown c b hc z
        · rw [hc] at z; cases z; exact hb rfl
end

/-! ### kept unless tracked; of the frames at fs (the callers') the slots may change (an exception that passes writes there); of the records at ex (iterators) nothing is said -/
structure Un (fs ex : List Addr) (H H' : Hp) (h h' : Heap) : Prop where
  keep : ∀ b o, h.get? b = some o → H b = none → b ∉ fs → b ∉ ex → h'.get? b = some o
  slot : ∀ b o, h.get? b = some o → H b = none → b ∈ fs → b ∉ ex → ∃ sl, h'.get? b = some { o with slots := sl }
  free : ∀ b o, h.get? b = some o → H b = none → b ∉ ex → H' b = none
  there : ∀ b o, h.get? b = some o → b ∉ ex → ∃ o', h'.get? b = some o'
  tups : ∀ b xs, H b = some (.tup xs) → H' b = some (.tup xs)
  frzs : ∀ b o u, H b = some (.frz o u) → H' b = some (.frz o u)
  tbls : ∀ b ps, H b = some (.tbl ps) → ∃ more, H' b = some (.tbl (ps ++ more))
section
variable {fs fs' ex ex' : List Addr} {H H1 H2 : Hp} {h h1 h2 h' : Heap} {a x e : Addr} {o : HO}
theorem Un.any (u : Un fs ex H H1 h h1) {b : Addr} {ob : Obj} (q : h.get? b = some ob) (n : H b = none) (hx : b ∉ ex) : ∃ sl, h1.get? b = some { ob with slots := sl } := by
  by_cases hb : b ∈ fs
  · exact u.slot b ob q n hb hx
  · exact ⟨ob.slots, u.keep b ob q n hb hx⟩
theorem Un.kept (k : ∀ b u, h.get? b = some u → h'.get? b = some u) : Un fs ex H H h h' :=
  ⟨fun b ob q _ _ _ => k b ob q, fun b ob q _ _ _ => ⟨ob.slots, k b ob q⟩, fun _ _ _ n _ => n, fun b ob q _ => ⟨ob, k b ob q⟩, fun _ _ q => q, fun _ _ _ q => q, fun _ ps q => ⟨#[], by rw [q]; simp⟩⟩
theorem Un.refl : Un fs ex H H h h := Un.kept fun _ _ q => q
theorem Un.laid (k : ∀ b u, h.get? b = some u → h'.get? b = some u) (hp : h.objs.size ≤ a) (hn : H a = none) : Un fs ex H (upd H a o) h h' where
  keep := fun b u q _ _ _ => k b u q
  slot := fun b u q _ _ _ => ⟨u.slots, k b u q⟩
  free := fun b u q n _ => by rw [upd_ne (Nat.ne_of_lt (Nat.lt_of_lt_of_le (Heap.lt_size q) hp))]; exact n
  there := fun b u q _ => ⟨u, k b u q⟩
  tups := fun b xs q => by rw [upd_ne (ne_of_none q hn)]; exact q
  frzs := fun b u xs q => by rw [upd_ne (ne_of_none q hn)]; exact q
  tbls := fun b ps q => ⟨#[], by rw [upd_ne (ne_of_none q hn), q]; simp⟩
theorem Un.write (mu : Mut (H x)) (he : e = x ∨ H e = some (.own x)) (k : ∀ b u, b ≠ e → h.get? b = some u → h'.get? b = some u) (heo : ∃ u, h'.get? e = some u) : Un fs ex H (upd H x o) h h' := by
  have hx : ∀ b, H b = none → b ≠ x := fun b n z => by subst z; rw [n] at mu; exact mu
  have hb : ∀ b, H b = none → b ≠ e := fun b n z => by
    subst z
    rcases he with r | r
    · exact hx b n r
    · rw [n] at r; cases r
  have hm : ∀ b u, H b = some u → ¬ Mut (some u) → b ≠ x := fun b u q nm z => by subst z; rw [q] at mu; exact nm mu
  refine ⟨fun b u q n _ _ => k b u (hb b n) q, fun b u q n _ _ => ⟨u.slots, k b u (hb b n) q⟩, fun b u q n _ => by rw [upd_ne (hx b n)]; exact n, fun b u q _ => ?_,
    fun b xs q => by rw [upd_ne (hm b _ q fun z => z)]; exact q, fun b u xs q => by rw [upd_ne (hm b _ q fun z => z)]; exact q, fun b ps q => ⟨#[], by rw [upd_ne (hm b _ q fun z => z), q]; simp⟩⟩
  by_cases hbe : b = e
  · subst hbe; exact heo
  · exact ⟨u, k b u hbe q⟩
end

/-! ### the heap without what is tracked -/
def trk (h : Heap) (H : Hp) : List Addr := (List.range h.objs.size).filter fun a => (H a).isSome
def hidT (h : Heap) (H : Hp) : Heap := PySem.W.hideAll h (trk h H)
theorem hidT_size (h : Heap) (H : Hp) : (hidT h H).objs.size = h.objs.size := PySem.W.hideAll_size _ _
theorem hidT_get {h : Heap} {H : Hp} {b : Addr} {o : Obj} (e : h.get? b = some o) (n : H b = none) : (hidT h H).get? b = some o :=
  PySem.W.hideAll_get _ e fun hm => by
    have q : (H b).isSome = true := (List.mem_filter.mp hm).2
    rw [n] at q; simp at q
theorem of_hidT {h : Heap} {H : Hp} {b : Addr} {o : Obj} (e : (hidT h H).get? b = some o) : h.get? b = some o ∧ H b = none := by
  have e' : h.get? b = some o := PySem.W.of_hideAll (trk h H) e
  refine ⟨e', ?_⟩
  cases q : H b with
  | none => rfl
  | some x =>
    have hm : b ∈ trk h H := List.mem_filter.mpr ⟨List.mem_range.mpr (Heap.lt_size e'), by simp [q]⟩
    have z : (hidT h H).get? b = none := PySem.W.hideAll_none (trk h H) hm
    rw [z] at e; cases e

/-! ### OpenK's ledger, filled with every new object but one -/
def allNews (g h : Heap) (L : Addr) : List (Addr × Obj) := (List.range h.objs.size).filterMap fun a => if a = L ∨ (g.get? a).isSome = true then none else (h.get? a).map fun o => (a, o)
def rest (g h : Heap) (L d : Addr) : List (Addr × Obj) := (allNews g h L).filter fun p => decide (p.1 ≠ d)
end L2

namespace L2
open PySem PySem.Spec PyProof.Rows

/-- the module's facts, over the base: the heap at the law's entry without what is tracked there -/
structure Mod (K : PySem.W.Frag) (mg : Str → Option Value) (base : Heap) : Prop where
  kin : K.In base
  glob : base.Ns mainGlobals mg
  blt : ∃ mb, base.Ns builtinsNs mb ∧ ∀ x : Str, x ≠ "__name__" → mb x = bootBuiltins x
  nolimit : base.NoLimit

/-- the context: a def's body (or a comprehension's block) running. base: fixed through the whole law; s₀, H₀: the entry; outer: the frames whose slots others may change (a def's callers); stack: all frames that run;
   ex: iterators that were made ahead of the entry and are walked here (a comprehension's); fn: the names whose cells were made at the entry (a def: all; a comprehension's block: its own); calm: not within an except suite; pn: pins that every state bears; xe: what is wanted of an exception that leaves the code -/
structure Cx where
  prog : Program
  w : World
  K : PySem.W.Frag
  mg : Str → Option Value
  base : Heap
  A : Around
  N : List Str
  s₀ : Shared
  H₀ : Hp
  env : Env
  outer : List Env
  stack : List Env
  ex : List Addr
  fn : Str → Bool
  calm : Bool
  pn : List (Addr × Obj)
  xe : Value → Shared → Prop
/-- the callers' frames -/
def frs (l : List Env) : List Addr := l.filterMap (·.frame)
abbrev Cx.fs (X : Cx) : List Addr := frs X.outer

def Vis (sc : Scope) (x : Str) : Prop := sc.names.lookup x = some .local ∨ sc.names.lookup x = some .cell ∨ sc.names.lookup x = some .free
def Loc (sc : Scope) (x : Str) : Prop := sc.names.lookup x = some .local ∨ sc.names.lookup x = some .cell
def Look (env : Env) (h : Heap) (m : Str → Option Value) (x : Str) (u : Value) : Prop :=
  (env.kindOf x = some .local ∧ m x = some u) ∨ ((env.kindOf x = some .cell ∨ env.kindOf x = some .free) ∧ ∃ c, env.cells.lookup x = some c ∧ h.IsCell c (some u))

structure Cx.Ok (X : Cx) : Prop where
  mod : Mod X.K X.mg X.base
  kind : X.env.scope.kind = .function
  glob : X.env.globals = mainGlobals
  blt : X.env.builtins = builtinsNs
  above : X.s₀.heap.objs.size ≤ X.env.locals
  inj : ∀ x y c, X.env.cells.lookup x = some c → X.env.cells.lookup y = some c → x = y
  has : ∀ x, (X.env.kindOf x = some .cell ∨ X.env.kindOf x = some .free) → ∃ c, X.env.cells.lookup x = some c
  cab : ∀ x c, X.fn x = true → X.env.cells.lookup x = some c → X.s₀.heap.objs.size ≤ c
  hd : X.calm = true → X.A.handled = none
  frames : X.A.frames = some X.stack
  stk : X.stack = X.outer ∨ (X.stack = X.env :: X.outer ∧ X.env.frame = some X.env.locals)
  exf : ∀ b ∈ X.ex, b ≠ X.env.locals ∧ ∀ x c, X.env.cells.lookup x = some c → c ≠ b
  bs : ∀ b o, X.base.get? b = some o → X.s₀.heap.get? b = some o ∧ X.H₀ b = none
  bsz : X.base.objs.size ≤ X.s₀.heap.objs.size
  noex : ∀ b o, X.base.get? b = some o → b ∉ X.ex
  exfs : ∀ b ∈ X.ex, b ∉ X.fs
  funs : X.s₀.heap.FunFrames X.base X.outer
  frf : ∀ b ∈ X.fs, X.H₀ b = none

structure Inv (X : Cx) (pins : List (Addr × Obj)) (σ : List (Option V)) (H : Hp) (s : Shared) : Prop where
  ok : X.Ok
  os : s.os = X.s₀.os
  bare : AllBare s.gens
  base : Un X.fs X.ex X.H₀ H X.s₀.heap s.heap
  loc : ∃ m, s.heap.Ns X.env.locals m ∧ ∀ (i : Nat) (x : Str) (v : V), X.N[i]? = some x → σ[i]? = some (some v) → Vis X.env.scope x → ∃ u, RelV v u ∧ Look X.env s.heap m x u
  cell : ∀ x c, X.env.cells.lookup x = some c → ∃ v, s.heap.IsCell c v
  free : H X.env.locals = none
  freeC : ∀ x c, X.env.cells.lookup x = some c → H c = none
  pin : ∀ p ∈ X.pn ++ pins, s.heap.get? p.1 = some p.2 ∧ H p.1 = none ∧ p.1 ≠ X.env.locals ∧ p.1 ∉ X.fs ∧ ∀ v, p.2.data ≠ .cell v
  hok : HOk X.prog X.w H s.heap
  len : σ.length = X.N.length

section
variable {X : Cx} {pins : List (Addr × Obj)} {σ : List (Option V)} {H H' : Hp} {s : Shared} {h' : Heap}

theorem Cx.Ok.nofr (ok : X.Ok) {b : Addr} {o : Obj} (e : X.base.get? b = some o) : b ∉ X.fs := fun hb => by
  have := (ok.funs.mem hb).1
  rw [e] at this; cases this
theorem Inv.bs (I : Inv X pins σ H s) : ∀ b o, X.base.get? b = some o → s.heap.get? b = some o ∧ H b = none := fun b o e =>
  ⟨I.base.keep b o (I.ok.bs b o e).1 (I.ok.bs b o e).2 (I.ok.nofr e) (I.ok.noex b o e), I.base.free b o (I.ok.bs b o e).1 (I.ok.bs b o e).2 (I.ok.noex b o e)⟩
theorem Inv.bk (I : Inv X pins σ H s) : ∀ b o, X.base.get? b = some o → s.heap.get? b = some o := fun b o e => (I.bs b o e).1
theorem Inv.mod (I : Inv X pins σ H s) : Mod X.K X.mg X.base := I.ok.mod
theorem Inv.kIn (I : Inv X pins σ H s) : X.K.In s.heap := I.ok.mod.kin.keeps I.bk
theorem Inv.lt (I : Inv X pins σ H s) : X.env.locals < s.heap.objs.size := let ⟨_, hn, _⟩ := I.loc; hn.lt
theorem Inv.sz (I : Inv X pins σ H s) : X.s₀.heap.objs.size ≤ s.heap.objs.size := Nat.le_trans I.ok.above (Nat.le_of_lt I.lt)
theorem Inv.nofs (I : Inv X pins σ H s) {a : Addr} (h : s.heap.objs.size ≤ a) : a ∉ X.fs := fun hb => by
  obtain ⟨_, o, ho, _⟩ := I.ok.funs.mem hb
  exact absurd (Nat.lt_of_lt_of_le (Heap.lt_size ho) (Nat.le_trans I.sz h)) (Nat.lt_irrefl _)
theorem Inv.cne (I : Inv X pins σ H s) : ∀ x c, X.env.cells.lookup x = some c → c ≠ X.env.locals := fun x c e z => by
  obtain ⟨v, o, ho, hd⟩ := I.cell x c e
  obtain ⟨m, ⟨o', es, ep, ho', hd', _⟩, _⟩ := I.loc
  rw [z, ho'] at ho; cases ho; rw [hd'] at hd; cases hd
theorem Inv.funs (I : Inv X pins σ H s) : s.heap.FunFrames X.base X.outer := by
  have all : ∀ (l : List Env), (∀ b ∈ frs l, b ∈ X.fs) → X.s₀.heap.FunFrames X.base l → s.heap.FunFrames X.base l := by
    intro l
    induction l with
    | nil => intro _ _; trivial
    | cons env r ih =>
      intro hs hl
      obtain ⟨hk, ⟨L, o, hf, hn, ho, hd⟩, hr⟩ := hl
      have hL : L ∈ X.fs := hs L (by unfold frs; rw [List.filterMap_cons, hf]; exact List.mem_cons_self)
      obtain ⟨sl, e⟩ := I.base.slot L o ho (I.ok.frf L hL) hL fun z => I.ok.exfs L z hL
      exact ⟨hk, ⟨L, _, hf, hn, e, hd⟩, ih (fun b hb => hs b (by unfold frs; rw [List.filterMap_cons, hf]; exact List.mem_cons_of_mem _ hb)) hr⟩
  exact all X.outer (fun _ hb => hb) I.ok.funs

/-- the frames that run, for a call -/
theorem Inv.stack (I : Inv X pins σ H s) : s.heap.FunFrames X.base X.stack := by
  rcases I.ok.stk with e | ⟨e, hf⟩
  · rw [e]; exact I.funs
  · rw [e]
    obtain ⟨m, hn, _⟩ := I.loc
    refine .cons (by rw [I.ok.kind]; decide) hf hn ?_ I.funs
    exact Heap.get?_none_of_le (Nat.le_trans I.ok.bsz I.ok.above)
theorem Inv.stkSub (I : Inv X pins σ H s) : ∀ b ∈ frs X.stack, b ∈ X.env.locals :: X.fs := fun b hb => by
  rcases I.ok.stk with e | ⟨e, hf⟩
  · rw [e] at hb; exact List.mem_cons_of_mem _ hb
  · rw [e] at hb
    unfold frs at hb
    rw [List.filterMap_cons, hf] at hb
    exact hb
theorem Inv.stkFree (I : Inv X pins σ H s) : ∀ b ∈ frs X.stack, H b = none := fun b hb => by
  rcases List.mem_cons.mp (I.stkSub b hb) with e | hb
  · rw [e]; exact I.free
  · obtain ⟨_, o, ho, _⟩ := I.ok.funs.mem hb
    exact I.base.free b o ho (I.ok.frf b hb) fun z => I.ok.exfs b z hb

/-- THE STEP: the untracked objects but the frame and the records at ch are kept (the callers' frames up to slots), the frame's map is kept, the new abstract heap is held -/
theorem Inv.step {g' : Array GenState} {t' : Nat} {d' : Drawn} {ch : List Addr} (I : Inv X pins σ H s)
    (hch : ∀ b ∈ ch, (b ∈ X.ex ∨ X.s₀.heap.objs.size ≤ b) ∧ b ≠ X.env.locals ∧ (∀ x c, X.env.cells.lookup x = some c → c ≠ b) ∧ ∀ p ∈ X.pn ++ pins, p.1 ≠ b)
    (keep : ∀ b o, b ≠ X.env.locals → b ∉ X.fs → b ∉ ch → s.heap.get? b = some o → H b = none → h'.get? b = some o)
    (slot : ∀ b o, b ≠ X.env.locals → b ∈ X.fs → b ∉ ch → s.heap.get? b = some o → H b = none → ∃ sl, h'.get? b = some { o with slots := sl }) (free : ∀ b o, b ∉ ch → s.heap.get? b = some o → H b = none → H' b = none)
    (there : ∀ b o, b ∉ ch → s.heap.get? b = some o → ∃ o', h'.get? b = some o')
    (tups : ∀ b xs, H b = some (.tup xs) → H' b = some (.tup xs)) (frzs : ∀ b o u, H b = some (.frz o u) → H' b = some (.frz o u)) (tbls : ∀ b ps, H b = some (.tbl ps) → ∃ more, H' b = some (.tbl (ps ++ more)))
    (ns : ∀ m, s.heap.Ns X.env.locals m → h'.Ns X.env.locals m) (hok : HOk X.prog X.w H' h') (hg : AllBare g') :
    Inv X pins σ H' { s with heap := h', gens := g', drawn := d', toks := t' } := by
  have neL : ∀ b o, X.s₀.heap.get? b = some o → b ≠ X.env.locals := fun b o e => Nat.ne_of_lt (Nat.lt_of_lt_of_le (Heap.lt_size e) I.ok.above)
  have neC : ∀ b o, X.s₀.heap.get? b = some o → b ∉ X.ex → b ∉ ch := fun b o e hx hb => by
    rcases (hch b hb).1 with z | z
    · exact hx z
    · exact absurd (Nat.lt_of_lt_of_le (Heap.lt_size e) z) (Nat.lt_irrefl _)
  have cellK : ∀ x c, X.env.cells.lookup x = some c → ∀ v, s.heap.IsCell c v → h'.IsCell c v := fun x c e v ⟨o, ho, hd⟩ => by
    have nch : c ∉ ch := fun z => (hch c z).2.2.1 x c e rfl
    by_cases hc : c ∈ X.fs
    · obtain ⟨sl, q⟩ := slot c o (I.cne x c e) hc nch ho (I.freeC x c e)
      exact ⟨_, q, hd⟩
    · exact ⟨o, keep c o (I.cne x c e) hc nch ho (I.freeC x c e), hd⟩
  refine ⟨I.ok, I.os, hg, ⟨fun b o e n hb hx => ?_, fun b o e n hb hx => ?_, fun b o e n hx => ?_, fun b o e hx => ?_, fun b xs e => tups b xs (I.base.tups b xs e), fun b o xs e => frzs b o xs (I.base.frzs b o xs e), fun b ps e => ?_⟩, ?_, fun x c e => ?_, ?_, fun x c e => ?_, fun p hp => ?_, hok, I.len⟩
  · exact keep b o (neL b o e) hb (neC b o e hx) (I.base.keep b o e n hb hx) (I.base.free b o e n hx)
  · obtain ⟨sl, e1⟩ := I.base.slot b o e n hb hx
    obtain ⟨sl', e2⟩ := slot b _ (neL b o e) hb (neC b o e hx) e1 (I.base.free b o e n hx)
    exact ⟨sl', e2⟩
  · obtain ⟨o', e1⟩ := I.base.there b o e hx
    exact free b o' (neC b o e hx) e1 (I.base.free b o e n hx)
  · obtain ⟨o', e1⟩ := I.base.there b o e hx
    exact there b o' (neC b o e hx) e1
  · obtain ⟨m1, e1⟩ := I.base.tbls b ps e
    obtain ⟨m2, e2⟩ := tbls b _ e1
    exact ⟨m1 ++ m2, by rw [e2, Array.append_assoc]⟩
  · obtain ⟨m, hn, hl⟩ := I.loc
    refine ⟨m, ns m hn, fun i x v e1 e2 e3 => ?_⟩
    obtain ⟨u, r, l⟩ := hl i x v e1 e2 e3
    refine ⟨u, r, ?_⟩
    rcases l with l | ⟨k, c, e, z⟩
    · exact .inl l
    · exact .inr ⟨k, c, e, cellK x c e _ z⟩
  · obtain ⟨v, z⟩ := I.cell x c e
    exact ⟨v, cellK x c e v z⟩
  · obtain ⟨m, ⟨o, _, _, ho, _⟩, _⟩ := I.loc
    exact free _ o (fun z => (hch _ z).2.1 rfl) ho I.free
  · obtain ⟨v, o, ho, hd⟩ := I.cell x c e
    exact free c o (fun z => (hch c z).2.2.1 x c e rfl) ho (I.freeC x c e)
  · obtain ⟨e, n, ne, nf, d⟩ := I.pin p hp
    have nch : p.1 ∉ ch := fun z => (hch p.1 z).2.2.2 p hp rfl
    exact ⟨keep p.1 p.2 ne nf nch e n, free p.1 p.2 nch e n, ne, nf, d⟩
/-- .. where the frame's own object is kept too -/
theorem Inv.un {t' : Nat} (I : Inv X pins σ H s) (u : Un X.fs [] H H' s.heap h') (hok : HOk X.prog X.w H' h') : Inv X pins σ H' { s with heap := h', toks := t' } := by
  obtain ⟨m, ⟨o, es, ep, ho, r⟩, _⟩ := id I.loc
  obtain ⟨sl, hL⟩ := u.any ho I.free (by simp)
  exact I.step (g' := s.gens) (d' := s.drawn) (ch := []) (fun _ z => nomatch z) (fun b o _ hb _ e n => u.keep b o e n hb (by simp)) (fun b o _ hb _ e n => u.slot b o e n hb (by simp)) (fun b o _ e n => u.free b o e n (by simp)) (fun b o _ e => u.there b o e (by simp)) u.tups u.frzs u.tbls (fun m' hm => by
    obtain ⟨o', es', ep', ho', r'⟩ := hm
    rw [ho] at ho'; cases ho'
    exact ⟨_, es', ep', hL, r'⟩) hok I.bare
/-- behind a call (or a comprehension's block): the slots of this frame may have changed too, the records at ch may have turned -/
theorem Inv.call {g' : Array GenState} {t' : Nat} {d' : Drawn} {ch : List Addr} (I : Inv X pins σ H s) (u : Un (frs X.stack) ch H H' s.heap h') (hok : HOk X.prog X.w H' h') (hg : AllBare g')
    (hch : ∀ b ∈ ch, (b ∈ X.ex ∨ X.s₀.heap.objs.size ≤ b) ∧ b ≠ X.env.locals ∧ (∀ x c, X.env.cells.lookup x = some c → c ≠ b) ∧ ∀ p ∈ X.pn ++ pins, p.1 ≠ b) :
    Inv X pins σ H' { s with heap := h', gens := g', drawn := d', toks := t' } := by
  obtain ⟨m, ⟨o, es, ep, ho, r⟩, _⟩ := id I.loc
  obtain ⟨sl, hL⟩ := u.any ho I.free fun z => (hch _ z).2.1 rfl
  exact I.step (ch := ch) hch (fun b o hL hb hc e n => u.keep b o e n (fun z => (List.mem_cons.mp (I.stkSub b z)).elim hL hb) hc) (fun b o _ _ hc e n => u.any e n hc) (fun b o hc e n => u.free b o e n hc) (fun b o hc e => u.there b o e hc) u.tups u.frzs u.tbls (fun m' hm => by
    obtain ⟨o', es', ep', ho', r'⟩ := hm
    rw [ho] at ho'; cases ho'
    exact ⟨_, es', ep', hL, r'⟩) hok hg
/-- an untracked record of ours (an iterator) has turned -/
theorem Inv.turned {t' : Nat} {it : Addr} (I : Inv X pins σ H s) (k : ∀ b o, b ≠ it → s.heap.get? b = some o → h'.get? b = some o) (hn : H it = none) (hL : it ≠ X.env.locals)
    (h1 : it ∈ X.ex ∨ X.s₀.heap.objs.size ≤ it) (h2 : ∀ x c, X.env.cells.lookup x = some c → c ≠ it) (h3 : ∀ p ∈ X.pn ++ pins, p.1 ≠ it) : Inv X pins σ H { s with heap := h', toks := t' } := by
  have nit : ∀ b u, H b = some u → b ≠ it := fun b u e z => by rw [z, hn] at e; cases e
  refine I.step (g' := s.gens) (d' := s.drawn) (ch := [it]) (fun b hb => ?_) (fun b o _ _ hc e _ => k b o (fun z => hc (by simp [z])) e) (fun b o _ _ hc e _ => ⟨o.slots, k b o (fun z => hc (by simp [z])) e⟩) (fun _ _ _ _ n => n)
    (fun b o hc e => ⟨o, k b o (fun z => hc (by simp [z])) e⟩) (fun _ _ e => e) (fun _ _ _ e => e) (fun b ps e => ⟨#[], by rw [e]; simp⟩) (fun m hm => ?_) (fun b u e => ?_) I.bare
  · have e : b = it := by simpa using hb
    subst e
    exact ⟨h1, hL, h2, h3⟩
  · obtain ⟨o, es, ep, ho, r⟩ := hm
    exact ⟨o, es, ep, k _ o (Ne.symm hL) ho, r⟩
  · refine (I.hok b u e).stay (fun c v hc q => k c v ?_ q) (fun _ q => q) fun _ _ q => q
    rcases hc with z | z
    · rw [z]; exact nit b u e
    · exact nit c _ z
theorem Inv.tok (I : Inv X pins σ H s) (t : Nat) : Inv X pins σ H { s with toks := t } := I.un (h' := s.heap) (t' := t) Un.refl I.hok
/-- all objects kept -/
theorem Inv.kept {t' : Nat} (I : Inv X pins σ H s) (k : ∀ b u, s.heap.get? b = some u → h'.get? b = some u) : Inv X pins σ H { s with heap := h', toks := t' } := I.un (Un.kept k) (I.hok.kept k)
/-- a new object laid and tracked -/
theorem Inv.laid {a : Addr} {o : HO} {t' : Nat} (I : Inv X pins σ H s) (k : ∀ b u, s.heap.get? b = some u → h'.get? b = some u) (hp : s.heap.objs.size ≤ a) (new : ObjOk X.prog X.w (upd H a o) h' a o) :
    Inv X pins σ (upd H a o) { s with heap := h', toks := t' } := I.un (Un.laid k hp (I.hok.fresh hp)) (I.hok.laid k hp new)
/-- an object written -/
theorem Inv.write {x e : Addr} {o : HO} {t' : Nat} (I : Inv X pins σ H s) (mu : Mut (H x)) (he : e = x ∨ H e = some (.own x)) (k : ∀ b u, b ≠ e → s.heap.get? b = some u → h'.get? b = some u) (heo : ∃ u, h'.get? e = some u)
    (new : ObjOk X.prog X.w (upd H x o) h' x o) : Inv X pins σ (upd H x o) { s with heap := h', toks := t' } := I.un (Un.write mu he k heo) (I.hok.write mu he k heo new)
theorem Inv.pins_of {pins' : List (Addr × Obj)} (I : Inv X pins σ H s) (h : ∀ p ∈ pins', s.heap.get? p.1 = some p.2 ∧ H p.1 = none ∧ p.1 ≠ X.env.locals ∧ p.1 ∉ X.fs ∧ ∀ v, p.2.data ≠ .cell v) : Inv X pins' σ H s :=
  ⟨I.ok, I.os, I.bare, I.base, I.loc, I.cell, I.free, I.freeC, fun p hp => (List.mem_append.mp hp).elim (fun z => I.pin p (List.mem_append_left _ z)) (h p), I.hok, I.len⟩

theorem nodup_ix {N : List Str} (hN : N.Nodup) {i j : Nat} {x : Str} (a : N[i]? = some x) (b : N[j]? = some x) : i = j := by
  obtain ⟨h1, e1⟩ := List.getElem?_eq_some_iff.mp a
  obtain ⟨h2, e2⟩ := List.getElem?_eq_some_iff.mp b
  exact (List.getElem_inj hN).mp (e1.trans e2.symm)

/-- a name is stored; what changed -/
theorem store_ok2 {M : Model} {A : Around} {E : Value → Shared → Prop} {i : Nat} {x : Str} {v : V} {u : Value} {Q : Unit → Shared → Prop} (I : Inv X pins σ H s) (hN : X.N.Nodup) (hi : X.N[i]? = some x) (hx : Loc X.env.scope x) (r : RelV v u)
    (h : ∀ s', Inv X pins (σ.set i (some v)) H s' → (∃ a, Heap.SameBut a s.heap s'.heap ∧ (a = X.env.locals ∨ X.env.cells.lookup x = some a)) → Q () s') (hf : X.fn x = true ∨ X.env.scope.names.lookup x = some .local := by first | exact .inl rfl | exact .inr rfl | assumption) : wpAny M A (storeName X.env x u) Q E s := by
  obtain ⟨m, hn, hl⟩ := id I.loc
  have hcls : (X.env.scope.kind == .class || (X.env.scope.kind == .module && X.env.locals != X.env.globals)) = false := by rw [I.ok.kind]; rfl
  have hiσ : i < σ.length := by rw [I.len]; exact (List.getElem?_eq_some_iff.mp hi).1
  have cne := I.cne
  have tracked : ∀ {a : Addr} {h' : Heap}, (∃ o, s.heap.get? a = some o ∧ H a = none) → Heap.SameBut a s.heap h' → HOk X.prog X.w H h' := fun {a h'} ha hs b ob e => by
    obtain ⟨_, _, hfree⟩ := ha
    refine (I.hok b ob e).stay (fun c w' hc q => (hs.2 c ?_).trans q) (fun _ q => q) fun _ _ q => q
    rintro rfl
    rcases hc with rfl | hc
    · rw [hfree] at e; cases e
    · rw [hfree] at hc; cases hc
  rcases hx with hk | hk
  · refine wpAny_storeName_local hk hn (fun h' hn' hs => ?_) hcls
    obtain ⟨oL, _, _, hoL, _⟩ := id hn
    refine h _ ⟨I.ok, I.os, I.bare, ⟨fun b o e n hb hx => ?_, fun b o e n hb hx => ?_, I.base.free, fun b o e hx => ?_, I.base.tups, I.base.frzs, I.base.tbls⟩, ⟨_, hn', fun j y v' e1 e2 e3 => ?_⟩, fun y c e => ?_, I.free, I.freeC, fun p hp => ?_, tracked ⟨oL, hoL, I.free⟩ hs, by simpa using I.len⟩ ⟨_, hs, .inl rfl⟩
    · exact (hs.2 b (Nat.ne_of_lt (Nat.lt_of_lt_of_le (Heap.lt_size e) I.ok.above))).trans (I.base.keep b o e n hb hx)
    · obtain ⟨sl, e1⟩ := I.base.slot b o e n hb hx
      exact ⟨sl, (hs.2 b (Nat.ne_of_lt (Nat.lt_of_lt_of_le (Heap.lt_size e) I.ok.above))).trans e1⟩
    · obtain ⟨o', e1⟩ := I.base.there b o e hx
      exact ⟨o', (hs.2 b (Nat.ne_of_lt (Nat.lt_of_lt_of_le (Heap.lt_size e) I.ok.above))).trans e1⟩
    · by_cases hj : j = i
      · subst hj
        rw [hi] at e1; cases e1
        rw [List.getElem?_set_self hiσ] at e2
        cases e2
        exact ⟨u, r, .inl ⟨hk, by simp⟩⟩
      · rw [List.getElem?_set_ne (Ne.symm hj)] at e2
        obtain ⟨u', r', q⟩ := hl j y v' e1 e2 e3
        refine ⟨u', r', ?_⟩
        rcases q with ⟨k, e⟩ | ⟨k, c, e, z⟩
        · refine .inl ⟨k, ?_⟩
          have : y ≠ x := fun e => hj (nodup_ix hN e1 (e ▸ hi))
          simp [this, e]
        · exact .inr ⟨k, c, e, z.sameBut hs (cne y c e)⟩
    · obtain ⟨w', z⟩ := I.cell y c e
      exact ⟨w', z.sameBut hs (cne y c e)⟩
    · obtain ⟨e, n, ne, nf, d⟩ := I.pin p hp
      exact ⟨(hs.2 p.1 ne).trans e, n, ne, nf, d⟩
  · have hfn : X.fn x = true := by
      rcases hf with z | z
      · exact z
      · rw [z] at hk; cases hk
    obtain ⟨c, hc⟩ := I.ok.has x (.inl hk)
    obtain ⟨w', z⟩ := I.cell x c hc
    refine wpAny_storeName_cell I.ok.kind hk hc z (fun h' hc' hs => ?_)
    obtain ⟨oc, hoc, hocd⟩ := id z
    refine h { s with heap := h' } ⟨I.ok, I.os, I.bare, ⟨fun b o e n hb hx => ?_, fun b o e n hb hx => ?_, I.base.free, fun b o e hx => ?_, I.base.tups, I.base.frzs, I.base.tbls⟩, ⟨m, hn.sameBut hs (Ne.symm (cne x c hc)), fun j y v' e1 e2 e3 => ?_⟩, fun y c' e => ?_, I.free, I.freeC, fun p hp => ?_, tracked ⟨oc, hoc, I.freeC x c hc⟩ hs, by simpa using I.len⟩ ⟨c, hs, .inr hc⟩
    · exact (hs.2 b (Nat.ne_of_lt (Nat.lt_of_lt_of_le (Heap.lt_size e) (I.ok.cab x c hfn hc)))).trans (I.base.keep b o e n hb hx)
    · obtain ⟨sl, e1⟩ := I.base.slot b o e n hb hx
      exact ⟨sl, (hs.2 b (Nat.ne_of_lt (Nat.lt_of_lt_of_le (Heap.lt_size e) (I.ok.cab x c hfn hc)))).trans e1⟩
    · obtain ⟨o', e1⟩ := I.base.there b o e hx
      exact ⟨o', (hs.2 b (Nat.ne_of_lt (Nat.lt_of_lt_of_le (Heap.lt_size e) (I.ok.cab x c hfn hc)))).trans e1⟩
    · by_cases hj : j = i
      · subst hj
        rw [hi] at e1; cases e1
        rw [List.getElem?_set_self hiσ] at e2
        cases e2
        exact ⟨u, r, .inr ⟨.inl hk, c, hc, hc'⟩⟩
      · rw [List.getElem?_set_ne (Ne.symm hj)] at e2
        obtain ⟨u', r', q⟩ := hl j y v' e1 e2 e3
        refine ⟨u', r', ?_⟩
        rcases q with q | ⟨k, c', e, z'⟩
        · exact .inl q
        · refine .inr ⟨k, c', e, z'.sameBut hs ?_⟩
          rintro rfl
          exact hj (nodup_ix hN e1 (I.ok.inj _ _ _ e hc ▸ hi))
    · by_cases hcc : c' = c
      · subst hcc; exact ⟨_, hc'⟩
      · obtain ⟨w2, z2⟩ := I.cell y c' e
        exact ⟨w2, z2.sameBut hs hcc⟩
    · obtain ⟨e, n, ne, nf, d⟩ := I.pin p hp
      refine ⟨(hs.2 p.1 ?_).trans e, n, ne, nf, d⟩
      intro q
      rw [q, hoc] at e
      have q' : oc = p.2 := Option.some.inj e
      exact d w' (by rw [← q']; exact hocd)
theorem store_ok {M : Model} {A : Around} {E : Value → Shared → Prop} {i : Nat} {x : Str} {v : V} {u : Value} {Q : Unit → Shared → Prop} (I : Inv X pins σ H s) (hN : X.N.Nodup) (hi : X.N[i]? = some x) (hx : Loc X.env.scope x) (r : RelV v u)
    (h : ∀ s', Inv X pins (σ.set i (some v)) H s' → Q () s') (hf : X.fn x = true ∨ X.env.scope.names.lookup x = some .local := by first | exact .inl rfl | exact .inr rfl | assumption) : wpAny M A (storeName X.env x u) Q E s :=
  store_ok2 I hN hi hx r (fun s' I' _ => h s' I') hf
end

/-! ### the judgements -/
/-- an exception: its class, its own dict's address (where it has one), the abstract heap behind it -/
abbrev XK := Value → Option Addr → Hp → Prop
abbrev St := List (Option V)
abbrev VK := V → Hp → Prop
/-- an expression's reading; a test's; an argument list's -/
abbrev TE := St → Hp → VK → Prop
abbrev TT := St → Hp → (Bool → Hp → Prop) → Prop
abbrev TA := St → Hp → (List V → Hp → Prop) → Prop
/-- what is wanted behind a statement -/
structure Ends where
  nx : St → Hp → Prop
  rt : VK
  bk : St → Hp → Prop := fun _ _ => False
  ct : St → Hp → Prop := fun _ _ => False
abbrev TS := Ends → St → Hp → Prop

def EP (X : Cx) (pins : List (Addr × Obj)) (σ : St) (Q : VK) (u : Value) (s' : Shared) : Prop := ∃ v H', Inv X pins σ H' s' ∧ RelV v u ∧ Q v H'
def TP (X : Cx) (pins : List (Addr × Obj)) (σ : St) (Q : Bool → Hp → Prop) (b : Bool) (s' : Shared) : Prop := ∃ H', Inv X pins σ H' s' ∧ Q b H'
def AP (X : Cx) (pins : List (Addr × Obj)) (σ : St) (Q : List V → Hp → Prop) (us : List Value) (s' : Shared) : Prop := ∃ vs H', Inv X pins σ H' s' ∧ Vals vs us ∧ Q vs H'
def SP (X : Cx) (pins : List (Addr × Obj)) (D : Ends) (f : Flow) (s' : Shared) : Prop :=
  match f with
  | .next => ∃ σ' H', Inv X pins σ' H' s' ∧ D.nx σ' H'
  | .brk => ∃ σ' H', Inv X pins σ' H' s' ∧ D.bk σ' H'
  | .cont => ∃ σ' H', Inv X pins σ' H' s' ∧ D.ct σ' H'
  | .ret u => ∃ v σ' H', Inv X pins σ' H' s' ∧ RelV v u ∧ D.rt v H'

def PE (X : Cx) (e : Expr) (t : TE) : Prop :=
  ∀ (pins : List (Addr × Obj)) (s : Shared) (σ : St) (H : Hp) (Q : VK), Inv X pins σ H s → t σ H Q → wpAny (model X.prog X.w) X.A (eval e X.env) (EP X pins σ Q) X.xe s
def PT (X : Cx) (e : Expr) (t : TT) : Prop :=
  ∀ (pins : List (Addr × Obj)) (s : Shared) (σ : St) (H : Hp) (Q : Bool → Hp → Prop), Inv X pins σ H s → t σ H Q → wpAny (model X.prog X.w) X.A (isTrue e X.env (eval e X.env)) (TP X pins σ Q) X.xe s
/-- a test whatever its 'whole' is (and, or) -/
def PW (X : Cx) (e : Expr) (t : TT) : Prop :=
  ∀ (whole : Sem Value) (pins : List (Addr × Obj)) (s : Shared) (σ : St) (H : Hp) (Q : Bool → Hp → Prop), Inv X pins σ H s → t σ H Q → wpAny (model X.prog X.w) X.A (isTrue e X.env whole) (TP X pins σ Q) X.xe s
theorem PW.pt {X : Cx} {e : Expr} {t : TT} (h : PW X e t) : PT X e t := h _
/-- an argument list (no star), from the left -/
def PA (X : Cx) (es : List Expr) (t : TA) : Prop :=
  ∀ (pos : Pos) (pins : List (Addr × Obj)) (s : Shared) (σ : St) (H : Hp) (Q : List V → Hp → Prop), Inv X pins σ H s → t σ H Q → wpAny (model X.prog X.w) X.A (spliced (backTo pos (starEach es X.env))) (AP X pins σ Q) X.xe s
def PS (X : Cx) (st : Stmt) (t : TS) : Prop :=
  ∀ (pins : List (Addr × Obj)) (s : Shared) (σ : St) (H : Hp) (D : Ends), Inv X pins σ H s → t D σ H → wpAny (model X.prog X.w) X.A (exec st X.env) (SP X pins D) X.xe s
def PSs (X : Cx) (st : List Stmt) (t : TS) : Prop :=
  ∀ (pins : List (Addr × Obj)) (s : Shared) (σ : St) (H : Hp) (D : Ends), Inv X pins σ H s → t D σ H → wpAny (model X.prog X.w) X.A (execs st X.env) (SP X pins D) X.xe s
/-- weaken the end -/
theorem thn {α : Type} {t : Sem α} {Q Q' : α → Shared → Prop} {M : Model} {A : Around} {E : Value → Shared → Prop} {s : Shared} (h : wpAny M A t Q E s) (hQ : ∀ a s, Q a s → Q' a s) : wpAny M A t Q' E s := wpAny_mono h hQ fun _ _ x => x
end L2

namespace L2
open PySem PySem.Spec PyProof.Rows
section
variable {X : Cx}

/-! ### names and constants -/
def tVar (i : Nat) : TE := fun σ H Q => ∃ v, σ[i]? = some (some v) ∧ Q v H
def tC (v : V) : TE := fun _ H Q => Q v H
theorem pe_var {i : Nat} {x : Str} {pos : Pos} (hN : X.N[i]? = some x) (hv : Vis X.env.scope x) (hd : (x == ("__debug__" : Str)) = false := by decide) (hcd : (x == ("__classdict__" : Str)) = false := by decide) : PE X (.Name x pos) (tVar i) := by
  intro pins s σ H Q I h
  obtain ⟨v, e, h⟩ := h
  obtain ⟨m, hn, hl⟩ := I.loc
  obtain ⟨u, r, l⟩ := hl i x v hN e hv
  have fin : EP X pins σ Q u s := ⟨v, H, I, r, h⟩
  rcases l with ⟨hk, hm⟩ | ⟨hk, c, hc, hcell⟩
  · exact wpAny_Name (wpAny_loadName_local I.ok.kind hk hn hm fin) hd
  · rcases hk with hk | hk
    · exact wpAny_Name (wpAny_loadName_cell I.ok.kind hk hc hcell fin) hd
    · exact wpAny_Name (wpAny_loadName_free I.ok.kind hk hc hcell fin hcd) hd
theorem pe_int {i j pos} : PE X (.Constant (.int i) j pos) (tC (.int i)) := fun _ _ _ H _ I h => wpAny_Constant_int ⟨.int i, H, I.tok _, ⟨_, rfl⟩, h⟩
theorem pe_bl {b j pos} : PE X (.Constant (.bool b) j pos) (tC (.bl b)) := fun _ _ _ H _ I h => Constant_bool ⟨.bl b, H, I, rfl, h⟩
theorem pe_non {j pos} : PE X (.Constant .none j pos) (tC .non) := fun _ _ _ H _ I h => Constant_none ⟨.non, H, I, rfl, h⟩
/-- a global name of the def -/
def Gl (X : Cx) (x : Str) : Prop := X.env.kindOf x = some .globalImplicit
theorem ld_glob {E : Value → Shared → Prop} {pins : List (Addr × Obj)} {s : Shared} {σ : St} {H : Hp} {x : Str} {u : Value} {pos : Pos} {Q : Value → Shared → Prop} (I : Inv X pins σ H s) (hg : Gl X x) (hm : X.mg x = some u) (h : Q u s)
    (hd : (x == ("__debug__" : Str)) = false := by decide) : wpAny (model X.prog X.w) X.A (eval (.Name x pos) X.env) Q E s :=
  Calls.Name_function_global I.ok.kind hg (Calls.loadGlobal_global (by rw [I.ok.glob]; exact I.mod.glob.keeps I.bk) hm h) hd
theorem ld_blt {E : Value → Shared → Prop} {pins : List (Addr × Obj)} {s : Shared} {σ : St} {H : Hp} {x : Str} {u : Value} {pos : Pos} {Q : Value → Shared → Prop} (I : Inv X pins σ H s) (hg : Gl X x) (hm : X.mg x = none) (hv : bootBuiltins x = some u) (h : Q u s)
    (hn : x ≠ "__name__" := by decide) (hd : (x == ("__debug__" : Str)) = false := by decide) : wpAny (model X.prog X.w) X.A (eval (.Name x pos) X.env) Q E s := by
  obtain ⟨mb, h1, h2⟩ := I.mod.blt
  exact Calls.Name_function_global I.ok.kind hg (Calls.loadGlobal_builtin (by rw [I.ok.glob]; exact I.mod.glob.keeps I.bk) hm (by rw [I.ok.blt]; exact h1.keeps I.bk) ((h2 x hn).trans hv) h) hd
/-- a module's constant, a class, a function, as a value -/
theorem pe_glob {x : Str} {v : V} {u : Value} {pos : Pos} (hg : Gl X x) (hm : X.mg x = some u) (r : RelV v u) (hd : (x == ("__debug__" : Str)) = false := by decide) : PE X (.Name x pos) (tC v) :=
  fun _ _ _ H _ I h => ld_glob I hg hm ⟨v, H, I, r, h⟩ hd
theorem pe_bltn {x : Str} {v : V} {u : Value} {pos : Pos} (hg : Gl X x) (hm : X.mg x = none) (hv : bootBuiltins x = some u) (r : RelV v u) (hn : x ≠ "__name__" := by decide) (hd : (x == ("__debug__" : Str)) = false := by decide) : PE X (.Name x pos) (tC v) :=
  fun _ _ _ H _ I h => ld_blt I hg hm hv ⟨v, H, I, r, h⟩ hn hd

/-! ### arithmetic -/
/-- two ints -/
def t2I (ta tb : TE) (k : Int → Int → Hp → Prop) : St → Hp → Prop := fun σ H => ta σ H fun x H1 => tb σ H1 fun y H2 => ∃ i j, x = .int i ∧ y = .int j ∧ k i j H2
def tAdd (ta tb : TE) : TE := fun σ H Q => t2I ta tb (fun i j H2 => Q (.int (i + j)) H2) σ H
def tSub (ta tb : TE) : TE := fun σ H Q => t2I ta tb (fun i j H2 => Q (.int (i - j)) H2) σ H
/-- the left factor below 2^64 -/
def tMul (ta tb : TE) : TE := fun σ H Q => t2I ta tb (fun i j H2 => (-(2 ^ 64) < i ∧ i < 2 ^ 64) ∧ Q (.int (i * j)) H2) σ H
variable {a b : Expr} {ta tb : TE} {pos : Pos}
/-! ### comparisons -/
def PC (X : Cx) (op : CmpOp) (a b : Expr) (t : TE) : Prop :=
  ∀ (pins : List (Addr × Obj)) (s : Shared) (σ : St) (H : Hp) (Q : VK), Inv X pins σ H s → t σ H Q →
    wpAny (model X.prog X.w) X.A (eval a X.env) (fun v s₁ => wpAny (model X.prog X.w) X.A (eval b X.env) (fun u s₂ => wpAny (model X.prog X.w) X.A (compareOp op v u) (EP X pins σ Q) X.xe s₂) X.xe s₁) X.xe s
def tCmp (p : Int → Int → Bool) (ta tb : TE) : TE := fun σ H Q => t2I ta tb (fun i j H2 => Q (.bl (p i j)) H2) σ H
abbrev tLt : TE → TE → TE := tCmp fun i j => decide (i < j)
abbrev tLe : TE → TE → TE := tCmp fun i j => decide (i ≤ j)
abbrev tGt : TE → TE → TE := tCmp fun i j => decide (j < i)
abbrev tGe : TE → TE → TE := tCmp fun i j => decide (j ≤ i)
abbrev tEqI : TE → TE → TE := tCmp fun i j => decide (i = j)
abbrev tNeI : TE → TE → TE := tCmp fun i j => !decide (i = j)
/-- is None -/
def tIsN (ta : TE) : TE := fun σ H Q => ta σ H fun x H1 => Q (.bl (decide (x = .non))) H1
def tNotN (ta : TE) : TE := fun σ H Q => ta σ H fun x H1 => Q (.bl (!decide (x = .non))) H1
/-- a comparison as a value, as a test -/
def tB (t : TE) : TT := fun σ H Q => t σ H fun x H1 => ∃ c, x = .bl c ∧ Q c H1
theorem pt_cmp {op : CmpOp} {t : TE} (h : PC X op a b t) (h1 : behindInMarks op b = false := by first | exact nobehind _ (by decide) (by decide) | rfl) : PT X (.Compare a [op] [b] pos) (tB t) := by
  intro pins s σ H Q I hw
  refine wpAny_isTrue_Compare1 (thn (h pins s σ H _ I hw) fun v s1 h1 => thn h1 fun u s2 h2 => thn h2 fun c s3 ⟨x, H1, I1, r1, q1⟩ => ?_) h1
  obtain ⟨d, rfl, q⟩ := q1
  cases r1
  exact wpAny_truthy_bool ⟨H1, I1, q⟩
/-- an expression whose value is a bool, as a test -/
theorem pt_val {e : Expr} {t : TE} (h : PE X e t) (he : ∀ whole, isTrue e X.env whole = (do let v ← whole; standAt e.pos; holding [v] (truthy v)) := by intro _; rfl) : PT X e (tB t) := by
  intro pins s σ H Q I hw
  refine isTrue_plain (thn (h pins s σ H _ I hw) fun v s1 ⟨x, H1, I1, r1, q1⟩ => ?_) (he _)
  obtain ⟨d, rfl, q⟩ := q1
  cases r1
  exact wpAny_truthy_bool ⟨H1, I1, q⟩

/-! ### and, or, not -/
variable {tA tB' : TT} {rest : List Expr}
def tAnd (t u : TT) : TT := fun σ H Q => t σ H fun c H1 => if c = true then u σ H1 Q else Q false H1
def tOr (t u : TT) : TT := fun σ H Q => t σ H fun c H1 => if c = true then Q true H1 else u σ H1 Q
def tNot (t : TT) : TT := fun σ H Q => t σ H fun c H1 => Q (!c) H1
theorem pw_and1 (ha : PT X a tA) : PW X (.BoolOp .And [a] pos) tA := by
  intro wh pins s σ H Q I h
  refine isTrue_and (thn (ha pins s σ H Q I h) fun c s1 e => ?_)
  cases c with
  | true => exact isTrue_and_nil e
  | false => exact e
theorem pw_or1 (ha : PT X a tA) : PW X (.BoolOp .Or [a] pos) tA := by
  intro wh pins s σ H Q I h
  refine isTrue_or (thn (ha pins s σ H Q I h) fun c s1 e => ?_)
  cases c with
  | false => exact isTrue_or_nil e
  | true => exact e
theorem pw_and (ha : PT X a tA) (hb : PW X (.BoolOp .And (b :: rest) pos) tB') : PW X (.BoolOp .And (a :: b :: rest) pos) (tAnd tA tB') := by
  intro wh pins s σ H Q I h
  refine isTrue_and (thn (ha pins s σ H _ I h) fun c s1 ⟨H1, I1, q1⟩ => ?_)
  cases c with
  | true => exact hb wh pins s1 σ H1 Q I1 q1
  | false => exact ⟨H1, I1, q1⟩
theorem pw_or (ha : PT X a tA) (hb : PW X (.BoolOp .Or (b :: rest) pos) tB') : PW X (.BoolOp .Or (a :: b :: rest) pos) (tOr tA tB') := by
  intro wh pins s σ H Q I h
  refine isTrue_or (thn (ha pins s σ H _ I h) fun c s1 ⟨H1, I1, q1⟩ => ?_)
  cases c with
  | true => exact ⟨H1, I1, q1⟩
  | false => exact hb wh pins s1 σ H1 Q I1 q1
theorem pt_not (ha : PT X a tA) : PT X (.UnaryOp .Not a pos) (tNot tA) := by
  intro pins s σ H Q I h
  exact isTrue_not (ha pins s σ H (fun c H1 => Q (!c) H1) I h)
/-- .. as values (bools) -/
def tAndV (ta tb : TE) : TE := fun σ H Q => ta σ H fun x H1 => ∃ c, x = .bl c ∧ if c = true then tb σ H1 Q else Q (.bl false) H1
def tOrV (ta tb : TE) : TE := fun σ H Q => ta σ H fun x H1 => ∃ c, x = .bl c ∧ if c = true then Q (.bl true) H1 else tb σ H1 Q
def tNotV (ta : TE) : TE := fun σ H Q => ta σ H fun x H1 => ∃ c, x = .bl c ∧ Q (.bl (!c)) H1
theorem pe_one {op} {t : TE} (h : PE X a t) : PE X (.BoolOp op [a] pos) t := fun pins s σ H Q I hw => BoolOp_one (h pins s σ H Q I hw)
theorem pe_and (ha : PE X a ta) (hb : PE X (.BoolOp .And (b :: rest) pos) tb) : PE X (.BoolOp .And (a :: b :: rest) pos) (tAndV ta tb) := by
  intro pins s σ H Q I h
  refine BoolOp_and (thn (ha pins s σ H _ I h) fun v s1 ⟨x, H1, I1, r1, q1⟩ => ?_)
  obtain ⟨c, rfl, q1⟩ := q1
  cases r1
  refine wpAny_truthy_bool ?_
  cases c with
  | true => exact hb pins s1 σ H1 Q I1 q1
  | false => exact ⟨.bl false, H1, I1, rfl, q1⟩
theorem pe_or (ha : PE X a ta) (hb : PE X (.BoolOp .Or (b :: rest) pos) tb) : PE X (.BoolOp .Or (a :: b :: rest) pos) (tOrV ta tb) := by
  intro pins s σ H Q I h
  refine BoolOp_or (thn (ha pins s σ H _ I h) fun v s1 ⟨x, H1, I1, r1, q1⟩ => ?_)
  obtain ⟨c, rfl, q1⟩ := q1
  cases r1
  refine wpAny_truthy_bool ?_
  cases c with
  | false => exact hb pins s1 σ H1 Q I1 q1
  | true => exact ⟨.bl true, H1, I1, rfl, q1⟩
theorem pe_not (ha : PE X a ta) : PE X (.UnaryOp .Not a pos) (tNotV ta) := by
  intro pins s σ H Q I h
  refine UnaryOp_ (thn (ha pins s σ H _ I h) fun v s1 ⟨x, H1, I1, r1, q1⟩ => ?_)
  obtain ⟨c, rfl, q1⟩ := q1
  cases r1
  exact not_of (wpAny_truthy_bool ⟨.bl (!c), H1, I1, rfl, q1⟩)
/-- a if t else b -/
def tIf (t : TT) (ta tb : TE) : TE := fun σ H Q => t σ H fun c H1 => if c = true then ta σ H1 Q else tb σ H1 Q
theorem pe_ifExp {c : Expr} (hc : PT X c tA) (ha : PE X a ta) (hb : PE X b tb) : PE X (.IfExp c a b pos) (tIf tA ta tb) := by
  intro pins s σ H Q I h
  refine wpAny_IfExp (thn (hc pins s σ H _ I h) fun d s1 ⟨H1, I1, q1⟩ => ?_)
  cases d with
  | true => exact ha pins s1 σ H1 Q I1 q1
  | false => exact hb pins s1 σ H1 Q I1 q1
end
end L2

namespace L2
open PySem PySem.Spec PyProof.Rows

/-! ### a list, a tuple that is read: tracked, frozen, or an object of the module -/
def SqL (K : PySem.W.Frag) (H : Hp) (a : Addr) (xs : List V) : Prop :=
  Rd H a (.lst xs) ∨
    ∃ (o : Obj) (its : Array Value) (n : Nat), K.lookup a = some o ∧ o.cls = .type "list" ∧ o.dict = none ∧ o.data = .seq its n ∧ its.size ≤ sizeLine ∧ Vals xs its.toList
def SqT (K : PySem.W.Frag) (H : Hp) (a : Addr) (xs : List V) : Prop :=
  Rd H a (.tup xs) ∨
    ∃ (o : Obj) (its : Array Value) (n : Nat), K.lookup a = some o ∧ o.cls = .type "tuple" ∧ o.data = .seq its n ∧ its.size ≤ sizeLine ∧ Vals xs its.toList
def absV : Value → Option V
  | .none => some .non
  | .bool b => some (.bl b)
  | .int i _ => some (.int i)
  | .str x _ => some (.str x)
  | .bytes b _ => some (.byt b)
  | .float b _ => some (.flt b)
  | .ref a => some (.ref a)
  | .type n => some (.ty n)
  | _ => none
theorem RelV.abs {x : V} {u : Value} (r : RelV x u) : absV u = some x := by
  cases x with
  | non => cases r; rfl
  | bl _ => cases r; rfl
  | int _ => obtain ⟨t, rfl⟩ := r; rfl
  | str _ => obtain ⟨t, rfl⟩ := r; rfl
  | byt _ => obtain ⟨t, rfl⟩ := r; rfl
  | flt _ => obtain ⟨t, rfl⟩ := r; rfl
  | ref _ => cases r; rfl
  | ty _ => cases r; rfl
theorem RelV.inj {x y : V} {u : Value} (r : RelV x u) (q : RelV y u) : x = y := Option.some.inj (r.abs.symm.trans q.abs)
theorem Vals.inj : ∀ {xs ys : List V} {us : List Value}, Vals xs us → Vals ys us → xs = ys
  | _, _, _, .nil, .nil => rfl
  | _, _, _, .cons r t, .cons r' t' => by rw [r.inj r', Vals.inj t t']
section
variable {X : Cx} {pins : List (Addr × Obj)} {σ : St} {H : Hp} {s : Shared} {a : Addr} {xs ys : List V}
theorem SqL.of {K : PySem.W.Frag} (h : H a = some (.lst xs)) : SqL K H a xs := .inl (.inl h)
theorem SqT.of {K : PySem.W.Frag} (h : H a = some (.tup xs)) : SqT K H a xs := .inl (.inl h)
theorem Inv.list (I : Inv X pins σ H s) (h : SqL X.K H a xs) : ∃ its : List Value, Vals xs its ∧ PlainL s.heap a its.toArray ∧ xs.length ≤ sizeLine := by
  rcases h with h | ⟨o, its, n, hk, hc, hd, hs, hz, r⟩
  · obtain ⟨z, its, n, r, e⟩ := h.ok I.hok
    exact ⟨its, r, ⟨_, n, e, rfl, rfl, rfl⟩, z⟩
  · refine ⟨its.toList, r, ⟨o, n, I.kIn a o hk, hc, hd, by simpa using hs⟩, ?_⟩
    have e := r.length
    simp only [Array.length_toList] at e
    omega
theorem Inv.tuple (I : Inv X pins σ H s) (h : SqT X.K H a xs) : ∃ its : List Value, Vals xs its ∧ IsTup s.heap a its.toArray ∧ xs.length ≤ sizeLine := by
  rcases h with h | ⟨o, its, n, hk, hc, hs, hz, r⟩
  · obtain ⟨z, its, r, p⟩ := h.ok I.hok
    exact ⟨its, r, p, z⟩
  · refine ⟨its.toList, r, ⟨o, I.kIn a o hk, hc, n, by simpa using hs⟩, ?_⟩
    have e := r.length
    simp only [Array.length_toList] at e
    omega
theorem Inv.list_inj (I : Inv X pins σ H s) (h : SqL X.K H a xs) (h' : SqL X.K H a ys) : xs = ys := by
  obtain ⟨its, r, ⟨o, n, e, _, _, d⟩, _⟩ := I.list h
  obtain ⟨its', r', ⟨o', n', e', _, _, d'⟩, _⟩ := I.list h'
  rw [e] at e'; cases e'
  rw [d] at d'
  injection d' with d1 _
  have : its = its' := by simpa using congrArg Array.toList d1
  subst this
  exact r.inj r'
end

/-! ### another wish about exceptions -/
abbrev Cx.wish (X : Cx) (E : Value → Shared → Prop) : Cx := { X with xe := E }
/-- no exception leaves -/
abbrev Cx.nox (X : Cx) : Cx := X.wish fun _ _ => False
theorem Cx.Ok.wish {X : Cx} (ok : X.Ok) (E : Value → Shared → Prop) : (X.wish E).Ok :=
  ⟨ok.mod, ok.kind, ok.glob, ok.blt, ok.above, ok.inj, ok.has, ok.cab, ok.hd, ok.frames, ok.stk, ok.exf, ok.bs, ok.bsz, ok.noex, ok.exfs, ok.funs, ok.frf⟩
theorem Cx.Ok.unwish {X : Cx} {E : Value → Shared → Prop} (ok : (X.wish E).Ok) : X.Ok :=
  ⟨ok.mod, ok.kind, ok.glob, ok.blt, ok.above, ok.inj, ok.has, ok.cab, ok.hd, ok.frames, ok.stk, ok.exf, ok.bs, ok.bsz, ok.noex, ok.exfs, ok.funs, ok.frf⟩
section
variable {X : Cx} {pins : List (Addr × Obj)} {σ : St} {H : Hp} {s : Shared} {E : Value → Shared → Prop}
theorem Inv.wish (I : Inv X pins σ H s) (E : Value → Shared → Prop) : Inv (X.wish E) pins σ H s := ⟨I.ok.wish E, I.os, I.bare, I.base, I.loc, I.cell, I.free, I.freeC, I.pin, I.hok, I.len⟩
theorem Inv.unwish (I : Inv (X.wish E) pins σ H s) : Inv X pins σ H s := ⟨I.ok.unwish, I.os, I.bare, I.base, I.loc, I.cell, I.free, I.freeC, I.pin, I.hok, I.len⟩
theorem SP.unwish {D : Ends} {f : Flow} {s' : Shared} (h : SP (X.wish E) pins D f s') : SP X pins D f s' := by
  cases f with
  | next => obtain ⟨σ', H', I, q⟩ := h; exact ⟨σ', H', I.unwish, q⟩
  | brk => obtain ⟨σ', H', I, q⟩ := h; exact ⟨σ', H', I.unwish, q⟩
  | cont => obtain ⟨σ', H', I, q⟩ := h; exact ⟨σ', H', I.unwish, q⟩
  | ret u => obtain ⟨v, σ', H', I, r, q⟩ := h; exact ⟨v, σ', H', I.unwish, r, q⟩
theorem PSs.nox {st : List Stmt} {t : TS} (h : PSs X.nox st t) : PSs X st t := fun pins s σ H D I hw =>
  wpAny_mono (h pins s σ H D (I.wish _) hw) (fun _ _ q => q.unwish) fun _ _ z => False.elim z
end

/-! ### blocks and small statements -/
section
variable {X : Cx} {st : Stmt} {rest : List Stmt} {t u : TS} {e : Expr} {te : TE} {pos : Pos}
def tNext : TS := fun D σ H => D.nx σ H
def tSeq (t u : TS) : TS := fun D σ H => t { D with nx := u D } σ H
theorem pss_nil : PSs X [] tNext := fun _ _ σ H _ I h => wpAny_execs_nil ⟨σ, H, I, h⟩
theorem pss_cons (h1 : PS X st t) (h2 : PSs X rest u) : PSs X (st :: rest) (tSeq t u) := by
  intro pins s σ H D I h
  refine wpAny_execs_cons (thn (h1 pins s σ H { D with nx := u D } I h) fun f s1 q => ?_)
  cases f with
  | next =>
    obtain ⟨σ', H', I', q⟩ := q
    exact h2 pins s1 σ' H' D I' q
  | ret v => exact q
  | brk => exact q
  | cont => exact q
theorem pss_one (h1 : PS X st t) : PSs X [st] t := by
  intro pins s σ H D I h
  refine wpAny_execs_cons (thn (h1 pins s σ H D I h) fun f s1 q => ?_)
  cases f with
  | next => exact wpAny_execs_nil q
  | ret v => exact q
  | brk => exact q
  | cont => exact q
def tBreak : TS := fun D σ H => D.bk σ H
def tCont : TS := fun D σ H => D.ct σ H
/-- in a def's body nothing is shown -/
theorem Inv.quiet {pins : List (Addr × Obj)} {σ : St} {H : Hp} {s : Shared} (I : Inv X pins σ H s) : interactive X.env = false := by simp [interactive, I.ok.kind]
/-- an expression whose value is dropped -/
def tDrop (te : TE) : TS := fun D σ H => te σ H fun _ H1 => D.nx σ H1
theorem ps_expr (he : PE X e te) (hs : swapsWith e none pos.line X.env = pure false := by rfl) : PS X (.Expr e pos) (tDrop te) := by
  intro pins s σ H D I h
  exact wpAny_Expr_any (thn (he pins s σ H _ I h) fun v s1 ⟨x, H1, I1, r1, q1⟩ => ⟨σ, H1, I1, q1⟩) I.quiet hs
def tRet (te : TE) : TS := fun D σ H => te σ H D.rt
theorem ps_ret (he : PE X e te) : PS X (.Return (some e) pos) (tRet te) := by
  intro pins s σ H D I h
  exact wpAny_Return_some (thn (he pins s σ H _ I h) fun v s1 ⟨x, H1, I1, r1, q1⟩ => ⟨x, σ, H1, I1, r1, q1⟩)
def tRetN : TS := fun D _ H => D.rt .non H
def tIfS (c : TT) (t u : TS) : TS := fun D σ H => c σ H fun b H1 => if b = true then t D σ H1 else u D σ H1
theorem ps_if {c : Expr} {a b : List Stmt} {tc : TT} (hc : PT X c tc) (ha : PSs X a t) (hb : PSs X b u) : PS X (.If c a b pos) (tIfS tc t u) := by
  intro pins s σ H D I h
  refine wpAny_If (thn (hc pins s σ H _ I h) fun d s1 ⟨H1, I1, q1⟩ => ?_)
  cases d with
  | true => exact ha pins s1 σ H1 D I1 q1
  | false => exact hb pins s1 σ H1 D I1 q1
/-- code that the proof never comes to -/
def tNever : TS := fun _ _ _ => False
theorem ps_never : PS X st tNever := fun _ _ _ _ _ _ h => h.elim
end

/-! ### targets -/
abbrev TG := V → St → Hp → (St → Hp → Prop) → Prop
abbrev TGs := List V → St → Hp → (St → Hp → Prop) → Prop
def PG (X : Cx) (target : Expr) (t : TG) : Prop :=
  ∀ (pins : List (Addr × Obj)) (s : Shared) (σ : St) (H : Hp) (v : V) (u : Value) (Q : St → Hp → Prop), Inv X pins σ H s → RelV v u → t v σ H Q →
    wpAny (model X.prog X.w) X.A (assign target X.env u) (fun _ s' => ∃ σ' H', Inv X pins σ' H' s' ∧ Q σ' H') X.xe s
/-- several targets, one after another -/
def PGs (X : Cx) (ts : List Expr) (t : TGs) : Prop :=
  ∀ (pins : List (Addr × Obj)) (s : Shared) (σ : St) (H : Hp) (vs : List V) (us : List Value) (Q : St → Hp → Prop), Inv X pins σ H s → Vals vs us → t vs σ H Q →
    wpAny (model X.prog X.w) X.A (assignInOrder ((assignEach ts X.env).map (·.2)) us) (fun _ s' => ∃ σ' H', Inv X pins σ' H' s' ∧ Q σ' H') X.xe s
/-- o[i] = v, by values -/
abbrev TSet := V → V → V → Hp → (Hp → Prop) → Prop
def PSet (X : Cx) (t : TSet) : Prop :=
  ∀ (pins : List (Addr × Obj)) (s : Shared) (σ : St) (H : Hp) (o i v : V) (ov iv u : Value) (Q : Hp → Prop), Inv X pins σ H s → RelV o ov → RelV i iv → RelV v u → t o i v H Q →
    wpAny (model X.prog X.w) X.A (setItem ov iv u) (fun _ s' => ∃ H', Inv X pins σ H' s' ∧ Q H') X.xe s
/-- a op= b, by values -/
abbrev TIp := V → V → Hp → VK → Prop
def PIp (X : Cx) (op : Operator) (t : TIp) : Prop :=
  ∀ (pins : List (Addr × Obj)) (s : Shared) (σ : St) (H : Hp) (x y : V) (v u : Value) (Q : VK), Inv X pins σ H s → RelV x v → RelV y u → t x y H Q →
    wpAny (model X.prog X.w) X.A (inplaceOp op v u) (EP X pins σ Q) X.xe s
section
variable {X : Cx} {pos : Pos}
def gName (i : Nat) : TG := fun v σ H Q => Q (σ.set i (some v)) H
theorem pg_name {i : Nat} {x : Str} (hN : X.N.Nodup) (hi : X.N[i]? = some x) (hx : Loc X.env.scope x) (hf : X.fn x = true ∨ X.env.scope.names.lookup x = some .local := by first | exact .inl rfl | exact .inr rfl | assumption) : PG X (.Name x pos) (gName i) := by
  intro pins s σ H v u Q I r h
  exact wpAny_assign_Name (store_ok I hN hi hx r (fun s' I' => ⟨_, H, I', h⟩) hf)
def gNil : TGs := fun vs σ H Q => vs = [] ∧ Q σ H
def gCons (t : TG) (u : TGs) : TGs := fun vs σ H Q => ∃ v r, vs = v :: r ∧ t v σ H fun σ' H' => u r σ' H' Q
theorem pgs_nil : PGs X [] gNil := by
  intro pins s σ H vs us Q I r h
  obtain ⟨e, h⟩ := h
  subst e
  cases r
  exact assignInOrder_nil ⟨σ, H, I, h⟩
theorem pgs_cons {e : Expr} {es : List Expr} {t : TG} {u : TGs} (h1 : PG X e t) (h2 : PGs X es u)
    (hs : (assignEach (e :: es) X.env).map (·.2) = assign e X.env :: (assignEach es X.env).map (·.2) := by rfl) : PGs X (e :: es) (gCons t u) := by
  intro pins s σ H vs us Q I r h
  obtain ⟨v, vr, e1, h⟩ := h
  subst e1
  cases r with
  | cons r rr =>
    rw [hs]
    refine assignInOrder_cons (thn (h1 pins s σ H _ _ _ I r h) fun _ s1 ⟨σ1, H1, I1, q1⟩ => ?_)
    exact h2 pins s1 σ1 H1 _ _ Q I1 rr q1
/-- (a, b, ..) = a tuple of that length -/
def gTup (K : PySem.W.Frag) (n : Nat) (t : TGs) : TG := fun v σ H Q => ∃ a xs, v = .ref a ∧ SqT K H a xs ∧ xs.length = n ∧ t xs σ H Q
theorem pg_tup {es : List Expr} {k : Nat} {t : TGs} {n : Nat} (hc : X.calm = true) (h : PGs X es t)
    (hn : (assignEach es X.env).length = n := by rfl) (hst : (assignEach es X.env).findIdx? (·.1) = none := by rfl) : PG X (.Tuple es k pos) (gTup X.K n t) := by
  intro pins s σ H v u Q I r hw
  obtain ⟨a, xs, e1, hq, hl, hw⟩ := hw
  subst e1
  cases r
  obtain ⟨its, rv, ht, hz⟩ := I.tuple hq
  refine assign_Tuple_tuple (I.ok.hd hc) ht (by simp [hn, ← hl, rv.length]) hst fun h' hx => ?_
  have I1 : Inv X pins σ H { s with heap := h' } := I.kept (t' := s.toks) fun b o e => hx b o (Nat.ne_of_lt (Heap.lt_size e)) e
  exact h pins _ σ H xs _ Q I1 (by simpa using rv) hw
/-- o[i] = .. -/
def gSub (to ti : TE) (t : TSet) : TG := fun v σ H Q => to σ H fun o H1 => ti σ H1 fun i H2 => t o i v H2 fun H3 => Q σ H3
/-- target = value -/
def tAsg (te : TE) (g : TG) : TS := fun D σ H => te σ H fun x H1 => g x σ H1 D.nx
/-- name = value -/
theorem ps_set {i : Nat} {x : Str} {e : Expr} {te : TE} {pos' : Pos} (hN : X.N.Nodup) (hi : X.N[i]? = some x) (hx : Loc X.env.scope x) (he : PE X e te) (hs : swapsWith e (some (.Name x pos')) pos.line X.env = pure false := by rfl) (hf : X.fn x = true ∨ X.env.scope.names.lookup x = some .local := by first | exact .inl rfl | exact .inr rfl | assumption) :
    PS X (.Assign [.Name x pos'] e pos) (tAsg te (gName i)) := by
  intro pins s σ H D I h
  refine wpAny_Assign_Name (thn (he pins s σ H _ I h) fun v s1 ⟨y, H1, I1, r1, q1⟩ => ?_) hs
  exact store_ok I1 hN hi hx r1 (fun s2 I2 => ⟨_, H1, I2, q1⟩) hf
/-- a, b = x, y with plain local names: stored from the right; the pair itself is not tracked (the opening rows as in PyProof/Rows/TupAssign.lean:23) -/
def tPar (i j : Nat) (ta : TA) : TS := fun D σ H => ta σ H fun vs H1 => ∃ v w, vs = [v, w] ∧ D.nx ((σ.set i (some v)).set j (some w)) H1
theorem ps_par {i j : Nat} {x y : Str} {a b : Expr} {ta : TA} {px py pt : Pos} {kt k2 pt2} (hc : X.calm = true) (hN : X.N.Nodup) (hi : X.N[i]? = some x) (hj : X.N[j]? = some y) (hij : i ≠ j)
    (hx : X.env.scope.names.lookup x = some .local) (hy : X.env.scope.names.lookup y = some .local) (ha : PA X [a, b] ta)
    (hw : swappedStores [.Tuple [.Name x px, .Name y py] kt pt] (.Tuple [a, b] k2 pt2) X.env = pure (some [x, y]))
    (hs : swapsWithSole [.Tuple [.Name x px, .Name y py] kt pt] (.Tuple [a, b] k2 pt2) pos.line X.env = pure false := by rfl) :
    PS X (.Assign [.Tuple [.Name x px, .Name y py] kt pt] (.Tuple [a, b] k2 pt2) pos) (tPar i j ta) := by
  intro pins s σ H D I h
  rw [exec_Assign_arm]
  refine wpAny_bind (wpAny_standAt ?_)
  rw [hs]
  refine wpAny_bind (wpAny_pure ?_)
  rw [if_neg (by decide)]
  refine wpAny_bind (Tuple_ (thn (ha _ pins s σ H _ I h) fun us s1 ⟨vs, H1, I1, r1, q1⟩ => ?_))
  obtain ⟨v, w, e1, q1⟩ := q1
  subst e1
  obtain ⟨u1, u2, rfl, rv, rw'⟩ : ∃ u1 u2, us = [u1, u2] ∧ RelV v u1 ∧ RelV w u2 := by
    cases r1 with
    | cons p q =>
      cases q with
      | cons p' q' =>
        cases q'
        exact ⟨_, _, rfl, p, p'⟩
  refine wpAny_newObj_type ?_ (by show 2 ≤ sizeLine; decide)
  have I2 : Inv X pins σ H1 { s1 with heap := s1.heap.push { cls := .type "tuple", data := .seq [u1, u2].toArray } } := I1.kept (t' := s1.toks) fun b o e => Heap.get?_push_of_some _ e
  rw [hw]
  refine wpAny_bind (wpAny_pure ?_)
  show wpAny (model X.prog X.w) X.A (do rule "assign.swapped-stores"; let items ← unpackItems (.ref s1.heap.objs.size) 2 none; assignInOrder [fun v => bindName X.env y v, fun v => bindName X.env x v] items.reverse; pure Flow.next) _ _ _
  refine wpAny_bind (wpAny_rule (wpAny_bind (unpackItems_tuple (items := #[u1, u2]) (I.ok.hd hc) (IsTup.new s1.heap _) fun h' hx' => ?_)))
  have I3 := I2.kept (h' := h') (t' := s1.toks) fun b o e => hx' b o (Nat.ne_of_lt (Heap.lt_size e)) e
  show wpAny _ _ (assignInOrder [fun v => bindName X.env y v, fun v => bindName X.env x v] [u2, u1] >>= fun _ => pure Flow.next) _ _ _
  refine wpAny_bind (assignInOrder_cons (wpAny_bindName (store_ok I3 hN hj (.inl hy) rw' (fun s2 I4 => ?_) (.inr hy))))
  refine assignInOrder_cons (wpAny_bindName (store_ok I4 hN hi (.inl hx) rv (fun s3 I5 => assignInOrder_nil (wpAny_pure ?_)) (.inr hx)))
  rw [List.set_comm _ _ (Ne.symm hij)] at I5
  exact ⟨_, H1, I5, q1⟩
/-- name op= e -/
def tAug (i : Nat) (te : TE) (ti : TIp) : TS := fun D σ H => ∃ x, σ[i]? = some (some x) ∧ te σ H fun y H1 => ti x y H1 fun z H2 => D.nx (σ.set i (some z)) H2
theorem ps_aug {i : Nat} {x : Str} {e : Expr} {te : TE} {op : Operator} {ti : TIp} {pos' : Pos} (hN : X.N.Nodup) (hi : X.N[i]? = some x) (hx : Loc X.env.scope x) (he : PE X e te) (ho : PIp X op ti) (hf : X.fn x = true ∨ X.env.scope.names.lookup x = some .local := by first | exact .inl rfl | exact .inr rfl | assumption) :
    PS X (.AugAssign (.Name x pos') op e pos) (tAug i te ti) := by
  intro pins s σ H D I h
  obtain ⟨v, e1, h⟩ := h
  obtain ⟨m, hn, hl⟩ := I.loc
  have vis : Vis X.env.scope x := by rcases hx with k | k; exact .inl k; exact .inr (.inl k)
  obtain ⟨u, r, l⟩ := hl i x v hi e1 vis
  refine wpAny_AugAssign_Name ?_
  have go : wpAny (model X.prog X.w) X.A (eval e X.env) (fun w s₂ => wpAny (model X.prog X.w) X.A (inplaceOp op u w) (fun r s₃ => wpAny (model X.prog X.w) X.A (storeName X.env x r) (fun _ => SP X pins D .next) X.xe s₃) X.xe s₂) X.xe s := by
    refine thn (he pins s σ H _ I h) fun w s1 ⟨y, H1, I1, r1, q1⟩ => ?_
    refine thn (ho pins s1 σ H1 v y u w _ I1 r r1 q1) fun z s2 ⟨zv, H2, I2, r2, q2⟩ => ?_
    exact store_ok I2 hN hi hx r2 (fun s3 I3 => ⟨_, H2, I3, q2⟩) hf
  rcases l with ⟨hk, hm⟩ | ⟨hk, c, hc, hcell⟩
  · exact wpAny_loadName_local I.ok.kind hk hn hm go
  · rcases hk with hk | hk
    · exact wpAny_loadName_cell I.ok.kind hk hc hcell go
    · rcases hx with k | k
      · have : X.env.scope.names.lookup x = some .free := hk
        rw [k] at this; cases this
      · have : X.env.scope.names.lookup x = some .free := hk
        rw [k] at this; cases this
/-- o[i] op= e -/
def tAugS (to ti te : TE) (tget : V → V → Hp → VK → Prop) (tip : TIp) (tset : TSet) : TS := fun D σ H => to σ H fun o H1 => ti σ H1 fun i H2 => tget o i H2 fun x H3 => te σ H3 fun y H4 => tip x y H4 fun z H5 => tset o i z H5 fun H6 => D.nx σ H6
/-- o[i], by values -/
def PGet (X : Cx) (t : V → V → Hp → VK → Prop) : Prop :=
  ∀ (pins : List (Addr × Obj)) (s : Shared) (σ : St) (H : Hp) (o i : V) (ov iv : Value) (Q : VK), Inv X pins σ H s → RelV o ov → RelV i iv → t o i H Q →
    wpAny (model X.prog X.w) X.A (getItem ov iv) (EP X pins σ Q) X.xe s
/-- ints -/
def ipI (f : Int → Int → Int) : TIp := fun x y H Q => ∃ i j, x = .int i ∧ y = .int j ∧ Q (.int (f i j)) H
theorem ip_add : PIp X .Add (ipI fun i j => i + j) := by
  intro pins s σ H x y v u Q I r1 r2 h
  obtain ⟨i, j, e1, e2, q⟩ := h
  subst e1; subst e2
  obtain ⟨t, rfl⟩ := r1
  obtain ⟨t', rfl⟩ := r2
  exact iadd_int ⟨.int _, H, I.tok _, ⟨_, rfl⟩, q⟩
theorem ip_sub : PIp X .Sub (ipI fun i j => i - j) := by
  intro pins s σ H x y v u Q I r1 r2 h
  obtain ⟨i, j, e1, e2, q⟩ := h
  subst e1; subst e2
  obtain ⟨t, rfl⟩ := r1
  obtain ⟨t', rfl⟩ := r2
  exact isub_int ⟨.int _, H, I.tok _, ⟨_, rfl⟩, q⟩
end

/-! ### while -/
section
variable {X : Cx} {pos : Pos}
/-- the invariant W with its measure -/
def tWhile (c : TT) (tb : TS) : TS := fun D σ H => ∃ W : Nat → St → Hp → Prop, (∃ m, W m σ H) ∧ ∀ m σ H, W m σ H →
  c σ H fun b H1 => if b = true then ∃ N : St → Hp → Prop, (∀ σ' H', N σ' H' → ∃ m', m' < m ∧ W m' σ' H') ∧ tb { D with nx := N, ct := N, bk := D.nx } σ H1 else D.nx σ H1
theorem ps_while {c : Expr} {body : List Stmt} {tc : TT} {tb : TS} (hp : PassesOwn (model X.prog X.w) X.A X.env X.xe) (hc : PT X c tc) (hb : PSs X body tb) : PS X (.While c body [] pos) (tWhile tc tb) := by
  intro pins s σ H D I h
  obtain ⟨W, ⟨m0, w0⟩, turn⟩ := h
  refine wpAny_While (codeAny_whileLoop (fun n s' => ∃ σ' H', Inv X pins σ' H' s' ∧ W n σ' H') ?_ m0 ⟨σ, H, I, w0⟩)
  rintro n s1 ⟨σ1, H1, I1, w1⟩
  refine wpAny_passesOwn hp (thn (hc pins s1 σ1 H1 _ I1 (turn n σ1 H1 w1)) fun b s2 ⟨H2, I2, q2⟩ => ?_)
  cases b with
  | true =>
    obtain ⟨N, hN, q2⟩ := q2
    rw [if_pos rfl]
    refine wpAny_passesOwn hp (thn (hb pins s2 σ1 H2 _ I2 q2) fun f s3 q3 => ?_)
    cases f with
    | next =>
      obtain ⟨σ3, H3, I3, n3⟩ := q3
      obtain ⟨m', hm, w3⟩ := hN σ3 H3 n3
      exact ⟨m', hm, σ3, H3, I3, w3⟩
    | cont =>
      obtain ⟨σ3, H3, I3, n3⟩ := q3
      obtain ⟨m', hm, w3⟩ := hN σ3 H3 n3
      exact ⟨m', hm, σ3, H3, I3, w3⟩
    | brk => exact q3
    | ret v => exact q3
  | false =>
    rw [if_neg Bool.false_ne_true]
    exact wpAny_execs_nil ⟨σ1, H2, I2, q2⟩
end

/-! ### what a loop or a comprehension walks -/
/-- at turn i: it yields x (the heap may grow), or it stops -/
structure It where
  go : Nat → Hp → Prop
  yld : Nat → Hp → V → Hp → Prop
  stop : Nat → Hp → Prop
/-- the iterator's own objects may turn: they are not the frame's, not pinned, younger than the entry (or a comprehension's own) -/
def FpOk (X : Cx) (pins : List (Addr × Obj)) (H : Hp) (b : Addr) : Prop :=
  H b = none ∧ b ≠ X.env.locals ∧ b ∉ X.fs ∧ (b ∈ X.ex ∨ X.s₀.heap.objs.size ≤ b) ∧ (∀ x c, X.env.cells.lookup x = some c → c ≠ b) ∧ ∀ p ∈ X.pn ++ pins, p.1 ≠ b
theorem Inv.fpOk {X : Cx} {pins : List (Addr × Obj)} {σ : St} {H H' : Hp} {s : Shared} {b : Addr} (I : Inv X pins σ H s) (hb : s.heap.objs.size ≤ b) (hn : H' b = none) : FpOk X pins H' b := by
  refine ⟨hn, Nat.ne_of_gt (Nat.lt_of_lt_of_le I.lt hb), I.nofs hb, .inr (Nat.le_trans I.sz hb), fun x c e z => ?_, fun p hp z => ?_⟩
  · obtain ⟨v, q⟩ := I.cell x c e
    exact absurd (Nat.lt_of_lt_of_le q.lt (by rw [z]; exact hb)) (Nat.lt_irrefl _)
  · exact absurd (Nat.lt_of_lt_of_le (Heap.lt_size (I.pin p hp).1) (by rw [z]; exact hb)) (Nat.lt_irrefl _)
structure Turn (P : Program) (w : World) (K : PySem.W.Frag) (tg : Expr) (J : It) (fp : List Addr) (it : Addr) (tn : Nat → Heap → Prop) : Prop where
  mem : it ∈ fp
  obj : ∀ i h, tn i h → ∀ b ∈ fp, ∃ o, h.get? b = some o ∧ ∀ v, o.data ≠ .cell v
  keep : ∀ i h h', tn i h → (∀ b ∈ fp, ∀ o, h.get? b = some o → h'.get? b = some o) → tn i h'
  item : ∀ (X : Cx), X.prog = P → X.w = w → X.K = K → X.calm = true → ∀ (i : Nat) (pins : List (Addr × Obj)) (s : Shared) (σ : St) (H : Hp) (E : Value → Shared → Prop), Inv X pins σ H s → (∀ b ∈ fp, FpOk X pins H b) → tn i s.heap → J.go i H →
    wpAny (model P w) X.A (pyNext (.ref it)) (fun r s1 => ∃ u, r = some u ∧
      wpAny (model P w) X.A (letOwnedTupleGo tg (.ref it) u) (fun _ s2 => ∃ x H', Inv X pins σ H' s2 ∧ RelV x u ∧ J.yld i H x H' ∧ tn (i + 1) s2.heap ∧ ∀ b ∈ fp, H' b = none) E s1) E s
  done : ∀ (X : Cx), X.prog = P → X.w = w → X.K = K → X.calm = true → ∀ (i : Nat) (pins : List (Addr × Obj)) (s : Shared) (σ : St) (H : Hp) (E : Value → Shared → Prop), Inv X pins σ H s → (∀ b ∈ fp, FpOk X pins H b) → tn i s.heap → J.stop i H →
    wpAny (model P w) X.A (pyNext (.ref it)) (fun r s1 => r = none ∧ Inv X pins σ H s1) E s
  self : ∀ (A : Around) (i : Nat) (s : Shared) (Q : Value → Shared → Prop) (E : Value → Shared → Prop), tn i s.heap → Q (.ref it) s → wpAny (model P w) A (pyIter (.ref it)) Q E s
abbrev TI := St → Hp → (It → Hp → Prop) → Prop
/-- an iterator has come -/
def PIE (X : Cx) (pins : List (Addr × Obj)) (σ : St) (tg : Expr) (R : It → Hp → Prop) (itv : Value) (s2 : Shared) : Prop :=
  ∃ (it : Addr) (fp : List Addr) (tn : Nat → Heap → Prop) (J : It) (H' : Hp), itv = .ref it ∧ Inv X pins σ H' s2 ∧ Turn X.prog X.w X.K tg J fp it tn ∧ tn 0 s2.heap ∧ (∀ b ∈ fp, FpOk X pins H' b) ∧ R J H'
def PI (X : Cx) (tg iter : Expr) (wi : TI) : Prop :=
  ∀ (pins : List (Addr × Obj)) (s : Shared) (σ : St) (H : Hp) (R : It → Hp → Prop), Inv X pins σ H s → wi σ H R →
    wpAny (model X.prog X.w) X.A (eval iter X.env) (fun v s1 => wpAny (model X.prog X.w) X.A (pyIter v) (PIE X pins σ tg R) X.xe s1) X.xe s

/-- the step ahead of the store is nothing for an iterator that keeps no tuple -/
theorem go_of {M : Model} {A : Around} {E : Value → Shared → Prop} {s : Shared} {tg : Expr} {it : Addr} {u : Value} {o : Obj} {n : String} {vs : Array Value} {Q : Unit → Shared → Prop} (ho : s.heap.get? it = some o) (hc : o.cls = .type n) (hd : o.data = .fields vs)
    (hn : ["enumerate", "zip", "dict_itemiterator", "dict_reverseitemiterator", "odict_iterator", "itertools.zip_longest", "itertools.pairwise"].contains n = false) (hQ : Q () s) : wpAny M A (letOwnedTupleGo tg (.ref it) u) Q E s := by
  unfold letOwnedTupleGo
  cases tg <;> first
    | exact wpAny_pure hQ
    | (cases u <;> first
        | exact wpAny_pure hQ
        | (refine wpAny_bind (wpAny_load ho ?_)
           rw [hc, hd]
           show wpAny M A (if (["enumerate", "zip", "dict_itemiterator", "dict_reverseitemiterator", "odict_iterator", "itertools.zip_longest", "itertools.pairwise"].contains n && vs[0]? == some (rawInt _)) = true then _ else _) Q E s
           rw [if_neg (by intro h; rw [hn, Bool.false_and] at h; cases h)]
           exact wpAny_pure hQ))

/-- the list at a, as it stands at each turn (a loop may append to it) -/
def Itl (K : PySem.W.Frag) (a : Addr) : It :=
  ⟨fun i H => ∃ xs x, SqL K H a xs ∧ xs[i]? = some x, fun i H x H' => H' = H ∧ ∀ xs, SqL K H a xs → xs[i]? = some x, fun i H => ∃ xs, SqL K H a xs ∧ xs.length ≤ i⟩
def Itt (K : PySem.W.Frag) (a : Addr) : It :=
  ⟨fun i H => ∃ xs x, SqT K H a xs ∧ xs[i]? = some x, fun i H x H' => H' = H ∧ ∀ xs, SqT K H a xs → xs[i]? = some x, fun i H => ∃ xs, SqT K H a xs ∧ xs.length ≤ i⟩
/-- lo, lo + 1, .. (n of them) -/
def Itr (lo : Int) (n : Nat) : It := ⟨fun i _ => i < n, fun i H x H' => H' = H ∧ x = .int (lo + i), fun i _ => n ≤ i⟩
theorem turn_list {P : Program} {w : World} {K : PySem.W.Frag} {tg : Expr} (a it : Addr) : Turn P w K tg (Itl K a) [it] it (fun i h => h.IsListIter it a i) where
  mem := by simp
  obj := fun i h st b hb => by
    have e : b = it := by simpa using hb
    subst e
    obtain ⟨o, e, c, d⟩ := st
    exact ⟨o, e, fun v z => by rw [d] at z; cases z⟩
  keep := fun i h h' st k => st.at fun o e => k it (by simp) o e
  item := by
    intro X hP hw hK hc i pins s σ H E I hf st hg
    subst hP hw hK
    obtain ⟨xs, x, hq, hx⟩ := hg
    obtain ⟨its, rv, p, hz⟩ := I.list hq
    obtain ⟨u, hu, ru⟩ := rv.get hx
    obtain ⟨f0, f1, f2, f3, f4, f5⟩ := hf it (by simp)
    refine wpAny_pyNext_list_item st p.isList (x := u) (by simpa using hu) fun h' st' sb => ?_
    have I1 : Inv X pins σ H { s with heap := h' } := I.turned (t' := s.toks) (fun b o hb e => (sb.2 b hb).trans e) f0 f1 f3 f4 f5
    obtain ⟨o, e, c, d⟩ := id st'
    exact ⟨u, rfl, go_of (s := { s with heap := h' }) e c d (by decide) ⟨x, H, I1, ru, ⟨rfl, fun ys hy => by rw [I.list_inj hy hq]; exact hx⟩, st', fun b hb => (hf b hb).1⟩⟩
  done := by
    intro X hP hw hK hc i pins s σ H E I hf st hg
    subst hP hw hK
    obtain ⟨xs, hq, hx⟩ := hg
    obtain ⟨its, rv, p, hz⟩ := I.list hq
    obtain ⟨f0, f1, f2, f3, f4, f5⟩ := hf it (by simp)
    have hl := rv.length
    exact wpAny_pyNext_list_end (I.ok.hd hc) st p.isList (by simp; omega) fun h' eb => ⟨rfl, I.turned (t' := s.toks) (fun b o hb e => eb b o hb e) f0 f1 f3 f4 f5⟩
  self := fun _ _ _ _ _ st h => wpAny_pyIter_listiter st h
theorem turn_range {P : Program} {w : World} {K : PySem.W.Frag} {tg : Expr} (it : Addr) (lo : Int) (n : Nat) : Turn P w K tg (Itr lo n) [it] it (fun i h => IsRangeIter h it (lo + (i : Nat) * 1) ((n : Int) - (i : Nat)) 1) where
  mem := by simp
  obj := fun i h st b hb => by
    have e : b = it := by simpa using hb
    subst e
    exact ⟨_, st, fun v z => by
      have z' : Data.fields _ = Data.cell v := z
      cases z'⟩
  keep := fun i h h' st k => k it (by simp) _ st
  item := by
    intro X hP hw hK hc i pins s σ H E I hf st hg
    subst hP hw hK
    obtain ⟨f0, f1, f2, f3, f4, f5⟩ := hf it (by simp)
    have W := Walks.range (prog := X.prog) (w := X.w) (I.ok.hd hc) it lo 1 n
    refine W.item i s _ _ hg st fun v h' tk hv st' kk => ?_
    obtain ⟨t, rfl⟩ := hv
    have I1 : Inv X pins σ H { s with heap := h', toks := tk } := I.turned (fun b o hb e => kk b o (by simpa using hb) e) f0 f1 f3 f4 f5
    refine ⟨_, rfl, go_of (s := { s with heap := h', toks := tk }) (n := "range_iterator") st' rfl rfl (by decide) ⟨.int (lo + i), H, I1, ⟨t, ?_⟩, ⟨rfl, rfl⟩, st', fun b hb => (hf b hb).1⟩⟩
    rw [Int.mul_one]
  done := by
    intro X hP hw hK hc i pins s σ H E I hf st hg
    subst hP hw hK
    obtain ⟨f0, f1, f2, f3, f4, f5⟩ := hf it (by simp)
    exact wpAny_pyNext_range_end (I.ok.hd hc) st (by have : n ≤ i := hg; omega) fun h' eb => ⟨rfl, I.turned (t' := s.toks) (fun b o hb e => eb b o hb e) f0 f1 f3 f4 f5⟩
  self := fun _ _ _ _ _ st h => wpAny_pyIter_rangeiter st h
end L2

namespace L2
open PySem PySem.Spec PyProof.Rows
section
variable {X : Cx} {tg : Expr}
def iList (K : PySem.W.Frag) (tl : TE) : TI := fun σ H R => tl σ H fun x H1 => ∃ a, x = .ref a ∧ (∃ xs, SqL K H1 a xs) ∧ R (Itl K a) H1
def iTup (K : PySem.W.Frag) (tl : TE) : TI := fun σ H R => tl σ H fun x H1 => ∃ a, x = .ref a ∧ (∃ xs, SqT K H1 a xs) ∧ R (Itt K a) H1
theorem pi_list {l : Expr} {tl : TE} (hl : PE X l tl) : PI X tg l (iList X.K tl) := by
  intro pins s σ H R I h
  refine thn (hl pins s σ H _ I h) fun v s1 ⟨x, H1, I1, r1, q1⟩ => ?_
  obtain ⟨a, e, ⟨xs, hq⟩, q⟩ := q1
  subst e
  cases r1
  obtain ⟨its, rv, p, hz⟩ := I1.list hq
  refine wpAny_pyIter_list p.isList ?_
  refine ⟨s1.heap.objs.size, [s1.heap.objs.size], _, _, H1, rfl, I1.kept (t' := s1.toks) fun b o e => Heap.get?_push_of_some _ e, turn_list a _, ⟨_, Heap.get?_push_size _ rfl, rfl, rfl⟩, fun b hb => ?_, q⟩
  have e : b = s1.heap.objs.size := by simpa using hb
  subst e
  exact I1.fpOk (Nat.le_refl _) (I1.hok.fresh (Nat.le_refl _))
/-- a range object just made, walked -/
theorem range_it {pins : List (Addr × Obj)} {σ : St} {H : Hp} {s : Shared} {R : It → Hp → Prop} {E : Value → Shared → Prop} {lo hi : Int} {t u v : Tok} {tk : Nat} (I : Inv X pins σ H s) (h1 : -(2 ^ 62) ≤ lo) (h2 : lo < 2 ^ 62) (h3 : -(2 ^ 62) ≤ hi) (h4 : hi < 2 ^ 62)
    (q : R (Itr lo (hi - lo).toNat) H) : wpAny (model X.prog X.w) X.A (pyIter (.ref s.heap.objs.size)) (PIE X pins σ tg R) E { s with heap := s.heap.push { cls := .type "range", data := .fields #[.int lo t, .int hi u, .int 1 v] }, toks := tk } := by
  refine wpAny_pyIter_range (IsRange.new ..) (small_one h1 h2 h3 h4) ?_
  have I1 : Inv X pins σ H { s with heap := s.heap.push { cls := .type "range", data := .fields #[.int lo t, .int hi u, .int 1 v] }, toks := tk } := I.kept fun b o e => Heap.get?_push_of_some _ e
  refine ⟨(s.heap.push { cls := .type "range", data := .fields #[.int lo t, .int hi u, .int 1 v] }).objs.size, [(s.heap.push { cls := .type "range", data := .fields #[.int lo t, .int hi u, .int 1 v] }).objs.size], _, _, H, rfl,
    I1.kept (t' := tk) fun b o e => Heap.get?_push_of_some _ e, turn_range _ lo (hi - lo).toNat, ?_, fun b hb => ?_, q⟩
  · have e1 : lo + ((0 : Nat) : Int) * 1 = lo := by simp
    have e2 : (((hi - lo).toNat : Nat) : Int) - ((0 : Nat) : Int) = Builtin.Range.rangeSize lo hi 1 := by rw [rangeSize_one]; split <;> omega
    show IsRangeIter _ _ (lo + ((0 : Nat) : Int) * 1) ((((hi - lo).toNat : Nat) : Int) - ((0 : Nat) : Int)) 1
    rw [e1, e2]
    exact Heap.get?_push_size _ rfl
  · have e : b = (s.heap.push { cls := .type "range", data := .fields #[.int lo t, .int hi u, .int 1 v] }).objs.size := by simpa using hb
    subst e
    exact I1.fpOk (Nat.le_refl _) (I1.hok.fresh (Nat.le_refl _))
def iRng1 (ta : TA) : TI := fun σ H R => ta σ H fun vs H1 => ∃ j : Int, vs = [.int j] ∧ -(2 ^ 62) ≤ j ∧ j < 2 ^ 62 ∧ R (Itr 0 j.toNat) H1
def iRng2 (ta : TA) : TI := fun σ H R => ta σ H fun vs H1 => ∃ i j : Int, vs = [.int i, .int j] ∧ (-(2 ^ 62) ≤ i ∧ i < 2 ^ 62 ∧ -(2 ^ 62) ≤ j ∧ j < 2 ^ 62) ∧ R (Itr i (j - i).toNat) H1
theorem pi_range1 {a : Expr} {ta : TA} {p pos : Pos} (hg : Gl X "range") (hm : X.mg "range" = none) (ha : PA X [a] ta) (hs : starEach [a] X.env = [(false, eval a X.env)] := by rfl) : PI X tg (.Call (.Name "range" p) [a] [] pos) (iRng1 ta) := by
  intro pins s σ H R I h
  refine Call_ (ld_blt I hg hm boot_range (PyProof.Rows.callWith_type1 (thn (ha pos pins s σ H _ I h) fun us s1 ⟨vs, H1, I1, r1, q1⟩ => ?_) hs rfl))
  obtain ⟨j, e, q1, q2, q⟩ := q1
  subst e
  cases r1 with
  | cons r rr =>
    cases rr
    obtain ⟨t, rfl⟩ := r
    exact call_range_1 (range_it I1 (by omega) (by omega) q1 q2 (by simpa using q))
theorem pi_range2 {a b : Expr} {ta : TA} {p pos : Pos} (hg : Gl X "range") (hm : X.mg "range" = none) (ha : PA X [a, b] ta) (hs : starEach [a, b] X.env = [(false, eval a X.env), (false, eval b X.env)] := by rfl) (hs2 : starEach [b] X.env = [(false, eval b X.env)] := by rfl) :
    PI X tg (.Call (.Name "range" p) [a, b] [] pos) (iRng2 ta) := by
  intro pins s σ H R I h
  refine Call_ (ld_blt I hg hm boot_range (PyProof.Rows.callWith_type1 (thn (ha pos pins s σ H _ I h) fun us s1 ⟨vs, H1, I1, r1, q1⟩ => ?_) (by rw [hs, hs2]) (by rw [hs2]; rfl)))
  obtain ⟨i, j, e, ⟨q1, q2, q3, q4⟩, q⟩ := q1
  subst e
  cases r1 with
  | cons r rr =>
    cases rr with
    | cons r' rr =>
      cases rr
      obtain ⟨t, rfl⟩ := r
      obtain ⟨t', rfl⟩ := r'
      exact call_range_2 (range_it I1 q1 q2 q3 q4 q)

/-! ### for -/
/-- W: the invariant by the turn and a measure; N: what the body is to reach -/
def tFor (wi : TI) (g : TG) (tb : TS) : TS := fun D σ H => wi σ H fun J H1 => ∃ W : Nat → Nat → St → Hp → Prop, (∃ m, W 0 m σ H1) ∧ ∀ i m σ H, W i m σ H →
  (J.stop i H ∧ D.nx σ H) ∨ (J.go i H ∧ ∃ N : St → Hp → Prop, (∀ σ' H', N σ' H' → ∃ m', m' < m ∧ W (i + 1) m' σ' H') ∧ ∀ x H', J.yld i H x H' → g x σ H' fun σ2 H2 => tb { D with nx := N, ct := N, bk := D.nx } σ2 H2)
/-- the records at fp as they stand -/
def pinsAt (fp : List Addr) (h : Heap) : List (Addr × Obj) := fp.filterMap fun b => (h.get? b).map fun o => (b, o)
theorem mem_pinsAt {fp : List Addr} {h : Heap} {b : Addr} {o : Obj} (hb : b ∈ fp) (e : h.get? b = some o) : (b, o) ∈ pinsAt fp h := List.mem_filterMap.mpr ⟨b, hb, by rw [e]; rfl⟩
theorem of_pinsAt {fp : List Addr} {h : Heap} {p : Addr × Obj} (hp : p ∈ pinsAt fp h) : p.1 ∈ fp ∧ h.get? p.1 = some p.2 := by
  obtain ⟨b, hb, e⟩ := List.mem_filterMap.mp hp
  cases q : h.get? b with
  | none => rw [q] at e; cases e
  | some o =>
    rw [q] at e
    have e' : (b, o) = p := Option.some.inj e
    subst e'
    exact ⟨hb, q⟩
theorem Inv.pinned {pins : List (Addr × Obj)} {σ : St} {H : Hp} {s : Shared} {fp : List Addr} (I : Inv X pins σ H s) (hf : ∀ b ∈ fp, FpOk X pins H b) (ho : ∀ b ∈ fp, ∃ o, s.heap.get? b = some o ∧ ∀ v, o.data ≠ .cell v) : Inv X (pins ++ pinsAt fp s.heap) σ H s :=
  I.pins_of fun p hp => (List.mem_append.mp hp).elim (fun z => I.pin p (List.mem_append_right _ z)) fun z => by
    obtain ⟨hb, e⟩ := of_pinsAt z
    obtain ⟨f0, f1, f2, _⟩ := hf p.1 hb
    obtain ⟨o, e', d⟩ := ho p.1 hb
    rw [e] at e'; cases e'
    exact ⟨e, f0, f1, f2, d⟩
theorem Inv.unpinned {pins pl : List (Addr × Obj)} {σ : St} {H : Hp} {s : Shared} (I : Inv X (pins ++ pl) σ H s) : Inv X pins σ H s := I.pins_of fun p hp => I.pin p (List.mem_append_right _ (List.mem_append_left _ hp))
theorem ps_for {iter : Expr} {body : List Stmt} {wi : TI} {g : TG} {tb : TS} {pos : Pos} (hp : PassesOwn (model X.prog X.w) X.A X.env X.xe) (hc : X.calm = true) (hi : PI X tg iter wi) (hg : PG X tg g) (hb : PSs X body tb)
    (hs : ∀ x, foldedSetIterable iter X.env x = pure x := by intro _; rfl) : PS X (.For tg iter body [] pos) (tFor wi g tb) := by
  intro pins s σ H D I h
  refine wpAny_For (thn (hi pins s σ H _ I h) fun v s1 h1 => thn h1 fun itv s2 h2 => ?_) hs
  obtain ⟨it, fp, tn, J, H2, e, I2, T, st2, f2, W, ⟨m0, w0⟩, turn⟩ := h2
  subst e
  -- what stays true of the iterator's objects through the loop
  have stat : ∀ {H' : Hp}, (∀ b ∈ fp, H' b = none) → ∀ b ∈ fp, FpOk X pins H' b := fun hn b hb => ⟨hn b hb, (f2 b hb).2⟩
  refine codeAny_forLoop_any (fun n s' => ∃ i σ' H', Inv X pins σ' H' s' ∧ tn i s'.heap ∧ (∀ b ∈ fp, H' b = none) ∧ W i n σ' H') ?_ m0 ⟨0, σ, H2, I2, st2, fun b hb => (f2 b hb).1, w0⟩
  rintro n s3 ⟨i, σ3, H3, I3, st3, fr3, w3⟩
  rcases turn i n σ3 H3 w3 with ⟨stop, qn⟩ | ⟨go, N, hN, step⟩
  · refine wpAny_passesOwn hp (thn (T.done X rfl rfl rfl hc i pins s3 σ3 H3 X.xe I3 (stat fr3) st3 stop) fun r s4 ⟨hr, I4⟩ => ?_)
    subst hr
    exact wpAny_execs_nil ⟨σ3, H3, I4, qn⟩
  · refine wpAny_passesOwn hp (thn (T.item X rfl rfl rfl hc i pins s3 σ3 H3 X.xe I3 (stat fr3) st3 go) fun r s4 ⟨u, hr, h4⟩ => ?_)
    subst hr
    refine wpAny_passesOwn hp (thn h4 fun _ s5 ⟨x, H5, I5, r5, y5, st5, fr5⟩ => ?_)
    have I5' := I5.pinned (stat fr5) (T.obj _ _ st5)
    refine wpAny_passesOwn hp (thn (hg _ s5 σ3 H5 x u _ I5' r5 (step x H5 y5)) fun _ s6 ⟨σ6, H6, I6, q6⟩ => ?_)
    refine wpAny_passesOwn hp (thn (hb _ s6 σ6 H6 _ I6 q6) fun f s7 q7 => ?_)
    have again : ∀ {σ7 : St} {H7 : Hp}, Inv X (pins ++ pinsAt fp s5.heap) σ7 H7 s7 → N σ7 H7 → ∃ m, m < n ∧ ∃ i σ' H', Inv X pins σ' H' s7 ∧ tn i s7.heap ∧ (∀ b ∈ fp, H' b = none) ∧ W i m σ' H' := fun {σ7 H7} I7 n7 => by
      obtain ⟨m', hm, w7⟩ := hN σ7 H7 n7
      refine ⟨m', hm, i + 1, σ7, H7, I7.unpinned, T.keep _ _ _ st5 fun b hb o e => (I7.pin (b, o) (List.mem_append_right _ (List.mem_append_right _ (mem_pinsAt hb e)))).1, fun b hb => ?_, w7⟩
      obtain ⟨o, e, d⟩ := T.obj _ _ st5 b hb
      exact (I7.pin (b, o) (List.mem_append_right _ (List.mem_append_right _ (mem_pinsAt hb e)))).2.1
    cases f with
    | next => obtain ⟨σ7, H7, I7, n7⟩ := q7; exact again I7 n7
    | cont => obtain ⟨σ7, H7, I7, n7⟩ := q7; exact again I7 n7
    | brk => obtain ⟨σ7, H7, I7, q7⟩ := q7; exact ⟨σ7, H7, I7.unpinned, q7⟩
    | ret v => obtain ⟨x7, σ7, H7, I7, r7, q7⟩ := q7; exact ⟨x7, σ7, H7, I7.unpinned, r7, q7⟩
end

/-! ### the forms one uses -/
/-- over a list that the body leaves as it is -/
theorem for_list {K : PySem.W.Frag} {a : Addr} {xs : List V} {g : TG} {tb : TS} {D : Ends} {σ : St} {H : Hp} (Pv : Nat → St → Hp → Prop) (h0 : Pv 0 σ H) (hl : ∀ i σ H, i ≤ xs.length → Pv i σ H → SqL K H a xs)
    (hs : ∀ i x σ H, xs[i]? = some x → Pv i σ H → g x σ H fun σ2 H2 => tb { D with nx := Pv (i + 1), ct := Pv (i + 1), bk := D.nx } σ2 H2) (hd : ∀ σ H, Pv xs.length σ H → D.nx σ H) :
    ∃ W : Nat → Nat → St → Hp → Prop, (∃ m, W 0 m σ H) ∧ ∀ i m σ H, W i m σ H →
      ((Itl K a).stop i H ∧ D.nx σ H) ∨ ((Itl K a).go i H ∧ ∃ N : St → Hp → Prop, (∀ σ' H', N σ' H' → ∃ m', m' < m ∧ W (i + 1) m' σ' H') ∧ ∀ x H', (Itl K a).yld i H x H' → g x σ H' fun σ2 H2 => tb { D with nx := N, ct := N, bk := D.nx } σ2 H2) := by
  refine ⟨fun i m σ H => m = xs.length - i ∧ i ≤ xs.length ∧ Pv i σ H, ⟨xs.length, by simp, Nat.zero_le _, h0⟩, ?_⟩
  rintro i m σ H ⟨rfl, hi, p⟩
  have q := hl i σ H hi p
  by_cases hlt : i < xs.length
  · refine .inr ⟨⟨xs, xs[i], q, by simp [hlt]⟩, Pv (i + 1), fun σ' H' p' => ⟨xs.length - (i + 1), by omega, rfl, hlt, p'⟩, fun x H' y => ?_⟩
    obtain ⟨e, y⟩ := y
    subst e
    exact hs i x σ _ (y xs q) p
  · have e : i = xs.length := by omega
    subst e
    exact .inl ⟨⟨xs, q, Nat.le_refl _⟩, hd σ H p⟩
theorem for_range {lo : Int} {n : Nat} {g : TG} {tb : TS} {D : Ends} {σ : St} {H : Hp} (Pv : Nat → St → Hp → Prop) (h0 : Pv 0 σ H)
    (hs : ∀ i σ H, i < n → Pv i σ H → g (.int (lo + i)) σ H fun σ2 H2 => tb { D with nx := Pv (i + 1), ct := Pv (i + 1), bk := D.nx } σ2 H2) (hd : ∀ σ H, Pv n σ H → D.nx σ H) :
    ∃ W : Nat → Nat → St → Hp → Prop, (∃ m, W 0 m σ H) ∧ ∀ i m σ H, W i m σ H →
      ((Itr lo n).stop i H ∧ D.nx σ H) ∨ ((Itr lo n).go i H ∧ ∃ N : St → Hp → Prop, (∀ σ' H', N σ' H' → ∃ m', m' < m ∧ W (i + 1) m' σ' H') ∧ ∀ x H', (Itr lo n).yld i H x H' → g x σ H' fun σ2 H2 => tb { D with nx := N, ct := N, bk := D.nx } σ2 H2) := by
  refine ⟨fun i m σ H => m = n - i ∧ i ≤ n ∧ Pv i σ H, ⟨n, by simp, Nat.zero_le _, h0⟩, ?_⟩
  rintro i m σ H ⟨rfl, hi, p⟩
  by_cases hlt : i < n
  · refine .inr ⟨hlt, Pv (i + 1), fun σ' H' p' => ⟨n - (i + 1), by omega, rfl, hlt, p'⟩, fun x H' y => ?_⟩
    obtain ⟨e, y⟩ := y
    subst e y
    exact hs i σ _ hlt p
  · have e : i = n := by omega
    subst e
    exact .inl ⟨Nat.le_refl _, hd σ H p⟩
end L2

namespace L2
open PySem PySem.Spec PyProof.Rows

abbrev R2 := V → V → Hp → VK → Prop
/-- a two-place operation on values: f is binaryOp op, inplaceOp op or compareOp op -/
def OpR (X : Cx) (f : Value → Value → Sem Value) (r : R2) : Prop :=
  ∀ (pins : List (Addr × Obj)) (s : Shared) (σ : St) (H : Hp) (x y : V) (v u : Value) (Q : VK), Inv X pins σ H s → RelV x v → RelV y u → r x y H Q →
    wpAny (model X.prog X.w) X.A (f v u) (EP X pins σ Q) X.xe s
/-- a one-place operation -/
def UnR (X : Cx) (f : Value → Sem Value) (r : V → Hp → VK → Prop) : Prop :=
  ∀ (pins : List (Addr × Obj)) (s : Shared) (σ : St) (H : Hp) (x : V) (v : Value) (Q : VK), Inv X pins σ H s → RelV x v → r x H Q →
    wpAny (model X.prog X.w) X.A (f v) (EP X pins σ Q) X.xe s
/-- a call of a value that is known (a builtin, a type) with values -/
def CallR (X : Cx) (f : Value) (r : List V → Hp → VK → Prop) : Prop :=
  ∀ (pins : List (Addr × Obj)) (s : Shared) (σ : St) (H : Hp) (xs : List V) (us : List Value) (Q : VK), Inv X pins σ H s → Vals xs us → r xs H Q →
    wpAny (model X.prog X.w) X.A (call f us) (EP X pins σ Q) X.xe s
/-- a value's truth -/
def TruR (X : Cx) (r : V → Hp → (Bool → Hp → Prop) → Prop) : Prop :=
  ∀ (pins : List (Addr × Obj)) (s : Shared) (σ : St) (H : Hp) (x : V) (v : Value) (Q : Bool → Hp → Prop), Inv X pins σ H s → RelV x v → r x H Q →
    wpAny (model X.prog X.w) X.A (truthy v) (TP X pins σ Q) X.xe s

def tOp (r : R2) (ta tb : TE) : TE := fun σ H Q => ta σ H fun x H1 => tb σ H1 fun y H2 => r x y H2 Q
def tUn (r : V → Hp → VK → Prop) (ta : TE) : TE := fun σ H Q => ta σ H fun x H1 => r x H1 Q
/-- ints in, under C, and a value out -/
def rI (C : Int → Int → Prop) (g : Int → Int → V) : R2 := fun x y H Q => ∃ i j, x = .int i ∧ y = .int j ∧ C i j ∧ Q (g i j) H
def rI0 (g : Int → Int → V) : R2 := fun x y H Q => ∃ i j, x = .int i ∧ y = .int j ∧ Q (g i j) H
def rU (g : Int → V) : V → Hp → VK → Prop := fun x H Q => ∃ i, x = .int i ∧ Q (g i) H

section
variable {X : Cx} {a b c : Expr} {ta tb tc : TE} {pos : Pos}

theorem binT (ha : PE X a ta) (hb : PE X b tb) {pins : List (Addr × Obj)} {s : Shared} {σ : St} {H : Hp} {R : V → V → Hp → Prop} (I : Inv X pins σ H s)
    (h : ta σ H fun x H1 => tb σ H1 fun y H2 => R x y H2) {Q : Value → Shared → Prop} {f : Value → Value → Sem Value}
    (hf : ∀ v u s2 x y H2, Inv X pins σ H2 s2 → RelV x v → RelV y u → R x y H2 → wpAny (model X.prog X.w) X.A (f v u) Q X.xe s2) :
    wpAny (model X.prog X.w) X.A (eval a X.env) (fun v s₁ => wpAny (model X.prog X.w) X.A (eval b X.env) (fun u s₂ => wpAny (model X.prog X.w) X.A (f v u) Q X.xe s₂) X.xe s₁) X.xe s := by
  refine thn (ha pins s σ H _ I h) fun v s1 ⟨x, H1, I1, r1, q1⟩ => ?_
  refine thn (hb pins s1 σ H1 _ I1 q1) fun u s2 ⟨y, H2, I2, r2, q2⟩ => ?_
  exact hf v u s2 x y H2 I2 r1 r2 q2

theorem pe_op {op : Operator} {r : R2} (ho : OpR X (binaryOp op) r) (ha : PE X a ta) (hb : PE X b tb) : PE X (.BinOp a op b pos) (tOp r ta tb) := by
  intro pins s σ H Q I h
  exact wpAny_BinOp (binT ha hb I h fun v u s2 x y H2 I2 rx ry q => ho pins s2 σ H2 x y v u Q I2 rx ry q)
theorem pe_un {op : UnaryOp} {r : V → Hp → VK → Prop} (ho : UnR X (unaryOp op) r) (ha : PE X a ta) : PE X (.UnaryOp op a pos) (tUn r ta) := by
  intro pins s σ H Q I h
  exact UnaryOp_ (thn (ha pins s σ H _ I h) fun v s1 ⟨x, H1, I1, r1, q1⟩ => ho pins s1 σ H1 x v Q I1 r1 q1)
/-! ### ints -/
theorem opI {f : Value → Value → Sem Value} {C : Int → Int → Prop} {g : Int → Int → Int}
    (rule : ∀ (i j : Int) (t u : Tok) (s : Shared) (Q : Value → Shared → Prop) (E : Value → Shared → Prop), C i j → Q (.int (g i j) s.toks) { s with toks := s.toks + 1 } → wpAny (model X.prog X.w) X.A (f (.int i t) (.int j u)) Q E s) :
    OpR X f (rI C fun i j => .int (g i j)) := by
  intro pins s σ H x y v u Q I rx ry h
  obtain ⟨i, j, rfl, rfl, hc, q⟩ := h
  obtain ⟨t, rfl⟩ := rx
  obtain ⟨t', rfl⟩ := ry
  exact rule i j t t' s _ _ hc ⟨.int (g i j), H, I.tok _, ⟨_, rfl⟩, q⟩
theorem opI0 {f : Value → Value → Sem Value} {g : Int → Int → Int}
    (rule : ∀ (i j : Int) (t u : Tok) (s : Shared) (Q : Value → Shared → Prop) (E : Value → Shared → Prop), Q (.int (g i j) s.toks) { s with toks := s.toks + 1 } → wpAny (model X.prog X.w) X.A (f (.int i t) (.int j u)) Q E s) :
    OpR X f (rI0 fun i j => .int (g i j)) := by
  intro pins s σ H x y v u Q I rx ry h
  obtain ⟨i, j, rfl, rfl, q⟩ := h
  obtain ⟨t, rfl⟩ := rx
  obtain ⟨t', rfl⟩ := ry
  exact rule i j t t' s _ _ ⟨.int (g i j), H, I.tok _, ⟨_, rfl⟩, q⟩
theorem opB0 {f : Value → Value → Sem Value} {g : Int → Int → Bool}
    (rule : ∀ (i j : Int) (t u : Tok) (s : Shared) (Q : Value → Shared → Prop) (E : Value → Shared → Prop), Q (.bool (g i j)) s → wpAny (model X.prog X.w) X.A (f (.int i t) (.int j u)) Q E s) :
    OpR X f (rI0 fun i j => .bl (g i j)) := by
  intro pins s σ H x y v u Q I rx ry h
  obtain ⟨i, j, rfl, rfl, q⟩ := h
  obtain ⟨t, rfl⟩ := rx
  obtain ⟨t', rfl⟩ := ry
  exact rule i j t t' s _ _ ⟨.bl (g i j), H, I, rfl, q⟩

def CDiv (i j : Int) : Prop := 0 < j ∧ j < 1073741824
def CDivN (i j : Int) : Prop := j ≠ 0 ∧ j.natAbs < 1073741824
def CPow (i j : Int) : Prop := 0 ≤ j ∧ j ≤ 1000000 ∧ i.natAbs < 2 ^ 64
def CMul (i j : Int) : Prop := (-(2 ^ 64) < i ∧ i < 2 ^ 64) ∨ (-(2 ^ 64) < j ∧ j < 2 ^ 64)
theorem CMul.ok {i j : Int} (h : CMul i j) : IntMulOk i j := by
  rcases h with ⟨h1, h2⟩ | ⟨h1, h2⟩
  · exact .of_left (intBits_le_64 h1 h2)
  · exact .of_right (intBits_le_64 h1 h2)
theorem op_add : OpR X (binaryOp .Add) (rI0 fun i j => .int (i + j)) := opI0 fun _ _ _ _ _ _ _ q => add_int q
theorem op_sub : OpR X (binaryOp .Sub) (rI0 fun i j => .int (i - j)) := opI0 fun _ _ _ _ _ _ _ q => sub_int q
theorem op_mul : OpR X (binaryOp .Mult) (rI CMul fun i j => .int (i * j)) := opI fun _ _ _ _ _ _ _ hc q => mul_int q hc.ok
/-- // by a positive divisor -/
theorem op_fdiv : OpR X (binaryOp .FloorDiv) (rI CDiv fun i j => .int (i / j)) := opI fun i j _ _ _ _ _ hc q => by
  have h1 : (0 : Int) < j := hc.1
  have h2 : j < 1073741824 := hc.2
  exact floordiv_int (by omega) (by rw [Int.fdiv_eq_ediv_of_nonneg i (by omega)]; exact q) (.inl (PyProof.noPylong_small (by omega)))
/-- % by a positive divisor of any size -/
theorem op_mod : OpR X (binaryOp .Mod) (rI (fun _ j => 0 < j) fun i j => .int (i % j)) := opI fun i j _ _ _ _ _ hc q => by
  have h1 : (0 : Int) < j := hc
  exact mod_int' (by omega) (by rw [Int.fmod_eq_emod_of_nonneg i (by omega)]; exact q)
theorem op_pow : OpR X (binaryOp .Pow) (rI CPow fun i j => .int (i ^ j.toNat)) := opI fun _ _ _ _ _ _ _ hc q => pow_int_small hc.1 hc.2.1 hc.2.2 q
theorem unI {f : Value → Sem Value} {g : Int → Int}
    (rule : ∀ (i : Int) (t : Tok) (s : Shared) (Q : Value → Shared → Prop) (E : Value → Shared → Prop), Q (.int (g i) s.toks) { s with toks := s.toks + 1 } → wpAny (model X.prog X.w) X.A (f (.int i t)) Q E s) :
    UnR X f (rU fun i => .int (g i)) := by
  intro pins s σ H x v Q I rx h
  obtain ⟨i, rfl, q⟩ := h
  obtain ⟨t, rfl⟩ := rx
  exact rule i t s _ _ ⟨.int (g i), H, I.tok _, ⟨_, rfl⟩, q⟩
theorem un_neg : UnR X (unaryOp .USub) (rU fun i => .int (-i)) := unI fun _ _ _ _ _ q => neg_int q
/-! ### bools among ints: n += (a < b) -/
end

/-! ### comparisons -/
/-- the scalars that == tells apart as data does -/
def scal : V → V → Bool
  | .non, .non => true | .non, .int _ => true | .int _, .non => true | .non, .bl _ => true | .bl _, .non => true | .non, .str _ => true | .str _, .non => true
  | .int _, .int _ => true | .bl _, .bl _ => true | .str _, .str _ => true | .byt _, .byt _ => true
  | .int _, .str _ => true | .str _, .int _ => true | .bl _, .str _ => true | .str _, .bl _ => true
  | _, _ => false
def rEq : R2 := fun x y H Q => scal x y = true ∧ Q (.bl (decide (x = y))) H
def rNe : R2 := fun x y H Q => scal x y = true ∧ Q (.bl (!decide (x = y))) H

theorem dec_int {i j : Int} : decide (V.int i = V.int j) = (i == j) := by
  rw [Bool.eq_iff_iff]
  simp
theorem dec_bl {i j : Bool} : decide (V.bl i = V.bl j) = (i == j) := by
  rw [Bool.eq_iff_iff]
  simp
theorem dec_str {i j : Str} : decide (V.str i = V.str j) = (i == j) := by
  rw [Bool.eq_iff_iff]
  simp
theorem dec_byt {i j : Array UInt8} : decide (V.byt i = V.byt j) = (i.toList == j.toList) := by
  rw [Bool.eq_iff_iff]
  cases i
  cases j
  simp

section
variable {X : Cx} {a b c : Expr} {ta tb tc : TE} {pos : Pos}
theorem fin_bl {pins : List (Addr × Obj)} {σ : St} {H : Hp} {s : Shared} {Q : VK} {k k' : Bool} (I : Inv X pins σ H s) (q : Q (.bl k) H) (e : k = k') : EP X pins σ Q (.bool k') s := by
  subst e
  exact ⟨.bl k, H, I, rfl, q⟩
theorem op_eq : OpR X (compareOp .Eq) rEq := by
  intro pins s σ H x y v u Q I rx ry h
  obtain ⟨hs, q⟩ := h
  cases x with
  | non =>
    cases rx
    cases y with
    | non => cases ry; exact PySem.EqNone.eq_none_none (fin_bl I q (by simp))
    | bl j => cases ry; exact PySem.EqNone.eq_none_bool (fin_bl I q (by simp))
    | int j => obtain ⟨t', rfl⟩ := ry; exact PySem.EqNone.eq_none_int (fin_bl I q (by simp))
    | str j => obtain ⟨t', rfl⟩ := ry; exact PySem.EqNone.eq_none_str (fin_bl I q (by simp))
    | _ => exact absurd (show false = true from hs) Bool.false_ne_true
  | bl i =>
    cases rx
    cases y with
    | non => cases ry; exact PySem.EqNone.eq_bool_none (fin_bl I q (by simp))
    | bl j => cases ry; exact eq_bool (fin_bl I q dec_bl)
    | str j => obtain ⟨t', rfl⟩ := ry; exact PySem.EqMixed.eq_bool_str (fin_bl I q (by simp))
    | _ => exact absurd (show false = true from hs) Bool.false_ne_true
  | int i =>
    obtain ⟨t, rfl⟩ := rx
    cases y with
    | non => cases ry; exact PySem.EqNone.eq_int_none (fin_bl I q (by simp))
    | int j => obtain ⟨t', rfl⟩ := ry; exact eq_int (fin_bl I q dec_int)
    | str j => obtain ⟨t', rfl⟩ := ry; exact PySem.EqMixed.eq_int_str (fin_bl I q (by simp))
    | _ => exact absurd (show false = true from hs) Bool.false_ne_true
  | str i =>
    obtain ⟨t, rfl⟩ := rx
    cases y with
    | non => cases ry; exact PySem.EqNone.eq_str_none (fin_bl I q (by simp))
    | bl j => cases ry; exact PySem.EqMixed.eq_str_bool (fin_bl I q (by simp))
    | int j => obtain ⟨t', rfl⟩ := ry; exact PySem.EqMixed.eq_str_int (fin_bl I q (by simp))
    | str j => obtain ⟨t', rfl⟩ := ry; exact eq_str (fin_bl I q dec_str)
    | _ => exact absurd (show false = true from hs) Bool.false_ne_true
  | byt i =>
    obtain ⟨t, rfl⟩ := rx
    cases y with
    | byt j => obtain ⟨t', rfl⟩ := ry; exact PySem.W.eq_bytes (fin_bl I q dec_byt)
    | _ => exact absurd (show false = true from hs) Bool.false_ne_true
  | _ => cases y <;> exact absurd (show false = true from hs) Bool.false_ne_true
theorem op_ne : OpR X (compareOp .NotEq) rNe := by
  intro pins s σ H x y v u Q I rx ry h
  obtain ⟨hs, q⟩ := h
  cases x with
  | non =>
    cases rx
    cases y with
    | non => cases ry; exact PySem.EqNone.ne_none_none (fin_bl I q (by simp))
    | bl j => cases ry; exact PySem.EqNone.ne_none_bool (fin_bl I q (by simp))
    | int j => obtain ⟨t', rfl⟩ := ry; exact PySem.EqNone.ne_none_int (fin_bl I q (by simp))
    | str j => obtain ⟨t', rfl⟩ := ry; exact PySem.EqNone.ne_none_str (fin_bl I q (by simp))
    | _ => exact absurd (show false = true from hs) Bool.false_ne_true
  | bl i =>
    cases rx
    cases y with
    | non => cases ry; exact PySem.EqNone.ne_bool_none (fin_bl I q (by simp))
    | bl j => cases ry; exact ne_bool (fin_bl I q (congrArg not dec_bl))
    | str j => obtain ⟨t', rfl⟩ := ry; exact PySem.EqMixed.ne_bool_str (fin_bl I q (by simp))
    | _ => exact absurd (show false = true from hs) Bool.false_ne_true
  | int i =>
    obtain ⟨t, rfl⟩ := rx
    cases y with
    | non => cases ry; exact PySem.EqNone.ne_int_none (fin_bl I q (by simp))
    | int j => obtain ⟨t', rfl⟩ := ry; exact ne_int (fin_bl I q (congrArg not dec_int))
    | str j => obtain ⟨t', rfl⟩ := ry; exact PySem.EqMixed.ne_int_str (fin_bl I q (by simp))
    | _ => exact absurd (show false = true from hs) Bool.false_ne_true
  | str i =>
    obtain ⟨t, rfl⟩ := rx
    cases y with
    | non => cases ry; exact PySem.EqNone.ne_str_none (fin_bl I q (by simp))
    | bl j => cases ry; exact PySem.EqMixed.ne_str_bool (fin_bl I q (by simp))
    | int j => obtain ⟨t', rfl⟩ := ry; exact PySem.EqMixed.ne_str_int (fin_bl I q (by simp))
    | str j => obtain ⟨t', rfl⟩ := ry; exact ne_str (fin_bl I q (congrArg not dec_str))
    | _ => exact absurd (show false = true from hs) Bool.false_ne_true
  | byt i =>
    obtain ⟨t, rfl⟩ := rx
    cases y with
    | byt j => obtain ⟨t', rfl⟩ := ry; exact PySem.W.ne_bytes (fin_bl I q (congrArg not dec_byt))
    | _ => exact absurd (show false = true from hs) Bool.false_ne_true
  | _ => cases y <;> exact absurd (show false = true from hs) Bool.false_ne_true

theorem op_lt : OpR X (compareOp .Lt) (rI0 fun i j => .bl (decide (i < j))) := opB0 fun _ _ _ _ _ _ _ q => lt_int q
theorem op_le : OpR X (compareOp .LtE) (rI0 fun i j => .bl (decide (i ≤ j))) := opB0 fun _ _ _ _ _ _ _ q => le_int q
theorem op_gt : OpR X (compareOp .Gt) (rI0 fun i j => .bl (decide (j < i))) := opB0 fun _ _ _ _ _ _ _ q => gt_int q
theorem op_ge : OpR X (compareOp .GtE) (rI0 fun i j => .bl (decide (j ≤ i))) := opB0 fun _ _ _ _ _ _ _ q => ge_int q
/-- is None, is not None: the right side a value none -/
theorem op_isN : OpR X (compareOp .Is) (fun x y H Q => y = .non ∧ Q (.bl (decide (x = .non))) H) := by
  intro pins s σ H x y v u Q I rx ry h
  obtain ⟨rfl, q⟩ := h
  cases ry
  refine is_none_gen (fin_bl I q ?_)
  cases x <;> first
    | (cases rx; rfl)
    | (obtain ⟨t, rfl⟩ := rx; rfl)
theorem op_notN : OpR X (compareOp .IsNot) (fun x y H Q => y = .non ∧ Q (.bl (!decide (x = .non))) H) := by
  intro pins s σ H x y v u Q I rx ry h
  obtain ⟨rfl, q⟩ := h
  cases ry
  refine isnot_none_gen (fin_bl I q ?_)
  cases x <;> first
    | (cases rx; rfl)
    | (obtain ⟨t, rfl⟩ := rx; rfl)

/-- is, is not of two objects that are tracked lists or instances -/
def isObj : HO → Bool
  | .lst _ => true
  | .ins _ _ _ => true
  | _ => false
theorem nomark (b : Expr) {op : CmpOp} (h : op ≠ .In := by decide) (h2 : op ≠ .NotIn := by decide) : behindInMarks op b = false := by
  have e1 : (op == CmpOp.In) = false := by cases op <;> first | rfl | exact absurd rfl h
  have e2 : (op == CmpOp.NotIn) = false := by cases op <;> first | rfl | exact absurd rfl h2
  cases b <;> simp [behindInMarks, e1, e2]
/-- a comparison as a value; hm: nomark b, or (for in, not in) by with_unfolding_all rfl -/
theorem pe_cmpR {op : CmpOp} {r : R2} (ho : OpR X (compareOp op) r) (ha : PE X a ta) (hb : PE X b tb) (hm : behindInMarks op b = false) : PE X (.Compare a [op] [b] pos) (tOp r ta tb) := by
  intro pins s σ H Q I h
  exact wpAny_Compare1 (binT ha hb I h fun v u s2 x y H2 I2 rx ry q => ho pins s2 σ H2 x y v u Q I2 rx ry q) hm
/-- a reading of a value as a test -/
def tTest (t : TE) : TT := fun σ H Q => t σ H fun x H' => ∃ k, x = .bl k ∧ Q k H'
theorem pt_cmpR {op : CmpOp} {r : R2} (ho : OpR X (compareOp op) r) (ha : PE X a ta) (hb : PE X b tb) (hm : behindInMarks op b = false) : PT X (.Compare a [op] [b] pos) (tTest (tOp r ta tb)) := by
  intro pins s σ H Q I h
  refine wpAny_isTrue_Compare1 (thn (ha pins s σ H _ I h) fun v s1 ⟨x, H1, I1, r1, q1⟩ => thn (hb pins s1 σ H1 _ I1 q1) fun u s2 ⟨y, H2, I2, r2, q2⟩ =>
    thn (ho pins s2 σ H2 x y v u _ I2 r1 r2 q2) fun c s3 ⟨z, H3, I3, r3, k, e, q3⟩ => ?_) hm
  subst e
  cases r3
  exact wpAny_truthy_bool ⟨H3, I3, q3⟩
/-- a op1 b op2 c -/
def tChain (r r' : R2) (ta tb tc : TE) : TE := fun σ H Q => ta σ H fun x H1 => tb σ H1 fun y H2 => r x y H2 fun z H3 => ∃ k, z = .bl k ∧
  (if k = true then tc σ H3 fun w' H4 => r' y w' H4 Q else Q (.bl false) H3)
theorem pe_chain {op op' : CmpOp} {r r' : R2} (ho : OpR X (compareOp op) r) (ho' : OpR X (compareOp op') r') (ha : PE X a ta) (hb : PE X b tb) (hc : PE X c tc)
    (hm : lastMarks [op, op'] [b, c] = false := by with_unfolding_all rfl) : PE X (.Compare a [op, op'] [b, c] pos) (tChain r r' ta tb tc) := by
  intro pins s σ H Q I h
  refine Compare_chain (thn (ha pins s σ H _ I h) fun v s1 ⟨x, H1, I1, r1, q1⟩ => chain_link (thn (hb pins s1 σ H1 _ I1 q1) fun u s2 ⟨y, H2, I2, r2, q2⟩ =>
    thn (ho pins s2 σ H2 x y v u _ I2 r1 r2 q2) fun d s3 ⟨z, H3, I3, r3, k, e, q3⟩ => ?_)) hm
  subst e
  cases r3
  refine wpAny_truthy_bool ?_
  cases k with
  | false => exact ite_ff ⟨.bl false, H3, I3, rfl, q3⟩
  | true => exact ite_tt (chain_last (thn (hc pins s3 σ H3 _ I3 q3) fun w' s4 ⟨z', H4, I4, r4, q4⟩ => ho' pins s4 σ H4 y z' u w' Q I4 r2 r4 q4))
/-! ### truth -/
/-- a value's truth by the abstract heap -/
def TruV (K : PySem.W.Frag) (x : V) (H : Hp) (k : Bool) : Prop :=
  match x with
  | .non => k = false
  | .bl b => k = b
  | .int i => k = (i != 0)
  | .str y => y.length ≤ sizeLine ∧ k = ((y.length : Int) != 0)
  | .byt y => y.size ≤ sizeLine ∧ k = ((y.size : Int) != 0)
  | .ref p => (∃ xs, SqL K H p xs ∧ k = !xs.isEmpty) ∨ (∃ xs, SqT K H p xs ∧ k = !xs.isEmpty) ∨ ∃ kvs, H p = some (.dK kvs) ∧ k = !kvs.isEmpty
  | _ => False
theorem line63 : (sizeLine : Nat) < 2 ^ 63 := by rw [sizeLine_eq]; decide
/-! ### strs and bytes -/
def PlainIxT (b : Expr) : Prop := ∀ o i, subscripted b false o i = operate [o, i] (getItem o i)
/-! ### scalar builtins, by CallR -/
theorem vals1 {x : V} {us : List Value} (r : Vals [x] us) : ∃ u, us = [u] ∧ RelV x u := by
  cases r with
  | cons r1 r2 => cases r2; exact ⟨_, rfl, r1⟩
theorem vals2 {x y : V} {us : List Value} (r : Vals [x, y] us) : ∃ u w', us = [u, w'] ∧ RelV x u ∧ RelV y w' := by
  cases r with
  | cons r1 r2 =>
    cases r2 with
    | cons r3 r4 => cases r4; exact ⟨_, _, rfl, r1, r3⟩
theorem call_int1 : CallR X (.type "int") (fun xs H Q => (∃ i, xs = [.int i] ∧ Q (.int i) H) ∨ ∃ k, xs = [.bl k] ∧ Q (.int (if k then 1 else 0)) H) := by
  intro pins s σ H xs us Q I r h
  rcases h with ⟨i, rfl, q⟩ | ⟨k, rfl, q⟩
  · obtain ⟨u, rfl, t, rfl⟩ := vals1 r
    exact call_int_int ⟨.int i, H, I, ⟨_, rfl⟩, q⟩
  · obtain ⟨u, rfl, r1⟩ := vals1 r
    cases r1
    exact call_int_bool ⟨.int (if k then 1 else 0), H, I.tok _, ⟨_, rfl⟩, q⟩
/-- len of a str, a bytes, a list, a tuple -/
def LenV (K : PySem.W.Frag) (x : V) (H : Hp) (n : Nat) : Prop :=
  match x with
  | .str y => y.length ≤ sizeLine ∧ n = y.length
  | .byt y => y.size ≤ sizeLine ∧ n = y.size
  | .ref p => (∃ xs, SqL K H p xs ∧ n = xs.length) ∨ ∃ xs, SqT K H p xs ∧ n = xs.length
  | _ => False
end
end L2

namespace L2
open PySem PySem.Spec PyProof.Rows

/-! ### an instance, its attributes a map -/
structure ObjM (h : Heap) (x dx C : Addr) (mA : Str → Option Value) : Prop where
  obj : h.get? x = some (PySem.W.instObj C dx)
  ns : h.Ns1 dx mA
  ne : dx ≠ x

theorem lookIn_ns {h : Heap} {dx : Addr} {mA : Str → Option Value} (n : h.Ns1 dx mA) : ∃ od, h.get? dx = some od ∧ ∀ name, PySem.W.lookIn name od = some (mA name) := by
  obtain ⟨o, es, ep, ho, hd, hk, _, hm⟩ := n
  refine ⟨o, ho, fun name => ?_⟩
  have e := hm name
  unfold nsFind findBy at e
  rw [← Array.find?_toList] at e
  unfold PySem.W.lookIn
  rw [hd]
  dsimp only
  split
  · rename_i y q
    rw [q] at e
    exact congrArg some e
  · rename_i q
    rw [q] at e
    have a : es.toList.any (·.refKey) = false := by
      rw [List.any_eq_false]
      intro y hy
      obtain ⟨z, t, hkey⟩ := hk y (Array.mem_toList_iff.mp hy)
      simp [DictEntry.refKey, hkey]
    have a' : ¬ es.toList.any (·.refKey) = true := by rw [a]; exact Bool.false_ne_true
    rw [if_neg a']
    exact congrArg some e

theorem ObjM.look {h : Heap} {x dx C : Addr} {mA : Str → Option Value} (I : ObjM h x dx C mA) : ∃ od, PySem.W.InstAt h x (PySem.W.instObj C dx) C (some od) ∧ ∀ name, PySem.W.lookIn name od = some (mA name) :=
  let ⟨od, ho, hl⟩ := lookIn_ns I.ns
  ⟨od, ⟨I.obj, rfl, rfl, ho⟩, hl⟩

section
variable {prog : Program} {w : World} {A : Around} {E : Value → Shared → Prop} {s : Shared} {K : PySem.W.Frag} {x dx C f : Addr} {mA : Str → Option Value} {name : Str} {v : Value}

theorem get_map {expr : Bool} {Q : Value → Shared → Prop} (X : K.In s.heap) (I : ObjM s.heap x dx C mA) (hg : PySem.W.plainGet K C name = true) (hh : PySem.W.hasDictIn K C = true)
    (ha : PySem.W.findIn K (.ref C) name = some none) (hv : mA name = some v) (hv' : PySem.W.handedIn v = true) (h : Q v { s with toks := s.toks + 1 }) :
    wpAny (model prog w) A (getAttr (.ref x) name expr) Q E s := by
  obtain ⟨od, J, hl⟩ := I.look
  exact PySem.W.get_value X J (PySem.W.plainGet_of hg).1 (PySem.W.findObj_own hh ha rfl (by rw [hl, hv])) hv' h

theorem get_meth {pl : Sem Bool} {Q : Value × List Value → Shared → Prop} (X : K.In s.heap) (I : ObjM s.heap x dx C mA) (hg : PySem.W.plainGet K C name = true)
    (hf : PySem.W.findIn K (.ref C) name = some (some (.ref f))) (ht : PySem.W.isFn K (.ref f) = true) (hv : mA name = none) (h : Q (.ref f, [.ref x]) s) :
    wpAny (model prog w) A (getMethod (.ref x) name pl) Q E s := by
  obtain ⟨od, J, hl⟩ := I.look
  exact PySem.W.method_fn X J (PySem.W.plainGet_of hg).1 (PySem.W.plainGet_of hg).2 hf (beq_iff_eq.mp ht) (by show (PySem.W.lookIn name od).map (·.isSome) = some false; rw [hl, hv]; rfl) h

theorem set_map {ns : List Str} {Q : Unit → Shared → Prop} (X : K.In s.heap) (I : ObjM s.heap x dx C mA)
    (hs : PySem.W.findIn K (.ref C) "__setattr__" = some (some (.builtin "object.__setattr__"))) (hp : PySem.W.plainOver K C = true) (ht : PySem.W.takerIn K C name = some none) (hh : PySem.W.hasDictIn K C = true)
    (hw : PySem.Within mA ns) (hsz : ns.length ≤ sizeLine)
    (h : ∀ h', ObjM h' x dx C (fun y => if y = name then some v else mA y) → Heap.SameBut dx s.heap h' → Q () { s with heap := h', toks := s.toks + 2 }) :
    wpAny (model prog w) A (setAttr (.ref x) name v) Q E s := by
  obtain ⟨od, J, hl⟩ := I.look
  refine PySem.W.set_plain X J hs (PySem.W.osa_open (s := { s with toks := s.toks + 1 }) (r := none) X J hp ht fun b => ?_)
  obtain ⟨cd, hc, hd'⟩ := PySem.W.any_some hh
  have hx : s.heap.get? x = some ⟨.ref C, some dx, .plain, #[]⟩ := I.obj
  refine wpAny_bind (wpAny_pure (wpAny_bind (wpAny_bind (wpAny_loadPart hx (wpAny_bind (PySem.W.Looks.here (s := { s with toks := s.toks + 1 }) (PySem.W.looks_clsIn X hc) ?_))))))
  rw [hd']
  refine wpAny_pure (a := some dx) (wpAny_bind (wpAny_pure (wpAny_bind ?_)))
  refine wpAny_nsSet1 (s := { s with toks := s.toks + 1 }) I.ns fun h' hn2 hs2 => ?_
  obtain ⟨oD, esD, epD, hoD, hdD, hcD⟩ := hn2.count (PySem.Within.cons name v hw)
  refine wpAny_bind (wpAny_lookBehind hoD (by rw [hdD]; exact pastItsLine_dict (Nat.le_trans hcD (by rw [List.length_cons]; omega))) ?_)
  exact wpAny_pure (h _ ⟨(hs2.2 _ (Ne.symm I.ne)).trans I.obj, hn2, I.ne⟩ hs2)

/-- C(..): the dict at the heap's end, the instance behind it; then its __init__ -/
theorem make_map {R : Result → Shared → Prop} {vs : List Value} {kw : List (Str × Value)} (X : K.In s.heap) (hm : PySem.W.makesIn K C = true)
    (hi : PySem.W.findIn K (.ref C) "__init__" = some (some (.ref f))) (hf : PySem.W.typeIn K (.ref f) = some (.type "function"))
    (h : codeAny (model prog w) (A.under (.builtin "type.__call__" ⟨.ref C :: vs, kw⟩)) (.call (.ref f) ⟨.ref (s.heap.objs.size + 1) :: vs, kw⟩) (PySem.W.InitBack (s.heap.objs.size + 1) R)
      { s with heap := (s.heap.push PySem.W.emptyDict).push (PySem.W.instObj C s.heap.objs.size) }) :
    codeAny (model prog w) A (.call (.ref C) ⟨vs, kw⟩) R s := by
  obtain ⟨hh, g, d, t, os⟩ := s
  exact PySem.W.make_core (PySem.W.makes_of X hm) (PySem.W.looks_findIn X hi) (fun self => PySem.W.bind_fn X self hf) (.inl rfl) h
end

/-! ### the attributes as a list of pairs -/
def putF (f : Str) (v : V) : List (Str × V) → List (Str × V)
  | [] => [(f, v)]
  | (g, x) :: r => if g = f then (g, v) :: r else (g, x) :: putF f v r
theorem lookup_putF (f g : Str) (v : V) : ∀ fs : List (Str × V), (putF f v fs).lookup g = if g = f then some v else fs.lookup g
  | [] => by
    show List.lookup g [(f, v)] = _
    by_cases h : g = f
    · have hb : (g == f) = true := beq_iff_eq.mpr h
      simp only [List.lookup, hb, if_pos h]
    · have hb : (g == f) = false := beq_eq_false_iff_ne.mpr h
      simp only [List.lookup, hb, if_neg h]
  | (k, x) :: r => by
    have ih := lookup_putF f g v r
    rw [show putF f v ((k, x) :: r) = (if k = f then (k, v) :: r else (k, x) :: putF f v r) from rfl]
    by_cases hk : k = f
    · rw [if_pos hk]
      by_cases h : g = k
      · have hb : (g == k) = true := beq_iff_eq.mpr h
        simp only [List.lookup, hb, if_pos (h.trans hk)]
      · have hb : (g == k) = false := beq_eq_false_iff_ne.mpr h
        simp only [List.lookup, hb, if_neg (fun e : g = f => h (e.trans hk.symm))]
    · rw [if_neg hk]
      by_cases h : g = k
      · have hb : (g == k) = true := beq_iff_eq.mpr h
        simp only [List.lookup, hb, if_neg (fun e : g = f => hk (h.symm.trans e))]
      · have hb : (g == k) = false := beq_eq_false_iff_ne.mpr h
        simp only [List.lookup, hb]
        exact ih
theorem keys_putF (f : Str) (v : V) : ∀ fs : List (Str × V), f ∈ (putF f v fs).map (·.1) ∧ ∀ g, g ∈ fs.map (·.1) → g ∈ (putF f v fs).map (·.1)
  | [] => ⟨by simp [putF], fun g h => by simp at h⟩
  | (k, x) :: r => by
    obtain ⟨i1, i2⟩ := keys_putF f v r
    rw [show putF f v ((k, x) :: r) = (if k = f then (k, v) :: r else (k, x) :: putF f v r) from rfl]
    by_cases hk : k = f
    · rw [if_pos hk]
      subst hk
      exact ⟨by simp, fun g h => by simpa using h⟩
    · rw [if_neg hk]
      refine ⟨?_, fun g h => ?_⟩
      · rw [List.map_cons]
        exact List.mem_cons_of_mem _ i1
      · rw [List.map_cons] at h ⊢
        rcases List.mem_cons.mp h with e | e
        · exact List.mem_cons.mpr (.inl e)
        · exact List.mem_cons_of_mem _ (i2 g e)
theorem length_putF (f : Str) (v : V) : ∀ fs : List (Str × V), (putF f v fs).length ≤ fs.length + 1
  | [] => by simp [putF]
  | (k, x) :: r => by
    have ih := length_putF f v r
    rw [show putF f v ((k, x) :: r) = (if k = f then (k, v) :: r else (k, x) :: putF f v r) from rfl]
    by_cases hk : k = f
    · rw [if_pos hk, List.length_cons, List.length_cons]; omega
    · rw [if_neg hk, List.length_cons, List.length_cons]; omega

theorem RelO.some_of {v : V} {o : Option Value} (r : RelO (some v) o) : ∃ u, o = some u ∧ RelV v u := by
  cases o with
  | none => exact (show False from r).elim
  | some u => exact ⟨u, rfl, r⟩
theorem RelO.none_of {o : Option Value} (r : RelO none o) : o = none := by
  cases o with
  | none => rfl
  | some u => exact (show False from r).elim
theorem handed_of {v : V} {u : Value} (r : RelV v u) : PySem.W.handedIn u = true := by
  cases v with
  | non => cases (show u = Value.none from r); rfl
  | bl b => cases (show u = Value.bool b from r); rfl
  | int i => obtain ⟨t, e⟩ := (show ∃ t, u = Value.int i t from r); cases e; rfl
  | str x => obtain ⟨t, e⟩ := (show ∃ t, u = Value.str x t from r); cases e; rfl
  | byt b => obtain ⟨t, e⟩ := (show ∃ t, u = Value.bytes b t from r); cases e; rfl
  | flt b => obtain ⟨t, e⟩ := (show ∃ t, u = Value.float b t from r); cases e; rfl
  | ref a => cases (show u = Value.ref a from r); rfl
  | ty n => cases (show u = Value.type n from r); rfl

section
variable {P : Program} {w : World} {H H' : Hp} {h h' : Heap} {a C dx : Addr} {fs fs' : List (Str × V)}
theorem ins_get (hok : HOk P w H h) (e : H a = some (.ins C dx fs)) : ∃ mA, ObjM h a dx C mA ∧ (∀ f, RelO (fs.lookup f) (mA f)) ∧ PySem.Within mA (fs.map (·.1)) ∧ fs.length ≤ 1000 ∧ H dx = some (.own a) := by
  obtain ⟨d, z, ne, ob, mA, n, r, q⟩ := (show ObjOk P w H h a (.ins C dx fs) from hok a _ e)
  exact ⟨mA, ⟨ob, n, ne⟩, r, q, z, d⟩
end

/-! ### what of the text a class must have -/
structure Cls (K : PySem.W.Frag) (C : Addr) : Prop where
  pg : PySem.W.plainGet K C Str.empty = true
  hd : PySem.W.hasDictIn K C = true
  po : PySem.W.plainOver K C = true
  sa : PySem.W.findIn K (.ref C) "__setattr__" = some (some (.builtin "object.__setattr__"))
theorem Cls.get {K : PySem.W.Frag} {C : Addr} (c : Cls K C) (f : Str) : PySem.W.plainGet K C f = true := c.pg
/-- no class of it has the name -/
def NoAttr (K : PySem.W.Frag) (C : Addr) (f : Str) : Prop := PySem.W.findIn K (.ref C) f = some none
theorem NoAttr.taker {K : PySem.W.Frag} {C : Addr} {f : Str} (n : NoAttr K C f) : PySem.W.takerIn K C f = some none := by
  unfold PySem.W.takerIn
  rw [show PySem.W.findIn K (.ref C) f = some none from n]
  rfl
/-- a constant of the class -/
structure Con (K : PySem.W.Frag) (C : Addr) (f : Str) (v : V) (u : Value) : Prop where
  at_ : PySem.W.findIn K (.ref C) f = some (some u)
  rel : RelV v u
  get : PySem.W.specialIn K u "__get__" = some none
  cp : PySem.W.copiedNames.contains f = false
/-- a method: a plain def of the class or of one above it -/
structure Meth (K : PySem.W.Frag) (C : Addr) (m : Str) (f : Addr) : Prop where
  at_ : PySem.W.findIn K (.ref C) m = some (some (.ref f))
  fn : PySem.W.isFn K (.ref f) = true
  kp : PySem.W.keepIn K (.ref f) = true

section
variable {X : Cx} {pins : List (Addr × Obj)} {σ : St} {H : Hp} {s : Shared} {a C dx : Addr} {fs : List (Str × V)} {f : Str} {v : V} {A : Around} {E : Value → Shared → Prop}

theorem getattr_ok {b : Bool} {Q : Value → Shared → Prop} (I : Inv X pins σ H s) (e : H a = some (.ins C dx fs)) (c : Cls X.K C) (n : NoAttr X.K C f) (l : fs.lookup f = some v)
    (h : ∀ u s', Inv X pins σ H s' → RelV v u → Q u s') : wpAny (model X.prog X.w) A (getAttr (.ref a) f b) Q E s := by
  obtain ⟨mA, O, r, _, _, _⟩ := ins_get I.hok e
  obtain ⟨u, hu, ru⟩ := RelO.some_of (v := v) (o := mA f) (by rw [← l]; exact r f)
  exact get_map I.kIn O (c.get f) c.hd n hu (handed_of ru) (h u _ (I.tok _) ru)

theorem getmeth_ok {m : Str} {g : Addr} {pl : Sem Bool} {Q : Value × List Value → Shared → Prop} (I : Inv X pins σ H s) (e : H a = some (.ins C dx fs)) (c : Cls X.K C) (k : Meth X.K C m g) (l : fs.lookup m = none)
    (h : Q (.ref g, [.ref a]) s) : wpAny (model X.prog X.w) A (getMethod (.ref a) m pl) Q E s := by
  obtain ⟨mA, O, r, _, _, _⟩ := ins_get I.hok e
  have hn : mA m = none := RelO.none_of (by rw [← l]; exact r m)
  exact get_meth I.kIn O (c.get m) k.at_ k.fn hn h

theorem setattr_ok {y : V} {u : Value} {Q : Unit → Shared → Prop} (I : Inv X pins σ H s) (e : H a = some (.ins C dx fs)) (c : Cls X.K C) (n : NoAttr X.K C f) (hl : fs.length < 1000) (ry : RelV y u)
    (h : ∀ s', Inv X pins σ (upd H a (.ins C dx (putF f y fs))) s' → Q () s') : wpAny (model X.prog X.w) A (setAttr (.ref a) f u) Q E s := by
  obtain ⟨mA, O, r, wi, _, ho⟩ := ins_get I.hok e
  have hz : (fs.map (·.1)).length ≤ sizeLine := by rw [List.length_map, sizeLine_eq]; omega
  refine set_map I.kIn O c.sa c.po n.taker c.hd wi hz fun h' O' sb => h _ ?_
  have hd : ∃ o, h'.get? dx = some o := let ⟨o, _, _, e', _⟩ := O'.ns; ⟨o, e'⟩
  refine I.write (x := a) (e := dx) (by rw [e]; exact True.intro) (.inr ho) (fun b q hb z => (sb.2 b hb).trans z) hd ?_
  refine ⟨by rw [upd_ne O.ne]; exact ho, ?_, O.ne, O'.obj, _, O'.ns, fun g => ?_, fun g hg => ?_⟩
  · have := length_putF f y fs; omega
  · show RelO ((putF f y fs).lookup g) (if g = f then some u else mA g)
    rw [lookup_putF]
    by_cases q : g = f
    · rw [if_pos q, if_pos q]; exact ry
    · rw [if_neg q, if_neg q]; exact r g
  · by_cases q : g = f
    · rw [q]; exact (keys_putF f y fs).1
    · refine (keys_putF f y fs).2 g (wi g fun z => hg ?_)
      show (if g = f then some u else mA g) = none
      rw [if_neg q]; exact z

/-- a new instance, tracked, without attributes -/
theorem Inv.made (I : Inv X pins σ H s) : Inv X pins σ (upd (upd H s.heap.objs.size (.own (s.heap.objs.size + 1))) (s.heap.objs.size + 1) (.ins C s.heap.objs.size []))
    { s with heap := (s.heap.push PySem.W.emptyDict).push (PySem.W.instObj C s.heap.objs.size) } := by
  have e1 : (s.heap.push PySem.W.emptyDict).get? s.heap.objs.size = some PySem.W.emptyDict := Heap.get?_push_size s.heap rfl
  have e2 : ((s.heap.push PySem.W.emptyDict).push (PySem.W.instObj C s.heap.objs.size)).get? (s.heap.objs.size + 1) = some (PySem.W.instObj C s.heap.objs.size) := by
    have := Heap.get?_push_size (s.heap.push PySem.W.emptyDict) (o := PySem.W.instObj C s.heap.objs.size) rfl
    rwa [Heap.size_push] at this
  have e3 : (s.heap.push PySem.W.emptyDict).Ns s.heap.objs.size (fun _ => none) := ⟨PySem.W.emptyDict, #[], _, e1, rfl, (fun e he => absurd he (by simp)), fun _ => rfl⟩
  have I1 := I.laid (a := s.heap.objs.size) (o := .own (s.heap.objs.size + 1)) (h' := s.heap.push PySem.W.emptyDict) (t' := s.toks) (fun b u q => Heap.get?_push_of_some _ q) (Nat.le_refl _) ⟨_, e1⟩
  refine I1.laid (a := s.heap.objs.size + 1) (o := .ins C s.heap.objs.size []) (t' := s.toks) (fun b u q => Heap.get?_push_of_some _ q) (Nat.le_of_eq (Heap.size_push _ _)) ?_
  have ne : s.heap.objs.size ≠ s.heap.objs.size + 1 := Nat.ne_of_lt (Nat.lt_succ_self _)
  refine ⟨by rw [upd_ne ne, upd_same], Nat.zero_le _, ne, e2, fun _ => none, (Heap.Ns1.of_empty e3).at fun o q => Heap.get?_push_of_some _ q, fun _ => True.intro, fun y hy => absurd rfl hy⟩

/-- e.f where nothing but the object is asked: through attributeBase (super) and the last hold -/
theorem attr_of {prog : Program} {w : World} {env : Env} {e : Expr} {f : Str} {pos : Pos} {s : Shared} {Q : Value → Shared → Prop} (hb : attributeBase e f env (eval e env) = eval e env)
    (h : wpAny (model prog w) A (eval e env) (fun o s₁ => wpAny (model prog w) A (getAttr o f true) Q E s₁) E s) : wpAny (model prog w) A (eval (.Attribute e f pos) env) Q E s :=
  Attribute_any_ h (by rw [arm_eval_Attribute, hb])
end

/-! ### readings and rules -/
/-- e.f, an attribute of the instance -/
def tFld (K : PySem.W.Frag) (ta : TE) (f : Str) : TE := fun σ H Q => ta σ H fun x H1 => ∃ a C dx fs v, x = .ref a ∧ H1 a = some (.ins C dx fs) ∧ Cls K C ∧ NoAttr K C f ∧ fs.lookup f = some v ∧ Q v H1
/-- e.f, a constant of the class -/
def tCon (K : PySem.W.Frag) (ta : TE) (f : Str) : TE := fun σ H Q => ta σ H fun x H1 => ∃ a C dx fs v u, x = .ref a ∧ H1 a = some (.ins C dx fs) ∧ Cls K C ∧ Con K C f v u ∧ fs.lookup f = none ∧ Q v H1
/-- e.f = value -/
def sFld (K : PySem.W.Frag) (ta tv : TE) (f : Str) : TS := fun D σ H => tv σ H fun y H1 => ta σ H1 fun x H2 => ∃ a C dx fs, x = .ref a ∧ H2 a = some (.ins C dx fs) ∧ Cls K C ∧ NoAttr K C f ∧ fs.length < 1000 ∧
  D.nx σ (upd H2 a (.ins C dx (putF f y fs)))
/-- an augmented operator on two values -/
def InOp (X : Cx) (op : Operator) (rd : V → V → Hp → VK → Prop) : Prop :=
  ∀ (pins : List (Addr × Obj)) (s : Shared) (σ : St) (H : Hp) (x y : V) (u v : Value) (Q : VK), Inv X pins σ H s → RelV x u → RelV y v → rd x y H Q → wpAny (model X.prog X.w) X.A (inplaceOp op u v) (EP X pins σ Q) X.xe s
/-- e.f op= value -/
def sFldAug (K : PySem.W.Frag) (ta tv : TE) (rd : V → V → Hp → VK → Prop) (f : Str) : TS := fun D σ H => ta σ H fun x H1 => ∃ a C dx fs v, x = .ref a ∧ H1 a = some (.ins C dx fs) ∧ Cls K C ∧ NoAttr K C f ∧ fs.lookup f = some v ∧
  tv σ H1 fun y H2 => rd v y H2 fun z H3 => ∃ dx' fs', H3 a = some (.ins C dx' fs') ∧ fs'.length < 1000 ∧ D.nx σ (upd H3 a (.ins C dx' (putF f z fs')))

section
variable {X : Cx} {o e value : Expr} {f : Str} {pos pos' tpos : Pos} {ta tv : TE}
theorem pe_fld (he : PE X e ta) (hb : attributeBase e f X.env (eval e X.env) = eval e X.env) : PE X (.Attribute e f pos) (tFld X.K ta f) := by
  intro pins s σ H Q I h
  refine attr_of hb (thn (he pins s σ H _ I h) fun u s1 ⟨x, H1, I1, rx, a, C, dx, fs, v, ex, ea, c, n, l, q⟩ => ?_)
  subst ex
  obtain rfl : u = Value.ref a := rx
  exact getattr_ok I1 ea c n l fun u' s2 I2 ru => ⟨v, H1, I2, ru, q⟩
theorem ps_fld (ha : PE X o ta) (hv : PE X value tv) (hs : swapsWith value (some (.Attribute o f pos')) pos.line X.env = pure false) : PS X (.Assign [.Attribute o f pos'] value pos) (sFld X.K ta tv f) := by
  intro pins s σ H D I h
  refine plainObj_wpAny_Assign_Attribute (thn (hv pins s σ H _ I h) fun u s1 ⟨y, H1, I1, ry, q⟩ => thn (ha pins s1 σ H1 _ I1 q) fun ov s2 ⟨x, H2, I2, rx, a, C, dx, fs, ex, ea, c, n, l, q2⟩ => ?_) hs
  subst ex
  obtain rfl : ov = Value.ref a := rx
  exact setattr_ok I2 ea c n l ry fun s3 I3 => ⟨σ, _, I3, q2⟩
def rAdd : V → V → Hp → VK → Prop := fun x y H Q => ∃ i j, x = .int i ∧ y = .int j ∧ Q (.int (i + j)) H
def rSub : V → V → Hp → VK → Prop := fun x y H Q => ∃ i j, x = .int i ∧ y = .int j ∧ Q (.int (i - j)) H
end

/-! ### isinstance -/
section
variable {X : Cx} {pins : List (Addr × Obj)} {σ : St} {H : Hp} {s : Shared} {A : Around} {E : Value → Shared → Prop} {Q : Value → Shared → Prop} {c : Value} {b : Bool}
/-- the type of a value, as the fragment's deciders take it; for an instance its class -/
inductive TyOf (K : PySem.W.Frag) (H : Hp) : V → Value → Prop where
  | non : TyOf K H .non (.type "NoneType")
  | bl (x : Bool) : TyOf K H (.bl x) (.type "bool")
  | int (i : Int) : TyOf K H (.int i) (.type "int")
  | str (x : Str) : TyOf K H (.str x) (.type "str")
  | flt (x : UInt64) : TyOf K H (.flt x) (.type "float")
  | lst {a : Addr} {xs : List V} (e : H a = some (.lst xs)) : TyOf K H (.ref a) (.type "list")
  | frz {a : Addr} {o : Obj} {xs : List V} (e : H a = some (.frz o (.lst xs))) : TyOf K H (.ref a) (.type "list")
  | tup {a : Addr} {xs : List V} (e : H a = some (.tup xs)) : TyOf K H (.ref a) (.type "tuple")
  | dK {a : Addr} {kvs : List (Key × V)} (e : H a = some (.dK kvs)) : TyOf K H (.ref a) (.type "dict")
  | dT {a : Addr} {kvs : List (List Key × V)} (e : H a = some (.dT kvs)) : TyOf K H (.ref a) (.type "dict")
  | ins {a C dx : Addr} {fs : List (Str × V)} (e : H a = some (.ins C dx fs)) (cl : Cls K C) (ha : PySem.W.findIn K (.ref C) "__class__" = some (some (.builtin "object.__class__")))
      (hn : PySem.W.specialIn K (.builtin "object.__class__") "__get__" = some (some (.builtin "getset_descriptor.__get__"))) (htk : PySem.W.takesIn K (.builtin "object.__class__") = some true)
      (hm : PySem.W.mroIn K C (.type "object") = some true) : TyOf K H (.ref a) (.ref C)
end
end L2

namespace L2
open PySem PySem.Spec PyProof.Rows

/-! ### room -/
structure Room (k : Nat) (A : Around) : Prop where
  hd : A.handled = none
  dp : A.depth + 3 * k + 5 < recursionLimit
  un : A.units + 16 * k + 200 < cLine
  gd : A.guards = some []
theorem Room.mono {j k : Nat} {A : Around} (r : Room k A) (h : j ≤ k) : Room j A := ⟨r.hd, by have := r.dp; omega, by have := r.un; omega, r.gd⟩
theorem Room.deeper {k : Nat} {A : Around} (r : Room (k + 1) A) (env : Env) : Room k (A.deeper env) :=
  ⟨r.hd, by have := r.dp; show A.depth + 1 + 3 * k + 5 < _; omega, by have := r.un; show A.units + 3 + 16 * k + 200 < _; omega, r.gd⟩
theorem make_depth {A : Around} {C : Addr} {us : List Value} {kw : List (Str × Value)} : (A.under (.builtin "type.__call__" ⟨.ref C :: us, kw⟩)).depth = A.depth + 1 := by
  first | rfl | simp [Around.under, Code.weight, Code.isCreation, Code.isGuard, Code.isCaller, Code.frames, Code.isFrame, guardIds]
theorem make_units {A : Around} {C : Addr} {us : List Value} {kw : List (Str × Value)} : (A.under (.builtin "type.__call__" ⟨.ref C :: us, kw⟩)).units = A.units + 1 := by
  first | rfl | simp [Around.under, Code.cUnits, Code.frames, Code.isFrame]
theorem make_guards {A : Around} {C : Addr} {us : List Value} {kw : List (Str × Value)} : (A.under (.builtin "type.__call__" ⟨.ref C :: us, kw⟩)).guards = A.guards := by
  have hg : guardIds.contains "type.__call__" = false := by decide +kernel
  have e : Code.guards (.builtin "type.__call__" ⟨.ref C :: us, kw⟩) = [] := by
    unfold Code.guards
    rw [if_neg (fun z => by rw [show Code.isGuard (.builtin "type.__call__" ⟨.ref C :: us, kw⟩) = guardIds.contains "type.__call__" from rfl, hg] at z; cases z)]
  unfold Around.under
  rw [e]
  rfl
theorem Room.make {k : Nat} {A : Around} (r : Room (k + 1) A) (C : Addr) (us : List Value) (kw : List (Str × Value)) : Room k (A.under (.builtin "type.__call__" ⟨.ref C :: us, kw⟩)) :=
  ⟨r.hd, by have := r.dp; rw [make_depth]; omega, by have := r.un; rw [make_units]; omega, make_guards.trans r.gd⟩
theorem Room.depth {k : Nat} {A : Around} (r : Room k A) : A.depth < recursionLimit := by have := r.dp; omega
theorem Room.units {k : Nat} {A : Around} (r : Room k A) : A.units + 64 < cLine := by have := r.un; omega
/-! ### argument lists and displays -/
def tNil : TA := fun _ H Q => Q [] H
def tCons (ta : TE) (tr : TA) : TA := fun σ H Q => ta σ H fun x H1 => tr σ H1 fun xs H2 => Q (x :: xs) H2
section
variable {X : Cx} {e : Expr} {es : List Expr} {te : TE} {t : TA} {pos : Pos}
theorem pa_nil : PA X [] tNil := fun _ _ _ _ H Q I h => Calls.spliced_nil ⟨[], H, I, .nil, h⟩
theorem pa_cons (ha : PE X e te) (hr : PA X es t) (hs : starEach (e :: es) X.env = (false, eval e X.env) :: starEach es X.env := by rfl) : PA X (e :: es) (tCons te t) := by
  intro pos pins s σ H Q I h
  rw [hs]
  show wpAny _ _ (spliced ((false, eval e X.env) :: backTo pos (starEach es X.env))) _ _ s
  refine Calls.spliced_cons (thn (ha pins s σ H _ I h) fun u s1 ⟨x, H1, I1, r1, q1⟩ => ?_)
  exact thn (hr pos pins s1 σ H1 _ I1 q1) fun us s2 ⟨xs, H2, I2, r2, q2⟩ => ⟨x :: xs, H2, I2, .cons r1 r2, q2⟩

/-- a tuple, a list of written items -/
def tTup (t : TA) : TE := fun σ H Q => t σ H fun xs H1 => xs.length ≤ sizeLine ∧ ∀ p, H1 p = none → Q (.ref p) (upd H1 p (.tup xs))
def tLst (t : TA) : TE := fun σ H Q => t σ H fun xs H1 => xs.length ≤ sizeLine ∧ ∀ p, H1 p = none → Q (.ref p) (upd H1 p (.lst xs))
theorem pe_tup {x1} (h : PA X es t) : PE X (.Tuple es x1 pos) (tTup t) := by
  intro pins s σ H Q I hq
  refine wpAny_Tuple_spliced (thn (h pos pins s σ H _ I hq) fun us s1 ⟨xs, H1, I1, r, z, q⟩ => ⟨by rw [← r.length]; exact z, ?_⟩)
  have hf : H1 s1.heap.objs.size = none := I1.hok.fresh (Nat.le_refl _)
  refine ⟨.ref s1.heap.objs.size, upd H1 s1.heap.objs.size (.tup xs), I1.laid (t' := s1.toks) (fun b u e => Heap.get?_push_of_some _ e) (Nat.le_refl _) ?_, rfl, q _ hf⟩
  exact ⟨z, us, r, ⟨_, Heap.get?_push_size _ rfl, rfl, _, rfl⟩⟩
theorem pe_lst (h : PA X es t) : PE X (.List es pos) (tLst t) := by
  intro pins s σ H Q I hq
  refine wpAny_List_spliced (thn (h pos pins s σ H _ I hq) fun us s1 ⟨xs, H1, I1, r, z, q⟩ => ⟨by rw [← r.length]; exact z, ?_⟩)
  have hf : H1 s1.heap.objs.size = none := I1.hok.fresh (Nat.le_refl _)
  refine ⟨.ref s1.heap.objs.size, upd H1 s1.heap.objs.size (.lst xs), I1.laid (t' := s1.toks) (fun b u e => Heap.get?_push_of_some _ e) (Nat.le_refl _) ?_, rfl, q _ hf⟩
  exact ⟨z, us, 0, r, Heap.get?_push_size _ rfl⟩
end

/-! ### what a def promises -/
/-- a def's promise: the bound arguments in the parameters' order, the heap, the wanted end, the wanted exception -/
abbrev Sp := List V → Hp → VK → XK → Prop
/-- how an exception lies behind a call (file 08 gives it): the callers' frames, abstract heap and state ahead of the call, the wish, the exception, the state -/
abbrev CXT := List Env → Hp → Shared → XK → Value → Shared → Prop

/-- the state at a call -/
structure Env0 (P : Program) (w : World) (K : PySem.W.Frag) (mg : Str → Option Value) (base : Heap) (A : Around) (outer : List Env) (s : Shared) (H : Hp) : Prop where
  frames : A.frames = some outer
  mod : Mod K mg base
  bs : ∀ b o, base.get? b = some o → s.heap.get? b = some o ∧ H b = none
  bsz : base.objs.size ≤ s.heap.objs.size
  funs : s.heap.FunFrames base outer
  frf : ∀ b ∈ frs outer, H b = none
  hok : HOk P w H s.heap
  bare : AllBare s.gens
/-- a call's end -/
def CE (outer : List Env) (P : Program) (w : World) (H : Hp) (s : Shared) (Q : VK) (u : Value) (s' : Shared) : Prop :=
  ∃ v H', s'.os = s.os ∧ AllBare s'.gens ∧ Un (frs outer) [] H H' s.heap s'.heap ∧ HOk P w H' s'.heap ∧ RelV v u ∧ Q v H'
def CR (CX : CXT) (outer : List Env) (P : Program) (w : World) (H : Hp) (s : Shared) (Q : VK) (E : XK) (r : Result) (s' : Shared) : Prop :=
  match r with
  | .ok (.ret u) => CE outer P w H s Q u s'
  | .ok _ => False
  | .error e => CX outer H s E e s'
structure FnOk (P : Program) (w : World) (K : PySem.W.Frag) (mg : Str → Option Value) (base : Heap) (CX : CXT) (k : Nat) (f : Addr) (fd : FuncData) (ps : List Str) (sp : Sp) : Prop where
  len : ∀ vs H Q E, sp vs H Q E → vs.length = ps.length
  run : ∀ (A : Around) (outer : List Env) (s : Shared) (H : Hp) (args : Args) (us : List Value) (vs : List V) (Q : VK) (E : XK), Room k A → Env0 P w K mg base A outer s H → BindsTo s fd args (ps.zip us) → Vals vs us → sp vs H Q E →
    codeAny (model P w) A (.call (.ref f) args) (CR CX outer P w H s Q E) s
theorem FnOk.mono {P : Program} {w : World} {K : PySem.W.Frag} {mg : Str → Option Value} {base : Heap} {CX : CXT} {j k : Nat} {f : Addr} {fd : FuncData} {ps : List Str} {sp : Sp} (F : FnOk P w K mg base CX j f fd ps sp) (h : j ≤ k) :
    FnOk P w K mg base CX k f fd ps sp := ⟨F.len, fun A outer s H args us vs Q E hr => F.run A outer s H args us vs Q E (hr.mono h)⟩
theorem Env0.make {P : Program} {w : World} {K : PySem.W.Frag} {mg : Str → Option Value} {base : Heap} {A : Around} {outer : List Env} {s : Shared} {H : Hp} (e : Env0 P w K mg base A outer s H) (C : Addr) (us : List Value) (kw : List (Str × Value)) :
    Env0 P w K mg base (A.under (.builtin "type.__call__" ⟨.ref C :: us, kw⟩)) outer s H := ⟨by first | exact e.frames | (simpa [Around.under, Code.envs, Code.isFrame, pushEnvs] using e.frames), e.mod, e.bs, e.bsz, e.funs, e.frf, e.hok, e.bare⟩
section
variable {X : Cx} {pins : List (Addr × Obj)} {σ : St} {H : Hp} {s s' : Shared}
/-- from a body: what a callee wants -/
theorem Inv.env0 (I : Inv X pins σ H s) : Env0 X.prog X.w X.K X.mg X.base X.A X.stack s H :=
  ⟨I.ok.frames, I.ok.mod, I.bs, Nat.le_trans I.ok.bsz I.sz, I.stack, I.stkFree, I.hok, I.bare⟩
/-- behind a call -/
theorem Inv.after {Q : VK} {u : Value} (I : Inv X pins σ H s) (h : CE X.stack X.prog X.w H s Q u s') : EP X pins σ Q u s' := by
  obtain ⟨v, H', os, bare, un, hok, r, q⟩ := h
  obtain ⟨hh, g, d, t, os'⟩ := s'
  obtain rfl : os' = s.os := os
  exact ⟨v, H', I.call (h' := hh) (g' := g) (d' := d) (t' := t) (ch := []) un hok bare (fun b z => absurd z (by simp)), r, q⟩
end

/-! ### calls -/
/-- f(..): the written arguments, then the defaults dvs; E: what is wanted of an exception -/
def tCall (sp : Sp) (dvs : List V) (E : XK) (t : TA) : TE := fun σ H Q => t σ H fun vs H1 => sp (vs ++ dvs) H1 Q E
/-- o.m(..) of an instance of the class at C -/
def tMeth (C : Addr) (m : Str) (sp : Sp) (dvs : List V) (E : XK) (ta : TE) (t : TA) : TE := fun σ H Q => ta σ H fun x H1 => ∃ a dx fs, x = .ref a ∧ H1 a = some (.ins C dx fs) ∧ fs.lookup m = none ∧
  t σ H1 fun vs H2 => sp (x :: (vs ++ dvs)) H2 Q E
/-- C(..): a new instance and its dict, then __init__ -/
def tMake (C : Addr) (sp : Sp) (dvs : List V) (E : XK) (t : TA) : TE := fun σ H Q => t σ H fun vs H1 => ∀ x dx, H1 x = none → H1 dx = none → dx ≠ x →
  sp (.ref x :: (vs ++ dvs)) (upd (upd H1 dx (.own x)) x (.ins C dx [])) (fun v H2 => v = .non ∧ Q (.ref x) H2) E

/-- how the parameters are bound: us the positional arguments, kw the keywords' values by name, ds the defaults that fill up -/
def Binds (K : PySem.W.Frag) (fd : FuncData) (ps : List Str) (ds : List Value) : Prop :=
  ∀ (s : Shared) (us : List Value), K.In s.heap → (us ++ ds).length = ps.length → BindsTo s fd ⟨us, []⟩ (ps.zip (us ++ ds))
/-- every parameter is given -/
theorem Binds.all {K : PySem.W.Frag} {fd : FuncData} {ps : List Str} (h : ∀ us : List Value, us.length = ps.length → bindArgs fd ⟨us, []⟩ = pure (ps.zip us)) : Binds K fd ps [] := fun s us _ hl => by
  rw [List.append_nil] at hl ⊢
  exact .of_eq (h us hl)

/-- an exception of a callee reaches what this body wants of exceptions -/
def Passes (CX : CXT) (X : Cx) (E : XK) : Prop := ∀ (pins : List (Addr × Obj)) (σ : St) (H : Hp) (s : Shared) (e : Value) (s' : Shared), Inv X pins σ H s → CX X.stack H s E e s' → X.xe e s'

section
variable {X : Cx} {CX : CXT} {k : Nat} {f C : Addr} {fd : FuncData} {ps : List Str} {sp : Sp} {dvs : List V} {ds : List Value} {E : XK} {x m : Str} {p pos apos : Pos} {e o : Expr} {es : List Expr} {ta : TE} {t : TA}

/-- the callee runs -/
theorem run_fn {pins : List (Addr × Obj)} {σ : St} {H : Hp} {s : Shared} {Q : VK} {us : List Value} {vs : List V} (F : FnOk X.prog X.w X.K X.mg X.base CX k f fd ps sp) (hr : Room k X.A) (hb : Binds X.K fd ps ds) (hd : Vals dvs ds) (hx : Passes CX X E)
    (I : Inv X pins σ H s) (r : Vals vs us) (h : sp (vs ++ dvs) H Q E) : wpAny (model X.prog X.w) X.A (call (.ref f) us) (EP X pins σ Q) X.xe s := by
  have r2 : Vals (vs ++ dvs) (us ++ ds) := r.append hd
  have hl : (us ++ ds).length = ps.length := by rw [← r2.length]; exact F.len _ _ _ _ h
  refine wpAny_call (codeAny_mono (F.run X.A X.stack s H ⟨us, []⟩ (us ++ ds) (vs ++ dvs) Q E hr I.env0 (hb s us I.kIn hl) r2 h) fun r s' hq => ?_)
  cases r with
  | error e => exact hx pins σ H s e s' I hq
  | ok fl =>
    cases fl with
    | ret u => exact I.after hq
    | next => exact False.elim hq
    | brk => exact False.elim hq
    | cont => exact False.elim hq

theorem pe_call (F : FnOk X.prog X.w X.K X.mg X.base CX k f fd ps sp) (hr : Room k X.A) (hg : Gl X x) (hm : X.mg x = some (.ref f)) (hk : PySem.W.keepIn X.K (.ref f) = true) (hb : Binds X.K fd ps ds) (hd : Vals dvs ds) (hx : Passes CX X E)
    (ha : PA X (e :: es) t) (hdb : (x == ("__debug__" : Str)) = false := by decide) (he : starEach (e :: es) X.env = (false, eval e X.env) :: starEach es X.env := by rfl) (hpl : (backTo pos (starEach es X.env)).any (·.1) = false := by rfl) :
    PE X (.Call (.Name x p) (e :: es) [] pos) (tCall sp dvs E t) := by
  intro pins s σ H Q I h
  refine wpAny_Call_Name_kw (ld_glob I hg hm ?_ hdb)
  refine PySem.W.callWith_K (h₀ := X.base) I.ok.mod.kin hk (thn (ha pos pins s σ H _ I h) fun us s1 ⟨vs, H1, I1, r, q⟩ => ⟨I1.kIn, ?_⟩) he hpl
  exact run_fn F hr hb hd hx I1 r q
/-- o.m(e, ..) -/
theorem pe_meth {pl : Sem Bool} (he : PE X o ta) (c : Cls X.K C) (hm : Meth X.K C m f) (F : FnOk X.prog X.w X.K X.mg X.base CX k f fd ps sp) (hr : Room k X.A) (hb : Binds X.K fd ps ds) (hd : Vals dvs ds) (hx : Passes CX X E) (ha : PA X (e :: es) t)
    (hst : starEach (e :: es) X.env = (false, eval e X.env) :: starEach es X.env := by rfl) (hpl : (backTo pos (starEach es X.env)).any (·.1) = false := by rfl)
    (ht : eval (.Call (.Attribute o m apos) (e :: es) [] pos) X.env = (do
      let ov ← eval o X.env
      standAt apos.atName
      let (f, first) ← holding [ov] (getMethod ov m pl)
      callWith pos f first (backTo pos (starEach (e :: es) X.env)) (backToKw pos (keywordEach [] X.env))) := by rfl) :
    PE X (.Call (.Attribute o m apos) (e :: es) [] pos) (tMeth C m sp dvs E ta t) := by
  intro pins s σ H Q I h
  refine PySem.W.methodCall_KW (pl := pl) (thn (he pins s σ H _ I h) fun u s1 ⟨x, H1, I1, rx, a, dx, fs, ex, ea, l, q⟩ => ?_) ht
  subst ex
  obtain rfl : u = Value.ref a := rx
  refine getmeth_ok I1 ea c hm l ?_
  refine PySem.W.callWith_K (first := [.ref a]) (h₀ := X.base) I.ok.mod.kin hm.kp (thn (ha pos pins s1 σ H1 _ I1 q) fun us s2 ⟨vs, H2, I2, r, q2⟩ => ⟨I2.kIn, ?_⟩) hst hpl
  exact run_fn (us := .ref a :: us) (vs := .ref a :: vs) F hr hb hd hx I2 (.cons rfl r) q2
/-- what a class must have to be made -/
structure Mk (K : PySem.W.Frag) (C f : Addr) : Prop where
  makes : PySem.W.makesIn K C = true
  init : PySem.W.findIn K (.ref C) "__init__" = some (some (.ref f))
  fn : PySem.W.isFn K (.ref f) = true
  kp : PySem.W.keepIn K (.ref C) = true

theorem run_make {pins : List (Addr × Obj)} {σ : St} {H : Hp} {s : Shared} {Q : VK} {us : List Value} {vs : List V} (M : Mk X.K C f) (F : FnOk X.prog X.w X.K X.mg X.base CX k f fd ps sp) (hr : Room (k + 1) X.A) (hb : Binds X.K fd ps ds) (hd : Vals dvs ds)
    (hx : Passes CX X E) (I : Inv X pins σ H s) (r : Vals vs us)
    (h : ∀ x dx, H x = none → H dx = none → dx ≠ x → sp (.ref x :: (vs ++ dvs)) (upd (upd H dx (.own x)) x (.ins C dx [])) (fun v H2 => v = .non ∧ Q (.ref x) H2) E) :
    wpAny (model X.prog X.w) X.A (call (.ref C) us) (EP X pins σ Q) X.xe s := by
  have hq := h (s.heap.objs.size + 1) s.heap.objs.size (I.hok.fresh (Nat.le_succ _)) (I.hok.fresh (Nat.le_refl _)) (Nat.ne_of_lt (Nat.lt_succ_self _))
  have I2 := Inv.made (C := C) I
  have r2 : Vals (V.ref (s.heap.objs.size + 1) :: (vs ++ dvs)) (Value.ref (s.heap.objs.size + 1) :: (us ++ ds)) := .cons rfl (r.append hd)
  have hl : (Value.ref (s.heap.objs.size + 1) :: us ++ ds).length = ps.length := by
    have e := r2.length
    rw [F.len _ _ _ _ hq] at e
    exact e.symm
  refine wpAny_call (make_map (f := f) I.kIn M.makes M.init (beq_iff_eq.mp M.fn) (codeAny_mono (F.run _ X.stack _ _ ⟨Value.ref (s.heap.objs.size + 1) :: us, []⟩ (Value.ref (s.heap.objs.size + 1) :: (us ++ ds)) _ _ E (hr.make C us [])
    (I2.env0.make C us []) (hb _ (Value.ref (s.heap.objs.size + 1) :: us) I2.kIn hl) r2 hq) fun r s' hq' => ?_))
  cases r with
  | error e => exact hx pins σ _ _ e s' I2 hq'
  | ok fl =>
    cases fl with
    | ret u =>
      obtain ⟨v, H', I3, rv, ev, q3⟩ := I2.after hq'
      subst ev
      exact ⟨rv, ⟨V.ref (s.heap.objs.size + 1), H', I3, rfl, q3⟩⟩
    | next => exact False.elim hq'
    | brk => exact False.elim hq'
    | cont => exact False.elim hq'
theorem pe_make (M : Mk X.K C f) (F : FnOk X.prog X.w X.K X.mg X.base CX k f fd ps sp) (hr : Room (k + 1) X.A) (hg : Gl X x) (hm : X.mg x = some (.ref C)) (hb : Binds X.K fd ps ds) (hd : Vals dvs ds) (hx : Passes CX X E)
    (ha : PA X (e :: es) t) (hdb : (x == ("__debug__" : Str)) = false := by decide) (he : starEach (e :: es) X.env = (false, eval e X.env) :: starEach es X.env := by rfl) (hpl : (backTo pos (starEach es X.env)).any (·.1) = false := by rfl) :
    PE X (.Call (.Name x p) (e :: es) [] pos) (tMake C sp dvs E t) := by
  intro pins s σ H Q I h
  refine wpAny_Call_Name_kw (ld_glob I hg hm ?_ hdb)
  refine PySem.W.callWith_K (h₀ := X.base) I.ok.mod.kin M.kp (thn (ha pos pins s σ H _ I h) fun us s1 ⟨vs, H1, I1, r, q⟩ => ⟨I1.kIn, ?_⟩) he hpl
  exact run_make M F hr hb hd hx I1 r q
end

/-! ### keywords -/
/-- the values of the keywords, from the left -/
def PK (X : Cx) (kws : List Keyword) (t : TA) : Prop :=
  ∀ (pos : Pos) (pins : List (Addr × Obj)) (s : Shared) (σ : St) (H : Hp) (Q : List V → Hp → Prop), Inv X pins σ H s → t σ H Q → wpAny (model X.prog X.w) X.A (evalAll ((backToKw pos (keywordEach kws X.env)).map (·.2))) (AP X pins σ Q) X.xe s
section
variable {X : Cx} {CX : CXT} {k : Nat} {f C : Addr} {fd : FuncData} {ps ks : List Str} {sp : Sp} {E : XK} {x m : Str} {p pos apos kpos : Pos} {e o : Expr} {es : List Expr} {kws : List Keyword} {te ta : TE} {t tk : TA} {nm : Option Str}
/-- how a call with keywords binds: g puts the positional values us and the keywords' values ws (names ks) in the parameters' order, defaults among them -/
structure KBinds (K : PySem.W.Frag) (fd : FuncData) (ps ks : List Str) (g : List Value → List Value → List Value) (gV : List V → List V → List V) : Prop where
  to : ∀ (s : Shared) (us ws : List Value), K.In s.heap → (g us ws).length = ps.length → BindsTo s fd ⟨us, ks.zip ws⟩ (ps.zip (g us ws))
  rel : ∀ {vs : List V} {us : List Value} {zs : List V} {ws : List Value}, Vals vs us → Vals zs ws → Vals (gV vs zs) (g us ws)
def tCallK (sp : Sp) (gV : List V → List V → List V) (E : XK) (t tk : TA) : TE := fun σ H Q => t σ H fun vs H1 => tk σ H1 fun zs H2 => sp (gV vs zs) H2 Q E
variable {g : List Value → List Value → List Value} {gV : List V → List V → List V}
end

/-! ### a def's body keeps its promise -/
/-- names: the parameters first -/
structure FnScope (N P : List Str) (sc : Scope) : Prop where
  kind : sc.kind = .function
  co : sc.isCoroutine = false
  gen : sc.isGenerator = false
  nd : N.Nodup
  pre : N.take P.length = P
  par : ∀ x ∈ P, sc.names.lookup x = some .local ∨ sc.names.lookup x = some .cell
  nofree : ∀ y ∈ sc.names, y.2 ≠ .free

theorem bindL_out {kindOf : Str → Option NameKind} {x : Str} : ∀ {binds : List (Str × Value)} {m : Str → Option Value}, (∀ v, (x, v) ∉ binds) → bindL kindOf binds m x = m x
  | [], _, _ => rfl
  | (n, v) :: r, m, h => by
    unfold bindL
    rw [bindL_out fun w hw => h w (List.mem_cons_of_mem _ hw)]
    split
    · have : x ≠ n := by rintro rfl; exact h v List.mem_cons_self
      simp [this]
    · rfl
theorem bindC_out {kindOf : Str → Option NameKind} {x : Str} : ∀ {binds : List (Str × Value)} {m : Str → Option Value}, (∀ v, (x, v) ∉ binds) → bindC kindOf binds m x = m x
  | [], _, _ => rfl
  | (n, v) :: r, m, h => by
    unfold bindC
    rw [bindC_out fun w hw => h w (List.mem_cons_of_mem _ hw)]
    split
    · rfl
    · have : x ≠ n := by rintro rfl; exact h v List.mem_cons_self
      simp [this]
theorem bindL_get {kindOf : Str → Option NameKind} {x : Str} {v : Value} : ∀ {P : List Str} {vs : List Value} {i : Nat} {m : Str → Option Value}, P.Nodup → P[i]? = some x → vs[i]? = some v → kindOf x = some .local →
    bindL kindOf (P.zip vs) m x = some v
  | [], _, _, _, _, h, _, _ => by simp at h
  | _ :: _, [], _, _, _, _, h, _ => by simp at h
  | p :: P, w :: vs, 0, m, nd, h1, h2, hk => by
    simp at h1 h2; subst h1; subst h2
    show bindL kindOf ((p, w) :: P.zip vs) m p = _
    unfold bindL
    rw [bindL_out fun v hv => (List.nodup_cons.mp nd).1 (List.of_mem_zip hv).1, if_pos hk]
    simp
  | p :: P, w :: vs, i + 1, m, nd, h1, h2, hk => by
    show bindL kindOf ((p, w) :: P.zip vs) m x = _
    unfold bindL
    exact bindL_get (i := i) (List.nodup_cons.mp nd).2 (by simpa using h1) (by simpa using h2) hk
theorem bindC_get {kindOf : Str → Option NameKind} {x : Str} {v : Value} : ∀ {P : List Str} {vs : List Value} {i : Nat} {m : Str → Option Value}, P.Nodup → P[i]? = some x → vs[i]? = some v → kindOf x ≠ some .local →
    bindC kindOf (P.zip vs) m x = some v
  | [], _, _, _, _, h, _, _ => by simp at h
  | _ :: _, [], _, _, _, _, h, _ => by simp at h
  | p :: P, w :: vs, 0, m, nd, h1, h2, hk => by
    simp at h1 h2; subst h1; subst h2
    show bindC kindOf ((p, w) :: P.zip vs) m p = _
    unfold bindC
    rw [bindC_out fun v hv => (List.nodup_cons.mp nd).1 (List.of_mem_zip hv).1, if_neg hk]
    simp
  | p :: P, w :: vs, i + 1, m, nd, h1, h2, hk => by
    show bindC kindOf ((p, w) :: P.zip vs) m x = _
    unfold bindC
    exact bindC_get (i := i) (List.nodup_cons.mp nd).2 (by simpa using h1) (by simpa using h2) hk

/-- the names' values at the entry -/
def start (N : List Str) (vs : List V) : St := vs.map some ++ List.replicate (N.length - vs.length) none

/-- the context of a def's body, at its entry; an exception leaves the frame, then lies as CX says -/
def cxOf (CX : CXT) (P : Program) (w : World) (K : PySem.W.Frag) (mg : Str → Option Value) (base : Heap) (N : List Str) (qual : Str) (scope : Scope) (f : Addr) (cd : Value) (A : Around) (outer : List Env) (s : Shared) (H : Hp) (E : XK) : Cx where
  prog := P
  w := w
  K := K
  mg := mg
  base := base
  A := A.deeper (envOfC qual scope s.heap.objs.size f cd)
  N := N
  s₀ := s
  H₀ := H
  env := envOfC qual scope s.heap.objs.size f cd
  outer := outer
  stack := envOfC qual scope s.heap.objs.size f cd :: outer
  ex := []
  calm := true
  fn := fun _ => true
  pn := []
  xe := fun e s' => wpAny (model P w) (A.deeper (envOfC qual scope s.heap.objs.size f cd)) (leaving (envOfC qual scope s.heap.objs.size f cd) e) (fun _ s'' => CX outer H s E e s'') (fun e' s'' => CX outer H s E e' s'') s'

theorem cell_has {sc : Scope} {n : Nat} {x : Str} (h : sc.names.lookup x = some .cell) : ∃ c, (cellsFrom n sc.names []).lookup x = some c := by
  have q := PySem.W.cellsFrom_some sc.names n [] (.inl h)
  exact Option.isSome_iff_exists.mp q

theorem inv_start {CX : CXT} {P : Program} {w : World} {K : PySem.W.Frag} {mg : Str → Option Value} {base : Heap} {N ps : List Str} {qual : Str} {scope : Scope} {f : Addr} {cd : Value} {A : Around} {outer : List Env} {s s1 : Shared} {H : Hp} {E : XK} {us : List Value} {vs : List V}
    (S : FnScope N ps scope) (hd : A.handled = none) (e0 : Env0 P w K mg base A outer s H) (hl : vs.length = ps.length) (r : Vals vs us)
    (x : InCallC s s.heap.objs.size (bindL (envOfC qual scope s.heap.objs.size f cd).kindOf (ps.zip us) fun _ => none) (cellsFrom (s.heap.objs.size + 1) scope.names []) (bindC (envOfC qual scope s.heap.objs.size f cd).kindOf (ps.zip us) fun _ => none) s1) :
    Inv (cxOf CX P w K mg base N qual scope f cd A outer s H E) [] (start N vs) H s1 := by
  have hpl : ps.length ≤ N.length := by have := congrArg List.length S.pre; rw [List.length_take] at this; omega
  obtain ⟨h1, tk, rfl, hk⟩ := x.done
  have noA : ∀ b : Addr, b ∉ (cxOf CX P w K mg base N qual scope f cd A outer s H E).ex := fun b z => absurd (show b ∈ ([] : List Addr) from z) (by simp)
  refine ⟨⟨e0.mod, S.kind, rfl, rfl, Nat.le_refl _, fun y z c h1 h2 => ?_, fun y hy => ?_, fun y c _ h => ?_, fun _ => hd, Around.frames_deeper e0.frames, .inr ⟨rfl, rfl⟩, fun b z => absurd z (noA b), e0.bs, e0.bsz, fun b _ _ => noA b, fun b z => absurd z (noA b), e0.funs, e0.frf⟩,
    rfl, e0.bare, Un.kept hk, ⟨_, x.toInCall.ns, fun i y v h1 h2 h3 => ?_⟩, fun y c h => ⟨_, x.cell y c h⟩, e0.hok.fresh (Nat.le_refl _), fun y c h => ?_, fun p hp => absurd (show p ∈ ([] : List (Addr × Obj)) from hp) (by simp), e0.hok.kept hk, ?_⟩
  · exact name_of_addr x.apart (PySem.mem_of_lookup h1) (PySem.mem_of_lookup h2)
  · have hy : scope.names.lookup y = some .cell ∨ scope.names.lookup y = some .free := hy
    rcases hy with hy | hy
    · exact cell_has hy
    · exact absurd rfl (S.nofree _ (PySem.mem_of_lookup hy))
  · exact Nat.le_of_lt (x.above y c (PySem.mem_of_lookup h))
  · have hi : i < vs.length := by
      unfold start at h2
      by_cases hi : i < vs.length
      · exact hi
      · rw [List.getElem?_append_right (by simpa using hi)] at h2
        rw [List.getElem?_replicate] at h2
        split at h2 <;> cases h2
    have ha : vs[i]? = some v := by
      unfold start at h2
      rw [List.getElem?_append_left (by simpa using hi), List.getElem?_map] at h2
      cases e : vs[i]? with
      | none => rw [e] at h2; cases h2
      | some a => rw [e] at h2; cases h2; rfl
    obtain ⟨u, hu, rv⟩ := r.get ha
    have hp : ps[i]? = some y := by
      rw [← S.pre, List.getElem?_take_of_lt (by omega)]; exact h1
    have ndP : ps.Nodup := by rw [← S.pre]; exact S.nd.sublist (List.take_sublist _ _)
    refine ⟨u, rv, ?_⟩
    rcases S.par y (List.mem_of_getElem? hp) with k | k
    · exact .inl ⟨k, bindL_get ndP hp hu k⟩
    · obtain ⟨c, e⟩ := cell_has (n := s.heap.objs.size + 1) k
      refine .inr ⟨.inl k, c, e, ?_⟩
      have q := x.cell y c e
      rw [bindC_get ndP hp hu (by show scope.names.lookup y ≠ _; rw [k]; decide)] at q
      exact q
  · exact e0.hok.fresh (Nat.le_of_lt (x.above y c (PySem.mem_of_lookup h)))
  · unfold start
    show _ = N.length
    rw [List.length_append, List.length_map, List.length_replicate]
    omega

/-- THE RULE: a def (or a method) of the text, by its body. The body's reading t is chosen for each entry; it is run at the parameters' values -/
theorem fn_of {CX : CXT} {P : Program} {w : World} {K : PySem.W.Frag} {mg : Str → Option Value} {base : Heap} {k : Nat} {f : Addr} {name qual : Str} {params : Arguments} {body : List Stmt} {scope : Scope} {dV kV doc pm cdv ct oc : Value} {an od : Option Addr}
    {osl : Array (Option Value)} {N ps : List Str} {sp : Sp} (lk : K.lookup f = some ⟨oc, od, .func (PySem.W.fnOf name qual params body scope dV kV doc pm an cdv ct), osl⟩) (hcd : PySem.W.codeIn K cdv qual = true) (S : FnScope N ps scope)
    (len : ∀ vs H Q E, sp vs H Q E → vs.length = ps.length)
    (hbody : ∀ (A : Around) (outer : List Env) (s : Shared) (H : Hp) (vs : List V) (Q : VK) (E : XK), Room k (A.deeper (envOfC qual scope s.heap.objs.size f cdv)) → sp vs H Q E →
      ∃ t, PSs (cxOf CX P w K mg base N qual scope f cdv A outer s H E) body t ∧ t { nx := fun _ H' => Q .non H', rt := Q } (start N vs) H) :
    FnOk P w K mg base CX (k + 1) f (PySem.W.fnOf name qual params body scope dV kV doc pm an cdv ct) ps sp := by
  refine ⟨len, fun A outer s H args us vs Q E hr e0 hb r hsp => ?_⟩
  have hl := len _ _ _ _ hsp
  have KX : K.In s.heap := e0.mod.kin.keeps fun b o e => (e0.bs b o e).1
  have lim : s.heap.NoLimit := e0.mod.nolimit.keeps fun b o e => (e0.bs b o e).1
  have hkind : ∀ y ∈ ps.zip us, scope.names.lookup y.1 = some .local ∨ (scope.names.lookup y.1 = some .cell ∧ ((cellsFrom (s.heap.objs.size + 1) scope.names []).lookup y.1).isSome = true) := fun ⟨n, v⟩ hy => by
    rcases S.par n (List.of_mem_zip hy).1 with q | q
    · exact .inl q
    · exact .inr ⟨q, PySem.W.cellsFrom_some _ _ _ (.inl q)⟩
  refine codeAny_call_function hr.depth (KX _ _ lk) rfl S.co S.gen rfl (PySem.W.codeRec_of KX hcd) (hb _ _ _ _ ?_)
  refine wpAny_newFunctionEnv_cells S.kind hkind fun env he s1 x => ?_
  subst he
  refine ⟨lim.keeps x.toInCall.keep, codeAny_func ?_⟩
  obtain ⟨t, ht, hq⟩ := hbody A outer s H vs Q E (hr.deeper _) hsp
  have I : Inv (cxOf CX P w K mg base N qual scope f cdv A outer s H E) [] (start N vs) H s1 := inv_start S hr.hd e0 hl r x
  refine wpAny_mono (ht [] s1 (start N vs) H _ I hq) (fun fl s' hs => ?_) fun e s' hs => hs
  have fin : ∀ {σ' : St} {H' : Hp} {v : V} {u : Value}, Inv (cxOf CX P w K mg base N qual scope f cdv A outer s H E) [] σ' H' s' → RelV v u → Q v H' → CE outer P w H s Q u s' :=
    fun {σ' H' v u} J rv q => ⟨v, H', J.os, J.bare, J.base, J.hok, rv, q⟩
  cases fl with
  | ret u =>
    obtain ⟨v, σ', H', J, rv, q⟩ := hs
    exact fin J rv q
  | next =>
    obtain ⟨σ', H', J, q⟩ := hs
    exact fin (v := V.non) (u := Value.none) J rfl q
  | brk =>
    obtain ⟨_, _, _, q⟩ := hs
    exact False.elim q
  | cont =>
    obtain ⟨_, _, _, q⟩ := hs
    exact False.elim q
end L2

namespace L2
open PySem PySem.Spec PyProof.Rows
section
variable {X : Cx} {x : Str} {p pos : Pos} {e : Expr} {es : List Expr} {t : TA} {id T : String} {r : List V → Hp → VK → Prop}

def tCB (r : List V → Hp → VK → Prop) (t : TA) : TE := fun σ H Q => t σ H fun vs H1 => r vs H1 Q
/-- f(e, ..), f a built-in function -/
theorem pe_callB (hc : CallR X (.builtin id) r) (hg : Gl X x) (hm : X.mg x = none) (hv : bootBuiltins x = some (.builtin id)) (ha : PA X (e :: es) t) (hn : x ≠ "__name__" := by decide) (hdb : (x == ("__debug__" : Str)) = false := by decide)
    (he : starEach (e :: es) X.env = (false, eval e X.env) :: starEach es X.env := by rfl) (hpl : (backTo pos (starEach es X.env)).any (·.1) = false := by rfl) : PE X (.Call (.Name x p) (e :: es) [] pos) (tCB r t) := by
  intro pins s σ H Q I h
  refine wpAny_Call_Name_kw (ld_blt I hg hm hv ?_ hn hdb)
  exact PyProof.Rows.callWith_builtin1 (thn (ha pos pins s σ H _ I h) fun us s1 ⟨vs, H1, I1, r1, q1⟩ => hc pins s1 σ H1 vs us Q I1 r1 q1) he hpl
/-- T(e, ..), T a built-in type -/
theorem pe_callTy (hc : CallR X (.type T) r) (hg : Gl X x) (hm : X.mg x = none) (hv : bootBuiltins x = some (.type T)) (ha : PA X (e :: es) t) (hn : x ≠ "__name__" := by decide) (hdb : (x == ("__debug__" : Str)) = false := by decide)
    (he : starEach (e :: es) X.env = (false, eval e X.env) :: starEach es X.env := by rfl) (hpl : (backTo pos (starEach es X.env)).any (·.1) = false := by rfl) : PE X (.Call (.Name x p) (e :: es) [] pos) (tCB r t) := by
  intro pins s σ H Q I h
  refine wpAny_Call_Name_kw (ld_blt I hg hm hv ?_ hn hdb)
  exact PyProof.Rows.callWith_type1 (thn (ha pos pins s σ H _ I h) fun us s1 ⟨vs, H1, I1, r1, q1⟩ => hc pins s1 σ H1 vs us Q I1 r1 q1) he hpl
end
end L2

namespace HT
open PySem PyProof.Rows

/-- t < u of tuples of ints -/
def lexLt : List Int → List Int → Bool
  | [], [] => false
  | [], _ :: _ => true
  | _ :: _, [] => false
  | x :: xs, y :: ys => if x = y then lexLt xs ys else decide (x < y)
section
open PySem.SeqAt
open PySem.AutoSeq1 (wpAny_loadPart')
open PySem.MeetsSeq PySem.MeetsSeq2 PySem.MeetsSeq3

end

section
variable {prog : Program} {w : World} {A : Around} {E : Value → Shared → Prop} {s : Shared}

/-! ### t[a:b], not the whole -/
/-- a slice's bound as a place among n (d where it is left out) -/
def sIx (n d : Nat) : Option Int → Nat
  | none => d
  | some v => if v < 0 then (v + (n : Int)).toNat else min v.toNat n
theorem sIx_none (n d : Nat) : sIx n d none = d := rfl
theorem sIx_nat (n d k : Nat) : sIx n d (some (k : Int)) = min k n := by
  show (if (k : Int) < 0 then ((k : Int) + (n : Int)).toNat else min (k : Int).toNat n) = min k n
  rw [if_neg (by omega), Int.toNat_natCast]
end
end HT

namespace L2
open PySem PySem.Spec PyProof.Rows

/-! ### the parts of a slice -/
abbrev TO := St → Hp → (Option Int → Hp → Prop) → Prop
/-- a slice's part (left out, or an int) -/
def PO (X : Cx) (e : Option Expr) (t : TO) : Prop :=
  ∀ (pins : List (Addr × Obj)) (s : Shared) (σ : St) (H : Hp) (Q : Option Int → Hp → Prop), Inv X pins σ H s → t σ H Q →
    wpAny (model X.prog X.w) X.A (evalPart e X.env) (fun u s' => ∃ o H', Inv X pins σ H' s' ∧ IsPart u o ∧ Q o H') X.xe s
def tNoPart : TO := fun _ H Q => Q none H
def tPart (t : TE) : TO := fun σ H Q => t σ H fun x H1 => ∃ i, x = .int i ∧ Q (some i) H1

theorem intsAre_of {ns : List Int} : ∀ {us : List Value}, Vals (ns.map V.int) us → IntsAre us ns := by
  induction ns with
  | nil => intro us r; rw [List.map_nil] at r; cases r; exact .nil
  | cons n ns ih =>
    intro us r
    rw [List.map_cons] at r
    cases r with
    | cons r1 r2 =>
      obtain ⟨t, e⟩ := r1
      subst e
      exact .cons n t (ih r2)

section
variable {X : Cx} {e : Expr} {te : TE} {lo hi : Option Expr} {tl th : TO} {pos p2 : Pos}

theorem po_none : PO X none tNoPart := by
  intro pins s σ H Q I h
  rw [evalPart_none]
  exact wpAny_pure ⟨none, H, I, .none, h⟩
theorem po_some (h : PE X e te) : PO X (some e) (tPart te) := by
  intro pins s σ H Q I hw
  rw [evalPart_some]
  refine thn (h pins s σ H _ I hw) fun u s1 ⟨x, H1, I1, r1, q1⟩ => ?_
  obtain ⟨i, rfl, q⟩ := q1
  obtain ⟨t, rfl⟩ := r1
  exact ⟨some i, H1, I1, .int i t, q⟩

/-- what a slice of a value is, by values: the slice object stands at sl -/
def SlR (X : Cx) (r : V → Option Int → Option Int → Hp → VK → Prop) : Prop :=
  ∀ (pins : List (Addr × Obj)) (s : Shared) (σ : St) (H : Hp) (x : V) (v vl vu : Value) (lo hi : Option Int) (sl : Addr) (Q : VK), Inv X pins σ H s → RelV x v → s.heap.IsSliceOf sl vl vu .none → IsPart vl lo → IsPart vu hi → r x lo hi H Q →
    ∃ T id, typeLookup (.type T) "__getitem__" = pure (some (.builtin id)) ∧ s.TypeIs v T ∧ wpAny (model X.prog X.w) X.A (getItem v (.ref sl)) (EP X pins σ Q) X.xe s
def tSl (r : V → Option Int → Option Int → Hp → VK → Prop) (te : TE) (tl th : TO) : TE := fun σ H Q => te σ H fun x H1 => tl σ H1 fun l H2 => th σ H2 fun u H3 => r x l u H3 Q
/-- a[lo:hi], any a -/
theorem pe_slice {r : V → Option Int → Option Int → Hp → VK → Prop} (hr : SlR X r) (he : PE X e te) (hl : PO X lo tl) (hu : PO X hi th) : PE X (.Subscript e (.Slice lo hi none p2) pos) (tSl r te tl th) := by
  intro pins s σ H Q I h
  refine Subscript_ (thn (he pins s σ H _ I h) fun v s1 ⟨x, H1, I1, r1, q1⟩ => ?_)
  refine wpAny_Slice (thn (hl pins s1 σ H1 _ I1 q1) fun vl s2 ⟨l, H2, I2, pl, q2⟩ => thn (hu pins s2 σ H2 _ I2 q2) fun vu s3 ⟨u, H3, I3, pu, q3⟩ => ?_)
  rw [evalPart_none]
  refine wpAny_pure ?_
  have I4 : Inv X pins σ H3 { s3 with heap := s3.heap.push { cls := .type "slice", data := .fields #[vl, vu, .none] } } := I3.kept (t' := s3.toks) fun b ob q => Heap.get?_push_of_some _ q
  obtain ⟨T, id, hT, ht, hg⟩ := hr pins { s3 with heap := s3.heap.push { cls := .type "slice", data := .fields #[vl, vu, .none] } } σ H3 x v vl vu l u s3.heap.objs.size Q I4 r1 (Heap.IsSliceOf.new ..) pl pu q3
  show wpAny (model X.prog X.w) X.A (subscriptTail e (.Slice lo hi none p2) v (.ref s3.heap.objs.size)) (EP X pins σ Q) X.xe { s3 with heap := s3.heap.push { cls := .type "slice", data := .fields #[vl, vu, .none] } }
  exact tail_any (ops := [.ref s3.heap.objs.size, v]) ht hT hg (by with_unfolding_all rfl)

/-- the items of xs[lo:hi] -/
def cutV (xs : List V) (lo hi : Option Int) : List V := (xs.drop (HT.sIx xs.length 0 lo)).take (HT.sIx xs.length xs.length hi - HT.sIx xs.length 0 lo)
theorem cutV_length (xs : List V) (lo hi : Option Int) : (cutV xs lo hi).length ≤ xs.length := by
  unfold cutV
  rw [List.length_take, List.length_drop]
  omega
/-- t[lo:hi], not the whole of it (the whole would be t itself) -/
def rSlT (K : PySem.W.Frag) : V → Option Int → Option Int → Hp → VK → Prop := fun x lo hi H Q => ∃ a xs, x = .ref a ∧ SqT K H a xs ∧
  ¬ (HT.sIx xs.length 0 lo = 0 ∧ HT.sIx xs.length xs.length hi = xs.length) ∧ ∀ p, H p = none → Q (.ref p) (upd H p (.tup (cutV xs lo hi)))
/-! ### t < u, t + u -/
def rLtT (K : PySem.W.Frag) : R2 := fun x y H Q => ∃ a b ns ms, x = .ref a ∧ y = .ref b ∧ SqT K H a (ns.map V.int) ∧ SqT K H b (ms.map V.int) ∧ Q (.bl (HT.lexLt ns ms)) H
/-- t + u, t not empty: u empty gives t itself -/
def rCatT (K : PySem.W.Frag) : R2 := fun x y H Q => ∃ a b xs ys, x = .ref a ∧ y = .ref b ∧ SqT K H a xs ∧ SqT K H b ys ∧ xs ≠ [] ∧ xs.length + ys.length ≤ sizeLine ∧
  (ys = [] → Q (.ref a) H) ∧ (ys ≠ [] → ∀ p, H p = none → Q (.ref p) (upd H p (.tup (xs ++ ys))))
end
end L2

namespace L2
open PySem PySem.Spec PyProof.Rows

/-! ### places -/
/-- the place that an index of any sign means -/
def ixN (n : Nat) (i : Int) : Option Nat := if 0 ≤ i then (if i < n then some i.toNat else none) else if -(n : Int) ≤ i then some (i + n).toNat else none
def atI {α : Type} (xs : List α) (i : Int) : Option α := (ixN xs.length i).bind fun j => xs[j]?
theorem ixN_seq {n : Nat} {i : Int} {j : Nat} (h : ixN n i = some j) : seqIndex? i n = some j ∧ j < n ∧ -(n : Int) ≤ i ∧ i < n := by
  unfold ixN at h
  by_cases h0 : 0 ≤ i
  · rw [if_pos h0] at h
    by_cases h1 : i < n
    · rw [if_pos h1] at h
      have e : i.toNat = j := Option.some.inj h
      exact ⟨by rw [seqIndex_of h0 h1, e], by omega, by omega, h1⟩
    · rw [if_neg h1] at h; cases h
  · rw [if_neg h0] at h
    by_cases h1 : -(n : Int) ≤ i
    · rw [if_pos h1] at h
      have e : (i + n).toNat = j := Option.some.inj h
      exact ⟨by rw [seqIndex_neg (by omega) h1, e], by omega, h1, by omega⟩
    · rw [if_neg h1] at h; cases h
theorem atI_get {α : Type} {xs : List α} {i : Int} {v : α} (h : atI xs i = some v) : ∃ j, seqIndex? i xs.length = some j ∧ xs[j]? = some v ∧ j < xs.length ∧ -(xs.length : Int) ≤ i ∧ i < xs.length := by
  unfold atI at h
  cases e : ixN xs.length i with
  | none => rw [e] at h; cases h
  | some j =>
    rw [e] at h
    obtain ⟨h1, h2, h3, h4⟩ := ixN_seq e
    exact ⟨j, h1, h, h2, h3, h4⟩
theorem atI_nat {α : Type} {xs : List α} {j : Nat} {v : α} (h : xs[j]? = some v) : atI xs (j : Int) = some v := by
  have hj : j < xs.length := (List.getElem?_eq_some_iff.mp h).1
  have e : ixN xs.length (j : Int) = some j := by
    unfold ixN
    rw [if_pos (by omega), if_pos (by omega)]; simp
  unfold atI; rw [e]; exact h
/-! ### what may be subscripted -/
/-- what stands as an index of a plain subscript -/
def PlainIx (b : Expr) : Prop := ∀ o i, subscripted b false o i = operate [o, i] (getItem o i)
/-- a subscript by values -/
def IxR (X : Cx) (r : R2) : Prop :=
  ∀ (value slice : Expr) (pins : List (Addr × Obj)) (s : Shared) (σ : St) (H : Hp) (x y : V) (v u : Value) (Q : VK), Inv X pins σ H s → RelV x v → RelV y u → r x y H Q →
    subscripted slice false v u = operate [v, u] (getItem v u) → wpAny (model X.prog X.w) X.A (subscriptTail value slice v u) (EP X pins σ Q) X.xe s
/-- a call of a builtin's method by values: the receiver, the arguments -/
def MtR (X : Cx) (id : String) (r : V → List V → Hp → VK → Prop) : Prop :=
  ∀ (pins : List (Addr × Obj)) (s : Shared) (σ : St) (H : Hp) (x : V) (xs : List V) (v : Value) (us : List Value) (Q : VK), Inv X pins σ H s → RelV x v → Vals xs us → r x xs H Q →
    wpAny (model X.prog X.w) X.A (call (.builtin id) (v :: us)) (EP X pins σ Q) X.xe s
section
variable {X : Cx} {a b : Expr} {ta tb : TE} {pos : Pos}
/-- a[b] -/
theorem pe_ix {r : R2} (hr : IxR X r) (ha : PE X a ta) (hb : PE X b tb) (hs : PlainIx b) : PE X (.Subscript a b pos) (tOp r ta tb) := by
  intro pins s σ H Q I h
  exact Subscript_ (binT ha hb I h fun v u s2 x y H2 I2 rx ry q => hr a b pins s2 σ H2 x y v u Q I2 rx ry q (hs _ _))

def rIxL (K : PySem.W.Frag) : R2 := fun x y H Q => ∃ p xs i v, x = .ref p ∧ y = .int i ∧ SqL K H p xs ∧ atI xs i = some v ∧ Q v H
def rIxT (K : PySem.W.Frag) : R2 := fun x y H Q => ∃ p xs i v, x = .ref p ∧ y = .int i ∧ SqT K H p xs ∧ atI xs i = some v ∧ Q v H
def rIxS : R2 := fun x y H Q => ∃ z i c, x = .str z ∧ y = .int i ∧ z.length ≤ sizeLine ∧ atI z.cps.toList i = some c ∧ Q (.str ⟨#[c]⟩) H
theorem ix_list : IxR X (rIxL X.K) := by
  intro value slice pins s σ H x y v u Q I rx ry h hs
  obtain ⟨p, xs, i, z, rfl, rfl, hq, he, q⟩ := h
  cases rx
  obtain ⟨t, rfl⟩ := ry
  obtain ⟨its, r, pl, hz⟩ := I.list hq
  obtain ⟨j, h1, h2, h3, h4, h5⟩ := atI_get he
  obtain ⟨w, ew, rw'⟩ := r.get h2
  have hl := r.length
  have hn := line63
  have fin : EP X pins σ Q w s := ⟨z, H, I, rw', q⟩
  by_cases h0 : 0 ≤ i
  · have hj : i.toNat = j := by
      rw [seqIndex_of h0 h5] at h1
      exact Option.some.inj h1
    exact item_listR pl.isList h0 (by omega) (by rw [hj]; simpa using ew) fin hs
  · have hj : (i + (its.toArray.size : Int)).toNat = j := by
      rw [seqIndex_neg (by omega) h4] at h1
      rw [List.size_toArray, ← hl]
      exact Option.some.inj h1
    exact subscriptTail_builtinR (x := w) pl.isList.typeIs slot_list_getitem.lookup
      (wpAny_getItem_list_neg (Q := fun r s' => r = w ∧ EP X pins σ Q r s') pl.isList (by omega) (by rw [List.size_toArray] <;> omega) (by omega) (by rw [hj]; simpa using ew) ⟨rfl, fin⟩) hs
theorem ix_tup : IxR X (rIxT X.K) := by
  intro value slice pins s σ H x y v u Q I rx ry h hs
  obtain ⟨p, xs, i, z, rfl, rfl, hq, he, q⟩ := h
  cases rx
  obtain ⟨t, rfl⟩ := ry
  obtain ⟨its, r, pl, hz⟩ := I.tuple hq
  obtain ⟨j, h1, h2, h3, h4, h5⟩ := atI_get he
  obtain ⟨w, ew, rw'⟩ := r.get h2
  have hl := r.length
  have hn := line63
  have fin : EP X pins σ Q w s := ⟨z, H, I, rw', q⟩
  exact subscriptTail_builtinR (x := w) pl.typeIs slot_tuple_getitem.lookup
    (getItem_tuple (j := j) (Q := fun r s' => r = w ∧ EP X pins σ Q r s') pl (by omega) (by omega) (by rw [List.size_toArray, ← hl]; exact h1) (by simpa using ew) ⟨rfl, fin⟩) hs
/-- list, tuple or str -/
def rIx (K : PySem.W.Frag) : R2 := fun x y H Q => rIxL K x y H Q ∨ rIxT K x y H Q ∨ rIxS x y H Q
/-! ### xs[i] = v, any sign -/
def rSetL : V → V → V → Hp → (Hp → Prop) → Prop := fun o i v H Q => ∃ p xs k j, o = .ref p ∧ i = .int k ∧ H p = some (.lst xs) ∧ ixN xs.length k = some j ∧ Q (upd H p (.lst (xs.set j v)))
/-! ### slices -/
theorem slice_bounds (lo hi : Option Int) (n : Nat) : (sliceBounds lo hi none n).1 = ((HT.sIx n 0 lo : Nat) : Int) ∧ (sliceBounds lo hi none n).2.1 = ((HT.sIx n n hi : Nat) : Int) ∧ (sliceBounds lo hi none n).2.2 = 1 := by
  refine ⟨?_, ?_, rfl⟩
  · cases lo with
    | none => simp [sliceBounds, HT.sIx]
    | some i =>
      simp only [sliceBounds, HT.sIx, Option.getD_none, show (1 : Int) > 0 by decide, if_true]
      by_cases h : i < 0
      · simp only [h, if_true] <;> omega
      · simp only [h, if_false] <;> omega
  · cases hi with
    | none => simp [sliceBounds, HT.sIx]
    | some i =>
      simp only [sliceBounds, HT.sIx, Option.getD_none, show (1 : Int) > 0 by decide, if_true]
      by_cases h : i < 0
      · simp only [h, if_true] <;> omega
      · simp only [h, if_false] <;> omega
theorem slicePick_cut (its : List Value) (lo hi : Option Int) : slicePick its.toArray lo hi none = ((its.drop (HT.sIx its.length 0 lo)).take (HT.sIx its.length its.length hi - HT.sIx its.length 0 lo)).toArray := by
  obtain ⟨h1, h2, h3⟩ := slice_bounds lo hi its.toArray.size
  unfold slicePick
  rw [h1, h2, h3]
  simp only [sliceRange_one, pick_run, List.size_toArray] <;> rfl
/-- xs[lo:hi] of a list: a new list -/
def rSlL (K : PySem.W.Frag) : V → Option Int → Option Int → Hp → VK → Prop := fun x lo hi H Q => ∃ a xs, x = .ref a ∧ SqL K H a xs ∧ ∀ p, H p = none → Q (.ref p) (upd H p (.lst (cutV xs lo hi)))
theorem sl_list : SlR X (rSlL X.K) := by
  intro pins s σ H x v vl vu lo hi sl Q I rx hs pl pu h
  obtain ⟨a, xs, rfl, hx, q⟩ := h
  cases rx
  obtain ⟨its, r, ht, hz⟩ := I.list hx
  have hlen := r.length
  refine ⟨"list", _, slot_list_getitem.lookup, ht.isList.typeIs, ?_⟩
  refine wpAny_getItem_list_slice ht.isList hs pl pu .none (by simp) ?_ (by rw [List.size_toArray] <;> omega)
  rw [slicePick_cut, ← hlen]
  refine ⟨.ref s.heap.objs.size, _, I.laid (t' := s.toks) (o := .lst (cutV xs lo hi)) (fun b ob q => Heap.get?_push_of_some _ q) (Nat.le_refl _) ?_, rfl, q _ (I.hok.fresh (Nat.le_refl _))⟩
  exact ⟨Nat.le_trans (cutV_length xs lo hi) hz, _, 0, (r.drop (HT.sIx xs.length 0 lo)).take (HT.sIx xs.length xs.length hi - HT.sIx xs.length 0 lo), Heap.get?_push_size _ rfl⟩

/-! ### in, not in: flat items -/
def flatV : V → Bool
  | .non => true
  | .bl _ => true
  | .int _ => true
  | .str _ => true
  | _ => false
/-- == of flat values -/
def eqV : V → V → Bool
  | .non, .non => true
  | .bl a, .bl b => a == b
  | .bl a, .int b => (if a then 1 else 0) == b
  | .int a, .bl b => a == (if b then 1 else 0)
  | .int a, .int b => a == b
  | .str a, .str b => a == b
  | _, _ => false
theorem eqAt_V {A : Around} {s : Shared} {y x : V} {u v : Value} (ry : RelV y u) (rx : RelV x v) (fy : flatV y = true) (fx : flatV x = true) : SeqAt.EqAt A s u v (eqV y x) := by
  cases y with
  | non =>
    cases ry
    cases x with
    | non => cases rx; exact SeqAt.EqAt.same _
    | bl b => cases rx; exact SeqAt.EqAt.none_bool b
    | int b => obtain ⟨t, rfl⟩ := rx; exact SeqAt.EqAt.none_int b t
    | str b => obtain ⟨t, rfl⟩ := rx; exact SeqAt.EqAt.none_str b t
    | _ => exact absurd (show false = true from fx) Bool.false_ne_true
  | bl a =>
    cases ry
    cases x with
    | non => cases rx; exact SeqAt.EqAt.bool_none a
    | bl b => cases rx; exact SeqAt.EqAt.bool_bool a b
    | int b => obtain ⟨t, rfl⟩ := rx; exact SeqAt.EqAt.bool_int a b t
    | str b => obtain ⟨t, rfl⟩ := rx; exact SeqAt.EqAt.bool_str a b t
    | _ => exact absurd (show false = true from fx) Bool.false_ne_true
  | int a =>
    obtain ⟨t', rfl⟩ := ry
    cases x with
    | non => cases rx; exact SeqAt.EqAt.int_none a t'
    | bl b => cases rx; exact SeqAt.EqAt.int_bool a t' b
    | int b => obtain ⟨t, rfl⟩ := rx; exact SeqAt.EqAt.int_int a t' b t
    | str b => obtain ⟨t, rfl⟩ := rx; exact SeqAt.EqAt.int_str a t' b t
    | _ => exact absurd (show false = true from fx) Bool.false_ne_true
  | str a =>
    obtain ⟨t', rfl⟩ := ry
    cases x with
    | non => cases rx; exact SeqAt.EqAt.str_none a t'
    | bl b => cases rx; exact SeqAt.EqAt.str_bool a t' b
    | int b => obtain ⟨t, rfl⟩ := rx; exact SeqAt.EqAt.str_int a t' b t
    | str b => obtain ⟨t, rfl⟩ := rx; exact SeqAt.EqAt.str_str a t' b t
    | _ => exact absurd (show false = true from fx) Bool.false_ne_true
  | _ => exact absurd (show false = true from fy) Bool.false_ne_true
/-- the items' answers, read off the values (a value's own answer does not lean on its token) -/
def eqU (x : V) (u : Value) : Bool := match u with
  | .none => eqV .non x
  | .bool b => eqV (.bl b) x
  | .int i _ => eqV (.int i) x
  | .str z _ => eqV (.str z) x
  | _ => false
theorem eqU_of {x y : V} {u : Value} (r : RelV y u) (f : flatV y = true) : eqU x u = eqV y x := by
  cases y with
  | non => cases r; rfl
  | bl b => cases r; rfl
  | int i => obtain ⟨t, rfl⟩ := r; rfl
  | str z => obtain ⟨t, rfl⟩ := r; rfl
  | _ => exact absurd (show false = true from f) Bool.false_ne_true
theorem any_eqU {x : V} : ∀ {xs : List V} {us : List Value}, Vals xs us → xs.all flatV = true → us.any (eqU x) = xs.any fun y => eqV y x
  | _, _, .nil, _ => rfl
  | y :: xs, u :: us, .cons r t, f => by
    rw [List.all_cons, Bool.and_eq_true] at f
    rw [List.any_cons, List.any_cons, eqU_of r f.1, any_eqU t f.2]
theorem mem_eqAt {A : Around} {s : Shared} {x : V} {v : Value} (rx : RelV x v) (fx : flatV x = true) : ∀ {xs : List V} {us : List Value}, Vals xs us → xs.all flatV = true → ∀ u ∈ us, SeqAt.EqAt A s u v (eqU x u)
  | _, _, .nil, _ => fun u hu => by cases hu
  | y :: xs, u :: us, .cons r t, f => fun u' hu => by
    rw [List.all_cons, Bool.and_eq_true] at f
    rcases List.mem_cons.mp hu with rfl | hu
    · rw [eqU_of r f.1]; exact eqAt_V r rx f.1 fx
    · exact mem_eqAt rx fx t f.2 u' hu
def inV (x : V) (xs : List V) : Bool := xs.any fun y => eqV y x
/-- x in a list or tuple of flat items -/
def rIn (K : PySem.W.Frag) (neg : Bool) : R2 := fun x y H Q => ∃ p xs, y = .ref p ∧ (SqL K H p xs ∨ SqT K H p xs) ∧ flatV x = true ∧ xs.all flatV = true ∧ Q (.bl (if neg then !inV x xs else inV x xs)) H
theorem op_notIn_seq : OpR X (compareOp .NotIn) (rIn X.K true) := by
  intro pins s σ H x y v u Q I rx ry h
  obtain ⟨p, xs, rfl, hq, fx, fs, q⟩ := h
  cases ry
  rcases hq with hq | hq
  · obtain ⟨its, r, pl, hz⟩ := I.list hq
    refine SeqAt.notIn_listAt (eqU x) pl.isList (fun w hw => mem_eqAt rx fx r fs w (by simpa using hw)) ⟨.bl _, H, I, rfl, ?_⟩
    rw [show its.toArray.any (eqU x) = its.any (eqU x) by simp, any_eqU r fs]
    exact q
  · obtain ⟨its, r, pl, hz⟩ := I.tuple hq
    refine SeqAt.notIn_tupleAt (eqU x) pl (fun w hw => mem_eqAt rx fx r fs w (by simpa using hw)) ⟨.bl _, H, I, rfl, ?_⟩
    rw [show its.toArray.any (eqU x) = its.any (eqU x) by simp, any_eqU r fs]
    exact q
/-! ### len, list(x), tuple(x) of any list or tuple that is read -/
theorem call_len_seq : CallR X (.builtin "len") (fun xs H Q => ∃ p ys, xs = [.ref p] ∧ (SqL X.K H p ys ∨ SqT X.K H p ys) ∧ Q (.int ys.length) H) := by
  intro pins s σ H xs us Q I r h
  obtain ⟨p, ys, rfl, hq, q⟩ := h
  obtain ⟨u, rfl, rx⟩ := vals1 r
  cases rx
  have hn := line63
  rcases hq with hq | hq
  · obtain ⟨its, r', pl, hz⟩ := I.list hq
    have hlen := r'.length
    exact Calls.call_len_list pl.isList (by simp only [List.size_toArray] <;> omega) ⟨.int ys.length, H, I.tok _, ⟨s.toks + 1, by rw [List.size_toArray, hlen]⟩, q⟩
  · obtain ⟨its, r', pl, hz⟩ := I.tuple hq
    have hlen := r'.length
    exact len_tuple pl (by simp only [List.size_toArray] <;> omega) ⟨.int ys.length, H, I.tok _, ⟨s.toks + 1, by rw [List.size_toArray, hlen]⟩, q⟩
theorem call_list_of : CallR X (.type "list") (fun xs H Q => ∃ p ys, xs = [.ref p] ∧ (SqL X.K H p ys ∨ SqT X.K H p ys) ∧ ∀ l, H l = none → Q (.ref l) (upd H l (.lst ys))) := by
  intro pins s σ H xs us Q I r h
  obtain ⟨p, ys, rfl, hq, q⟩ := h
  obtain ⟨u, rfl, rx⟩ := vals1 r
  cases rx
  have fin : ∀ (its : List Value), Vals ys its → ys.length ≤ sizeLine → ∀ (h' : Heap) (c' : Nat), (∀ b o', s.heap.get? b = some o' → h'.get? b = some o') →
      h'.get? s.heap.objs.size = some { cls := .type "list", dict := none, data := .seq its.toArray c', slots := #[] } → EP X pins σ Q (.ref s.heap.objs.size) { s with heap := h' } := fun its r' hz h' c' kp e =>
    ⟨.ref s.heap.objs.size, _, I.laid (t' := s.toks) kp (Nat.le_refl _) (show ObjOk X.prog X.w _ h' _ (.lst ys) from ⟨hz, its, c', r', e⟩), rfl, q _ (I.hok.fresh (Nat.le_refl _))⟩
  rcases hq with hq | hq
  · obtain ⟨its, r', pl, hz⟩ := I.list hq
    have hlen := r'.length
    obtain ⟨o, ho, hc, n, hd⟩ := pl.isList
    exact call_list_seq p (.inl rfl) ho hc hd (fun h' c' kp e => fin its r' hz h' c' kp e) (by simp only [List.size_toArray] <;> omega)
  · obtain ⟨its, r', pl, hz⟩ := I.tuple hq
    have hlen := r'.length
    obtain ⟨o, ho, hc, n, hd⟩ := pl
    exact call_list_seq p (.inr rfl) ho hc hd (fun h' c' kp e => fin its r' hz h' c' kp e) (by simp only [List.size_toArray] <;> omega)
/-! ### the call of a builtin's method: o.m(..) -/
/-- the value is of that builtin type -/
def tyV (K : PySem.W.Frag) (T : String) (x : V) (H : Hp) : Prop := match x with
  | .str _ => T = "str"
  | .int _ => T = "int"
  | .ref p => (T = "list" ∧ ∃ xs, SqL K H p xs) ∨ (T = "tuple" ∧ ∃ o, K.lookup p = some o ∧ o.cls = .type "tuple" ∧ o.dict = none) ∨
      (T = "dict" ∧ ((∃ kvs, H p = some (.dK kvs)) ∨ ∃ kvs, H p = some (.dT kvs))) ∨ (T = "set" ∧ ∃ S n, H p = some (.set S n))
  | _ => False
theorem tyV_is {pins : List (Addr × Obj)} {σ : St} {H : Hp} {s : Shared} {T : String} {x : V} {v : Value} (I : Inv X pins σ H s) (r : RelV x v) (ty : tyV X.K T x H) :
    s.TypeIs v T ∧ ∀ a, v = .ref a → ∃ ob, s.heap.get? a = some ob ∧ ob.dict = none := by
  cases x with
  | str z =>
    obtain ⟨t, rfl⟩ := r
    cases (show T = "str" from ty)
    exact ⟨typeIs_str s z t, fun _ e => nomatch e⟩
  | int i =>
    obtain ⟨t, rfl⟩ := r
    cases (show T = "int" from ty)
    exact ⟨typeIs_int s i t, fun _ e => nomatch e⟩
  | ref p =>
    cases r
    rcases ty with ⟨rfl, xs, hq⟩ | ⟨rfl, o, hk, hc, hd⟩ | ⟨rfl, hk⟩ | ⟨rfl, S, n, hk⟩
    · obtain ⟨its, _, pl, _⟩ := I.list hq
      refine ⟨pl.isList.typeIs, fun a e => ?_⟩
      cases e
      obtain ⟨o, n, e, c, hd, _⟩ := pl
      exact ⟨o, e, hd⟩
    · refine ⟨⟨o, I.kIn p o hk, hc⟩, fun a e => ?_⟩
      cases e
      exact ⟨o, I.kIn _ o hk, hd⟩
    · have z : ∃ o, s.heap.get? p = some o ∧ o.ExactDict := by
        rcases hk with ⟨kvs, hk⟩ | ⟨kvs, hk⟩
        · obtain ⟨_, _, _, _, o, _, _, e, ex, _⟩ := I.hok p _ hk
          exact ⟨o, e, ex⟩
        · obtain ⟨_, _, _, _, o, _, _, e, ex, _⟩ := I.hok p _ hk
          exact ⟨o, e, ex⟩
      obtain ⟨o, e, ex⟩ := z
      refine ⟨⟨o, e, ex.1⟩, fun a e2 => ?_⟩
      cases e2
      exact ⟨o, e, ex.2.1⟩
    · obtain ⟨o, _, _, _, e, ex, _⟩ := I.hok p _ hk
      refine ⟨⟨o, e, ex.1⟩, fun a e2 => ?_⟩
      cases e2
      exact ⟨o, e, ex.2.1⟩
  | _ => exact False.elim ty
def tBM0 (K : PySem.W.Frag) (T : String) (r : V → List V → Hp → VK → Prop) (to : TE) : TE := fun σ H Q => to σ H fun x H1 => tyV K T x H1 ∧ r x [] H1 Q
def tBM (K : PySem.W.Frag) (T : String) (r : V → List V → Hp → VK → Prop) (to : TE) (t : TA) : TE := fun σ H Q => to σ H fun x H1 => tyV K T x H1 ∧ t σ H1 fun xs H2 => r x xs H2 Q
variable {o e : Expr} {es : List Expr} {to : TE} {t : TA} {name : Str} {apos cpos : Pos} {T id : String} {r : V → List V → Hp → VK → Prop}
theorem pe_bm0 (pa : PlainAttrs T) (slot : Slot T name id) (hty : typeOf (.builtin id) = pure (.type "method_descriptor")) (hm : MtR X id r) (ho : PE X o to)
    (hbase : attributeBase o name X.env (eval o X.env) = eval o X.env := by rfl) (hline : (apos.endLine == cpos.line) = true := by rfl) : PE X (.Call (.Attribute o name apos) [] [] cpos) (tBM0 X.K T r to) := by
  intro pins s σ H Q I h
  refine wpAny_Call_method0_late hbase hline (thn (ho pins s σ H _ I h) fun v s1 ⟨x, H1, I1, r1, ty, q1⟩ => ?_)
  obtain ⟨h1, h2⟩ := tyV_is I1 r1 ty
  exact ⟨T, id, pa, slot, hty, h1, h2, Calls.callWith_builtin rfl (PySem.evalArgs_none (hm pins s1 σ H1 x [] v [] Q I1 r1 .nil q1))⟩
theorem pe_bm (pa : PlainAttrs T) (slot : Slot T name id) (hty : typeOf (.builtin id) = pure (.type "method_descriptor")) (hm : MtR X id r) (ho : PE X o to) (ha : PA X (e :: es) t)
    (hbase : attributeBase o name X.env (eval o X.env) = eval o X.env := by rfl)
    (hfew : ((backTo cpos (starEach (e :: es) X.env)).all (fun x => !x.1) && (backToKw cpos (keywordEach [] X.env)).all (fun x => x.1.isSome)
      && decide ((e :: es).length + ([] : List Keyword).length + (if ([] : List Keyword).isEmpty then 0 else 1) < 30)) = true := by rfl)
    (hline : (apos.endLine == cpos.line) = true := by rfl) (hs : starEach (e :: es) X.env = (false, eval e X.env) :: starEach es X.env := by rfl) (hplain : (backTo cpos (starEach es X.env)).any (·.1) = false := by rfl) :
    PE X (.Call (.Attribute o name apos) (e :: es) [] cpos) (tBM X.K T r to t) := by
  intro pins s σ H Q I h
  refine wpAny_Call_method_late hbase hfew hline rfl (thn (ho pins s σ H _ I h) fun v s1 ⟨x, H1, I1, r1, ty, q1⟩ => ?_)
  obtain ⟨h1, h2⟩ := tyV_is I1 r1 ty
  refine ⟨T, id, pa, slot, hty, h1, h2, ?_⟩
  have hA := ha cpos pins s1 σ H1 _ I1 q1
  rw [hs] at hA ⊢
  refine Calls.callWith_builtin (by show (false || (backTo cpos (starEach es X.env)).any (·.1)) = false; rw [hplain] <;> rfl) (Calls.evalArgs_plain ?_)
  exact thn hA fun us s2 ⟨vs, H2, I2, r2, q2⟩ => hm pins s2 σ H2 x vs v us Q I2 r1 r2 q2
/- xs.append(e), list.index on a module's tuple .. are MtR facts of 06m -/
end
end L2

namespace L2
open PySem PySem.Spec PyProof.Rows

def MtM (X : Cx) (id : String) (r : V → List V → Hp → VK → Prop) : Prop :=
  ∀ (pins : List (Addr × Obj)) (s : Shared) (σ : St) (H : Hp) (x : V) (xs : List V) (v : Value) (us : List Value) (Q : VK), Inv X pins σ H s → RelV x v → Vals xs us → r x xs H Q →
    wpAny (model X.prog X.w) X.A (call (.builtin id) (v :: us)) (EP X pins σ Q) X.xe s

/-! ### lists of values -/
theorem Vals.one : ∀ {x : V} {us : List Value}, Vals [x] us → ∃ u, us = [u] ∧ RelV x u
  | _, _, .cons r .nil => ⟨_, rfl, r⟩
theorem Vals.two : ∀ {x y : V} {us : List Value}, Vals [x, y] us → ∃ u v, us = [u, v] ∧ RelV x u ∧ RelV y v
  | _, _, _, .cons r (.cons q .nil) => ⟨_, _, rfl, r, q⟩
theorem Vals.zero : ∀ {us : List Value}, Vals [] us → us = []
  | _, .nil => rfl
theorem Vals.dropLast {xs : List V} {us : List Value} (h : Vals xs us) : Vals xs.dropLast us.dropLast := by
  induction h with
  | nil => exact .nil
  | cons r t ih =>
    cases t with
    | nil => exact .nil
    | cons q t' => exact .cons r ih
theorem Vals.eraseIdx : ∀ {xs : List V} {us : List Value} (i : Nat), Vals xs us → Vals (xs.eraseIdx i) (us.eraseIdx i)
  | _, _, _, .nil => .nil
  | _, _, 0, .cons _ t => t
  | _, _, i + 1, .cons r t => .cons r (Vals.eraseIdx i t)
theorem Vals.rep {xs : List V} {us : List Value} (h : Vals xs us) : ∀ k : Nat, Vals (List.replicate k xs).flatten (List.replicate k us).flatten
  | 0 => .nil
  | k + 1 => by
    rw [List.replicate_succ, List.replicate_succ, List.flatten_cons, List.flatten_cons]
    exact Vals.append h (Vals.rep h k)
theorem erase_last {α : Type} (l : List α) : l.eraseIdx (l.length - 1) = l.dropLast := by
  induction l with
  | nil => rfl
  | cons a r ih =>
    cases r with
    | nil => rfl
    | cons b r =>
      have e : (a :: b :: r).length - 1 = ((b :: r).length - 1) + 1 := by
        have h1 : (a :: b :: r).length = r.length + 2 := rfl
        have h2 : (b :: r).length = r.length + 1 := rfl
        omega
      rw [e, List.eraseIdx_cons_succ, ih]
      all_goals rfl
theorem len_erase {α : Type} : ∀ (l : List α) (i : Nat), (l.eraseIdx i).length ≤ l.length
  | [], _ => Nat.le_refl _
  | _ :: _, 0 => Nat.le_succ _
  | _ :: r, i + 1 => Nat.succ_le_succ (len_erase r i)
theorem foldl_rep (its : List Value) : ∀ (k : Nat) (acc : List Value),
    List.foldl (fun x1 x2 => x1 ++ x2) acc.toArray (List.replicate k its.toArray) = (acc ++ (List.replicate k its).flatten).toArray
  | 0, acc => by simp
  | k + 1, acc => by
    have e : acc.toArray ++ its.toArray = (acc ++ its).toArray := by simp
    have e2 : (acc ++ its) ++ (List.replicate k its).flatten = acc ++ (List.replicate (k + 1) its).flatten := by
      rw [List.replicate_succ, List.flatten_cons, List.append_assoc]
    rw [← e2, ← foldl_rep its k (acc ++ its), ← e, List.replicate_succ, List.foldl_cons]

section
variable {X : Cx} {pins : List (Addr × Obj)} {σ : St} {H : Hp} {s : Shared} {l b : Addr} {xs ys zs : List V}

/-! ### the two steps: a tracked list is rewritten, a new list is laid -/
theorem Inv.lset {its its' : List Value} {n : Nat} {f : Array Value → Array Value} {t' : Nat} (I : Inv X pins σ H s) (hH : H l = some (.lst xs))
    (e : s.heap.get? l = some { cls := .type "list", data := .seq its.toArray n }) (hf : f its.toArray = its'.toArray) (hv : Vals ys its') (hz : ys.length ≤ sizeLine) :
    Inv X pins σ (upd H l (.lst ys)) { s with heap := s.heap.update l (Obj.mapSeq f), toks := t' } := by
  have q := PySem.IsL.update e f
  rw [hf] at q
  refine I.write (x := l) (e := l) (by rw [hH]; exact trivial) (.inl rfl) (fun b' u hb hu => (Heap.get?_update_other s.heap (Obj.mapSeq f) (Ne.symm hb)).trans hu) ⟨_, q⟩ ?_
  exact ⟨hz, its', _, hv, q⟩
theorem Inv.lnew {its : List Value} {t' : Nat} (I : Inv X pins σ H s) (hv : Vals ys its) (hz : ys.length ≤ sizeLine) :
    Inv X pins σ (upd H s.heap.objs.size (.lst ys)) { s with heap := s.heap.push { cls := .type "list", data := .seq its.toArray }, toks := t' } :=
  I.laid (fun _ _ q => Heap.get?_push_of_some _ q) (Nat.le_refl _) ⟨hz, its, 0, hv, Heap.get?_push_size _ rfl⟩
theorem Inv.fresh (I : Inv X pins σ H s) : H s.heap.objs.size = none := I.hok.fresh (Nat.le_refl _)
theorem Inv.lstM (I : Inv X pins σ H s) (hH : H l = some (.lst xs)) : xs.length ≤ sizeLine ∧ ∃ (its : List Value) (n : Nat), Vals xs its ∧ xs.length = its.length ∧ s.heap.get? l = some { cls := .type "list", data := .seq its.toArray n } := by
  obtain ⟨z, its, n, r, e⟩ := I.hok l _ hH
  exact ⟨z, its, n, r, r.length, e⟩

theorem notLongL {n : Nat} (h : n ≤ sizeLine) : Builtin.List.listTooLong n = false := by
  unfold Builtin.List.listTooLong
  exact decide_eq_false (by omega)
end

section
variable {X : Cx}

/-! ### methods -/
def rAppend : V → List V → Hp → VK → Prop := fun x vs H Q => ∃ l xs y, x = .ref l ∧ vs = [y] ∧ H l = some (.lst xs) ∧ xs.length < sizeLine ∧ Q .non (upd H l (.lst (xs ++ [y])))
theorem mt_append : MtM X "list.append" rAppend := by
  intro pins s σ H x vs v us Q I rx rv h
  obtain ⟨l, xs, y, rfl, rfl, hH, hz, q⟩ := h
  cases rx
  obtain ⟨u, rfl, ru⟩ := rv.one
  obtain ⟨z, its, n, r, hl, e⟩ := I.lstM hH
  refine call_meets F.slot_list_append ⟨_, e, rfl⟩ F.entry_list_append (F.args_list_append_2 _ _) (PySem.list_append l its.toArray n u (by rw [List.size_toArray]; omega)) ⟨e, ?_⟩
  refine ⟨.non, _, I.lset (its' := its ++ [u]) hH e (by simp) (r.append (.cons ru .nil)) ?_, rfl, q⟩
  rw [List.length_append, List.length_singleton]
  omega

def rExtend : V → List V → Hp → VK → Prop := fun x vs H Q => ∃ l b xs zs, x = .ref l ∧ vs = [.ref b] ∧ H l = some (.lst xs) ∧ H b = some (.lst zs) ∧ xs.length + zs.length ≤ sizeLine ∧ Q .non (upd H l (.lst (xs ++ zs)))
theorem mt_extend : MtM X "list.extend" rExtend := by
  intro pins s σ H x vs v us Q I rx rv h
  obtain ⟨l, b, xs, zs, rfl, rfl, hH, hB, hz, q⟩ := h
  cases rx
  obtain ⟨u, rfl, ru⟩ := rv.one
  cases ru
  obtain ⟨z, its, n, r, hl, e⟩ := I.lstM hH
  obtain ⟨z2, its2, n2, r2, hl2, e2⟩ := I.lstM hB
  have hsz : its.toArray.size + its2.toArray.size ≤ sizeLine := by rw [List.size_toArray, List.size_toArray]; omega
  have hlong : ¬ (!its.toArray.isEmpty && Builtin.List.listTooLong (its.toArray.size + its2.toArray.size)) = true := by
    rw [notLongL hsz, Bool.and_false]
    exact Bool.false_ne_true
  refine call_meets F.slot_list_extend ⟨_, e, rfl⟩ F.entry_list_extend (F.args_list_extend_2 _ _)
    (AutoSeq1.list_extend_list_list_0 l its.toArray n b its2.toArray n2 hlong (by rw [List.size_toArray]; omega) (by omega)) ⟨e, e2, ?_⟩
  refine ⟨.non, _, I.lset (its' := its ++ its2) hH e (by simp) (r.append r2) ?_, rfl, q⟩
  rw [List.length_append]
  omega

def rPop : V → List V → Hp → VK → Prop := fun x vs H Q => ∃ l xs y, x = .ref l ∧ vs = [] ∧ H l = some (.lst xs) ∧ xs[xs.length - 1]? = some y ∧ Q y (upd H l (.lst xs.dropLast))
theorem mt_pop : MtM X "list.pop" rPop := by
  intro pins s σ H x vs v us Q I rx rv h
  obtain ⟨l, xs, y, rfl, rfl, hH, hy, q⟩ := h
  cases rx
  have hus := rv.zero
  subst hus
  obtain ⟨z, its, n, r, hl, e⟩ := I.lstM hH
  obtain ⟨u, hu, ru⟩ := r.get hy
  have hy' : its.toArray[its.toArray.size - 1]? = some u := by
    show its.toArray[its.length - 1]? = some u
    rw [← Array.getElem?_toList, ← hl]
    exact hu
  refine call_meets F.slot_list_pop ⟨_, e, rfl⟩ F.entry_list_pop (F.args_list_pop_1 _) (MeetsSeq.list_pop_last l its.toArray n u hy' (by rw [List.size_toArray]; omega)) ⟨e, ?_⟩
  refine ⟨y, _, I.lset (its' := its.dropLast) hH e ?_ r.dropLast ?_, ru, q⟩
  · show its.toArray.eraseIdxIfInBounds (its.toArray.size - 1) = its.dropLast.toArray
    rw [List.size_toArray, List.eraseIdxIfInBounds_toArray, erase_last]
  · rw [List.length_dropLast]
    omega

def rPopAt : V → List V → Hp → VK → Prop := fun x vs H Q => ∃ l xs i k y, x = .ref l ∧ vs = [.int i] ∧ H l = some (.lst xs) ∧ -(2 ^ 63) ≤ i ∧ i < 2 ^ 63 ∧ seqIndex? i xs.length = some k ∧ xs[k]? = some y ∧ Q y (upd H l (.lst (xs.eraseIdx k)))
def rReverse : V → List V → Hp → VK → Prop := fun x vs H Q => ∃ l xs, x = .ref l ∧ vs = [] ∧ H l = some (.lst xs) ∧ Q .non (upd H l (.lst xs.reverse))
def rClear : V → List V → Hp → VK → Prop := fun x vs H Q => ∃ l xs, x = .ref l ∧ vs = [] ∧ H l = some (.lst xs) ∧ Q .non (upd H l (.lst []))
/-! ### list + list, list += list, list * int -/
def rCat : R2 := fun x y H Q => ∃ l b xs zs, x = .ref l ∧ y = .ref b ∧ H l = some (.lst xs) ∧ H b = some (.lst zs) ∧ xs.length + zs.length ≤ sizeLine ∧ ∀ p, H p = none → Q (.ref p) (upd H p (.lst (xs ++ zs)))
theorem op_cat : OpR X (binaryOp .Add) rCat := by
  intro pins s σ H x y v u Q I rx ry h
  obtain ⟨l, b, xs, zs, rfl, rfl, hH, hB, hz, q⟩ := h
  cases rx
  cases ry
  obtain ⟨z, its, n, r, hl, e⟩ := I.lstM hH
  obtain ⟨z2, its2, n2, r2, hl2, e2⟩ := I.lstM hB
  refine PySem.P.add_list e e2 ?_ (by rw [List.size_toArray, List.size_toArray]; omega)
  have ea : its.toArray ++ its2.toArray = (its ++ its2).toArray := by simp
  rw [ea]
  exact ⟨.ref _, _, I.lnew (t' := s.toks) (r.append r2) (by rw [List.length_append]; omega), rfl, q _ I.fresh⟩
/-- a list times an int (a negative one is nothing) -/
def rRep : R2 := fun x y H Q => ∃ l k xs, x = .ref l ∧ y = .int k ∧ H l = some (.lst xs) ∧ -(2 ^ 63) ≤ k ∧ k < 2 ^ 63 ∧ xs.length * k.toNat ≤ sizeLine ∧
  ∀ p, H p = none → Q (.ref p) (upd H p (.lst (List.replicate k.toNat xs).flatten))
theorem len_rep {α : Type} (xs : List α) (k : Nat) : (List.replicate k xs).flatten.length = k * xs.length := by
  induction k with
  | zero => simp
  | succ k ih => rw [List.replicate_succ, List.flatten_cons, List.length_append, ih, Nat.succ_mul, Nat.add_comm]
theorem op_rep : OpR X (binaryOp .Mult) rRep := by
  intro pins s σ H x y v u Q I rx ry h
  obtain ⟨l, k, xs, rfl, rfl, hH, h1, h2, hz, q⟩ := h
  cases rx
  obtain ⟨t, rfl⟩ := ry
  obtain ⟨z, its, n, r, hl, e⟩ := I.lstM hH
  have hlen : its.toArray.size * k.toNat ≤ sizeLine := by rw [List.size_toArray, ← hl]; exact hz
  have hcap : ¬ its.toArray.size * k.toNat > (2 ^ 63 - 1) / 8 := by
    have : (sizeLine : Nat) ≤ (2 ^ 63 - 1) / 8 := by decide
    omega
  have hfit : ¬ (!Builtin.List.listFitsIndex k) = true := by
    rw [fitsIndex_both h1 h2]
    exact Bool.false_ne_true
  have hlong : ¬ Builtin.List.listTooLong (its.toArray.size * k.toNat) = true := by
    rw [notLongL hlen]
    exact Bool.false_ne_true
  have hnew : List.foldl (fun x1 x2 => x1 ++ x2) #[] (List.replicate (if its.toArray.isEmpty = true then 0 else k.toNat) its.toArray) = (List.replicate k.toNat its).flatten.toArray := by
    have f0 : ∀ m : Nat, List.foldl (fun x1 x2 => x1 ++ x2) #[] (List.replicate m its.toArray) = (List.replicate m its).flatten.toArray := fun m => by
      have := foldl_rep its m []
      rw [List.nil_append] at this
      exact this
    rw [f0]
    cases its with
    | nil => simp
    | cons a r' => rw [if_neg (by simp)]
  refine wpAny_binaryOp_repeat_ref (T := "list") (U := "int") (by decide) ⟨_, e, rfl⟩ (fun s' => typeIs_int s' k t) noFill_list_mul F.fills_int_mul F.slot_int_rmul repeat_list F.slot_int_index.lookup
    (call_meets F.slot_int_rmul (typeIs_int s k t) F.entry_int_rmul (F.args_int_rmul_2 _ _) (int___rmul___int_list k t l its.toArray n)
      ⟨e, rfl, ⟨_, e, rfl⟩, call_meets F.slot_list_mul ⟨_, e, rfl⟩ F.entry_list_mul (F.args_list_mul_2 _ _) (AutoListH.list___mul___list_int_3 l its.toArray n k t hfit hcap hlong) ⟨e, ?_⟩⟩)
  rw [hnew]
  exact ⟨.ref _, _, I.lnew (t' := s.toks) (r.rep k.toNat) (by rw [len_rep, Nat.mul_comm]; exact hz), rfl, q _ I.fresh⟩

/-! ### del xs[i] -/
theorem del_list {pins : List (Addr × Obj)} {s : Shared} {σ : St} {H : Hp} {l : Addr} {xs : List V} {i : Int} {t : Tok} {k : Nat} {Q : Unit → Shared → Prop} (I : Inv X pins σ H s) (hH : H l = some (.lst xs))
    (h1 : -(2 ^ 63) ≤ i) (h2 : i < 2 ^ 63) (hk : seqIndex? i xs.length = some k) (h : ∀ s', Inv X pins σ (upd H l (.lst (xs.eraseIdx k))) s' → Q () s') :
    wpAny (model X.prog X.w) X.A (delItem (.ref l) (.int i t)) Q X.xe s := by
  obtain ⟨z, its, n, r, hl, e⟩ := I.lstM hH
  refine PySem.P.delItem_list (k := k) e (fitsIndex_both h1 h2) (by rw [List.size_toArray, ← hl]; exact hk) (h _ ?_) (by rw [List.size_toArray]; omega)
  refine I.lset (its' := its.eraseIdx k) (t' := s.toks) hH e ?_ (r.eraseIdx k) ?_
  · show its.toArray.eraseIdxIfInBounds k = (its.eraseIdx k).toArray
    rw [List.eraseIdxIfInBounds_toArray]
  · have := len_erase xs k
    omega
end

/-! ### xs[a:b] = ys -/
section
variable {prog : Program} {w : World} {A : Around} {E : Value → Shared → Prop} {s : Shared}
end

section
variable {X : Cx}
end
end L2

namespace Att
open PySem PySem.W PySem.Calls PyProof.Rows

/-! ### the script -/
theorem ints_of_wellAll {P : Params} {h : Heap} : ∀ (ns : List Int) (vs : List Value), WellAll P h vs (ns.map WData.int) → IntsAre vs ns := by
  intro ns
  induction ns with
  | nil =>
    intro vs w
    rw [List.map_nil] at w
    cases w
    exact .nil
  | cons n ns ih =>
    intro vs w
    rw [List.map_cons] at w
    cases w with
    | cons a b =>
      cases a
      exact .cons _ _ (ih _ b)

theorem script_of {l : OpenLaw} {n : Nat} (hn : l.most = some n) {P : Params} {h : Heap} {args : List WData} {vals : List Value}
    (hpre : l.row.toRowW.claim.pre args = true) (hwl : WellAll P h vals args) :
    ∃ a vs ns, vals = [Value.ref a] ∧ args = [WData.list (ns.map WData.int)] ∧ h.get? a = some { cls := .type "list", data := .seq vs.toArray } ∧ IntsAre vs ns ∧ ns.length ≤ n := by
  have hsh : WShape.hasAll [] args [.list .int] = true := (pre_splitW hpre).1
  have hc : l.pre.holds [] { args := args } = true := (pre_splitW hpre).2
  obtain ⟨d, r, rfl, h1, h2⟩ := hasAllW_cons hsh
  obtain rfl := hasAllW_nil h2
  obtain ⟨xs, rfl, h3⟩ := hasW_list h1
  obtain ⟨ns, rfl⟩ := items_int h3
  have hlen : ns.length ≤ n := by
    unfold OpenLaw.pre at hc
    have h4 : (WTm.not (.lt (.lit (.int (n : Int))) (.len (.arg 0)))).holds [] { args := [.list (ns.map .int)] } = true := by
      have h4 := (holds_andW hc).1
      rw [hn] at h4
      exact h4
    have h5 := condW_of h4 (w_not (w_lt w_lit (w_len_list (w_arg rfl))))
    rw [List.length_map] at h5
    refine Nat.le_of_not_lt fun q => ?_
    have q' : (n : Int) < ((ns.length : Nat) : Int) := by omega
    first
      | (rw [decide_eq_true q'] at h5; exact absurd h5 (by decide))
      | (simp at h5; omega)
  cases hwl with
  | cons w1 w2 =>
    cases w2
    cases w1 with
    | list ho hall => exact ⟨_, _, ns, rfl, rfl, ho, ints_of_wellAll ns _ hall, hlen⟩

theorem post_true (l : OpenLaw) (args : List WData) : l.row.toRowW.claim.post args (.bool true) args = true :=
  postW_of (r := l.row.toRowW) (X := (true == true))
    (show WShape.has [] (.bool true) .bool = true by first | rfl | decide | simp [WShape.has, WShape.arms, WShape.armsAll])
    (show (WTm.eq .res (.lit (.bool true))).value [] { args := args, res := some (.bool true), after := args } = some (.bool (true == true)) from w_eq_bool (w_res rfl) w_lit) rfl

/-! ### the attachment: holds_open's last premise (the goal 'hc' behind k_head) from a wpAny of the law's body -/
/-- the same from a codeAny of the CALL (for a layer whose function contracts speak of calls) -/
theorem attach_call {l : OpenLaw} {n : Nat} {q : Program} {loose : List Str} {XP : (Str → Option Value) → Heap → Prop} {YP : World → Heap → Prop} {d : DefRec}
    (hn : l.most = some n) (hdf : d.params.defaults = [])
    (call : ∀ (w : World) (s₀ s₁ : Shared) (mg mb : Str → Option Value) (fa : Addr) (o : Obj) (pm cd doc : Value) (a : Addr) (vs : List Value) (ns : List Int),
      Ground q loose [] XP w s₀ mg mb s₁.heap → YP w s₁.heap →
      s₁.heap.get? fa = some o → o.data = .func (docDef d.name d.params d.body d.scope pm cd doc) → s₁.heap.CodeRec cd d.name → mg d.name = some (.ref fa) →
      s₁.heap.get? a = some { cls := .type "list", data := .seq vs.toArray } → IntsAre vs ns → ns.length ≤ n → s₁.gens = #[] →
      codeAny (model l.prog w) callerA (.call (.ref fa) ⟨[.ref a], []⟩) (fun r s' => r = .ok (.ret (.bool true)) ∧ OldK s₁.heap s'.heap ∧ s'.os = s₁.os ∧ AllBare s'.gens) s₁) :
    WalkO q loose XP YP l.row.toRowW d [] (fun f vs => PySem.call f vs) := by
  intro w s₀ s₁ mg mb G Y fa o pm cd doc dV kV ho hd hcd hD hmg hg args vals as hpre hlay hrd hwl hlo
  obtain rfl : dV = .none := Dflts.none hD hdf
  obtain rfl : kV = .none := Dflts.noKw hD
  obtain ⟨a, vs, ns, rfl, rfl, hobj, hints, hlen⟩ := script_of hn hpre hwl
  refine enter_call (codeAny_mono (call w s₀ s₁ mg mb fa o pm cd doc a vs ns G Y ho (fd_plain hd) hcd hmg hobj hints hlen hg) fun r s' hq => ?_)
  obtain ⟨rfl, h2, h3, h4⟩ := hq
  exact ⟨.inl ⟨.bool true, .bool true, [], rfl, fun _ => rfl, .bool true, post_true l _, fun _ => ⟨List.Pairwise.nil, fun _ hm => (nomatch hm)⟩⟩, h2, h3, h4⟩

/-! ### rules over ANY heap (no ledger) from facts about the written part K: the library's own take a ledger (News) for what they write -/
section
variable {prog : Program} {w : World} {A : Around} {E : Value → Shared → Prop} {s : Shared} {K : Frag}

/-! the whole heap as the ledger: makes every rule that writes through a ledger a rule over any heap -/
def noObjs (h : Heap) : Heap := { h with objs := #[] }
def ledger (h : Heap) (L d : Addr) : List (Addr × Obj) := (List.range h.objs.size).filterMap fun a => if a = L ∨ a = d then none else (h.get? a).map fun o => (a, o)
end
end Att

namespace L2
open PySem PySem.Spec PyProof.Rows

theorem vals_ints : ∀ {vs : List Value} {ns : List Int}, IntsAre vs ns → Vals (ns.map V.int) vs
  | _, _, .nil => .nil
  | _, _, .cons n t h => .cons ⟨t, rfl⟩ (vals_ints h)

/-- nothing is tracked but the script, known to the object (or it is an object of the module) -/
def Only (H : Hp) : Prop := ∀ b, H b = none ∨ ∃ o xs, H b = some (.frz o (.lst xs))

/-- THE HEAD: the law's promise, at the heap behind the top. F, the promise of the law's def, may use that base is part of the heap (so K.In base, base.Ns mainGlobals mg stand in Mod) -/
theorem law_call {P : Program} {w : World} {K : PySem.W.Frag} {mg mb : Str → Option Value} {CX : CXT} {k : Nat} {fa a : Addr} {fd : FuncData} {x : Str} {sp : Sp} {s₁ : Shared} {vs : List Value} {ns : List Int}
    (KX : K.In s₁.heap) (hns : s₁.heap.Ns mainGlobals mg) (hb : s₁.heap.Ns builtinsNs mb) (hbb : ∀ x : Str, x ≠ "__name__" → mb x = bootBuiltins x) (hlim : s₁.heap.NoLimit) (hg : s₁.gens = #[])
    (ha : s₁.heap.get? a = some { cls := .type "list", data := .seq vs.toArray }) (hi : IntsAre vs ns) (hl : ns.length ≤ sizeLine) (hr : Room k callerA)
    (F : ∀ base : Heap, K.In base → base.Ns mainGlobals mg → FnOk P w K mg base CX k fa fd [x] sp) (hbind : ∀ (s : Shared) (u : Value), BindsTo s fd ⟨[u], []⟩ [(x, u)])
    (hsp : ∀ H : Hp, Only H → SqL K H a (ns.map V.int) → sp [.ref a] H (fun v _ => v = .bl true) fun _ _ _ => False)
    (hCX : ∀ H e s', CX [] H s₁ (fun _ _ _ => False) e s' → False) :
    codeAny (model P w) callerA (.call (.ref fa) ⟨[.ref a], []⟩) (fun r s' => r = .ok (.ret (.bool true)) ∧ OldK s₁.heap s'.heap ∧ s'.os = s₁.os ∧ AllBare s'.gens) s₁ := by
  have rv := vals_ints hi
  have lenV := hi.length
  -- from an abstract heap in which nothing but the script may be tracked
  have core : ∀ H : Hp, Only H → SqL K H a (ns.map V.int) → HOk P w H s₁.heap → (∀ b, H b ≠ none → b = a) → (H a ≠ none → K.lookup a = none) →
      codeAny (model P w) callerA (.call (.ref fa) ⟨[.ref a], []⟩) (fun r s' => r = .ok (.ret (.bool true)) ∧ OldK s₁.heap s'.heap ∧ s'.os = s₁.os ∧ AllBare s'.gens) s₁ := by
    intro H hO hS hok hA hK
    have base_of : ∀ {b : Addr} {o : Obj}, s₁.heap.get? b = some o → H b = none → (hidT s₁.heap H).get? b = some o := fun e n => hidT_get e n
    have noA : ∀ {b : Addr} {o : Obj} {es : Array DictEntry} {ep : Nat}, s₁.heap.get? b = some o → o.data = .dict es ep → H b = none := fun {b o es ep} e d => by
      cases q : H b with
      | none => rfl
      | some u =>
        have e' : b = a := hA b (by rw [q]; simp)
        subst e'
        rw [ha] at e; cases e
        have d' : Data.seq vs.toArray _ = Data.dict es ep := d
        cases d'
    have nsK : ∀ {b : Addr} {m : Str → Option Value}, s₁.heap.Ns b m → (hidT s₁.heap H).Ns b m := fun {b m} ⟨o, es, ep, e, d, r⟩ => ⟨o, es, ep, base_of e (noA e d), d, r⟩
    have hKb : K.In (hidT s₁.heap H) := fun b o e => base_of (KX b o e) (by
      cases q : H b with
      | none => rfl
      | some u =>
        have e' : b = a := hA b (by rw [q]; simp)
        subst e'
        rw [hK (by rw [q]; simp)] at e; cases e)
    have hM : Mod K mg (hidT s₁.heap H) := ⟨hKb, nsK hns, ⟨mb, nsK hb, hbb⟩, let ⟨mc, h1, h2⟩ := hlim; ⟨mc, nsK h1, h2⟩⟩
    have e0 : Env0 P w K mg (hidT s₁.heap H) callerA [] s₁ H := ⟨rfl, hM, fun b o e => of_hidT e, Nat.le_of_eq (hidT_size _ _), trivial, fun b hb => absurd (show b ∈ ([] : List Addr) from hb) (by simp), hok, .of_eq hg⟩
    refine codeAny_mono ((F _ hKb (nsK hns)).run callerA [] s₁ H ⟨[.ref a], []⟩ [.ref a] [.ref a] _ _ hr e0 (hbind s₁ (.ref a)) (.cons rfl .nil) (hsp H hO hS)) fun r s' h => ?_
    cases r with
    | error e => exact (hCX H e s' h).elim
    | ok fl =>
      cases fl with
      | next => exact False.elim h
      | brk => exact False.elim h
      | cont => exact False.elim h
      | ret u =>
        obtain ⟨v, H', os, bare, un, hok', r', q⟩ := h
        have q' : v = .bl true := q
        subst q'
        obtain rfl : u = Value.bool true := r'
        refine ⟨rfl, OldK.of_keep fun b o e => ?_, os, bare⟩
        cases q : H b with
        | none => exact un.keep b o e q (by intro z; exact absurd (show b ∈ ([] : List Addr) from z) (by simp)) (by simp)
        | some u =>
          rcases hO b with z | ⟨ob, xs, z⟩
          · rw [q] at z; cases z
          · have z2 := un.frzs b ob _ z
            obtain ⟨e1, _⟩ := hok b _ z
            obtain ⟨e2, _⟩ := hok' b _ z2
            rw [e] at e1; cases e1
            exact e2
  cases hk : K.lookup a with
  | some o =>
    -- the script is one of the module's own objects
    have e := KX a o hk
    rw [ha] at e
    cases e
    refine core (fun _ => none) (fun _ => .inl rfl) (.inr ⟨_, vs.toArray, _, hk, rfl, rfl, rfl, by rw [List.size_toArray, lenV]; exact hl, by simpa using rv⟩) (fun b u z => by have z' : (none : Option HO) = some u := z; cases z') (fun b z => absurd rfl z) fun z => absurd rfl z
  | none =>
    refine core (fun b => if b = a then some (.frz { cls := .type "list", data := .seq vs.toArray } (.lst (ns.map V.int))) else none) (fun b => ?_) (.inl (.inr ⟨{ cls := .type "list", data := .seq vs.toArray }, if_pos rfl⟩)) (fun b u z => ?_) (fun b z => ?_) fun _ => hk
    · by_cases hb : b = a
      · exact .inr ⟨_, _, if_pos hb⟩
      · exact .inl (if_neg hb)
    · by_cases hb : b = a
      · have z' := (if_pos hb).symm.trans z
        cases z'
        subst hb
        exact ⟨ha, by rw [List.length_map]; exact hl, vs, _, rv, ha⟩
      · have z' := (if_neg hb).symm.trans z
        cases z'
    · by_cases hb : b = a
      · exact hb
      · exact absurd (if_neg hb) z
end L2

namespace L2
open PySem PySem.Spec PyProof.Rows

abbrev KOf {K : PySem.W.Frag} {h : Heap} (_ : K.In h) : PySem.W.Frag := K

/-- the goal that k_head leaves (case hc), from the law's promise. F gives the function object fd (K's own) once, then the promise over every base -/
theorem walk_of {l : PySem.W.OpenLaw} {n k : Nat} {q : Program} {loose : List Str} {XP : (Str → Option Value) → Heap → Prop} {YP : World → Heap → Prop} {d : DefRec} {K : Params → PySem.W.Frag} {CX : World → CXT} {sp : World → Sp} {x : Str}
    (hn : l.most = some n) (hn2 : n ≤ sizeLine) (hdf : d.params.defaults = []) (hr : Room k callerA)
    (hY : ∀ (w : World) (h : Heap), YP w h → (K w.params).In h)
    (F : ∀ (w : World) (mg : Str → Option Value) (fa : Addr) (h : Heap), (K w.params).In h → h.Ns mainGlobals mg → mg d.name = some (.ref fa) →
      ∃ fd : FuncData, (∀ (s : Shared) (u : Value), BindsTo s fd ⟨[u], []⟩ [(x, u)]) ∧
        ∀ base : Heap, (K w.params).In base → base.Ns mainGlobals mg → FnOk l.prog w (K w.params) mg base (CX w) k fa fd [x] (sp w))
    (hsp : ∀ (w : World) (H : Hp) (a : Addr) (ns : List Int), ns.length ≤ n → Only H → SqL (K w.params) H a (ns.map V.int) → sp w [.ref a] H (fun v _ => v = .bl true) fun _ _ _ => False)
    (hCX : ∀ (w : World) (H : Hp) (s : Shared) (e : Value) (s' : Shared), CX w [] H s (fun _ _ _ => False) e s' → False) :
    PySem.W.WalkO q loose XP YP l.row.toRowW d [] (fun f vs => PySem.call f vs) := by
  refine Att.attach_call hn hdf fun w s₀ s₁ mg mb fa o pm cd doc a vs ns G Y ho hd hcd hmg hobj hints hlen hg => ?_
  have KX := hY w _ Y
  obtain ⟨fd, hb, hF⟩ := F w mg fa _ KX G.T.g hmg
  exact law_call KX G.T.g G.T.b G.T.builtins G.T.nolimit hg hobj hints (Nat.le_trans hlen hn2) hr hF hb (fun H hO hS => hsp w H a ns hlen hO hS) fun H e s' => hCX w H s₁ e s'
end L2

/- THE LAST THEOREM (shape; LID, My.* are yours):
   My.Adr: a structure of the addresses that your layer names (classes, functions); My.Txt K t: a structure (Prop) of the equations over K;
   My.txt_mk : {K} {implicit addresses ..} (e1 : nsIn K mainGlobals "law" = some (some (.ref f))) (e2 : K.lookup f = some ⟨oc, od, .func (fnOf "law" "law" params body scope dV kV doc pm an cdv ct), sl⟩) (e3 : codeIn K cdv "law" = true) .. : ∃ t, My.Txt K t

set_option maxRecDepth 100000 in
set_option maxHeartbeats 0 in
theorem PySem.Challenge.cw_LID_holds : PySem.Challenge.rw_LID.Holds := by
  w_on; o_law; k_head; (case hw => w_witness2)
  k_fill
  refine L2.walk_of (l := PySem.Challenge.rw_LID) (n := 63) (k := 40) (x := "script") (CX := fun w => ..) (sp := fun _ => My.sp_law) rfl (by decide) rfl ⟨rfl, by decide, by decide⟩ (fun w h Y => PySem.W.kIn_of Y) ?F ?S ?C
  case F =>
    intro w mg fa h KX G hmg
    have T : ∃ t, My.Txt (L2.KOf KX) t := by
      dsimp only [L2.KOf]                          -- K must stand as «<heap const> w.params» for k_is
      refine' My.txt_mk ?e1 ?e2 ?e3 ..
      (case e1 => PySem.W.k_is)                    -- in the order: a name -> its address -> its object -> its parts
      (case e2 => PySem.W.k_is)
      ..
    obtain ⟨t, T⟩ := T
    have e0 := hmg.symm.trans (PySem.W.mg_of KX G T.law)
    cases e0                                       -- fa is the law's own address
    exact ⟨_, fun s u => .of_eq rfl, fun base kb nb => My.law_fn T kb nb⟩     -- if «.of_eq rfl» comes too early: refine' ⟨_, ?b, fun base kb nb => My.law_fn T kb nb⟩; exact fun s u => .of_eq rfl
  case S => exact fun w H a ns hl hO hS => ..
  case C => exact ..
(the tactic k_is has no namespace: write k_is) -/

/-! SHORT WORDS over the layer: a def of the text, its body, what a loop and a test want. -/
namespace L2
open PySem PySem.Spec PyProof.Rows

/-! ### the text by places -/
/-- the j-th statement of a class's body -/
def inClass (s : Stmt) (j : Nat) : Stmt := match s with
  | .ClassDef _ _ _ body _ _ _ _ _ _ _ => body.getD j (.Pass ⟨0, 0, 0, 0⟩)
  | _ => .Pass ⟨0, 0, 0, 0⟩
def defArgs (s : Stmt) : Arguments := match s with
  | .FunctionDef _ a _ _ _ _ _ _ _ _ => a
  | _ => { posonlyargs := [], args := [], vararg := none, kwonlyargs := [], kw_defaults := [], kwarg := none, defaults := [] }
def defBody (s : Stmt) : List Stmt := match s with
  | .FunctionDef _ _ b _ _ _ _ _ _ _ => b
  | _ => []
def defScope (s : Stmt) : Scope := match s with
  | .FunctionDef _ _ _ _ _ _ sc _ _ _ => sc
  | _ => { kind := .function, names := [], isGenerator := false, isCoroutine := false }

/-! ### no exception leaves a def -/
abbrev CX0 : CXT := fun _ _ _ _ _ _ => False
abbrev E0 : XK := fun _ _ _ => False
theorem pass0 {X : Cx} : Passes CX0 X E0 := fun _ _ _ _ _ _ _ h => h.elim

/-! ### a def (or method) of the text as it stands behind the top -/
structure Fun (K : PySem.W.Frag) (x qual : Str) (st : Stmt) (f : Addr) (fd : FuncData) : Prop where
  ex : ∃ (oc : Value) (od : Option Addr) (kV doc pm : Value) (an : Option Addr) (cdv ct : Value) (osl : Array (Option Value)),
    fd = PySem.W.fnOf x qual (defArgs st) (defBody st) (defScope st) .none kV doc pm an cdv ct ∧ K.lookup f = some ⟨oc, od, .func fd, osl⟩ ∧ PySem.W.codeIn K cdv qual = true
  kp : PySem.W.keepIn K (.ref f) = true
section
variable {P : Program} {w : World} {K : PySem.W.Frag} {mg : Str → Option Value} {base : Heap}
/-- THE RULE for a def: its body as a term of rules, and the reading of that term -/
theorem Fun.ok {x qual : Str} {st : Stmt} {f : Addr} {fd : FuncData} {N ps : List Str} {k : Nat} {sp : Sp} (F : Fun K x qual st f fd) (S : FnScope N ps (defScope st)) (len : ∀ vs H Q E, sp vs H Q E → vs.length = ps.length)
    (hbody : ∀ (cdv : Value) (A : Around) (outer : List Env) (s : Shared) (H : Hp) (vs : List V) (Q : VK) (E : XK), Room k (A.deeper (envOfC qual (defScope st) s.heap.objs.size f cdv)) → sp vs H Q E →
      ∃ t, PSs (cxOf CX0 P w K mg base N qual (defScope st) f cdv A outer s H E).nox (defBody st) t ∧ t { nx := fun _ H' => Q .non H', rt := Q } (start N vs) H) : FnOk P w K mg base CX0 (k + 1) f fd ps sp := by
  obtain ⟨oc, od, kV, doc, pm, an, cdv, ct, osl, rfl, lk, hcd⟩ := F.ex
  refine fn_of lk hcd S len fun A outer s H vs Q E hr hsp => ?_
  obtain ⟨t, h, q⟩ := hbody cdv A outer s H vs Q E hr hsp
  exact ⟨t, h.nox, q⟩
/-- how its arguments bind (no defaults): h is «fun _ _ _ _ _ _ us hl => match us, hl with | [_, _], _ => rfl», one _ a parameter -/
theorem Fun.binds {x qual : Str} {st : Stmt} {f : Addr} {fd : FuncData} {ps : List Str} (F : Fun K x qual st f fd)
    (h : ∀ (kV doc pm : Value) (an : Option Addr) (cdv ct : Value) (us : List Value), us.length = ps.length → bindArgs (PySem.W.fnOf x qual (defArgs st) (defBody st) (defScope st) .none kV doc pm an cdv ct) ⟨us, []⟩ = pure (ps.zip us)) : Binds K fd ps [] := by
  obtain ⟨oc, od, kV, doc, pm, an, cdv, ct, osl, rfl, lk, hcd⟩ := F.ex
  exact .all (h kV doc pm an cdv ct)
theorem fun_mk {x qual : Str} {st : Stmt} {f : Addr} {oc : Value} {od an : Option Addr} {osl : Array (Option Value)} {kV doc pm cdv ct : Value} (l : K.lookup f = some ⟨oc, od, .func (PySem.W.fnOf x qual (defArgs st) (defBody st) (defScope st) .none kV doc pm an cdv ct), osl⟩)
    (c : PySem.W.codeIn K cdv qual = true) (k : PySem.W.keepIn K (.ref f) = true) : Fun K x qual st f (PySem.W.fnOf x qual (defArgs st) (defBody st) (defScope st) .none kV doc pm an cdv ct) := ⟨⟨oc, od, kV, doc, pm, an, cdv, ct, osl, rfl, l, c⟩, k⟩
end
theorem small1000 {n : Nat} (h : n ≤ 1000) : n < sizeLine := Nat.lt_of_le_of_lt h (by decide)

/-! ### expressions in short: the name that stands in the i-th slot -/
section
variable {X : Cx}
theorem pv (i : Nat) {x : Str} {pos : Pos} (hN : X.N[i]? = some x := by rfl) (hv : Vis X.env.scope x := by first | exact Or.inl rfl | exact Or.inr (Or.inl rfl) | exact Or.inr (Or.inr rfl)) (hd : (x == ("__debug__" : Str)) = false := by decide)
    (hcd : (x == ("__classdict__" : Str)) = false := by decide) : PE X (.Name x pos) (tVar i) := pe_var hN hv hd hcd
end

/-! ### tests -/
theorem ite2 {c A B : Prop} [Decidable c] (h1 : c → A) (h2 : ¬ c → B) : if c then A else B := by
  by_cases h : c
  · rw [if_pos h]
    exact h1 h
  · rw [if_neg h]
    exact h2 h
/-! ### heaps -/
/-- all that was tracked is as it was -/
def Same (H H' : Hp) : Prop := ∀ b o, H b = some o → H' b = some o
theorem Same.refl (H : Hp) : Same H H := fun _ _ h => h
theorem Same.trans {H H1 H2 : Hp} (a : Same H H1) (b : Same H1 H2) : Same H H2 := fun c o h => b c o (a c o h)
theorem Same.free {H H' : Hp} (e : Same H H') {l : Addr} (h : H' l = Option.none) : H l = Option.none := by
  cases q : H l with
  | none => rfl
  | some o =>
    rw [e l o q] at h
    cases h
theorem Same.seq {K : PySem.W.Frag} {H H' : Hp} {a : Addr} {xs : List V} (e : Same H H') (h : SqL K H a xs) : SqL K H' a xs := by
  rcases h with (h | ⟨o, h⟩) | h
  · exact .inl (.inl (e _ _ h))
  · exact .inl (.inr ⟨o, e _ _ h⟩)
  · exact .inr h

end L2
set_option maxHeartbeats 4000000
/-! More rules over the hand layer: isinstance, list equality, unpacking of a list, all, reversed. -/
namespace L2
open PySem PySem.Spec PyProof.Rows

/-! ### isinstance with a built-in type -/
/-- is a value of the type t of the type T -/
def isa (t T : String) : Bool := t == T || (t == "bool" && T == "int")
/-- the type's name of a value -/
def tyN (K : PySem.W.Frag) (x : V) (H : Hp) (t : String) : Prop :=
  match x with
  | .non => t = "NoneType"
  | .bl _ => t = "bool"
  | .int _ => t = "int"
  | .str _ => t = "str"
  | .ref p => (t = "list" ∧ ∃ xs, SqL K H p xs) ∨ (t = "tuple" ∧ ∃ xs, SqT K H p xs)
  | _ => False
def isiTs : List String := ["int", "bool", "str", "list", "tuple", "dict"]
section
variable {X : Cx}
theorem call_isi : CallR X (.builtin "isinstance") (fun xs H Q => ∃ x T t, xs = [x, .ty T] ∧ T ∈ isiTs ∧ tyN X.K x H t ∧ Q (.bl (isa t T)) H) := by
  intro pins s σ H xs us Q I r h
  obtain ⟨x, T, t, rfl, hT, ht, q⟩ := h
  obtain ⟨u, w', rfl, rx, rT⟩ := vals2 r
  cases rT
  have hT' : T = "int" ∨ T = "bool" ∨ T = "str" ∨ T = "list" ∨ T = "tuple" ∨ T = "dict" := by simpa [isiTs] using hT
  have fin : ∀ {k : Bool} {s' : Shared}, isa t T = k → Inv X pins σ H s' → EP X pins σ Q (.bool k) s' := fun {k s'} e I' => by subst e; exact ⟨.bl _, H, I', rfl, q⟩
  cases x with
  | non =>
    cases rx
    have ht' : t = "NoneType" := ht
    subst ht'
    rcases hT' with rfl | rfl | rfl | rfl | rfl | rfl
    · exact IsiPair.NoneType_int (fin (by decide) (I.tok _))
    · exact IsiPair.NoneType_bool (fin (by decide) (I.tok _))
    · exact IsiPair.NoneType_str (fin (by decide) (I.tok _))
    · exact IsiPair.NoneType_list (fin (by decide) (I.tok _))
    · exact IsiPair.NoneType_tuple (fin (by decide) (I.tok _))
    · exact IsiPair.NoneType_dict (fin (by decide) (I.tok _))
  | bl b =>
    cases rx
    have ht' : t = "bool" := ht
    subst ht'
    rcases hT' with rfl | rfl | rfl | rfl | rfl | rfl
    · exact IsiPair.bool_int (fin (by decide) I)
    · exact IsiPair.bool_bool (fin (by decide) I)
    · exact IsiPair.bool_str (fin (by decide) (I.tok _))
    · exact IsiPair.bool_list (fin (by decide) (I.tok _))
    · exact IsiPair.bool_tuple (fin (by decide) (I.tok _))
    · exact IsiPair.bool_dict (fin (by decide) (I.tok _))
  | int i =>
    obtain ⟨tk, rfl⟩ := rx
    have ht' : t = "int" := ht
    subst ht'
    rcases hT' with rfl | rfl | rfl | rfl | rfl | rfl
    · exact IsiPair.int_int (fin (by decide) I)
    · exact IsiPair.int_bool (fin (by decide) (I.tok _))
    · exact IsiPair.int_str (fin (by decide) (I.tok _))
    · exact IsiPair.int_list (fin (by decide) (I.tok _))
    · exact IsiPair.int_tuple (fin (by decide) (I.tok _))
    · exact IsiPair.int_dict (fin (by decide) (I.tok _))
  | str y =>
    obtain ⟨tk, rfl⟩ := rx
    have ht' : t = "str" := ht
    subst ht'
    rcases hT' with rfl | rfl | rfl | rfl | rfl | rfl
    · exact IsiPair.str_int (fin (by decide) (I.tok _))
    · exact IsiPair.str_bool (fin (by decide) (I.tok _))
    · exact IsiPair.str_str (fin (by decide) I)
    · exact IsiPair.str_list (fin (by decide) (I.tok _))
    · exact IsiPair.str_tuple (fin (by decide) (I.tok _))
    · exact IsiPair.str_dict (fin (by decide) (I.tok _))
  | ref p =>
    cases rx
    have ht' : (t = "list" ∧ ∃ xs, SqL X.K H p xs) ∨ (t = "tuple" ∧ ∃ xs, SqT X.K H p xs) := ht
    rcases ht' with ⟨rfl, ys, hy⟩ | ⟨rfl, ys, hy⟩
    · obtain ⟨its, rv, ⟨o, n, e, hc, _, _⟩, hz⟩ := I.list hy
      rcases hT' with rfl | rfl | rfl | rfl | rfl | rfl
      · exact IsiPair.list_int e hc (fin (by decide) (I.tok _))
      · exact IsiPair.list_bool e hc (fin (by decide) (I.tok _))
      · exact IsiPair.list_str e hc (fin (by decide) (I.tok _))
      · exact IsiPair.list_list e hc (fin (by decide) I)
      · exact IsiPair.list_tuple e hc (fin (by decide) (I.tok _))
      · exact IsiPair.list_dict e hc (fin (by decide) (I.tok _))
    · obtain ⟨its, rv, ⟨o, e, hc, n, _⟩, hz⟩ := I.tuple hy
      rcases hT' with rfl | rfl | rfl | rfl | rfl | rfl
      · exact IsiPair.tuple_int e hc (fin (by decide) (I.tok _))
      · exact IsiPair.tuple_bool e hc (fin (by decide) (I.tok _))
      · exact IsiPair.tuple_str e hc (fin (by decide) (I.tok _))
      · exact IsiPair.tuple_list e hc (fin (by decide) (I.tok _))
      · exact IsiPair.tuple_tuple e hc (fin (by decide) I)
      · exact IsiPair.tuple_dict e hc (fin (by decide) (I.tok _))
  | _ => exact (show False from ht).elim

/-! ### two lists of ints compared -/
def rEqI (K : PySem.W.Frag) : R2 := fun x y H Q => ∃ (a b : Addr) (ns ms : List Int), x = .ref a ∧ y = .ref b ∧ SqL K H a (ns.map V.int) ∧ SqL K H b (ms.map V.int) ∧ Q (.bl (decide (ns = ms))) H
def rNeI (K : PySem.W.Frag) : R2 := fun x y H Q => ∃ (a b : Addr) (ns ms : List Int), x = .ref a ∧ y = .ref b ∧ SqL K H a (ns.map V.int) ∧ SqL K H b (ms.map V.int) ∧ Q (.bl (!decide (ns = ms))) H
theorem op_eqI (hu : X.A.units + 64 < cLine) : OpR X (compareOp .Eq) (rEqI X.K) := by
  intro pins s σ H x y v u Q I rx ry h
  obtain ⟨a, b, ns, ms, rfl, rfl, ha, hb, q⟩ := h
  cases rx
  cases ry
  obtain ⟨i1, r1, p1, _⟩ := I.list ha
  obtain ⟨i2, r2, p2, _⟩ := I.list hb
  exact PySem.W.eq_intsK p1.isList (intsAre_of r1) p2.isList (intsAre_of r2) hu ⟨.bl _, H, I, rfl, q⟩
theorem op_neI (hu : X.A.units + 64 < cLine) : OpR X (compareOp .NotEq) (rNeI X.K) := by
  intro pins s σ H x y v u Q I rx ry h
  obtain ⟨a, b, ns, ms, rfl, rfl, ha, hb, q⟩ := h
  cases rx
  cases ry
  obtain ⟨i1, r1, p1, _⟩ := I.list ha
  obtain ⟨i2, r2, p2, _⟩ := I.list hb
  exact PySem.W.ne_intsK p1.isList (intsAre_of r1) p2.isList (intsAre_of r2) hu ⟨.bl _, H, I, rfl, q⟩
end

/-! ### a, b = a list -/
section
variable {prog : Program} {w : World} {A : Around} {E : Value → Shared → Prop}
end
section
variable {X : Cx} {pos : Pos}
def gLst (K : PySem.W.Frag) (n : Nat) (t : TGs) : TG := fun v σ H Q => ∃ a xs, v = .ref a ∧ SqL K H a xs ∧ xs.length = n ∧ t xs σ H Q
/-! ### all(a list of truths) -/
/-! ### for x in reversed(a list) -/
def Itv (K : PySem.W.Frag) (a : Addr) (n : Nat) : It :=
  ⟨fun i H => i < n ∧ ∃ xs, SqL K H a xs ∧ xs.length = n, fun i H x H' => H' = H ∧ ∀ xs, SqL K H a xs → xs[n - 1 - i]? = some x, fun i _ => n ≤ i⟩
def iRev (K : PySem.W.Frag) (ta : TA) : TI := fun σ H R => ta σ H fun vs H1 => ∃ a xs, vs = [.ref a] ∧ SqL K H1 a xs ∧ R (Itv K a xs.length) H1
end
end L2

/-! A list comprehension of one clause, over the hand layer. -/
namespace L2
open PySem PySem.Spec PyProof.Rows

/-- the context of a comprehension's block; no exception leaves it -/
abbrev Cx.comp (X : Cx) (scope : Scope) (cl : List (Str × Addr)) (N : List Str) (s : Shared) (H : Hp) (fp : List Addr) (C : Addr) : Cx where
  prog := X.prog
  w := X.w
  K := X.K
  mg := X.mg
  base := X.base
  A := X.A
  N := N
  s₀ := s
  H₀ := H
  env := compEnvC scope cl C X.env
  outer := X.stack
  stack := X.stack
  ex := fp
  fn := fun _ => false
  calm := X.calm
  pn := []
  xe := fun _ _ => False

/-- the cells handed in are those of the frame around -/
def subCl (env : Env) : List (Str × Addr) → Prop
  | [] => True
  | p :: r => env.cells.lookup p.1 = some p.2 ∧ subCl env r
theorem subCl.all {env : Env} : ∀ {cl : List (Str × Addr)}, subCl env cl → ∀ p ∈ cl, env.cells.lookup p.1 = some p.2
  | [], _, p, hp => by simp at hp
  | _ :: _, h, p, hp => (List.mem_cons.mp hp).elim (fun e => e ▸ h.1) (subCl.all h.2 p)
theorem subCl.at {env : Env} {cl : List (Str × Addr)} {x : Str} {c : Addr} (h : subCl env cl) (e : cl.lookup x = some c) : env.cells.lookup x = some c :=
  h.all (x, c) (PySem.mem_of_lookup e)
/-- the names ys that the block has from around, by their slots js there -/
def capt (X : Cx) (scope : Scope) (cl : List (Str × Addr)) : List Str → List Nat → Prop
  | [], [] => True
  | y :: ys, j :: js => (X.N[j]? = some y ∧ X.env.kindOf y = some .cell ∧ (relabel scope X.env).names.lookup y = some .cell ∧ ∃ c, cl.lookup y = some c) ∧ capt X scope cl ys js
  | _, _ => False
theorem capt.get {X : Cx} {scope : Scope} {cl : List (Str × Addr)} : ∀ {ys : List Str} {js : List Nat} {k : Nat} {y : Str}, capt X scope cl ys js → ys[k]? = some y →
    ∃ j, js[k]? = some j ∧ X.N[j]? = some y ∧ X.env.kindOf y = some .cell ∧ (relabel scope X.env).names.lookup y = some .cell ∧ ∃ c, cl.lookup y = some c
  | [], [], k, y, _, e => by simp at e
  | y' :: ys, j :: js, 0, y, h, e => by
    simp at e
    subst e
    exact ⟨j, rfl, h.1⟩
  | y' :: ys, j :: js, k + 1, y, h, e => by
    obtain ⟨j', e1, r⟩ := capt.get (k := k) h.2 (by simpa using e)
    exact ⟨j', by simpa using e1, r⟩
  | [], _ :: _, _, _, h, _ => h.elim
  | _ :: _, [], _, _, h, _ => h.elim
theorem capt.len {X : Cx} {scope : Scope} {cl : List (Str × Addr)} : ∀ {ys : List Str} {js : List Nat}, capt X scope cl ys js → ys.length = js.length
  | [], [], _ => rfl
  | _ :: _, _ :: _, h => by rw [List.length_cons, List.length_cons, capt.len h.2]
  | [], _ :: _, h => h.elim
  | _ :: _, [], h => h.elim
/-- the block's names at its entry: k targets, then what comes from around -/
def capSt (k : Nat) (js : List Nat) (σ : St) : St := List.replicate k none ++ js.map fun j => σ.getD j none

/-- the tests of the clause -/
def PIf (X : Cx) (ifs : List Expr) (t : TT) : Prop :=
  ∀ (pins : List (Addr × Obj)) (s : Shared) (σ : St) (H : Hp) (Q : Bool → Hp → Prop), Inv X pins σ H s → t σ H Q →
    wpAny (model X.prog X.w) X.A (forIn ifs true fun c r => if r = true then do let ok ← isTrue c X.env (eval c X.env); pure (ForInStep.yield ok) else pure (ForInStep.yield r)) (TP X pins σ Q) X.xe s
def tYes : TT := fun _ H Q => Q true H
theorem pif_nil {X : Cx} : PIf X [] tYes := fun _ _ _ H _ I h => wpAny_tests_nil ⟨H, I, h⟩
theorem pif_one {X : Cx} {c : Expr} {t : TT} (h : PT X c t) : PIf X [c] t := fun pins s σ H Q I hq => wpAny_tests_one (h pins s σ H Q I hq)

/-- the turns of a comprehension by an invariant W and a measure -/
def CompR (J : It) (k : Nat) (js : List Nat) (g : TG) (tc : TT) (te : TE) (σ : St) (Q : VK) (H1 : Hp) : Prop :=
  ∃ W : Nat → Nat → St → List V → Hp → Prop, (∃ m, W 0 m (capSt k js σ) [] H1) ∧ ∀ i m σ' xs H', W i m σ' xs H' →
    (J.stop i H' ∧ ∀ p, H' p = none → Q (.ref p) (upd H' p (.lst xs))) ∨
    (J.go i H' ∧ xs.length < sizeLine ∧ ∃ N : St → List V → Hp → Prop, (∀ σ' ys H', N σ' ys H' → ∃ m', m' < m ∧ W (i + 1) m' σ' ys H') ∧
      ∀ x H2, J.yld i H' x H2 → g x σ' H2 fun σ3 H3 => tc σ3 H3 fun b H4 => if b = true then te σ3 H4 fun v H5 => N σ3 (xs ++ [v]) H5 else N σ3 xs H4)
def tComp (wi : TI) (k : Nat) (js : List Nat) (g : TG) (tc : TT) (te : TE) : TE := fun σ H Q => wi σ H fun J H1 => CompR J k js g tc te σ Q H1

section
variable {prog : Program} {w : World} {A : Around} {R : Result → Shared → Prop} {s : Shared}
theorem compLoop_gen {elt target iter : Expr} {ifs : List Expr} {scope : Scope} {pos : Pos} {it acc : Value} {env : Env} (I : Nat → Shared → Prop)
    (turn : ∀ n s, I n s → wpAny (model prog w) A (pyNext it) (fun r s₁ => match r with
      | none => R (.ok .next) s₁
      | some v => wpAny (model prog w) A (letOwnedTupleGo target it v) (fun _ s₀ => wpAny (model prog w) A (assign target env v) (fun _ s₂ =>
          wpAny (model prog w) A (forIn ifs true fun c r => if r = true then do let ok ← isTrue c env (eval c env); pure (ForInStep.yield ok) else pure (ForInStep.yield r)) (fun ok s₃ =>
            if ok = true then wpAny (model prog w) A (eval elt env) (fun x s₄ =>
              wpAny (model prog w) A (call (.builtin "list.append") [acc, x]) (fun _ s₅ => ∃ m, m < n ∧ I m s₅) (fun _ _ => False) s₄) (fun _ _ => False) s₃
            else ∃ m, m < n ∧ I m s₃) (fun _ _ => False) s₂) (fun _ _ => False) s₀) (fun _ _ => False) s₁) (fun _ _ => False) s)
    (n : Nat) (h : I n s) : codeAny (model prog w) A (.compLoop (.ListComp elt [⟨target, iter, ifs, 0⟩] scope pos) 0 it acc env) R s := by
  refine codeAny_loop rfl I (fun n s hI => ?_) n h
  show wpAny _ A ((compTurn (.ListComp elt [⟨target, iter, ifs, 0⟩] scope pos) 0 it acc env).onRaise (fun x => do noteFrame x env; theTreesLotGoes x)) _ _ s
  refine wpAny_noted ?_
  rw [compTurn_list]
  refine wpAny_bind (wpAny_standAt (wpAny_bind (wpAny_mono (turn n s hI) (fun r s₁ h₁ => ?_) fun _ _ z => False.elim z)))
  cases r with
  | none => exact wpAny_pure h₁
  | some v =>
    refine wpAny_bind (wpAny_mono h₁ (fun _ s₀ h₀ => ?_) fun _ _ z => False.elim z)
    refine wpAny_bind (wpAny_mono h₀ (fun _ s₂ h₂ => wpAny_bind (wpAny_mono h₂ (fun ok s₃ h₃ => ?_) fun _ _ z => False.elim z)) fun _ _ z => False.elim z)
    cases ok with
    | false => exact wpAny_pure ⟨rfl, h₃⟩
    | true =>
      exact wpAny_bind (wpAny_bind (wpAny_mono h₃ (fun x s₄ h₄ => wpAny_bind (wpAny_mono h₄ (fun _ s₅ h₅ => wpAny_pure (wpAny_pure ⟨rfl, h₅⟩)) fun _ _ z => False.elim z)) fun _ _ z => False.elim z))
end

/-- an untracked record has turned, another one is tracked now -/
theorem HOk.but {P : Program} {w : World} {H : Hp} {h h' : Heap} {C : Addr} (x : HOk P w H h) (hn : H C = none) (k : ∀ b o, b ≠ C → h.get? b = some o → h'.get? b = some o) : HOk P w H h' := fun b u e =>
  (x b u e).stay (fun c v hc q => k c v (by
    rcases hc with z | z
    · intro y; rw [← z, y, hn] at e; cases e
    · intro y; rw [y, hn] at z; cases z) q) (fun _ q => q) fun _ _ q => q
theorem HOk.track {P : Program} {w : World} {H : Hp} {h : Heap} {a : Addr} {o : HO} (x : HOk P w H h) (hn : H a = none) (new : ObjOk P w (upd H a o) h a o) : HOk P w (upd H a o) h := fun b u e => by
  by_cases hb : b = a
  · subst hb; rw [upd_same] at e; cases e; exact new
  · rw [upd_ne hb] at e
    exact (x b u e).stay (fun _ _ _ q => q) (fun c q => by rw [upd_ne (ne_of_none q hn)]; exact q) fun c xs q => by rw [upd_ne (ne_of_none q hn)]; exact q

section
variable {X : Cx} {elt tg iter : Expr} {ifs : List Expr} {scope : Scope} {cl : List (Str × Addr)} {ts ys : List Str} {js : List Nat} {pos : Pos} {wi : TI} {g : TG} {tc : TT} {te : TE}

theorem capSt_get {k : Nat} {σ : St} {i : Nat} {v : V} (h : (capSt k js σ)[i]? = some (some v)) : ∃ n j, i = k + n ∧ js[n]? = some j ∧ σ[j]? = some (some v) := by
  unfold capSt at h
  by_cases hi : i < k
  · rw [List.getElem?_append_left (by simpa using hi), List.getElem?_replicate] at h
    split at h <;> cases h
  · rw [List.getElem?_append_right (by simpa using hi), List.getElem?_map, List.length_replicate] at h
    cases e : js[i - k]? with
    | none => rw [e] at h; cases h
    | some j =>
      rw [e] at h
      have h' : σ.getD j none = some v := Option.some.inj h
      refine ⟨i - k, j, by omega, e, ?_⟩
      rw [List.getD_eq_getElem?_getD] at h'
      cases q : σ[j]? with
      | none => rw [q] at h'; cases h'
      | some o => rw [q] at h'; exact congrArg some h'

/-- the block's entry -/
theorem inv_comp {pins : List (Addr × Obj)} {σ : St} {H : Hp} {s : Shared} {fp : List Addr} {C : Addr} {h1 : Heap} {m : Str → Option Value} {t' : Nat} (I : Inv X pins σ H s) (hsub : subCl X.env cl) (hcap : capt X scope cl ys js)
    (hkind : scope.kind = .function) (hhas : ∀ x, ((relabel scope X.env).names.lookup x = some .cell ∨ (relabel scope X.env).names.lookup x = some .free) → ∃ c, cl.lookup x = some c)
    (f2 : ∀ b ∈ fp, FpOk X pins H b) (fl : ∀ b ∈ fp, b < s.heap.objs.size) (hC : s.heap.objs.size ≤ C) (hn : h1.Ns C m) (old : ∀ b o, s.heap.get? b = some o → h1.get? b = some o) :
    Inv (X.comp scope cl (ts ++ ys) s H fp C) [] (capSt ts.length js σ) H { s with heap := h1, toks := t' } := by
  obtain ⟨mo, hno, hlo⟩ := id I.loc
  refine ⟨⟨I.ok.mod, hkind, I.ok.glob, I.ok.blt, hC, fun x y c e1 e2 => I.ok.inj x y c (hsub.at e1) (hsub.at e2), fun x hx => hhas x hx, fun x c z _ => (by cases z), I.ok.hd, I.ok.frames, .inl rfl,
      fun b hb => ⟨Nat.ne_of_lt (Nat.lt_of_lt_of_le (fl b hb) hC), fun x c e => (f2 b hb).2.2.2.2.1 x c (hsub.at e)⟩, I.bs, Nat.le_trans I.ok.bsz I.sz, fun b o e hb => ?_, fun b hb z => ?_, I.stack, I.stkFree⟩,
    rfl, I.bare, Un.kept old, ⟨m, hn, fun i x v e1 e2 e3 => ?_⟩, fun x c e => ?_, I.hok.fresh hC, fun x c e => I.freeC x c (hsub.at e), fun p hp => absurd (show p ∈ ([] : List (Addr × Obj)) from hp) (by simp), I.hok.kept old, ?_⟩
  · -- an object of the base is none of the iterator's
    obtain ⟨_, _, _, h3, _⟩ := f2 b hb
    rcases h3 with z | z
    · exact I.ok.noex b o e z
    · exact absurd (Nat.lt_of_lt_of_le (Heap.lt_size e) (Nat.le_trans I.ok.bsz z)) (Nat.lt_irrefl _)
  · obtain ⟨_, h1', h2', _⟩ := f2 b hb
    rcases List.mem_cons.mp (I.stkSub b z) with e | e
    · exact h1' e
    · exact h2' e
  · obtain ⟨n, j, rfl, ej, es⟩ := capSt_get e2
    have ey : ys[n]? = some x := by
      have e1' : (ts ++ ys)[ts.length + n]? = some x := e1
      rw [List.getElem?_append_right (by omega)] at e1'
      simpa using e1'
    obtain ⟨j', ej', hN, hk, hr, c, hc⟩ := hcap.get ey
    rw [ej] at ej'
    cases ej'
    obtain ⟨u, ru, l⟩ := hlo j x v hN es (.inr (.inl hk))
    refine ⟨u, ru, .inr ⟨.inl hr, c, hc, ?_⟩⟩
    rcases l with ⟨k1, _⟩ | ⟨_, c', hc', ⟨o, ho, hd⟩⟩
    · rw [hk] at k1; cases k1
    · have := hsub.at hc
      rw [hc'] at this
      cases this
      exact ⟨o, old _ o ho, hd⟩
  · obtain ⟨v, o, ho, hd⟩ := I.cell x c (hsub.at e)
    exact ⟨v, o, old _ o ho, hd⟩
  · show (capSt ts.length js σ).length = (ts ++ ys).length
    unfold capSt
    rw [List.length_append, List.length_append, List.length_replicate, List.length_map, hcap.len]

/-- behind the block -/
theorem comp_end {pins pins' : List (Addr × Obj)} {σ σ' : St} {H2 H3 : Hp} {s2 s4 : Shared} {fp : List Addr} {C D : Addr} {N : List Str} {h' : Heap} {its : List Value} {xs : List V} {n : Nat} (I2 : Inv X pins σ H2 s2) (f2 : ∀ b ∈ fp, FpOk X pins H2 b)
    (I4 : Inv (X.comp scope cl N s2 H2 fp C) pins' σ' H3 s4) (hC : s2.heap.objs.size ≤ C) (hD : s2.heap.objs.size ≤ D) (hDC : D ≠ C) (hs' : Heap.SameBut C s4.heap h') (rv : Vals xs its) (hz : xs.length ≤ sizeLine) (e4 : s4.heap.get? D = some { cls := .type "list", data := .seq its.toArray n }) (hn : H3 D = none) :
    Inv X pins σ (upd H3 D (.lst xs)) { s4 with heap := h' } := by
  have ext := hs'.extBut
  have neC : ∀ b o, s2.heap.get? b = some o → b ≠ C := fun b o e => Nat.ne_of_lt (Nat.lt_of_lt_of_le (Heap.lt_size e) hC)
  have neD : ∀ b o, s2.heap.get? b = some o → b ≠ D := fun b o e => Nat.ne_of_lt (Nat.lt_of_lt_of_le (Heap.lt_size e) hD)
  have hok : HOk X.prog X.w (upd H3 D (.lst xs)) h' := by
    have h1 : HOk X.prog X.w H3 h' := HOk.but (C := C) I4.hok I4.free fun b o hb e => ext b o hb e
    exact HOk.track h1 hn ⟨hz, its, n, rv, ext D _ hDC e4⟩
  have B : Un (frs X.stack) fp H2 H3 s2.heap s4.heap := I4.base
  have u : Un (frs X.stack) fp H2 (upd H3 D (.lst xs)) s2.heap h' := by
    refine ⟨fun b o e q hb hx => ext b o (neC b o e) (B.keep b o e q hb hx), fun b o e q hb hx => ?_, fun b o e q hx => ?_, fun b o e hx => ?_, fun b ys q => ?_, fun b o ys q => ?_, fun b ps q => ?_⟩
    · obtain ⟨sl, e1⟩ := B.slot b o e q hb hx
      exact ⟨sl, ext b _ (neC b o e) e1⟩
    · rw [upd_ne (neD b o e)]; exact B.free b o e q hx
    · obtain ⟨o', e1⟩ := B.there b o e hx
      exact ⟨o', ext b _ (neC b o e) e1⟩
    · have := B.tups b ys q
      rw [upd_ne (ne_of_none this hn)]; exact this
    · have := B.frzs b o ys q
      rw [upd_ne (ne_of_none this hn)]; exact this
    · obtain ⟨m1, e1⟩ := B.tbls b ps q
      exact ⟨m1, by rw [upd_ne (ne_of_none e1 hn)]; exact e1⟩
  have os : s4.os = s2.os := I4.os
  have gb := I4.bare
  obtain ⟨hh, gg, dd, tt, os'⟩ := s4
  obtain rfl : os' = s2.os := os
  have fin := I2.call (h' := h') (g' := gg) (d' := dd) (t' := tt) (ch := fp) u hok gb fun b hb => ⟨(f2 b hb).2.2.2.1, (f2 b hb).2.1, (f2 b hb).2.2.2.2.1, (f2 b hb).2.2.2.2.2⟩
  exact fin

theorem pe_comp (ts ys : List Str) (js : List Nat) (hc : X.calm = true) (hi : PI X tg iter wi) (hclos : closureFor scope X.env = pure cl) (hsub : subCl X.env cl) (hcap : capt X scope cl ys js)
    (hg : ∀ s H fp C, PG (X.comp scope cl (ts ++ ys) s H fp C) tg g) (ht : ∀ s H fp C, PIf (X.comp scope cl (ts ++ ys) s H fp C) ifs tc) (he : ∀ s H fp C, PE (X.comp scope cl (ts ++ ys) s H fp C) elt te)
    (hkind : scope.kind = .function := by rfl) (hcell : (scope.names.all fun y => y.2 != .cell) = true := by rfl)
    (hnames : (scope.names.all fun y => y.2 != .local || scope.names.lookup y.1 == some .local) = true := by rfl)
    (hhas : ((relabel scope X.env).names.all fun p => (p.2 != .cell && p.2 != .free) || (cl.lookup p.1).isSome) = true := by rfl)
    (hs : ∀ x, foldedSetIterable iter X.env x = pure x := by intro _; rfl) : PE X (.ListComp elt [⟨tg, iter, ifs, 0⟩] scope pos) (tComp wi ts.length js g tc te) := by
  intro pins s σ H Q I h
  have hcell' : ∀ y ∈ scope.names, y.2 ≠ .cell := fun y hy z => by
    have := List.all_eq_true.mp hcell y hy
    rw [z] at this
    exact absurd this (by decide)
  have hnames' : ∀ y ∈ scope.names, y.2 = .local → scope.names.lookup y.1 = some .local := fun y hy z => by
    have := List.all_eq_true.mp hnames y hy
    rw [z] at this
    simpa using this
  have hhas' : ∀ x, ((relabel scope X.env).names.lookup x = some .cell ∨ (relabel scope X.env).names.lookup x = some .free) → ∃ c, cl.lookup x = some c := fun x hx => by
    rcases hx with hx | hx
    · have := List.all_eq_true.mp hhas _ (PySem.mem_of_lookup hx)
      exact Option.isSome_iff_exists.mp (by simpa using this)
    · have := List.all_eq_true.mp hhas _ (PySem.mem_of_lookup hx)
      exact Option.isSome_iff_exists.mp (by simpa using this)
  rw [eval_ListComp]
  refine wpAny_comprehension_free (use := none) rfl hs hclos hkind hnames' (thn (hi pins s σ H _ I h) fun v s1 h1 => thn h1 fun itv s2 h2 => ?_)
  obtain ⟨it, fp, tn, J, H2, e, I2, T, st2, f2, W, ⟨m0, w0⟩, turn⟩ := h2
  subst e
  have fl : ∀ b ∈ fp, b < s2.heap.objs.size := fun b hb => by
    obtain ⟨o, e, _⟩ := T.obj _ _ st2 b hb
    exact Heap.lt_size e
  refine wpAny_newObj_type (wpAny_newFunctionEnv hcell' (by intro y hy; simp at hy) (fun h₁ hns₁ hsb₁ => ?_) hkind)
  dsimp only at hns₁ hsb₁ ⊢
  generalize hHH : s2.heap.push { cls := .type "list", dict := none, data := .seq ([] : List Value).toArray } = HH at hns₁ hsb₁ ⊢
  have hC : HH.objs.size = s2.heap.objs.size + 1 := by rw [← hHH, Heap.size_push]
  have hDC : s2.heap.objs.size ≠ HH.objs.size := by rw [hC]; exact Nat.ne_of_lt (Nat.lt_succ_self _)
  have hCle : s2.heap.objs.size ≤ HH.objs.size := by rw [hC]; exact Nat.le_succ _
  have old : ∀ b o, s2.heap.get? b = some o → h₁.get? b = some o := fun b o e =>
    hsb₁.extBut b o (Nat.ne_of_lt (Nat.lt_of_lt_of_le (Heap.lt_size e) hCle)) (Heap.get?_push_of_some _ (hHH ▸ Heap.get?_push_of_some _ e))
  have hacc : h₁.get? s2.heap.objs.size = some { cls := .type "list", data := .seq ([] : List Value).toArray } := hsb₁.extBut _ _ hDC (Heap.get?_push_of_some _ (hHH ▸ Heap.get?_push_size _ rfl))
  have nofs : ∀ b, s2.heap.objs.size ≤ b → b ∉ frs X.stack := fun b hb z => by
    rcases List.mem_cons.mp (I2.stkSub b z) with e | e
    · exact absurd (Nat.lt_of_lt_of_le I2.lt (e ▸ hb)) (Nat.lt_irrefl _)
    · exact I2.nofs hb e
  have nocell : ∀ b, s2.heap.objs.size ≤ b → ∀ x c, cl.lookup x = some c → c ≠ b := fun b hb x c e z => by
    obtain ⟨v, q⟩ := I2.cell x c (hsub.at e)
    exact absurd (Nat.lt_of_lt_of_le q.lt (z ▸ hb)) (Nat.lt_irrefl _)
  have I' : Inv (X.comp scope cl (ts ++ ys) s2 H2 fp HH.objs.size) [] (capSt ts.length js σ) H2 { s2 with heap := h₁, toks := s2.toks + ([] : List (Str × Value)).length } :=
    inv_comp I2 hsub hcap hkind hhas' f2 fl hCle hns₁ old
  have addPin : ∀ {σ' : St} {H' : Hp} {s' : Shared} {o : Obj}, Inv (X.comp scope cl (ts ++ ys) s2 H2 fp HH.objs.size) [] σ' H' s' → s'.heap.get? s2.heap.objs.size = some o → H' s2.heap.objs.size = none → (∀ v, o.data ≠ .cell v) →
      Inv (X.comp scope cl (ts ++ ys) s2 H2 fp HH.objs.size) [(s2.heap.objs.size, o)] σ' H' s' := fun {σ' H' s' o} J e n d => J.pins_of fun p hp => by
    have e' : p = (s2.heap.objs.size, o) := by simpa using hp
    subst e'
    exact ⟨e, n, hDC, nofs _ (Nat.le_refl _), d⟩
  have stat : ∀ {pins' : List (Addr × Obj)} {H' : Hp}, (∀ p ∈ pins', p.1 = s2.heap.objs.size) → (∀ b ∈ fp, H' b = none) → ∀ b ∈ fp, FpOk (X.comp scope cl (ts ++ ys) s2 H2 fp HH.objs.size) pins' H' b := fun {pins' H'} hp hn b hb =>
    ⟨hn b hb, Nat.ne_of_lt (Nat.lt_of_lt_of_le (fl b hb) hCle), I'.ok.exfs b hb, .inl hb, (I'.ok.exf b hb).2, fun p hq z => by
      have hq' : p ∈ pins' := by simpa using hq
      exact absurd (fl b hb) (by rw [← z, hp p hq']; exact Nat.lt_irrefl _)⟩
  have tn1 : tn 0 h₁ := T.keep _ _ _ st2 fun b _ o e => old b o e
  have loop : ∀ s₃ : Shared, s₃ = { s2 with heap := h₁, toks := s2.toks + ([] : List (Str × Value)).length } →
      codeAny (model X.prog X.w) X.A (.compLoop (.ListComp elt [⟨tg, iter, ifs, 0⟩] scope pos) 0 (.ref it) (.ref s2.heap.objs.size) (compEnvC scope cl HH.objs.size X.env))
        (compPost (model X.prog X.w) X.A X.xe none (EP X pins σ Q) (.ref s2.heap.objs.size) HH.objs.size) s₃ := by
    rintro s₃ rfl
    refine compLoop_gen (fun n s' => ∃ i σ' xs H' its nn, Inv (X.comp scope cl (ts ++ ys) s2 H2 fp HH.objs.size) [] σ' H' s' ∧ Vals xs its ∧ xs.length ≤ sizeLine ∧ s'.heap.get? s2.heap.objs.size = some { cls := .type "list", data := .seq its.toArray nn } ∧ H' s2.heap.objs.size = none ∧
      tn i s'.heap ∧ (∀ b ∈ fp, H' b = none) ∧ W i n σ' xs H') ?_ m0 ⟨0, _, [], H2, [], 0, I', .nil, Nat.zero_le _, hacc, I2.hok.fresh (Nat.le_refl _), tn1, fun b hb => (f2 b hb).1, w0⟩
    rintro n s3 ⟨i, σ3, xs, H3, its, nn, I3, rv, hz3, ac3, nD3, st3, fr3, w3⟩
    have nd : ∀ v, ({ cls := .type "list", data := .seq its.toArray nn } : Obj).data ≠ .cell v := fun v z => by
      have z' : Data.seq its.toArray nn = Data.cell v := z
      cases z'
    have I3p := addPin I3 ac3 nD3 nd
    have pinD : ∀ p ∈ [(s2.heap.objs.size, ({ cls := .type "list", data := .seq its.toArray nn } : Obj))], p.1 = s2.heap.objs.size := fun p hp => by
      rw [List.mem_singleton] at hp
      rw [hp]
    rcases turn i n σ3 xs H3 w3 with ⟨stop, qn⟩ | ⟨go, hz, N, hN, step⟩
    · refine thn (T.done (X.comp scope cl (ts ++ ys) s2 H2 fp HH.objs.size) rfl rfl rfl hc i _ s3 σ3 H3 (fun _ _ => False) I3p (stat pinD fr3) st3 stop) fun r s4 ⟨hr, I4⟩ => ?_
      subst hr
      obtain ⟨m, hn, _⟩ := I4.loc
      have ac4 := (I4.pin _ (List.mem_append_right _ (List.mem_singleton.mpr rfl))).1
      exact ⟨m, hn, fun h' hs' => ⟨.ref s2.heap.objs.size, _, comp_end I2 f2 I4 hCle (Nat.le_refl _) hDC hs' rv hz3 ac4 nD3, rfl, qn _ nD3⟩⟩
    · refine thn (T.item (X.comp scope cl (ts ++ ys) s2 H2 fp HH.objs.size) rfl rfl rfl hc i _ s3 σ3 H3 (fun _ _ => False) I3p (stat pinD fr3) st3 go) fun r s4 ⟨u, hr, h4⟩ => ?_
      subst hr
      refine thn h4 fun _ s5 ⟨x, H5, I5, r5, y5, st5, fr5⟩ => ?_
      have I5' := I5.pinned (stat pinD fr5) (T.obj _ _ st5)
      refine thn (hg _ _ _ _ _ s5 σ3 H5 x u _ I5' r5 (step x H5 y5)) fun _ s6 ⟨σ6, H6, I6, q6⟩ => ?_
      refine thn (ht _ _ _ _ _ s6 σ6 H6 _ I6 q6) fun b s7 ⟨H7, I7, q7⟩ => ?_
      -- what stands of the pins
      have facts : ∀ {σ' : St} {H' : Hp} {s' : Shared}, Inv (X.comp scope cl (ts ++ ys) s2 H2 fp HH.objs.size) ([(s2.heap.objs.size, ({ cls := .type "list", data := .seq its.toArray nn } : Obj))] ++ pinsAt fp s5.heap) σ' H' s' →
          s'.heap.get? s2.heap.objs.size = some { cls := .type "list", data := .seq its.toArray nn } ∧ H' s2.heap.objs.size = none ∧ tn (i + 1) s'.heap ∧ (∀ b ∈ fp, H' b = none) := fun {σ' H' s'} J => by
        have p1 := J.pin (s2.heap.objs.size, ({ cls := .type "list", data := .seq its.toArray nn } : Obj)) (by simp)
        refine ⟨p1.1, p1.2.1, T.keep _ _ _ st5 fun b hb o e => (J.pin (b, o) (List.mem_append_right _ (List.mem_append_right _ (mem_pinsAt hb e)))).1, fun b hb => ?_⟩
        obtain ⟨o, e, d⟩ := T.obj _ _ st5 b hb
        exact (J.pin (b, o) (List.mem_append_right _ (List.mem_append_right _ (mem_pinsAt hb e)))).2.1
      have bare : ∀ {σ' : St} {H' : Hp} {s' : Shared}, Inv (X.comp scope cl (ts ++ ys) s2 H2 fp HH.objs.size) ([(s2.heap.objs.size, ({ cls := .type "list", data := .seq its.toArray nn } : Obj))] ++ pinsAt fp s5.heap) σ' H' s' →
          Inv (X.comp scope cl (ts ++ ys) s2 H2 fp HH.objs.size) [] σ' H' s' := fun J => J.pins_of fun p hp => absurd hp (by simp)
      cases b with
      | false =>
        have q7' : N σ6 xs H7 := by simpa using q7
        obtain ⟨m', hm, w7⟩ := hN _ _ _ q7'
        obtain ⟨a1, a2, a3, a4⟩ := facts I7
        show ∃ m, m < n ∧ _
        exact ⟨m', hm, i + 1, σ6, xs, H7, its, nn, bare I7, rv, hz3, a1, a2, a3, a4, w7⟩
      | true =>
        have q7' : te σ6 H7 fun v H5 => N σ6 (xs ++ [v]) H5 := by
          rw [if_pos rfl] at q7
          exact q7
        show wpAny _ _ (eval elt _) _ _ s7
        refine thn (he _ _ _ _ _ s7 σ6 H7 _ I7 q7') fun xv s8 ⟨v, H8, I8, r8, n8⟩ => ?_
        obtain ⟨m', hm, w8⟩ := hN _ _ _ n8
        obtain ⟨a1, a2, a3, a4⟩ := facts I8
        have hl := rv.length
        refine call_meets F.slot_list_append ⟨_, a1, rfl⟩ F.entry_list_append (F.args_list_append_2 _ _) (PySem.list_append s2.heap.objs.size its.toArray nn xv (by rw [List.size_toArray]; omega)) ⟨a1, ?_⟩
        obtain ⟨n9, q9⟩ : ∃ n9, (s8.heap.update s2.heap.objs.size (Obj.mapSeq fun a => a.push xv)).get? s2.heap.objs.size = some { cls := .type "list", data := .seq (its ++ [xv]).toArray n9 } :=
          ⟨_, by rw [show (its ++ [xv]).toArray = its.toArray.push xv by simp]; exact PySem.IsL.update a1 (fun a => a.push xv)⟩
        have I9 : Inv (X.comp scope cl (ts ++ ys) s2 H2 fp HH.objs.size) [] σ6 H8 { s8 with heap := s8.heap.update s2.heap.objs.size (Obj.mapSeq fun a => a.push xv), toks := s8.toks } :=
          (bare I8).turned (it := s2.heap.objs.size) (fun b o hb e => (Heap.get?_update_other s8.heap _ (Ne.symm hb)).trans e) a2 hDC (.inr (Nat.le_refl _)) (nocell _ (Nat.le_refl _)) fun p hp => absurd (show p ∈ ([] : List (Addr × Obj)) from hp) (by simp)
        refine ⟨m', hm, i + 1, σ6, xs ++ [v], H8, its ++ [xv], n9, I9, rv.append (.cons r8 .nil), ?_, q9, a2, ?_, a4, w8⟩
        · rw [List.length_append, List.length_singleton]; omega
        · exact T.keep _ _ _ a3 fun b hb o e => (Heap.get?_update_other s8.heap _ (Ne.symm (Nat.ne_of_lt (fl b hb)))).trans e
  exact codeAny_compStart_list (loop _ rfl) (T.self _ 0 _ _ _ tn1 (loop _ rfl))
end

/-! ### the forms one uses: one name as target. At a turn's end: what P says, and (_, rfl) that the names from around are as they were -/
abbrev capV (js : List Nat) (σ : St) : St := js.map fun j => σ.getD j none
def CompN (P : Nat → List V → Hp → Prop) (i : Nat) (js : List Nat) (σ : St) : St → List V → Hp → Prop := fun σ' ys H => P (i + 1) ys H ∧ ∃ o, σ' = o :: capV js σ
theorem comp_list {K : PySem.W.Frag} {a : Addr} {xs : List V} {k : Nat} {js : List Nat} {tc : TT} {te : TE} {σ : St} {Q : VK} {H1 : Hp} (P : Nat → List V → Hp → Prop) (h0 : P 0 [] H1) (hl : ∀ i ys H, i ≤ xs.length → P i ys H → SqL K H a xs ∧ ys.length ≤ i) (hz : xs.length < sizeLine)
    (hs : ∀ i x ys H, xs[i]? = some x → P i ys H → tc (some x :: capV js σ) H fun b H2 => if b = true then te (some x :: capV js σ) H2 fun v H3 => CompN P i js σ (some x :: capV js σ) (ys ++ [v]) H3 else CompN P i js σ (some x :: capV js σ) ys H2)
    (hd : ∀ ys H, P xs.length ys H → ∀ p, H p = none → Q (.ref p) (upd H p (.lst ys))) (hk : k = 1 := by rfl) :
    CompR (Itl K a) k js (gName 0) tc te σ Q H1 := by
  subst hk
  refine ⟨fun i m σ' ys H => m = xs.length - i ∧ i ≤ xs.length ∧ P i ys H ∧ ∃ o, σ' = o :: capV js σ, ⟨xs.length, by simp, Nat.zero_le _, h0, none, rfl⟩, ?_⟩
  rintro i m σ' ys H ⟨rfl, hi, p, o, rfl⟩
  obtain ⟨q, hy⟩ := hl i ys H hi p
  by_cases hlt : i < xs.length
  · refine .inr ⟨⟨xs, xs[i], q, by simp [hlt]⟩, by omega, CompN P i js σ, fun σ3 zs H3 z => ⟨xs.length - (i + 1), by omega, rfl, hlt, z.1, z.2⟩, fun x H' y => ?_⟩
    obtain ⟨e, y⟩ := y
    subst e
    exact hs i x ys _ (y xs q) p
  · have e : i = xs.length := by omega
    subst e
    exact .inl ⟨⟨xs, q, Nat.le_refl _⟩, hd ys H p⟩
theorem comp_range {lo : Int} {n : Nat} {k : Nat} {js : List Nat} {tc : TT} {te : TE} {σ : St} {Q : VK} {H1 : Hp} (P : Nat → List V → Hp → Prop) (h0 : P 0 [] H1) (hl : ∀ i ys H, i ≤ n → P i ys H → ys.length ≤ i) (hz : n < sizeLine)
    (hs : ∀ i ys H, i < n → P i ys H → tc (some (.int (lo + i)) :: capV js σ) H fun b H2 => if b = true then te (some (.int (lo + i)) :: capV js σ) H2 fun v H3 => CompN P i js σ (some (.int (lo + i)) :: capV js σ) (ys ++ [v]) H3 else CompN P i js σ (some (.int (lo + i)) :: capV js σ) ys H2)
    (hd : ∀ ys H, P n ys H → ∀ p, H p = none → Q (.ref p) (upd H p (.lst ys))) (hk : k = 1 := by rfl) :
    CompR (Itr lo n) k js (gName 0) tc te σ Q H1 := by
  subst hk
  refine ⟨fun i m σ' ys H => m = n - i ∧ i ≤ n ∧ P i ys H ∧ ∃ o, σ' = o :: capV js σ, ⟨n, by simp, Nat.zero_le _, h0, none, rfl⟩, ?_⟩
  rintro i m σ' ys H ⟨rfl, hi, p, o, rfl⟩
  have hy := hl i ys H hi p
  by_cases hlt : i < n
  · refine .inr ⟨hlt, by omega, CompN P i js σ, fun σ3 zs H3 z => ⟨n - (i + 1), by omega, rfl, hlt, z.1, z.2⟩, fun x H' y => ?_⟩
    obtain ⟨e, y⟩ := y
    subst e
    subst y
    exact hs i ys _ hlt p
  · have e : i = n := by omega
    subst e
    exact .inl ⟨Nat.le_refl _, hd ys H p⟩
end L2

/-! range objects made and listed, of any ints; a negated int -/
namespace L2
open PySem PySem.Spec PyProof.Rows
section
variable {prog : Program} {w : World} {A : Around} {E : Value → Shared → Prop} {s : Shared}
end
/-- lo, lo + 1, .. (n of them) -/
def rangeL (lo : Int) (n : Nat) : List Int := (List.range n).map fun i : Nat => lo + (i : Int)
theorem rangeL_length (lo : Int) (n : Nat) : (rangeL lo n).length = n := by simp [rangeL]
theorem rangeL_succ (lo : Int) (n : Nat) : rangeL lo (n + 1) = rangeL lo n ++ [lo + n] := by simp [rangeL, List.range_succ]
section
variable {X : Cx}
theorem ix_listK (K : PySem.W.Frag) (h : X.K = K) : IxR X (rIxL K) := h ▸ ix_list
end
end L2

namespace L2
open PySem PySem.Spec PyProof.Rows

/-! ### lists of pairs as tables -/
section
variable {κ : Type} [DecidableEq κ]
def valV (kvs : List (κ × V)) (k : κ) : Option V := (kvs.find? fun kv => decide (kv.1 = k)).map (·.2)
/-- in its place, or at the end -/
def putK (kvs : List (κ × V)) (k : κ) (v : V) : List (κ × V) :=
  if (kvs.any fun kv => decide (kv.1 = k)) = true then kvs.map (fun kv => if kv.1 = k then (kv.1, v) else kv) else kvs ++ [(k, v)]
def dropK (kvs : List (κ × V)) (k : κ) : List (κ × V) := kvs.filter fun kv => decide (kv.1 ≠ k)

theorem valV_pos {p : κ × V} {r : List (κ × V)} {k : κ} (e : p.1 = k) : valV (p :: r) k = some p.2 := by simp [valV, List.find?_cons, e]
theorem valV_neg {p : κ × V} {r : List (κ × V)} {k : κ} (e : ¬ p.1 = k) : valV (p :: r) k = valV r k := by simp [valV, List.find?_cons, e]
theorem valV_any (k : κ) : ∀ kvs : List (κ × V), (kvs.any fun kv => decide (kv.1 = k)) = (valV kvs k).isSome
  | [] => rfl
  | p :: r => by
    rw [List.any_cons]
    by_cases e : p.1 = k
    · simp only [valV_pos e, decide_eq_true e, Bool.true_or, Option.isSome_some]
    · rw [valV_neg e, decide_eq_false e, Bool.false_or]; exact valV_any k r
theorem valV_map (k j : κ) (y : V) : ∀ kvs : List (κ × V), valV (kvs.map fun kv => if kv.1 = k then (kv.1, y) else kv) j = (valV kvs j).map fun x => if j = k then y else x
  | [] => rfl
  | p :: r => by
    have ih := valV_map k j y r
    rw [List.map_cons]
    by_cases h : p.1 = k
    · rw [if_pos h]
      by_cases e : p.1 = j
      · rw [valV_pos (p := (p.1, y)) e, valV_pos e, Option.map_some, if_pos (e.symm.trans h)]
      · rw [valV_neg (p := (p.1, y)) e, valV_neg e, ih]
    · rw [if_neg h]
      by_cases e : p.1 = j
      · rw [valV_pos (p := p) e, valV_pos e, Option.map_some, if_neg (fun z => h (e.trans z))]
      · rw [valV_neg (p := p) e, valV_neg e, ih]
theorem valV_snoc (k j : κ) (y : V) : ∀ kvs : List (κ × V), valV kvs k = none → valV (kvs ++ [(k, y)]) j = if j = k then some y else valV kvs j
  | [], _ => by
    by_cases e : k = j
    · rw [if_pos e.symm]; exact valV_pos (p := (k, y)) e
    · rw [if_neg (fun z => e z.symm)]; exact valV_neg (p := (k, y)) e
  | p :: r, hn => by
    rw [List.cons_append]
    have hk : ¬ p.1 = k := fun z => by rw [valV_pos z] at hn; cases hn
    rw [valV_neg hk] at hn
    have ih := valV_snoc k j y r hn
    by_cases e : p.1 = j
    · rw [valV_pos e, valV_pos e, if_neg (fun z => hk (e.trans z))]
    · rw [valV_neg e, valV_neg e, ih]
theorem valV_put (kvs : List (κ × V)) (k j : κ) (y : V) : valV (putK kvs k y) j = if j = k then some y else valV kvs j := by
  unfold putK
  by_cases a : (kvs.any fun kv => decide (kv.1 = k)) = true
  · rw [if_pos a, valV_map]
    rw [valV_any] at a
    by_cases e : j = k
    · obtain ⟨x, hx⟩ := Option.isSome_iff_exists.mp a
      rw [if_pos e, e, hx, Option.map_some, if_pos rfl]
    · rw [if_neg e]
      cases valV kvs j with
      | none => rfl
      | some x => rw [Option.map_some, if_neg e]
  · rw [if_neg a]
    refine valV_snoc k j y kvs ?_
    rw [valV_any] at a
    cases q : valV kvs k with
    | none => rfl
    | some x => rw [q] at a; exact (a rfl).elim
theorem length_putK (kvs : List (κ × V)) (k : κ) (v : V) : (putK kvs k v).length ≤ kvs.length + 1 := by
  unfold putK
  split
  · rw [List.length_map]; omega
  · rw [List.length_append, List.length_cons, List.length_nil]; omega
theorem RelO.isSome_eq {o : Option V} {u : Option Value} (r : RelO o u) : o.isSome = u.isSome := by
  cases o with
  | none => cases u with
    | none => rfl
    | some _ => exact (show False from r).elim
  | some _ => cases u with
    | none => exact (show False from r).elim
    | some _ => rfl
/-- raw tables of the same keys -/
theorem KV.val {kvs : List (κ × V)} {vs : List (κ × Value)} (r : KV kvs vs) (k : κ) : RelO (valV kvs k) (valueAt vs k) := by
  unfold KV at r
  induction r with
  | nil => exact True.intro
  | @cons p q ps qs h t ih =>
    obtain ⟨h1, h2⟩ := h
    by_cases e : p.1 = k
    · have e' : q.1 = k := h1.symm.trans e
      have b : valueAt (q :: qs) k = some q.2 := by simp [valueAt, List.find?_cons, e']
      rw [valV_pos e, b]; exact h2
    · have e' : ¬ q.1 = k := fun z => e (h1.trans z)
      have b : valueAt (q :: qs) k = valueAt qs k := by simp [valueAt, List.find?_cons, e']
      rw [valV_neg e, b]; exact ih
theorem KV.any {kvs : List (κ × V)} {vs : List (κ × Value)} (r : KV kvs vs) (k : κ) : (kvs.any fun kv => decide (kv.1 = k)) = vs.any fun kv => decide (kv.1 = k) := by
  unfold KV at r
  induction r with
  | nil => rfl
  | cons h t ih => rw [List.any_cons, List.any_cons, ih, h.1]
theorem KV.repl {kvs : List (κ × V)} {vs : List (κ × Value)} (r : KV kvs vs) (k : κ) {y : V} {u : Value} (ry : RelV y u) :
    KV (kvs.map fun kv => if kv.1 = k then (kv.1, y) else kv) (vs.map fun kv => if kv.1 = k then (kv.1, u) else kv) := by
  unfold KV at r ⊢
  induction r with
  | nil => exact .nil
  | @cons p q ps qs h t ih =>
    rw [List.map_cons, List.map_cons]
    refine .cons ?_ ih
    obtain ⟨h1, h2⟩ := h
    by_cases e : p.1 = k
    · rw [if_pos e, if_pos (h1.symm.trans e)]; exact ⟨h1, ry⟩
    · rw [if_neg e, if_neg (fun z => e (h1.trans z))]; exact ⟨h1, h2⟩
theorem KV.put {kvs : List (κ × V)} {vs : List (κ × Value)} (r : KV kvs vs) (k : κ) {y : V} {u : Value} (ry : RelV y u) : KV (putK kvs k y) (stored vs k u) := by
  unfold putK stored
  rw [r.any k]
  by_cases e : (vs.any fun kv => decide (kv.1 = k)) = true
  · rw [if_pos e, if_pos e]; exact r.repl k ry
  · rw [if_neg e, if_neg e]; exact Paired.snoc r ⟨rfl, ry⟩
theorem KV.length {kvs : List (κ × V)} {vs : List (κ × Value)} (r : KV kvs vs) : kvs.length = vs.length := Paired.length r
end


/-! ### a tracked dict, its keys ints and texts or tuples of these -/
theorem kV_is {P : Program} {w : World} {k : Key} {u : Value} (r : RelV (kV k) u) : (mixKind P w).is k u = true := by
  cases k with
  | inl i => obtain ⟨t, e⟩ := (show ∃ t, u = Value.int i t from r); subst e; exact mixKind_int P w i t
  | inr x => obtain ⟨t, e⟩ := (show ∃ t, u = Value.str x t from r); subst e; exact mixKind_str P w x t
theorem items_are {P : Program} {w : World} : ∀ {ks : List Key} {us : List Value}, Vals (ks.map kV) us → ItemsAre (mixKind P w) ks us
  | [], _, r => by rw [List.map_nil] at r; cases r; exact .nil
  | k :: ks, _, r => by
    rw [List.map_cons] at r
    cases r with
    | cons h t => exact .cons (kV_is h) (items_are t)

/-- raw entries of a dict with tuple keys -/
abbrev KT (H : Hp) : List (List Key × V) → List (List Key × Addr × Value) → Prop := Paired fun p q => p.1 = q.1 ∧ H q.2.1 = some (.tup (p.1.map kV)) ∧ RelV p.2 q.2.2
theorem KT.val {H : Hp} {kvs : List (List Key × V)} {xs : List (List Key × Addr × Value)} (r : KT H kvs xs) (k : List Key) : RelO (valV kvs k) ((atKey xs k).map (·.2)) := by
  induction r with
  | nil => exact True.intro
  | @cons p q ps qs h t ih =>
    obtain ⟨h1, _, h2⟩ := h
    by_cases e : p.1 = k
    · have e' : q.1 = k := h1.symm.trans e
      have b : atKey (q :: qs) k = some q.2 := by simp [atKey, List.find?_cons, e']
      rw [valV_pos e, b]; exact h2
    · have e' : ¬ q.1 = k := fun z => e (h1.trans z)
      have b : atKey (q :: qs) k = atKey qs k := by simp [atKey, List.find?_cons, e']
      rw [valV_neg e, b]; exact ih
theorem KT.repl {H : Hp} {kvs : List (List Key × V)} {xs : List (List Key × Addr × Value)} (r : KT H kvs xs) (k : List Key) {y : V} {u : Value} (ry : RelV y u) :
    KT H (kvs.map fun kv => if kv.1 = k then (kv.1, y) else kv) (xs.map (putAt k u)) := by
  induction r with
  | nil => exact .nil
  | @cons p q ps qs h t ih =>
    rw [List.map_cons, List.map_cons]
    refine .cons ?_ ih
    obtain ⟨h1, h2, h3⟩ := h
    unfold putAt
    by_cases e : p.1 = k
    · rw [if_pos e, if_pos (h1.symm.trans e)]; exact ⟨h1, h2, ry⟩
    · rw [if_neg e, if_neg (fun z => e (h1.trans z))]; exact ⟨h1, h2, h3⟩
theorem KT.put {H : Hp} {kvs : List (List Key × V)} {xs : List (List Key × Addr × Value)} (r : KT H kvs xs) (k : List Key) {b : Addr} {y : V} {u : Value} (hb : H b = some (.tup (k.map kV))) (ry : RelV y u) :
    KT H (putK kvs k y) (storedH xs k b u) := by
  have e : (kvs.any fun kv => decide (kv.1 = k)) = (atKey xs k).isSome := by
    rw [valV_any, (r.val k).isSome_eq, Option.isSome_map]
  unfold putK storedH
  rw [e]
  by_cases q : (atKey xs k).isSome = true
  · rw [if_pos q, if_pos q]; exact r.repl k ry
  · rw [if_neg q, if_neg q]; exact Paired.snoc r ⟨rfl, hb, ry⟩
theorem KT.keeps {H H' : Hp} {kvs : List (List Key × V)} {xs : List (List Key × Addr × Value)} (r : KT H kvs xs) (ht : ∀ b ys, H b = some (.tup ys) → H' b = some (.tup ys)) : KT H' kvs xs :=
  Paired.mapP r fun _ _ z => ⟨z.1, ht _ _ z.2.1, z.2.2⟩

section
variable {P : Program} {w : World} {H : Hp} {h : Heap} {a : Addr}
theorem rd_of {u : HO} (ok : HOk P w H h) (e : Rd H a u) : ObjOk P w H h a u := e.ok ok
theorem dk_rd {kvs : List (Key × V)} (ok : HOk P w H h) (e : Rd H a (.dK kvs)) : kvs.length ≤ sizeLine ∧ (a == sysModules) = false ∧ ∃ vs, KV kvs vs ∧ h.DictOf (mixKind P w) a vs :=
  show ObjOk P w H h a (.dK kvs) from rd_of ok e
theorem dk_of {kvs : List (Key × V)} (ok : HOk P w H h) (e : H a = some (.dK kvs)) : kvs.length ≤ sizeLine ∧ (a == sysModules) = false ∧ ∃ vs, KV kvs vs ∧ h.DictOf (mixKind P w) a vs := dk_rd ok (.inl e)
/-- a tracked tuple of ints and texts is a key -/
theorem key_of {ks : List Key} (ok : HOk P w H h) (e : H a = some (.tup (ks.map kV))) : (tupleKind (mixKind P w)).is h ks a := by
  obtain ⟨_, its, r, o, h1, h2, n, h3⟩ := (show ObjOk P w H h a (.tup (ks.map kV)) from ok a _ e)
  exact ⟨o, its.toArray, n, h1, h2, h3, by simpa using items_are r⟩
theorem dt_rd {kvs : List (List Key × V)} (ok : HOk P w H h) (e : Rd H a (.dT kvs)) : kvs.length ≤ sizeLine ∧ (a == sysModules) = false ∧
    ∃ xs, KT H kvs xs ∧ h.DictOfH (tupleKind (mixKind P w)) a xs := by
  obtain ⟨z, y, xs, r, o, es, ep, h1, h2, h3, h4, h5⟩ := (show ObjOk P w H h a (.dT kvs) from rd_of ok e)
  refine ⟨z, y, xs, r, o, es, ep, h1, h2, h3, h4, fun x hx => ?_, h5⟩
  have all : ∀ {l : List (List Key × V)} {m : List (List Key × Addr × Value)}, KT H l m → ∀ x ∈ m, (tupleKind (mixKind P w)).is h x.1 x.2.1 := by
    intro l m q
    induction q with
    | nil => intro x hx; exact nomatch hx
    | @cons p q ps qs hq t ih =>
      intro x hx
      rcases List.mem_cons.mp hx with e | hx
      · subst e
        exact key_of ok (by rw [← hq.1]; exact hq.2.1)
      · exact ih x hx
  exact all r x hx
theorem dt_of {kvs : List (List Key × V)} (ok : HOk P w H h) (e : H a = some (.dT kvs)) : kvs.length ≤ sizeLine ∧ (a == sysModules) = false ∧
    ∃ xs, KT H kvs xs ∧ h.DictOfH (tupleKind (mixKind P w)) a xs := dt_rd ok (.inl e)
end

/-- what the dict at a holds at the key y -/
def DGet (H : Hp) (a : Addr) (y : V) (r : Option V) : Prop :=
  (∃ kvs k, Rd H a (.dK kvs) ∧ y = kV k ∧ r = valV kvs k) ∨ ∃ kvs k b, Rd H a (.dT kvs) ∧ y = .ref b ∧ H b = some (.tup (k.map kV)) ∧ r = valV kvs k
/-- the heap behind a[y] = v -/
def DPut (H : Hp) (a : Addr) (y v : V) (H' : Hp) : Prop :=
  (∃ kvs k, H a = some (.dK kvs) ∧ y = kV k ∧ kvs.length < sizeLine ∧ H' = upd H a (.dK (putK kvs k v))) ∨
  ∃ kvs k b, H a = some (.dT kvs) ∧ y = .ref b ∧ H b = some (.tup (k.map kV)) ∧ kvs.length < sizeLine ∧ H' = upd H a (.dT (putK kvs k v))
theorem DGet.k {H : Hp} {a : Addr} {kvs : List (Key × V)} {k : Key} (e : H a = some (.dK kvs)) : DGet H a (kV k) (valV kvs k) := .inl ⟨kvs, k, .inl e, rfl, rfl⟩
theorem DPut.k {H : Hp} {a : Addr} {kvs : List (Key × V)} {k : Key} {v : V} (e : H a = some (.dK kvs)) (hl : kvs.length < sizeLine) : DPut H a (kV k) v (upd H a (.dK (putK kvs k v))) := .inl ⟨kvs, k, e, rfl, hl, rfl⟩
section
variable {X : Cx} {pins : List (Addr × Obj)} {σ : St} {H : Hp} {s : Shared} {a : Addr} {y v : V} {u r : Value} {o : Option V} {A : Around} {E : Value → Shared → Prop}

theorem Inv.big (I : Inv X pins σ H s) : sysModules < s.heap.objs.size := by
  have h : mainGlobals < s.heap.objs.size := (I.mod.glob.keeps I.bk).lt
  exact Nat.lt_trans (by decide) h

/-- d[y], there -/
theorem d_getItem {Q : Value → Shared → Prop} (hu : A.units + 1 < cLine) (I : Inv X pins σ H s) (g : DGet H a y (some v)) (ry : RelV y u) (h : ∀ w' s', Inv X pins σ H s' → RelV v w' → Q w' s') :
    wpAny (model X.prog X.w) A (getItem (.ref a) u) Q E s := by
  rcases g with ⟨kvs, k, e, ey, l⟩ | ⟨kvs, k, b, e, ey, eb, l⟩
  · subst ey
    obtain ⟨z, hd, vs, rel, dd⟩ := dk_rd I.hok e
    obtain ⟨w', hw, rw'⟩ := RelO.some_of (v := v) (o := valueAt vs k) (by rw [l]; exact rel.val k)
    exact wpAny_getItem_of (kV_is ry) dd.mapOf hw (h w' _ (I.tok _) rw')
  · subst ey
    cases (show u = Value.ref b from ry)
    obtain ⟨z, hd, xs, rel, dd⟩ := dt_rd I.hok e
    obtain ⟨w', hw, rw'⟩ := RelO.some_of (v := v) (o := (atKey xs k).map (·.2)) (by rw [l]; exact rel.val k)
    obtain ⟨p, hp, hp2⟩ := Option.map_eq_some_iff.mp hw
    refine wpAny_getItem_heap (tupleKind_room_in1 hu) (key_of I.hok eb) dd hp ?_
    rw [hp2]
    exact h w' _ (I.tok _) rw'
/-- y in d -/
theorem d_in {Q : Value → Shared → Prop} (hu : A.units + 1 < cLine) (I : Inv X pins σ H s) (g : DGet H a y o) (ry : RelV y u) (h : ∀ s', Inv X pins σ H s' → Q (.bool o.isSome) s') :
    wpAny (model X.prog X.w) A (compareOp .In u (.ref a)) Q E s := by
  rcases g with ⟨kvs, k, e, ey, l⟩ | ⟨kvs, k, b, e, ey, eb, l⟩
  · subst ey
    obtain ⟨z, hd, vs, rel, dd⟩ := dk_rd I.hok e
    refine wpAny_in_of (kV_is ry) hd dd.mapOf ?_
    rw [← (rel.val k).isSome_eq, ← l]
    exact h _ (I.tok _)
  · subst ey
    cases (show u = Value.ref b from ry)
    obtain ⟨z, hd, xs, rel, dd⟩ := dt_rd I.hok e
    refine wpAny_in_heap (tupleKind_room_in1 hu) (key_of I.hok eb) hd dd ?_
    have q := (rel.val k).isSome_eq
    rw [Option.isSome_map] at q
    rw [← q, ← l]
    exact h _ (I.tok _)
/-- a dict's object is replaced -/
theorem d_write {h' : Heap} {t' : Nat} {ob : HO} (I : Inv X pins σ H s) (mu : Mut (H a)) (hs : Heap.SameBut a s.heap h') (he : ∃ q, h'.get? a = some q) (new : ObjOk X.prog X.w (upd H a ob) h' a ob) :
    Inv X pins σ (upd H a ob) { s with heap := h', toks := t' } :=
  I.write (x := a) (e := a) mu (.inl rfl) (fun b q hb z => (hs.2 b hb).trans z) he new
theorem dk_new {P : Program} {w : World} {H' : Hp} {h' : Heap} {kvs : List (Key × V)} {vs : List (Key × Value)} (z : kvs.length ≤ sizeLine) (hd : (a == sysModules) = false) (rel : KV kvs vs) (dd : h'.DictOf (mixKind P w) a vs) :
    ObjOk P w H' h' a (.dK kvs) := ⟨z, hd, vs, rel, dd⟩
/-- d[y] = v -/
theorem d_setItem {H' : Hp} {Q : Unit → Shared → Prop} (hu : A.units + 1 < cLine) (I : Inv X pins σ H s) (g : DPut H a y v H') (ry : RelV y u) (rv : RelV v r) (h : ∀ s', Inv X pins σ H' s' → Q () s') :
    wpAny (model X.prog X.w) A (setItem (.ref a) u r) Q E s := by
  rcases g with ⟨kvs, k, e, ey, l, eH⟩ | ⟨kvs, k, b, e, ey, eb, l, eH⟩
  · subst ey eH
    obtain ⟨z, hd, vs, rel, dd⟩ := dk_of I.hok e
    have hz : vs.length ≤ sizeLine := by rw [← rel.length]; exact z
    have hl : (putK kvs k v).length ≤ sizeLine := by have := length_putK kvs k v; omega
    refine wpAny_setItem_pairs (hsz := hz) (kV_is ry) dd fun h' dd' hs => h _ ?_
    have he : ∃ q, h'.get? a = some q := let ⟨q, _, _, hq, _⟩ := dd'; ⟨q, hq⟩
    exact d_write I (by rw [e]; exact True.intro) hs he (dk_new hl hd (rel.put k rv) dd')
  · subst ey eH
    cases (show u = Value.ref b from ry)
    obtain ⟨z, hd, xs, rel, dd⟩ := dt_of I.hok e
    have hz : xs.length ≤ sizeLine := by rw [← Paired.length rel]; exact z
    have hl : (putK kvs k v).length ≤ sizeLine := by have := length_putK kvs k v; omega
    refine wpAny_setItem_heap (hsz := hz) (tupleKind_room_in1 hu) (key_of I.hok eb) dd fun h' dd' hs => h _ ?_
    obtain ⟨q, es, ep, hq, h2, h3, h4, _, h5⟩ := dd'
    refine d_write I (by rw [e]; exact True.intro) hs ⟨q, hq⟩ ⟨hl, hd, _, (rel.put k eb rv).keeps fun c ys ec => ?_, q, es, ep, hq, h2, h3, h4, h5⟩
    rw [upd_ne (ne_of ec e (fun z => nomatch z))]
    exact ec
end

section
variable {X : Cx} {pins : List (Addr × Obj)} {σ : St} {H : Hp} {s : Shared} {a : Addr} {kvs : List (Key × V)} {k : Key} {u : Value} {A : Around} {E : Value → Shared → Prop}
end


/-! ### readings and rules -/
/-- the element of a subscription, not a slice -/
def NoSl (i : Expr) : Prop := ∀ ov iv, subscripted i false ov iv = operate [ov, iv] (getItem ov iv)
theorem subD_of {prog : Program} {w : World} {A : Around} {E : Value → Shared → Prop} {s : Shared} {env : Env} {value slice : Expr} {pos : Pos} {T id : String} {Q : Value → Shared → Prop}
    (hl : typeLookup (.type T) "__getitem__" = pure (some (.builtin id))) (hs : NoSl slice)
    (h : wpAny (model prog w) A (eval value env) (fun o s₁ => wpAny (model prog w) A (eval slice env) (fun i s₂ => s₂.TypeIs o T ∧ wpAny (model prog w) A (getItem o i) Q E s₂) E s₁) E s) :
    wpAny (model prog w) A (eval (.Subscript value slice pos) env) Q E s := by
  refine Subscript_ (wpAny_mono h (fun o s₁ h₁ => wpAny_mono h₁ (fun i s₂ h₂ => ?_) fun _ _ x => x) fun _ _ x => x)
  obtain ⟨hT, h₂⟩ := h₂
  unfold subscriptTail
  refine wpAny_bind ?_
  rw [getitemInPython_of_ne hT.not_modules]
  refine wpAny_bind (wpAny_specialOf hT hl ?_)
  have fin : wpAny (model prog w) A (subscripted slice false o i) (fun r s₃ => wpAny (model prog w) A (letTemporaryGo value o r >>= fun _ => pure r) Q E s₃) E s₂ := by
    rw [hs o i]
    exact wpAny_operating (wpAny_mono h₂ (fun r s₃ h₃ => wpAny_bind (wpAny_letTemporaryGo (wpAny_pure h₃))) fun _ _ x => x)
  first
    | exact wpAny_pure (wpAny_bind fin)
    | exact wpAny_bind (wpAny_pure (wpAny_bind fin))
    | exact wpAny_bind fin

theorem dict_typeIs {X : Cx} {pins : List (Addr × Obj)} {σ : St} {H : Hp} {s : Shared} {a : Addr} {y : V} {o : Option V} (I : Inv X pins σ H s) (g : DGet H a y o) : s.TypeIs (.ref a) "dict" := by
  rcases g with ⟨kvs, k, e, _, _⟩ | ⟨kvs, k, b, e, _, _, _⟩
  · obtain ⟨_, _, vs, _, dd⟩ := dk_rd I.hok e
    exact dd.typeIs
  · obtain ⟨_, _, xs, _, dd⟩ := dt_rd I.hok e
    exact dd.typeIs
/-- d[y] -/
def tDGet (td ty : TE) : TE := fun σ H Q => td σ H fun x H1 => ty σ H1 fun y H2 => ∃ a v, x = .ref a ∧ DGet H2 a y (some v) ∧ Q v H2
/-- y in d, y not in d -/
def tDIn (ty td : TE) : TE := fun σ H Q => ty σ H fun y H1 => td σ H1 fun x H2 => ∃ a o, x = .ref a ∧ DGet H2 a y o ∧ Q (.bl o.isSome) H2
def tDNotIn (ty td : TE) : TE := fun σ H Q => ty σ H fun y H1 => td σ H1 fun x H2 => ∃ a o, x = .ref a ∧ DGet H2 a y o ∧ Q (.bl (!o.isSome)) H2
/-- d[y] = v -/
def sDPut (td ty tv : TE) : TS := fun D σ H => tv σ H fun v H1 => td σ H1 fun x H2 => ty σ H2 fun y H3 => ∃ a H4, x = .ref a ∧ DPut H3 a y v H4 ∧ D.nx σ H4
/-- d[y] op= v -/
def sDAug (td ty tv : TE) (rd : V → V → Hp → VK → Prop) : TS := fun D σ H => td σ H fun x H1 => ty σ H1 fun y H2 => ∃ a v, x = .ref a ∧ DGet H2 a y (some v) ∧
  tv σ H2 fun y2 H3 => rd v y2 H3 fun z H4 => ∃ H5, DPut H4 a y z H5 ∧ D.nx σ H5
/-- del d[y] -/
def sDDel (td ty : TE) : TS := fun D σ H => td σ H fun x H1 => ty σ H1 fun y H2 => ∃ a kvs k, x = .ref a ∧ H2 a = some (.dK kvs) ∧ y = kV k ∧ (valV kvs k).isSome = true ∧ D.nx σ (upd H2 a (.dK (dropK kvs k)))

section
variable {X : Cx} {o i e value : Expr} {pos pos' tpos : Pos} {td ty tv : TE}
theorem pe_dget (hu : X.A.units + 1 < cLine) (ho : PE X o td) (hi : PE X i ty) (hs : NoSl i) : PE X (.Subscript o i pos) (tDGet td ty) := by
  intro pins s σ H Q I h
  refine subD_of PySem.F.slot_dict_getitem.lookup hs (thn (ho pins s σ H _ I h) fun u s1 ⟨x, H1, I1, rx, q1⟩ => thn (hi pins s1 σ H1 _ I1 q1) fun iv s2 ⟨y, H2, I2, ry, a, v, ex, g, q2⟩ => ?_)
  subst ex
  obtain rfl : u = Value.ref a := rx
  exact ⟨dict_typeIs I2 g, d_getItem hu I2 g ry fun w' s3 I3 rw' => ⟨v, H2, I3, rw', q2⟩⟩
theorem pc_din (hu : X.A.units + 1 < cLine) (hi : PE X i ty) (ho : PE X o td) : PC X .In i o (tDIn ty td) := by
  intro pins s σ H Q I h
  refine thn (hi pins s σ H _ I h) fun iv s1 ⟨y, H1, I1, ry, q1⟩ => thn (ho pins s1 σ H1 _ I1 q1) fun u s2 ⟨x, H2, I2, rx, a, ov, ex, g, q2⟩ => ?_
  subst ex
  obtain rfl : u = Value.ref a := rx
  exact d_in hu I2 g ry fun s3 I3 => ⟨.bl ov.isSome, H2, I3, rfl, q2⟩
theorem ps_dput (hu : X.A.units + 1 < cLine) (ho : PE X o td) (hi : PE X i ty) (hv : PE X value tv) (hs : swapsWith value (some (.Subscript o i pos')) pos.line X.env = pure false) :
    PS X (.Assign [.Subscript o i pos'] value pos) (sDPut td ty tv) := by
  intro pins s σ H D I h
  refine wpAny_Assign_Subscript (thn (hv pins s σ H _ I h) fun r s1 ⟨v, H1, I1, rv, q1⟩ => thn (ho pins s1 σ H1 _ I1 q1) fun u s2 ⟨x, H2, I2, rx, q2⟩ => thn (hi pins s2 σ H2 _ I2 q2) fun iv s3 ⟨y, H3, I3, ry, a, H4, ex, g, q3⟩ => ?_) hs
  subst ex
  obtain rfl : u = Value.ref a := rx
  exact d_setItem hu I3 g ry rv fun s4 I4 => ⟨σ, H4, I4, q3⟩
end


/-! ### displays -/
theorem dk_empty {P : Program} {w : World} {H : Hp} (h : Heap) (hb : sysModules < h.objs.size) : ObjOk P w H (h.push { cls := .type "dict", data := .dict #[] }) h.objs.size (.dK []) :=
  ⟨Nat.zero_le _, beq_eq_false_iff_ne.mpr (Ne.symm (Nat.ne_of_lt hb)), [], .nil, Heap.DictOf.new h⟩
/-- {}, to be a dict of the kind that is wanted -/
def tDNewK : TE := fun _ H Q => ∀ p, H p = none → Q (.ref p) (upd H p (.dK []))
def tDNewT : TE := fun _ H Q => ∀ p, H p = none → Q (.ref p) (upd H p (.dT []))
section
variable {X : Cx} {pos : Pos}
theorem pe_dnewK : PE X (.Dict [] [] pos) tDNewK := fun pins s σ H Q I h =>
  wpAny_Dict_empty ⟨.ref s.heap.objs.size, _, I.laid (a := s.heap.objs.size) (o := .dK []) (t' := s.toks) (fun _ _ q => Heap.get?_push_of_some _ q) (Nat.le_refl _) (dk_empty s.heap I.big), rfl, h _ (I.hok.fresh (Nat.le_refl _))⟩
end

/-- the pairs of a display, from the left -/
def tPairs : List (TE × TE) → St → Hp → (List (V × V) → Hp → Prop) → Prop
  | [], _, H, Q => Q [] H
  | (tk, tv) :: r, σ, H, Q => tk σ H fun x H1 => tv σ H1 fun y H2 => tPairs r σ H2 fun ps H3 => Q ((x, y) :: ps) H3
abbrev VV : List (V × V) → List (Value × Value) → Prop := Paired fun p q => RelV p.1 q.1 ∧ RelV p.2 q.2
def PPs (X : Cx) (pos : Pos) (keys : List (Option Expr)) (values : List Expr) (trs : List (TE × TE)) : Prop :=
  ∀ (pins : List (Addr × Obj)) (s : Shared) (σ : St) (H : Hp) (Q : List (V × V) → Hp → Prop), Inv X pins σ H s → tPairs trs σ H Q →
    wpAny (model X.prog X.w) X.A (evalPairs (pairTrees keys values X.env pos)) (fun vs s' => ∃ ps H', Inv X pins σ H' s' ∧ VV ps vs ∧ Q ps H') X.xe s
def mergeK (kvs more : List (Key × V)) : List (Key × V) := more.foldl (fun acc kv => putK acc kv.1 kv.2) kvs
/-- {k: v, ..} with keys ints and texts; the new dict stands empty while the pairs are made -/
def tDisp (trs : List (TE × TE)) : TE := fun σ H Q => ∀ p, H p = none → tPairs trs σ (upd H p (.dK [])) fun ps H2 => H2 p = some (.dK []) ∧ ∃ kvs : List (Key × V), ps = kvs.map (fun kv => (kV kv.1, kv.2)) ∧ kvs.length ≤ 15 ∧ Q (.ref p) (upd H2 p (.dK (mergeK [] kvs)))
/-! ### methods -/
/-- a method call o.m(e) of a built-in, with one argument: what must be seen of the text -/
structure M1 (X : Cx) (o : Expr) (m : Str) (apos : Pos) (e : Expr) (cpos : Pos) : Prop where
  base : attributeBase o m X.env (eval o X.env) = eval o X.env
  few : ((backTo cpos (starEach [e] X.env)).all (fun x => !x.1) && (backToKw cpos (keywordEach [] X.env)).all (fun x => x.1.isSome)
    && decide (([e] : List Expr).length + ([] : List Keyword).length + (if ([] : List Keyword).isEmpty then 0 else 1) < 30)) = true
  line : (apos.endLine == cpos.line) = true
  trees : backTo cpos (starEach [e] X.env) = [(false, eval e X.env)]
structure M2 (X : Cx) (o : Expr) (m : Str) (apos : Pos) (e f : Expr) (cpos : Pos) : Prop where
  base : attributeBase o m X.env (eval o X.env) = eval o X.env
  few : ((backTo cpos (starEach [e, f] X.env)).all (fun x => !x.1) && (backToKw cpos (keywordEach [] X.env)).all (fun x => x.1.isSome)
    && decide (([e, f] : List Expr).length + ([] : List Keyword).length + (if ([] : List Keyword).isEmpty then 0 else 1) < 30)) = true
  line : (apos.endLine == cpos.line) = true
  trees : backTo cpos (starEach [e, f] X.env) = [(false, eval e X.env), (false, eval f X.env)]

/-- a is a dict, whatever its keys -/
def IsD (H : Hp) (a : Addr) : Prop := (∃ kvs, Rd H a (.dK kvs)) ∨ ∃ kvs, Rd H a (.dT kvs)
section
variable {X : Cx} {pins : List (Addr × Obj)} {σ : St} {H : Hp} {s : Shared} {a : Addr} {y d : V} {u r : Value} {o : Option V} {A : Around} {E : Value → Shared → Prop}
end

def tDGet1 (td ty : TE) : TE := fun σ H Q => td σ H fun x H1 => ∃ a, x = .ref a ∧ IsD H1 a ∧ ty σ H1 fun y H2 => ∃ o, DGet H2 a y o ∧ Q (o.getD .non) H2
def tDGet2 (td ty tx : TE) : TE := fun σ H Q => td σ H fun x H1 => ∃ a, x = .ref a ∧ IsD H1 a ∧ ty σ H1 fun y H2 => tx σ H2 fun z H3 => ∃ o, DGet H3 a y o ∧ Q (o.getD z) H3
/-- d.pop(k): there; d.pop(k, x): there or not -/
def tDPop1 (td ty : TE) : TE := fun σ H Q => td σ H fun x H1 => ∃ a, x = .ref a ∧ IsD H1 a ∧ ty σ H1 fun y H2 => ∃ kvs k v, H2 a = some (.dK kvs) ∧ y = kV k ∧ valV kvs k = some v ∧ Q v (upd H2 a (.dK (dropK kvs k)))
def tDPop2 (td ty tx : TE) : TE := fun σ H Q => td σ H fun x H1 => ∃ a, x = .ref a ∧ IsD H1 a ∧ ty σ H1 fun y H2 => tx σ H2 fun z H3 => ∃ kvs k, H3 a = some (.dK kvs) ∧ y = kV k ∧
  (∀ v, valV kvs k = some v → Q v (upd H3 a (.dK (dropK kvs k)))) ∧ (valV kvs k = none → Q z H3)
section
variable {X : Cx} {o e f : Expr} {apos cpos : Pos} {td ty tx : TE}
end

/-! ### dict(d): a copy -/
section
variable {X : Cx} {pins : List (Addr × Obj)} {σ : St} {H : Hp} {s : Shared} {a : Addr} {kvs : List (Key × V)} {A : Around} {E : Value → Shared → Prop}
end


section
variable {X : Cx} {pins : List (Addr × Obj)} {σ : St} {H : Hp} {s : Shared} {a : Addr} {y : V} {u : Value} {A : Around} {E : Value → Shared → Prop}
end
end L2

/-! texts over the hand layer -/
namespace L2
open PySem PySem.Spec PyProof.Rows
section
variable {X : Cx}
/-! ### for c in a text -/
def Itx (x : Str) : It := ⟨fun i _ => i < x.cps.size, fun i H v H' => H' = H ∧ ∃ c, x.cps[i]? = some c ∧ v = .str ⟨#[c]⟩, fun i _ => x.cps.size ≤ i⟩
def iStr (tl : TE) : TI := fun σ H R => tl σ H fun v H1 => ∃ x, v = .str x ∧ R (Itx x) H1
/-! ### texts compared -/
/-- int, None beside each other -/
def intOrN : V → Bool
  | .non => true
  | .int _ => true
  | _ => false
/-! ### a part of a text: some text, not longer -/
/-! ### join, split, index, int(text) -/
/-- split by a sign that stands in the text -/
def splitL (x y : Str) : List Str := Builtin.Str.partsBetween x (Builtin.Str.occurrences x y 0 x.length (x.length + 1)) y.length
end
end L2
namespace L2
open PySem PySem.Spec PyProof.Rows
end L2
namespace L2
open PySem
theorem se_const {c k p} {es : List Expr} {env : Env} : starEach (.Constant c k p :: es) env = (false, eval (.Constant c k p) env) :: starEach es env := rfl
end L2
/-! the judgements as structures: where an app's type would be evaluated too far (a display of many things) -/
namespace L2
open PySem PySem.Spec PyProof.Rows
structure PEx (X : Cx) (e : Expr) (t : TE) : Prop where
  h : PE X e t
structure PAx (X : Cx) (es : List Expr) (t : TA) : Prop where
  h : PA X es t
structure PStx (X : Cx) (st : Stmt) (t : TS) : Prop where
  h : PS X st t
structure PSx (X : Cx) (sts : List Stmt) (t : TS) : Prop where
  h : PSs X sts t
section
variable {X : Cx} {e : Expr} {es : List Expr} {te : TE} {t : TA} {st : Stmt} {rest : List Stmt} {ts us : TS}
end
end L2

/-! long division, list + list of what is read alone, == and != of data -/
namespace L2
open PySem PySem.Spec PyProof.Rows
/-- // by a positive divisor of some size -/
def CDivL (i j : Int) : Prop := 0 < j ∧ j < 2 ^ 128
theorem log2_small {n : Nat} (h : n < 2 ^ 128) : n.log2 < 9000 := by
  by_cases h0 : n = 0
  · subst h0; decide
  · have := (Nat.log2_lt h0).mpr h
    omega
section
variable {X : Cx}
theorem op_fdivL : OpR X (binaryOp .FloorDiv) (rI CDivL fun i j => .int (i / j)) := opI fun i j _ _ _ _ _ hc q => by
  have hj : 0 ≤ j := Int.le_of_lt hc.1
  have e : i.fdiv j = i / j := Int.fdiv_eq_ediv_of_nonneg _ hj
  refine floordiv_int (Int.ne_of_gt hc.1) (by rw [e]; exact q) (.inl (PyProof.noPylong_of_log2 (log2_small ?_)))
  obtain ⟨n, rfl⟩ := Int.eq_ofNat_of_zero_le hj
  have h2 := hc.2
  simp only [Int.natAbs_natCast]
  exact_mod_cast h2
/-- list + list, both read alone -/
def rCatS (K : PySem.W.Frag) : R2 := fun x y H Q => ∃ l b xs zs, x = .ref l ∧ y = .ref b ∧ SqL K H l xs ∧ SqL K H b zs ∧ xs.length + zs.length ≤ sizeLine ∧ ∀ p, H p = none → Q (.ref p) (upd H p (.lst (xs ++ zs)))
theorem list_add_any (l : Addr) (items : Array Value) (n : Nat) (b : Addr) (items2 : Array Value) (n2 : Nat) (sl sl2 : Array (Option Value)) (hc0 : items.size + items2.size ≤ sizeLine) :
    Meets (Builtin.«list.__add__» ⟨[.ref l, .ref b], []⟩) (fun _ R s => s.heap.get? l = some { cls := .type "list", dict := none, data := .seq items n, slots := sl } ∧ s.heap.get? b = some { cls := .type "list", dict := none, data := .seq items2 n2, slots := sl2 } ∧ R (.ok (.ret (Value.ref s.heap.objs.size))) { s with heap := s.heap.push { cls := Value.type "list", data := Data.seq (items ++ items2) }, toks := s.toks }) :=
  .of_wp fun prog w A R s h => by obtain ⟨hp, g, d, tk, os⟩ := s; obtain ⟨hl, hb, h⟩ := h; have f1 := AutoSeq1.idx_int; have f2 := AutoSeq1.sub_tuple_tuple; have f3 := AutoSeq1.sub_list_list; have f4 := AutoSeq1.sub_tuple_list; have f5 := AutoSeq1.sub_list_tuple; wp_walk using AutoSeq1.wpAny_loadPart' hl, AutoSeq1.wpAny_loadPart' hb; exact ⟨_, rfl, h⟩
theorem op_catS : OpR X (binaryOp .Add) (rCatS X.K) := by
  intro pins s σ H x y v u Q I rx ry h
  obtain ⟨l, b, xs, zs, rfl, rfl, hH, hB, hz, q⟩ := h
  cases rx
  cases ry
  obtain ⟨its, r, ⟨o, n, e, hc, hdn, hd⟩, _⟩ := I.list hH
  obtain ⟨its2, r2, ⟨o2, n2, e2, hc2, hdn2, hd2⟩, _⟩ := I.list hB
  obtain ⟨c, d, dt, sl⟩ := o
  obtain ⟨c2, d2, dt2, sl2⟩ := o2
  cases hc; cases hdn; cases hd
  cases hc2; cases hdn2; cases hd2
  have l1 := r.length
  have l2 := r2.length
  refine concat_meets ⟨_, e, rfl⟩ ⟨_, e2, rfl⟩ PySem.noFill_list_add PySem.seq_list_add F.slot_list_add F.entry_list_add (F.args_list_add_2 _ _) (list_add_any l its.toArray n b its2.toArray n2 sl sl2 (by rw [List.size_toArray, List.size_toArray]; omega)) ⟨e, e2, ?_⟩
  have ea : its.toArray ++ its2.toArray = (its ++ its2).toArray := by simp
  rw [ea]
  exact ⟨.ref _, _, I.lnew (t' := s.toks) (r.append r2) (by rw [List.length_append]; omega), rfl, q _ I.fresh⟩

/-! ### data -/
mutual
inductive Dat (K : PySem.W.Frag) (H : Hp) : V → PyData → Prop
  | non : Dat K H .non .none
  | bl (b : Bool) : Dat K H (.bl b) (.bool b)
  | int (i : Int) : Dat K H (.int i) (.int i)
  | str (x : Str) : Dat K H (.str x) (.str x)
  | lst {a : Addr} {xs : List V} {ds : List PyData} : SqL K H a xs → DatAll K H xs ds → Dat K H (.ref a) (.list ds)
  | tup {a : Addr} {xs : List V} {ds : List PyData} : SqT K H a xs → DatAll K H xs ds → Dat K H (.ref a) (.tuple ds)
inductive DatAll (K : PySem.W.Frag) (H : Hp) : List V → List PyData → Prop
  | nil : DatAll K H [] []
  | cons {x : V} {xs : List V} {d : PyData} {ds : List PyData} : Dat K H x d → DatAll K H xs ds → DatAll K H (x :: xs) (d :: ds)
end
mutual
theorem Inv.reads {pins : List (Addr × Obj)} {σ : St} {H : Hp} {s : Shared} (I : Inv X pins σ H s) : ∀ {x : V} {d : PyData} {u : Value}, Dat X.K H x d → RelV x u → ∃ as, Reads s.heap u d as
  | _, _, _, .non, r => by cases r; exact ⟨_, .none⟩
  | _, _, _, .bl b, r => by cases r; exact ⟨_, .bool b⟩
  | _, _, _, .int i, r => by obtain ⟨t, rfl⟩ := r; exact ⟨_, .int i t⟩
  | _, _, _, .str x, r => by obtain ⟨t, rfl⟩ := r; exact ⟨_, .str x t⟩
  | _, _, _, .lst h ds, r => by
    cases r
    obtain ⟨its, rv, ⟨o, n, e, hc, _, hd⟩, _⟩ := I.list h
    obtain ⟨as, ra⟩ := Inv.readsAll I ds rv
    exact ⟨_, .list e hc hd ra⟩
  | _, _, _, .tup h ds, r => by
    cases r
    obtain ⟨its, rv, ⟨o, e, hc, n, hd⟩, _⟩ := I.tuple h
    obtain ⟨as, ra⟩ := Inv.readsAll I ds rv
    exact ⟨_, .tuple e hc hd ra⟩
theorem Inv.readsAll {pins : List (Addr × Obj)} {σ : St} {H : Hp} {s : Shared} (I : Inv X pins σ H s) : ∀ {xs : List V} {ds : List PyData} {us : List Value}, DatAll X.K H xs ds → Vals xs us → ∃ as, ReadsAll s.heap us ds as
  | _, _, _, .nil, r => by cases r; exact ⟨_, .nil⟩
  | _, _, _, .cons h t, r => by
    cases r with
    | cons r1 r2 =>
      obtain ⟨a1, e1⟩ := Inv.reads I h r1
      obtain ⟨a2, e2⟩ := Inv.readsAll I t r2
      exact ⟨_, .cons e1 e2⟩
end
def rEqD (K : PySem.W.Frag) (neg : Bool) : R2 := fun x y H Q => ∃ d d' : PyData, Dat K H x d ∧ Dat K H y d' ∧ SeqAt.shaped d = true ∧ SeqAt.shaped d' = true ∧ Q (.bl (xor neg (PyData.eqv d d'))) H
theorem op_eqD (hu : X.A.units + 64 < cLine) : OpR X (compareOp .Eq) (rEqD X.K false) := by
  intro pins s σ H x y v u Q I rx ry h
  obtain ⟨d, d', hx, hy, s1, s2, q⟩ := h
  obtain ⟨as, ra⟩ := I.reads hx rx
  obtain ⟨bs, rb⟩ := I.reads hy ry
  exact eq_dataH ra rb s1 s2 hu ⟨.bl _, H, I, rfl, by simpa using q⟩
theorem op_neD (hu : X.A.units + 64 < cLine) : OpR X (compareOp .NotEq) (rEqD X.K true) := by
  intro pins s σ H x y v u Q I rx ry h
  obtain ⟨d, d', hx, hy, s1, s2, q⟩ := h
  obtain ⟨as, ra⟩ := I.reads hx rx
  obtain ⟨bs, rb⟩ := I.reads hy ry
  exact ne_dataH ra rb s1 s2 hu ⟨.bl _, H, I, rfl, by simpa using q⟩
end
mutual
theorem Dat.same {K : PySem.W.Frag} {H H' : Hp} (g : Same H H') : ∀ {x : V} {d : PyData}, Dat K H x d → Dat K H' x d
  | _, _, .non => .non
  | _, _, .bl b => .bl b
  | _, _, .int i => .int i
  | _, _, .str x => .str x
  | _, _, .lst h t => .lst (g.seq h) (DatAll.same g t)
  | _, _, .tup h t => .tup (by
      rcases h with (h | ⟨o, h⟩) | h
      · exact .inl (.inl (g _ _ h))
      · exact .inl (.inr ⟨o, g _ _ h⟩)
      · exact .inr h) (DatAll.same g t)
theorem DatAll.same {K : PySem.W.Frag} {H H' : Hp} (g : Same H H') : ∀ {xs : List V} {ds : List PyData}, DatAll K H xs ds → DatAll K H' xs ds
  | _, _, .nil => .nil
  | _, _, .cons h t => .cons (Dat.same g h) (DatAll.same g t)
end
end L2

/-! sum of a list of ints, << of long ints, range falling by one, a slice given -/
namespace L2
open PySem PySem.Spec PyProof.Rows
section
variable {X : Cx}
/-- << of an int of some size -/
def CShl (i j : Int) : Prop := 0 ≤ j ∧ j ≤ 1000000 ∧ i.natAbs < 2 ^ 4000
/-- lo, lo + st, .. (n of them) -/
def Itrs (lo st : Int) (n : Nat) : It := ⟨fun i _ => i < n, fun i H x H' => H' = H ∧ x = .int (lo + i * st), fun i _ => n ≤ i⟩
def iRngD (ta : TA) : TI := fun σ H R => ta σ H fun vs H1 => ∃ i j : Int, vs = [.int i, .int j, .int (-1)] ∧ (-(2 ^ 62) ≤ i ∧ i < 2 ^ 62 ∧ -(2 ^ 62) ≤ j ∧ j < 2 ^ 62) ∧ R (Itrs i (-1) (i - j).toNat) H1
/-- o[lo:hi] = a list -/
def gSlc (to : TE) (tl th : TO) : TG := fun v σ H Q => to σ H fun o H1 => tl σ H1 fun l H2 => th σ H2 fun u H3 => ∃ (p b : Addr) (xs ys : List V) (a c : Int), o = .ref p ∧ v = .ref b ∧ H3 p = some (.lst xs) ∧ H3 b = some (.lst ys) ∧ p ≠ b ∧ l = some a ∧ u = some c ∧
  0 ≤ a ∧ a ≤ c ∧ c ≤ xs.length ∧ xs.length + ys.length ≤ sizeLine ∧ Q σ (upd H3 p (.lst (xs.take a.toNat ++ ys ++ xs.drop c.toNat)))
end
end L2

/-! name = [.. for ..] : the value is stored ahead of the block's end -/
namespace L2
open PySem PySem.Spec PyProof.Rows
section
variable {X : Cx} {elt tg iter : Expr} {ifs : List Expr} {scope : Scope} {cl : List (Str × Addr)} {ts ys : List Str} {js : List Nat} {pos : Pos} {wi : TI} {g : TG} {tc : TT} {te : TE}
theorem comp_mid (ts ys : List Str) (js : List Nat) (hc : X.calm = true) (hi : PI X tg iter wi) (hclos : closureFor scope X.env = pure cl) (hsub : subCl X.env cl) (hcap : capt X scope cl ys js)
    (hg : ∀ s H fp C, PG (X.comp scope cl (ts ++ ys) s H fp C) tg g) (ht : ∀ s H fp C, PIf (X.comp scope cl (ts ++ ys) s H fp C) ifs tc) (he : ∀ s H fp C, PE (X.comp scope cl (ts ++ ys) s H fp C) elt te)
    (hkind : scope.kind = .function) (hcell : (scope.names.all fun y => y.2 != .cell) = true)
    (hnames : (scope.names.all fun y => y.2 != .local || scope.names.lookup y.1 == some .local) = true)
    (hhas : ((relabel scope X.env).names.all fun p => (p.2 != .cell && p.2 != .free) || (cl.lookup p.1).isSome) = true)
    (hs : ∀ x, foldedSetIterable iter X.env x = pure x) {use : Option (Value → Sem Unit)} {QV : Value → Shared → Prop} {pins : List (Addr × Obj)} {s : Shared} {σ : St} {H : Hp} {Q : VK} {p0 : Pos} (I : Inv X pins σ H s) (h : tComp wi ts.length js g tc te σ H Q)
    (hfin : ∀ {H2 H3 : Hp} {s2 s4 : Shared} {fp : List Addr} {C : Addr} {pins' : List (Addr × Obj)} {σ' : St} {its : List Value} {xs : List V} {n : Nat}, Inv X pins σ H2 s2 → (∀ b ∈ fp, FpOk X pins H2 b) → Inv (X.comp scope cl (ts ++ ys) s2 H2 fp C) pins' σ' H3 s4 → s2.heap.objs.size ≤ C → s2.heap.objs.size ≠ C → Vals xs its → xs.length ≤ sizeLine →
      s4.heap.get? s2.heap.objs.size = some { cls := .type "list", data := .seq its.toArray n } → H3 s2.heap.objs.size = none → (∀ p, H3 p = none → Q (.ref p) (upd H3 p (.lst xs))) → compPost (model X.prog X.w) X.A X.xe use QV (.ref s2.heap.objs.size) C (.ok .next) s4) :
    wpAny (model X.prog X.w) X.A (comprehension (.ListComp elt [⟨tg, iter, ifs, 0⟩] scope pos) scope X.env p0 (newList []) false (eval iter X.env) use) QV X.xe s := by
  have hcell' : ∀ y ∈ scope.names, y.2 ≠ .cell := fun y hy z => by
    have := List.all_eq_true.mp hcell y hy
    rw [z] at this
    exact absurd this (by decide)
  have hnames' : ∀ y ∈ scope.names, y.2 = .local → scope.names.lookup y.1 = some .local := fun y hy z => by
    have := List.all_eq_true.mp hnames y hy
    rw [z] at this
    simpa using this
  have hhas' : ∀ x, ((relabel scope X.env).names.lookup x = some .cell ∨ (relabel scope X.env).names.lookup x = some .free) → ∃ c, cl.lookup x = some c := fun x hx => by
    rcases hx with hx | hx
    · have := List.all_eq_true.mp hhas _ (PySem.mem_of_lookup hx)
      exact Option.isSome_iff_exists.mp (by simpa using this)
    · have := List.all_eq_true.mp hhas _ (PySem.mem_of_lookup hx)
      exact Option.isSome_iff_exists.mp (by simpa using this)
  refine wpAny_comprehension_free (use := use) rfl hs hclos hkind hnames' (thn (hi pins s σ H _ I h) fun v s1 h1 => thn h1 fun itv s2 h2 => ?_)
  obtain ⟨it, fp, tn, J, H2, e, I2, T, st2, f2, W, ⟨m0, w0⟩, turn⟩ := h2
  subst e
  have fl : ∀ b ∈ fp, b < s2.heap.objs.size := fun b hb => by
    obtain ⟨o, e, _⟩ := T.obj _ _ st2 b hb
    exact Heap.lt_size e
  refine wpAny_newObj_type (wpAny_newFunctionEnv hcell' (by intro y hy; simp at hy) (fun h₁ hns₁ hsb₁ => ?_) hkind)
  dsimp only at hns₁ hsb₁ ⊢
  generalize hHH : s2.heap.push { cls := .type "list", dict := none, data := .seq ([] : List Value).toArray } = HH at hns₁ hsb₁ ⊢
  have hC : HH.objs.size = s2.heap.objs.size + 1 := by rw [← hHH, Heap.size_push]
  have hDC : s2.heap.objs.size ≠ HH.objs.size := by rw [hC]; exact Nat.ne_of_lt (Nat.lt_succ_self _)
  have hCle : s2.heap.objs.size ≤ HH.objs.size := by rw [hC]; exact Nat.le_succ _
  have old : ∀ b o, s2.heap.get? b = some o → h₁.get? b = some o := fun b o e =>
    hsb₁.extBut b o (Nat.ne_of_lt (Nat.lt_of_lt_of_le (Heap.lt_size e) hCle)) (Heap.get?_push_of_some _ (hHH ▸ Heap.get?_push_of_some _ e))
  have hacc : h₁.get? s2.heap.objs.size = some { cls := .type "list", data := .seq ([] : List Value).toArray } := hsb₁.extBut _ _ hDC (Heap.get?_push_of_some _ (hHH ▸ Heap.get?_push_size _ rfl))
  have nofs : ∀ b, s2.heap.objs.size ≤ b → b ∉ frs X.stack := fun b hb z => by
    rcases List.mem_cons.mp (I2.stkSub b z) with e | e
    · exact absurd (Nat.lt_of_lt_of_le I2.lt (e ▸ hb)) (Nat.lt_irrefl _)
    · exact I2.nofs hb e
  have nocell : ∀ b, s2.heap.objs.size ≤ b → ∀ x c, cl.lookup x = some c → c ≠ b := fun b hb x c e z => by
    obtain ⟨v, q⟩ := I2.cell x c (hsub.at e)
    exact absurd (Nat.lt_of_lt_of_le q.lt (z ▸ hb)) (Nat.lt_irrefl _)
  have I' : Inv (X.comp scope cl (ts ++ ys) s2 H2 fp HH.objs.size) [] (capSt ts.length js σ) H2 { s2 with heap := h₁, toks := s2.toks + ([] : List (Str × Value)).length } :=
    inv_comp I2 hsub hcap hkind hhas' f2 fl hCle hns₁ old
  have addPin : ∀ {σ' : St} {H' : Hp} {s' : Shared} {o : Obj}, Inv (X.comp scope cl (ts ++ ys) s2 H2 fp HH.objs.size) [] σ' H' s' → s'.heap.get? s2.heap.objs.size = some o → H' s2.heap.objs.size = none → (∀ v, o.data ≠ .cell v) →
      Inv (X.comp scope cl (ts ++ ys) s2 H2 fp HH.objs.size) [(s2.heap.objs.size, o)] σ' H' s' := fun {σ' H' s' o} J e n d => J.pins_of fun p hp => by
    have e' : p = (s2.heap.objs.size, o) := by simpa using hp
    subst e'
    exact ⟨e, n, hDC, nofs _ (Nat.le_refl _), d⟩
  have stat : ∀ {pins' : List (Addr × Obj)} {H' : Hp}, (∀ p ∈ pins', p.1 = s2.heap.objs.size) → (∀ b ∈ fp, H' b = none) → ∀ b ∈ fp, FpOk (X.comp scope cl (ts ++ ys) s2 H2 fp HH.objs.size) pins' H' b := fun {pins' H'} hp hn b hb =>
    ⟨hn b hb, Nat.ne_of_lt (Nat.lt_of_lt_of_le (fl b hb) hCle), I'.ok.exfs b hb, .inl hb, (I'.ok.exf b hb).2, fun p hq z => by
      have hq' : p ∈ pins' := by simpa using hq
      exact absurd (fl b hb) (by rw [← z, hp p hq']; exact Nat.lt_irrefl _)⟩
  have tn1 : tn 0 h₁ := T.keep _ _ _ st2 fun b _ o e => old b o e
  have loop : ∀ s₃ : Shared, s₃ = { s2 with heap := h₁, toks := s2.toks + ([] : List (Str × Value)).length } →
      codeAny (model X.prog X.w) X.A (.compLoop (.ListComp elt [⟨tg, iter, ifs, 0⟩] scope pos) 0 (.ref it) (.ref s2.heap.objs.size) (compEnvC scope cl HH.objs.size X.env))
        (compPost (model X.prog X.w) X.A X.xe use QV (.ref s2.heap.objs.size) HH.objs.size) s₃ := by
    rintro s₃ rfl
    refine compLoop_gen (fun n s' => ∃ i σ' xs H' its nn, Inv (X.comp scope cl (ts ++ ys) s2 H2 fp HH.objs.size) [] σ' H' s' ∧ Vals xs its ∧ xs.length ≤ sizeLine ∧ s'.heap.get? s2.heap.objs.size = some { cls := .type "list", data := .seq its.toArray nn } ∧ H' s2.heap.objs.size = none ∧
      tn i s'.heap ∧ (∀ b ∈ fp, H' b = none) ∧ W i n σ' xs H') ?_ m0 ⟨0, _, [], H2, [], 0, I', .nil, Nat.zero_le _, hacc, I2.hok.fresh (Nat.le_refl _), tn1, fun b hb => (f2 b hb).1, w0⟩
    rintro n s3 ⟨i, σ3, xs, H3, its, nn, I3, rv, hz3, ac3, nD3, st3, fr3, w3⟩
    have nd : ∀ v, ({ cls := .type "list", data := .seq its.toArray nn } : Obj).data ≠ .cell v := fun v z => by
      have z' : Data.seq its.toArray nn = Data.cell v := z
      cases z'
    have I3p := addPin I3 ac3 nD3 nd
    have pinD : ∀ p ∈ [(s2.heap.objs.size, ({ cls := .type "list", data := .seq its.toArray nn } : Obj))], p.1 = s2.heap.objs.size := fun p hp => by
      rw [List.mem_singleton] at hp
      rw [hp]
    rcases turn i n σ3 xs H3 w3 with ⟨stop, qn⟩ | ⟨go, hz, N, hN, step⟩
    · refine thn (T.done (X.comp scope cl (ts ++ ys) s2 H2 fp HH.objs.size) rfl rfl rfl hc i _ s3 σ3 H3 (fun _ _ => False) I3p (stat pinD fr3) st3 stop) fun r s4 ⟨hr, I4⟩ => ?_
      subst hr
      have ac4 := (I4.pin _ (List.mem_append_right _ (List.mem_singleton.mpr rfl))).1
      exact hfin I2 f2 I4 hCle hDC rv hz3 ac4 nD3 qn
    · refine thn (T.item (X.comp scope cl (ts ++ ys) s2 H2 fp HH.objs.size) rfl rfl rfl hc i _ s3 σ3 H3 (fun _ _ => False) I3p (stat pinD fr3) st3 go) fun r s4 ⟨u, hr, h4⟩ => ?_
      subst hr
      refine thn h4 fun _ s5 ⟨x, H5, I5, r5, y5, st5, fr5⟩ => ?_
      have I5' := I5.pinned (stat pinD fr5) (T.obj _ _ st5)
      refine thn (hg _ _ _ _ _ s5 σ3 H5 x u _ I5' r5 (step x H5 y5)) fun _ s6 ⟨σ6, H6, I6, q6⟩ => ?_
      refine thn (ht _ _ _ _ _ s6 σ6 H6 _ I6 q6) fun b s7 ⟨H7, I7, q7⟩ => ?_
      -- what stands of the pins
      have facts : ∀ {σ' : St} {H' : Hp} {s' : Shared}, Inv (X.comp scope cl (ts ++ ys) s2 H2 fp HH.objs.size) ([(s2.heap.objs.size, ({ cls := .type "list", data := .seq its.toArray nn } : Obj))] ++ pinsAt fp s5.heap) σ' H' s' →
          s'.heap.get? s2.heap.objs.size = some { cls := .type "list", data := .seq its.toArray nn } ∧ H' s2.heap.objs.size = none ∧ tn (i + 1) s'.heap ∧ (∀ b ∈ fp, H' b = none) := fun {σ' H' s'} J => by
        have p1 := J.pin (s2.heap.objs.size, ({ cls := .type "list", data := .seq its.toArray nn } : Obj)) (by simp)
        refine ⟨p1.1, p1.2.1, T.keep _ _ _ st5 fun b hb o e => (J.pin (b, o) (List.mem_append_right _ (List.mem_append_right _ (mem_pinsAt hb e)))).1, fun b hb => ?_⟩
        obtain ⟨o, e, d⟩ := T.obj _ _ st5 b hb
        exact (J.pin (b, o) (List.mem_append_right _ (List.mem_append_right _ (mem_pinsAt hb e)))).2.1
      have bare : ∀ {σ' : St} {H' : Hp} {s' : Shared}, Inv (X.comp scope cl (ts ++ ys) s2 H2 fp HH.objs.size) ([(s2.heap.objs.size, ({ cls := .type "list", data := .seq its.toArray nn } : Obj))] ++ pinsAt fp s5.heap) σ' H' s' →
          Inv (X.comp scope cl (ts ++ ys) s2 H2 fp HH.objs.size) [] σ' H' s' := fun J => J.pins_of fun p hp => absurd hp (by simp)
      cases b with
      | false =>
        have q7' : N σ6 xs H7 := by simpa using q7
        obtain ⟨m', hm, w7⟩ := hN _ _ _ q7'
        obtain ⟨a1, a2, a3, a4⟩ := facts I7
        show ∃ m, m < n ∧ _
        exact ⟨m', hm, i + 1, σ6, xs, H7, its, nn, bare I7, rv, hz3, a1, a2, a3, a4, w7⟩
      | true =>
        have q7' : te σ6 H7 fun v H5 => N σ6 (xs ++ [v]) H5 := by
          rw [if_pos rfl] at q7
          exact q7
        show wpAny _ _ (eval elt _) _ _ s7
        refine thn (he _ _ _ _ _ s7 σ6 H7 _ I7 q7') fun xv s8 ⟨v, H8, I8, r8, n8⟩ => ?_
        obtain ⟨m', hm, w8⟩ := hN _ _ _ n8
        obtain ⟨a1, a2, a3, a4⟩ := facts I8
        have hl := rv.length
        refine call_meets F.slot_list_append ⟨_, a1, rfl⟩ F.entry_list_append (F.args_list_append_2 _ _) (PySem.list_append s2.heap.objs.size its.toArray nn xv (by rw [List.size_toArray]; omega)) ⟨a1, ?_⟩
        obtain ⟨n9, q9⟩ : ∃ n9, (s8.heap.update s2.heap.objs.size (Obj.mapSeq fun a => a.push xv)).get? s2.heap.objs.size = some { cls := .type "list", data := .seq (its ++ [xv]).toArray n9 } :=
          ⟨_, by rw [show (its ++ [xv]).toArray = its.toArray.push xv by simp]; exact PySem.IsL.update a1 (fun a => a.push xv)⟩
        have I9 : Inv (X.comp scope cl (ts ++ ys) s2 H2 fp HH.objs.size) [] σ6 H8 { s8 with heap := s8.heap.update s2.heap.objs.size (Obj.mapSeq fun a => a.push xv), toks := s8.toks } :=
          (bare I8).turned (it := s2.heap.objs.size) (fun b o hb e => (Heap.get?_update_other s8.heap _ (Ne.symm hb)).trans e) a2 hDC (.inr (Nat.le_refl _)) (nocell _ (Nat.le_refl _)) fun p hp => absurd (show p ∈ ([] : List (Addr × Obj)) from hp) (by simp)
        refine ⟨m', hm, i + 1, σ6, xs ++ [v], H8, its ++ [xv], n9, I9, rv.append (.cons r8 .nil), ?_, q9, a2, ?_, a4, w8⟩
        · rw [List.length_append, List.length_singleton]; omega
        · exact T.keep _ _ _ a3 fun b hb o e => (Heap.get?_update_other s8.heap _ (Ne.symm (Nat.ne_of_lt (fl b hb)))).trans e
  exact codeAny_compStart_list (loop _ rfl) (T.self _ 0 _ _ _ tn1 (loop _ rfl))

theorem ps_setC {i : Nat} {y : Str} {py spos : Pos} (ts ys : List Str) (js : List Nat) (hN : X.N.Nodup) (hiN : X.N[i]? = some y) (hy : X.env.scope.names.lookup y = some .local) (hc : X.calm = true) (hi : PI X tg iter wi) (hclos : closureFor scope X.env = pure cl) (hsub : subCl X.env cl) (hcap : capt X scope cl ys js)
    (hg : ∀ s H fp C, PG (X.comp scope cl (ts ++ ys) s H fp C) tg g) (ht : ∀ s H fp C, PIf (X.comp scope cl (ts ++ ys) s H fp C) ifs tc) (he : ∀ s H fp C, PE (X.comp scope cl (ts ++ ys) s H fp C) elt te)
    (hkind : scope.kind = .function := by rfl) (hcell : (scope.names.all fun y => y.2 != .cell) = true := by rfl)
    (hnames : (scope.names.all fun y => y.2 != .local || scope.names.lookup y.1 == some .local) = true := by rfl)
    (hhas : ((relabel scope X.env).names.all fun p => (p.2 != .cell && p.2 != .free) || (cl.lookup p.1).isSome) = true := by rfl)
    (hs : ∀ x, foldedSetIterable iter X.env x = pure x := by intro _; rfl)
    (hsw : swapsWith (.ListComp elt [⟨tg, iter, ifs, 0⟩] scope pos) (some (.Name y py)) spos.line X.env = pure true := by rfl) :
    PS X (.Assign [.Name y py] (.ListComp elt [⟨tg, iter, ifs, 0⟩] scope pos) spos) (tAsg (tComp wi ts.length js g tc te) (gName i)) := by
  intro pins s σ H D I h
  rw [exec_Assign_Name_used _ _ _ _ hsw]; refine wpAny_bind (wpAny_standAt (wpAny_bind ?_))
  show wpAny _ _ (do let _ ← comprehension (.ListComp elt [⟨tg, iter, ifs, 0⟩] scope pos) scope X.env _ (newList []) false (eval iter X.env) (some (assign (.Name y py) X.env))) _ _ s
  refine wpAny_bind (wpAny_mono (comp_mid (QV := fun _ s' => SP X pins D .next s') ts ys js hc hi hclos hsub hcap hg ht he hkind hcell hnames hhas hs I h ?_) (fun _ s' q => wpAny_pure (wpAny_pure q)) fun _ _ z => z)
  intro H2 H3 s2 s4 fp C pins' σ' its xs n I2 f2 I4 hC hDC rv hz e4 nD q
  have J : Inv X pins σ (upd H3 s2.heap.objs.size (.lst xs)) { s4 with heap := s4.heap } := comp_end I2 f2 I4 hC (Nat.le_refl _) hDC (Heap.SameBut.refl _ _) rv hz e4 nD
  obtain ⟨m, hm, _⟩ := I4.loc
  have hm' : s4.heap.Ns C m := hm
  have hL : C ≠ X.env.locals := fun z => absurd (Nat.lt_of_lt_of_le I2.lt (z ▸ hC)) (Nat.lt_irrefl _)
  have hn : upd H3 s2.heap.objs.size (.lst xs) C = none := by
    rw [upd_ne (Ne.symm hDC)]; exact I4.free
  have hcl : ∀ x c, X.env.cells.lookup x = some c → c ≠ C := fun x c e z => by
    obtain ⟨v, q⟩ := I2.cell x c e
    exact absurd (Nat.lt_of_lt_of_le q.lt (z ▸ hC)) (Nat.lt_irrefl _)
  have hpin : ∀ p ∈ X.pn ++ pins, p.1 ≠ C := fun p hp z => absurd (Nat.lt_of_lt_of_le (Heap.lt_size (I2.pin p hp).1) (z ▸ hC)) (Nat.lt_irrefl _)
  show wpAny _ _ (assign (.Name y py) X.env _) _ _ _
  refine wpAny_assign_Name (store_ok2 J hN hiN (.inl hy) (v := .ref s2.heap.objs.size) rfl (fun s5 J5 ⟨a, sb, ha⟩ => ?_) (.inr hy))
  have hCa : C ≠ a := by
    rcases ha with z | z
    · rw [z]; exact hL
    · exact Ne.symm (hcl _ _ z)
  refine ⟨m, hm'.sameBut sb hCa, fun h' hs' => ?_⟩
  exact ⟨_, _, J5.turned (h' := h') (t' := s5.toks) (fun b o hb e => hs'.extBut b o hb e) hn hL (.inr (Nat.le_trans I2.sz hC)) hcl hpin, q _ nD⟩
end
end L2

/-! list.insert(0, x), list.remove(n) of ints; a comprehension whose target is a tuple of names -/
namespace L2
open PySem PySem.Spec PyProof.Rows
section
variable {X : Cx}
def rInsert0 : V → List V → Hp → VK → Prop := fun x vs H Q => ∃ l xs y, x = .ref l ∧ vs = [.int 0, y] ∧ H l = some (.lst xs) ∧ xs.length < sizeLine ∧ Q .non (upd H l (.lst (y :: xs)))
theorem mt_insert0 : MtM X "list.insert" rInsert0 := by
  intro pins s σ H x vs v us Q I rx rv h
  obtain ⟨l, xs, y, rfl, rfl, hH, hz, q⟩ := h
  cases rx
  obtain ⟨u0, u, rfl, ⟨t0, rfl⟩, ru⟩ := rv.two
  obtain ⟨z, its, n, r, hl, e⟩ := I.lstM hH
  refine call_meets F.slot_list_insert ⟨_, e, rfl⟩ F.entry_list_insert (F.args_list_insert_3 _ _ _) (PySem.AutoSeq1.list_insert_list_int_val_1 l its.toArray n 0 t0 u (by decide) (by rw [List.size_toArray]; omega)) ⟨e, ?_⟩
  refine ⟨.non, _, I.lset (its' := u :: its) hH e ?_ (.cons ru r) ?_, rfl, q⟩
  · show (its.toArray.extract 0 (if (0 : Int) < 0 then ((0 : Int) + (its.toArray.size : Int)).toNat else min (0 : Int).toNat its.toArray.size)).push u ++ its.toArray.extract (if (0 : Int) < 0 then ((0 : Int) + (its.toArray.size : Int)).toNat else min (0 : Int).toNat its.toArray.size) = (u :: its).toArray
    rw [if_neg (by decide), show min (0 : Int).toNat its.toArray.size = 0 by simp]
    apply Array.toList_inj.mp
    simp
  · rw [List.length_cons]; omega
def rRemoveI : V → List V → Hp → VK → Prop := fun x vs H Q => ∃ (l : Addr) (ns : List Int) (k : Int), x = .ref l ∧ vs = [.int k] ∧ H l = some (.lst (ns.map V.int)) ∧ k ∈ ns ∧ Q .non (upd H l (.lst ((ns.erase k).map V.int)))
theorem vals_kf : ∀ {ns : List Int} {us : List Value}, Vals (ns.map V.int) us → PySem.W.kf_ints us = true
  | [], us, r => by cases r; rfl
  | n :: ns, us, r => by
    cases r with
    | cons r1 r2 =>
      obtain ⟨t, rfl⟩ := r1
      have h := vals_kf (ns := ns) r2
      unfold PySem.W.kf_ints
      exact h
theorem vals_at {k : Int} : ∀ {ns : List Int} {us : List Value}, Vals (ns.map V.int) us → k ∈ ns → ∃ j, PySem.W.kf_at k us = some j ∧ Vals ((ns.erase k).map V.int) (us.eraseIdx j)
  | n :: ns, us, r, h => by
    cases r with
    | cons r1 r2 =>
      obtain ⟨t, rfl⟩ := r1
      by_cases e : n = k
      · subst e
        refine ⟨0, ?_, ?_⟩
        · show cond (PyProof.Rows.isInt n (.int n t)) _ _ = _
          rw [show PyProof.Rows.isInt n (.int n t) = true by simp [PyProof.Rows.isInt]]; rfl
        · rw [List.erase_cons_head]; exact r2
      · have h' : k ∈ ns := by
          rcases List.mem_cons.mp h with z | z
          · exact absurd z.symm e
          · exact z
        obtain ⟨j, e1, e2⟩ := vals_at (ns := ns) r2 h'
        refine ⟨j + 1, ?_, ?_⟩
        · show cond (PyProof.Rows.isInt k (.int n t)) _ _ = _
          rw [show PyProof.Rows.isInt k (.int n t) = false by simp [PyProof.Rows.isInt, e]]
          show (match PySem.W.kf_at k _ with | some j => some (j + 1) | none => none) = _
          rw [e1]
        · rw [List.erase_cons_tail (by simpa using e)]
          exact .cons ⟨t, rfl⟩ e2
theorem mt_removeI : MtM X "list.remove" rRemoveI := by
  intro pins s σ H x vs v us Q I rx rv h
  obtain ⟨l, ns, k, rfl, rfl, hH, hk, q⟩ := h
  cases rx
  obtain ⟨u, rfl, ru⟩ := rv.one
  obtain ⟨t, rfl⟩ := ru
  obtain ⟨z, its, n, r, hl, e⟩ := I.lstM hH
  have hi := vals_kf r
  obtain ⟨j, ej, rj⟩ := vals_at r hk
  obtain ⟨a, b, c⟩ := PySem.W.kf_at_spec ej
  refine call_meets F.slot_list_remove ⟨_, e, rfl⟩ F.entry_list_remove (F.args_list_remove_2 _ _)
    (MeetsSeq.list_remove l its.toArray n (.int k t) (PyProof.Rows.isInt k) (fun y hy => PySem.W.kf_eq hi y (by simpa using hy)) j (by rw [List.size_toArray]; exact a) (by simpa using b) (fun i hi' hlt => by simpa using c i (by simpa using hi') hlt) (by rw [List.size_toArray]; omega)) ⟨e, ?_⟩
  refine ⟨.non, _, I.lset (its' := its.eraseIdx j) hH e ?_ rj ?_, rfl, q⟩
  · show its.toArray.eraseIdxIfInBounds j = (its.eraseIdx j).toArray
    rw [List.eraseIdxIfInBounds_toArray]
  · rw [List.length_map] at z ⊢
    have := List.length_erase_le (a := k) (l := ns)
    omega
theorem flat_nums : ∀ ns : List Int, (ns.map V.int).all flatV = true
  | [] => rfl
  | n :: ns => by rw [List.map_cons, List.all_cons, flat_nums ns]; rfl
theorem inV_nums (x : Int) : ∀ ns : List Int, inV (.int x) (ns.map V.int) = decide (x ∈ ns)
  | [] => rfl
  | n :: ns => by
    show (eqV (.int n) (.int x) || inV (.int x) (ns.map V.int)) = _
    rw [inV_nums x ns, Bool.eq_iff_iff]
    simp only [eqV, Bool.or_eq_true, beq_iff_eq, decide_eq_true_eq, List.mem_cons]
    exact ⟨fun h => h.imp Eq.symm id, fun h => h.imp Eq.symm id⟩
def rInI (K : PySem.W.Frag) : R2 := fun x y H Q => ∃ (p : Addr) (n : Int) (ns : List Int), x = .int n ∧ y = .ref p ∧ SqL K H p (ns.map V.int) ∧ Q (.bl (decide (n ∈ ns))) H
def rNotInI (K : PySem.W.Frag) : R2 := fun x y H Q => ∃ (p : Addr) (n : Int) (ns : List Int), x = .int n ∧ y = .ref p ∧ SqL K H p (ns.map V.int) ∧ Q (.bl (decide (n ∉ ns))) H
theorem op_notInI : OpR X (compareOp .NotIn) (rNotInI X.K) := by
  intro pins s σ H x y v u Q I rx ry h
  obtain ⟨p, n, ns, rfl, rfl, hS, q⟩ := h
  refine op_notIn_seq pins s σ H _ _ v u Q I rx ry ⟨p, _, rfl, .inl hS, rfl, flat_nums ns, ?_⟩
  rw [if_pos rfl, inV_nums, ← decide_not]
  exact q
end
/-- a comprehension over a list with any target: the names' cells are the first k -/
def CompM (P : Nat → List V → Hp → Prop) (i k : Nat) (js : List Nat) (σ : St) : St → List V → Hp → Prop := fun σ' ys H => P (i + 1) ys H ∧ ∃ os : St, os.length = k ∧ σ' = os ++ capV js σ
/-- all but the list at l is as it was -/
def But (l : Addr) (H H' : Hp) : Prop := ∀ b o, b ≠ l → H b = some o → H' b = some o
theorem But.trans {l : Addr} {H H1 H2 : Hp} (a : But l H H1) (b : But l H1 H2) : But l H H2 := fun x o n q => b x o n (a x o n q)
theorem But.refl {l : Addr} {H : Hp} : But l H H := fun _ _ _ q => q
theorem But.of {l : Addr} {H H' : Hp} (g : Same H H') : But l H H' := fun x o _ q => g x o q
theorem But.upd {l : Addr} {H : Hp} {o : HO} : But l H (upd H l o) := fun x u n q => by rw [upd_ne n]; exact q
end L2

/-! for a, b in enumerate(a list): each turn's tuple is new -/
namespace L2
open PySem PySem.Spec PyProof.Rows
section
variable {X : Cx} {pins : List (Addr × Obj)} {σ : St} {H : Hp} {s : Shared} {h' : Heap}
/-- two untracked records of ours have turned, and a new object is laid and tracked -/
theorem Inv.turned2 {t' : Nat} {e it p : Addr} {o : HO} (I : Inv X pins σ H s) (k : ∀ b u, b ≠ e → b ≠ it → s.heap.get? b = some u → h'.get? b = some u) (fe : FpOk X pins H e) (fi : FpOk X pins H it)
    (hp : s.heap.objs.size ≤ p) (new : ObjOk X.prog X.w (upd H p o) h' p o) : Inv X pins σ (upd H p o) { s with heap := h', toks := t' } := by
  have hn := I.hok.fresh hp
  have ne : ∀ b u, H b = some u → b ≠ e := fun b u q => ne_of_none q fe.1
  have ni : ∀ b u, H b = some u → b ≠ it := fun b u q => ne_of_none q fi.1
  have nx : ∀ b, b ∉ [e, it] → b ≠ e ∧ b ≠ it := fun b hb => ⟨fun z => hb (by simp [z]), fun z => hb (by simp [z])⟩
  have np : ∀ b u, s.heap.get? b = some u → b ≠ p := fun b u q => Nat.ne_of_lt (Nat.lt_of_lt_of_le (Heap.lt_size q) hp)
  have u : Un (frs X.stack) [e, it] H (upd H p o) s.heap h' := by
    refine ⟨fun b u q _ _ hx => k b u (nx b hx).1 (nx b hx).2 q, fun b u q _ _ hx => ⟨u.slots, k b u (nx b hx).1 (nx b hx).2 q⟩, fun b u q n _ => ?_, fun b u q hx => ⟨u, k b u (nx b hx).1 (nx b hx).2 q⟩, fun b xs q => ?_, fun b o' u q => ?_, fun b ps q => ⟨#[], ?_⟩⟩
    · rw [upd_ne (np b u q)]; exact n
    · rw [upd_ne (ne_of_none q hn)]; exact q
    · rw [upd_ne (ne_of_none q hn)]; exact q
    · rw [upd_ne (ne_of_none q hn), q]; simp
  have hok : HOk X.prog X.w (upd H p o) h' := fun b v eb => by
    by_cases hb : b = p
    · subst hb; rw [upd_same] at eb; cases eb; exact new
    · rw [upd_ne hb] at eb
      refine (I.hok b v eb).stay (fun c w hc q => k c w ?_ ?_ q) (fun c q => by rw [upd_ne (ne_of_none q hn)]; exact q) fun c xs q => by rw [upd_ne (ne_of_none q hn)]; exact q
      · rcases hc with z | z
        · rw [z]; exact ne b v eb
        · exact ne c _ z
      · rcases hc with z | z
        · rw [z]; exact ni b v eb
        · exact ni c _ z
  refine I.call (g' := s.gens) (d' := s.drawn) (t' := t') (ch := [e, it]) u hok I.bare fun b hb => ?_
  have : b = e ∨ b = it := by simpa using hb
  rcases this with rfl | rfl
  · exact ⟨fe.2.2.2.1, fe.2.1, fe.2.2.2.2.1, fe.2.2.2.2.2⟩
  · exact ⟨fi.2.2.2.1, fi.2.1, fi.2.2.2.2.1, fi.2.2.2.2.2⟩
end
def Ite (K : PySem.W.Frag) (a : Addr) : It :=
  ⟨fun i H => ∃ xs x, SqL K H a xs ∧ xs[i]? = some x, fun i H x H' => ∃ y p, x = .ref p ∧ H p = none ∧ H' = upd H p (.tup [.int (i : Int), y]) ∧ ∀ xs, SqL K H a xs → xs[i]? = some y, fun i H => ∃ xs, SqL K H a xs ∧ xs.length ≤ i⟩
theorem turn_enum {P : Program} {w : World} {K : PySem.W.Frag} {elts : List Expr} {x1 : Nat} {pos : Pos} (a e it : Addr) (hne : e ≠ it) : Turn P w K (.Tuple elts x1 pos) (Ite K a) [e, it] e (fun i h => (∃ old, IsEnum h e it (i : Int) old) ∧ h.IsListIter it a i) where
  mem := by simp
  obj := fun i h st b hb => by
    have : b = e ∨ b = it := by simpa using hb
    obtain ⟨⟨old, he⟩, o, ho, hc, hd⟩ := st
    rcases this with rfl | rfl
    · exact ⟨_, he, fun v z => by cases z⟩
    · exact ⟨o, ho, fun v z => by rw [hd] at z; cases z⟩
  keep := fun i h h' st k => by
    obtain ⟨⟨old, he⟩, o, ho, r⟩ := st
    exact ⟨⟨old, k e (by simp) _ he⟩, o, k it (by simp) _ ho, r⟩
  item := by
    intro X hP hw hK hc i pins s σ H E I hf st hg
    subst hP hw hK
    obtain ⟨xs, x, hq, hx⟩ := hg
    obtain ⟨its, rv, p, hz⟩ := I.list hq
    obtain ⟨u, hu, ru⟩ := rv.get hx
    have fe := hf e (by simp)
    have fi := hf it (by simp)
    obtain ⟨⟨old, he⟩, hit⟩ := st
    refine wpAny_pyNext_enum_item he hit p.isList (x := u) (by simpa using hu) hne fun h1 heo hit1 ht1 hz1 hk1 => ⟨_, rfl, ?_⟩
    refine wpAny_letOwnedTupleGo_enum heo fun h2 he2 hs2 => ?_
    replace hs2 : Heap.SameBut e h1 h2 := hs2
    have ne : s.heap.objs.size ≠ e := Nat.ne_of_gt (Heap.lt_size he)
    have ht2 : h2.get? s.heap.objs.size = some { cls := .type "tuple", data := .seq #[.int i s.toks, u] } := (hs2.2 _ ne).trans ht1
    have k2 : ∀ b v, b ≠ e → b ≠ it → s.heap.get? b = some v → h2.get? b = some v := fun b v n1 n2 q => (hs2.2 b n1).trans (hk1 b v n1 n2 q)
    refine ⟨.ref s.heap.objs.size, upd H s.heap.objs.size (.tup [.int (i : Int), x]), I.turned2 (t' := s.toks + 1) k2 fe fi (Nat.le_refl _) ⟨(by show 2 ≤ sizeLine; decide), [.int i s.toks, u], .cons ⟨_, rfl⟩ (.cons ru .nil), _, ht2, rfl, _, rfl⟩, rfl, ⟨x, _, rfl, I.hok.fresh (Nat.le_refl _), rfl, fun ys hy => by rw [I.list_inj hy hq]; exact hx⟩, ⟨⟨_, he2⟩, ?_⟩, fun b hb => ?_⟩
    · obtain ⟨o, ho, r⟩ := hit1
      exact ⟨o, (hs2.2 it (Ne.symm hne)).trans ho, r⟩
    · have : b = e ∨ b = it := by simpa using hb
      obtain ⟨oi, hoi, _⟩ := hit
      rcases this with rfl | rfl
      · rw [upd_ne (Ne.symm ne)]; exact fe.1
      · rw [upd_ne (Nat.ne_of_lt (Heap.lt_size hoi))]; exact fi.1
  done := by
    intro X hP hw hK hc i pins s σ H E I hf st hg
    subst hP hw hK
    obtain ⟨xs, hq, hl⟩ := hg
    obtain ⟨its, rv, p, hz⟩ := I.list hq
    have hlen := rv.length
    obtain ⟨f0, f1, f2, f3, f4, f5⟩ := hf it (by simp)
    obtain ⟨⟨old, he⟩, hit⟩ := st
    exact wpAny_pyNext_enum_end (I.ok.hd hc) he hit p.isList (by simp; omega) fun h' eb => ⟨rfl, I.turned (t' := s.toks) (fun b o hb e => eb b o hb e) f0 f1 f3 f4 f5⟩
  self := fun _ _ _ _ _ st h => by
    obtain ⟨⟨old, he⟩, _⟩ := st
    exact wpAny_pyIter_enum he h
def iEnum (K : PySem.W.Frag) (ta : TA) : TI := fun σ H R => ta σ H fun vs H1 => ∃ a xs, vs = [.ref a] ∧ SqL K H1 a xs ∧ R (Ite K a) H1
theorem pi_enum {X : Cx} {elts : List Expr} {x1 : Nat} {tpos : Pos} {a : Expr} {ta : TA} {p pos : Pos} (hg : Gl X "enumerate") (hm : X.mg "enumerate" = none) (ha : PA X [a] ta) (hs : starEach [a] X.env = [(false, eval a X.env)] := by rfl) : PI X (.Tuple elts x1 tpos) (.Call (.Name "enumerate" p) [a] [] pos) (iEnum X.K ta) := by
  intro pins s σ H R I h
  refine Call_ (ld_blt I hg hm boot_enumerate (PyProof.Rows.callWith_type1 (thn (ha pos pins s σ H _ I h) fun us s1 ⟨vs, H1, I1, r1, q1⟩ => ?_) hs rfl))
  obtain ⟨l, xs, e, hl, q⟩ := q1
  subst e
  obtain ⟨u, rfl, rx⟩ := vals1 r1
  cases rx
  obtain ⟨its, rv, pl, hz⟩ := I1.list hl
  refine call_enumerate_list pl.isList fun h' he hit hsz hk => wpAny_pyIter_enum he ?_
  refine ⟨s1.heap.objs.size + 1, [s1.heap.objs.size + 1, s1.heap.objs.size], _, _, H1, rfl, I1.kept (t' := s1.toks) hk, turn_enum l _ _ (Nat.succ_ne_self _), ⟨⟨_, he⟩, hit⟩, fun b hb => ?_, q⟩
  have : b = s1.heap.objs.size + 1 ∨ b = s1.heap.objs.size := by simpa using hb
  rcases this with rfl | rfl
  · exact I1.fpOk (Nat.le_succ _) (I1.hok.fresh (Nat.le_succ _))
  · exact I1.fpOk (Nat.le_refl _) (I1.hok.fresh (Nat.le_refl _))
/-- the loop by an invariant: the list stays -/
theorem for_enum {K : PySem.W.Frag} {a : Addr} {xs : List V} {g : TG} {tb : TS} {D : Ends} {σ : St} {H : Hp} (Pv : Nat → St → Hp → Prop) (h0 : Pv 0 σ H) (hl : ∀ i σ H, i ≤ xs.length → Pv i σ H → SqL K H a xs)
    (hs : ∀ i x σ H p, xs[i]? = some x → Pv i σ H → H p = none → g (.ref p) σ (upd H p (.tup [.int (i : Int), x])) fun σ2 H2 => tb { D with nx := Pv (i + 1), ct := Pv (i + 1), bk := D.nx } σ2 H2) (hd : ∀ σ H, Pv xs.length σ H → D.nx σ H) :
    ∃ W : Nat → Nat → St → Hp → Prop, (∃ m, W 0 m σ H) ∧ ∀ i m σ H, W i m σ H →
      ((Ite K a).stop i H ∧ D.nx σ H) ∨ ((Ite K a).go i H ∧ ∃ N : St → Hp → Prop, (∀ σ' H', N σ' H' → ∃ m', m' < m ∧ W (i + 1) m' σ' H') ∧ ∀ x H', (Ite K a).yld i H x H' → g x σ H' fun σ2 H2 => tb { D with nx := N, ct := N, bk := D.nx } σ2 H2) := by
  refine ⟨fun i m σ H => m = xs.length - i ∧ i ≤ xs.length ∧ Pv i σ H, ⟨xs.length, by simp, Nat.zero_le _, h0⟩, ?_⟩
  rintro i m σ H ⟨rfl, hi, p⟩
  have q := hl i σ H hi p
  by_cases hlt : i < xs.length
  · refine .inr ⟨⟨xs, xs[i], q, by simp [hlt]⟩, Pv (i + 1), fun σ' H' p' => ⟨xs.length - (i + 1), by omega, rfl, hlt, p'⟩, fun x H' y => ?_⟩
    obtain ⟨y', pa, rfl, hn, rfl, hy⟩ := y
    exact hs i y' σ H pa (hy xs q) p hn
  · have e : i = xs.length := by omega
    subst e
    exact .inl ⟨⟨xs, q, Nat.le_refl _⟩, hd σ H p⟩
end L2

/-! A list comprehension that has another one within: its own names are cells. -/
namespace L2
open PySem PySem.Spec PyProof.Rows
abbrev Cx.compK (X : Cx) (scope : Scope) (cl : List (Str × Addr)) (ks : List Str) (N : List Str) (s : Shared) (H : Hp) (fp : List Addr) (C : Addr) : Cx where
  prog := X.prog
  w := X.w
  K := X.K
  mg := X.mg
  base := X.base
  A := X.A
  N := N
  s₀ := s
  H₀ := H
  env := compEnvC scope cl C X.env
  outer := X.stack
  stack := X.stack
  ex := fp
  fn := fun x => ks.contains x
  calm := X.calm
  pn := []
  xe := fun _ _ => False
/-- the names ys have the same cells in both -/
def sameL (cl cl' : List (Str × Addr)) : List Str → Prop
  | [] => True
  | y :: ys => cl'.lookup y = cl.lookup y ∧ sameL cl cl' ys
theorem sameL.at {cl cl' : List (Str × Addr)} : ∀ {ys : List Str} {y : Str}, sameL cl cl' ys → y ∈ ys → cl'.lookup y = cl.lookup y
  | [], _, _, h => by simp at h
  | _ :: _, _, x, h => (List.mem_cons.mp h).elim (fun e => e ▸ x.1) (sameL.at x.2)
/-- the names ks have new cells -/
def newL (cl : List (Str × Addr)) (C : Nat) : List Str → Prop
  | [] => True
  | y :: ys => (∃ c, cl.lookup y = some c ∧ C < c) ∧ newL cl C ys
theorem newL.at {cl : List (Str × Addr)} {C : Nat} : ∀ {ys : List Str} {y : Str}, newL cl C ys → y ∈ ys → ∃ c, cl.lookup y = some c ∧ C < c
  | [], _, _, h => by simp at h
  | _ :: _, _, x, h => (List.mem_cons.mp h).elim (fun e => e ▸ x.1) (newL.at x.2)
theorem cellsFrom_has : ∀ (names : List (Str × NameKind)) (n : Nat) (acc : List (Str × Addr)) (x : Str), (∃ c, acc.lookup x = some c) → ∃ c, (cellsFrom n names acc).lookup x = some c
  | [], _, _, _, h => h
  | (name, kind) :: r, n, acc, x, h => by
    unfold cellsFrom
    split
    · refine cellsFrom_has r _ _ x ?_
      rw [List.lookup_cons]
      split
      · exact ⟨_, rfl⟩
      · exact h
    · exact cellsFrom_has r _ _ x h
structure CK (h : Heap) (lo : Nat) (cl acc : List (Str × Addr)) : Prop where
  mem : ∀ n c, acc.lookup n = some c → cl.lookup n = some c ∨ (lo ≤ c ∧ h.IsCell c none)
  inj : ∀ x y c, acc.lookup x = some c → acc.lookup y = some c → lo ≤ c → x = y
theorem cellsFrom_ck {cl : List (Str × Addr)} : ∀ (names : List (Str × NameKind)) (h : Heap) (lo : Nat) (acc : List (Str × Addr)), CK h lo cl acc → lo ≤ h.objs.size → (∀ n c, cl.lookup n = some c → c < lo) →
    CK (pushCells h names) lo cl (cellsFrom h.objs.size names acc)
  | [], _, _, _, x, _, _ => x
  | (name, kind) :: r, h, lo, acc, x, hlo, hcl => by
    unfold pushCells cellsFrom
    split
    · have lt : ∀ n c, acc.lookup n = some c → c < h.objs.size := fun n c e => by
        rcases x.mem n c e with q | q
        · exact Nat.lt_of_lt_of_le (hcl n c q) hlo
        · exact q.2.lt
      have := cellsFrom_ck r (h.push { cls := .type "cell", data := .cell none }) lo ((name, h.objs.size) :: acc) ⟨fun n c e => ?_, fun y z c e1 e2 hl => ?_⟩ (by rw [Heap.size_push]; omega) hcl
      · rwa [Heap.size_push] at this
      · rw [List.lookup_cons] at e
        split at e
        · cases e; exact .inr ⟨hlo, _, Heap.get?_push_size _ rfl, rfl⟩
        · rcases x.mem n c e with q | q
          · exact .inl q
          · exact .inr ⟨q.1, q.2.keeps fun b o e => Heap.get?_push_of_some _ e⟩
      · rw [List.lookup_cons] at e1 e2
        cases b1 : (y == name) with
        | true =>
          cases b2 : (z == name) with
          | true => rw [beq_iff_eq.mp b1, beq_iff_eq.mp b2]
          | false =>
            rw [b1] at e1
            rw [b2] at e2
            cases e1
            exact absurd (lt _ _ e2) (Nat.lt_irrefl _)
        | false =>
          rw [b1] at e1
          cases b2 : (z == name) with
          | true =>
            rw [b2] at e2
            cases e2
            exact absurd (lt _ _ e1) (Nat.lt_irrefl _)
          | false =>
            rw [b2] at e2
            exact x.inj y z c e1 e2 hl
    · exact cellsFrom_ck r h lo acc x hlo hcl
section
variable {M : Model} {A : Around} {E : Value → Shared → Prop} {s : Shared}
theorem newEnvK {scope : Scope} {globals : Addr} {closure : List (Str × Addr)} {qual : Str} {func : Option Addr} {code : Value} {env : Env} {builtins : Addr} {Q : Env → Shared → Prop}
    (h : Q (newEnv scope s.heap.objs.size globals (cellsFrom (s.heap.objs.size + 1) scope.names closure) qual func code (some env) builtins) { s with heap := pushCells (s.heap.push { cls := .type "dict", data := .dict #[] }) scope.names }) :
    wpAny M A (newFunctionEnv scope globals closure [] qual func code (some env) builtins) Q E s := by
  simp only [newFunctionEnv, Option.isSome_some, if_true]
  refine wpAny_bind (wpAny_alloc ?_)
  refine wpAny_bind (wpAny_layCells _ (fun name kind cells => by cases hkc : kind == NameKind.cell <;> simp [hkc]) _ _ _ _ ?_)
  rw [show ({ s with heap := s.heap.push { cls := .type "dict", data := .dict #[] } } : Shared).heap.objs.size = s.heap.objs.size + 1 from Heap.size_push ..]
  refine wpAny_bind ?_
  rw [List.forIn_nil]
  exact wpAny_pure (wpAny_pure h)
end
section
variable {X : Cx} {elt tg iter : Expr} {ifs : List Expr} {scope : Scope} {cl : List (Str × Addr)} {ts ys : List Str} {js : List Nat} {pos : Pos} {wi : TI} {g : TG} {tc : TT} {te : TE}
/-- the block's entry -/
theorem inv_compK {ks : List Str} {cl' : List (Str × Addr)} {pins : List (Addr × Obj)} {σ : St} {H : Hp} {s : Shared} {fp : List Addr} {C : Addr} {h1 : Heap} {m : Str → Option Value} {t' : Nat} (I : Inv X pins σ H s) (hsub : subCl X.env cl) (hcap : capt X scope cl ys js) (hsame : sameL cl cl' ys) (hnew : newL cl' C ks)
    (hkind : scope.kind = .function) (hhas : ∀ x, ((relabel scope X.env).names.lookup x = some .cell ∨ (relabel scope X.env).names.lookup x = some .free) → ∃ c, cl'.lookup x = some c)
    (f2 : ∀ b ∈ fp, FpOk X pins H b) (fl : ∀ b ∈ fp, b < s.heap.objs.size) (hC : s.heap.objs.size ≤ C) (hn : h1.Ns C m) (old : ∀ b o, s.heap.get? b = some o → h1.get? b = some o) (hck : CK h1 (C + 1) cl cl') :
    Inv (X.compK scope cl' ks (ts ++ ys) s H fp C) [] (capSt ts.length js σ) H { s with heap := h1, toks := t' } := by
  obtain ⟨mo, hno, hlo⟩ := id I.loc
  have oldlt : ∀ x c, cl.lookup x = some c → c < s.heap.objs.size := fun x c e => by
    obtain ⟨v, q⟩ := I.cell x c (hsub.at e)
    exact q.lt
  refine ⟨⟨I.ok.mod, hkind, I.ok.glob, I.ok.blt, hC, fun x y c e1 e2 => ?_, fun x hx => hhas x hx, fun x c z e => ?_, I.ok.hd, I.ok.frames, .inl rfl,
      fun b hb => ⟨Nat.ne_of_lt (Nat.lt_of_lt_of_le (fl b hb) hC), fun x c e => ?_⟩, I.bs, Nat.le_trans I.ok.bsz I.sz, fun b o e hb => ?_, fun b hb z => ?_, I.stack, I.stkFree⟩,
    rfl, I.bare, Un.kept old, ⟨m, hn, fun i x v e1 e2 e3 => ?_⟩, fun x c e => ?_, I.hok.fresh hC, fun x c e => ?_, fun p hp => absurd (show p ∈ ([] : List (Addr × Obj)) from hp) (by simp), I.hok.kept old, ?_⟩
  · rcases hck.mem x c e1 with q | q
    · rcases hck.mem y c e2 with q' | q'
      · exact I.ok.inj x y c (hsub.at q) (hsub.at q')
      · exact absurd (Nat.lt_of_lt_of_le (oldlt x c q) (Nat.le_trans hC (Nat.le_of_succ_le q'.1))) (Nat.lt_irrefl _)
    · exact hck.inj x y c e1 e2 q.1
  · obtain ⟨c', hc', hl⟩ := hnew.at (show x ∈ ks by simpa using z)
    have e' : cl'.lookup x = some c := e
    rw [hc'] at e'
    cases e'
    exact Nat.le_trans hC (Nat.le_of_lt hl)
  · rcases hck.mem x c e with q | q
    · exact (f2 b hb).2.2.2.2.1 x c (hsub.at q)
    · intro z
      subst z
      exact absurd (Nat.lt_of_lt_of_le (fl _ hb) (Nat.le_trans hC (Nat.le_of_succ_le q.1))) (Nat.lt_irrefl _)
  · -- an object of the base is none of the iterator's
    obtain ⟨_, _, _, h3, _⟩ := f2 b hb
    rcases h3 with z | z
    · exact I.ok.noex b o e z
    · exact absurd (Nat.lt_of_lt_of_le (Heap.lt_size e) (Nat.le_trans I.ok.bsz z)) (Nat.lt_irrefl _)
  · obtain ⟨_, h1', h2', _⟩ := f2 b hb
    rcases List.mem_cons.mp (I.stkSub b z) with e | e
    · exact h1' e
    · exact h2' e
  · obtain ⟨n, j, rfl, ej, es⟩ := capSt_get e2
    have ey : ys[n]? = some x := by
      have e1' : (ts ++ ys)[ts.length + n]? = some x := e1
      rw [List.getElem?_append_right (by omega)] at e1'
      simpa using e1'
    obtain ⟨j', ej', hN, hk, hr, c, hc⟩ := hcap.get ey
    rw [ej] at ej'
    cases ej'
    obtain ⟨u, ru, l⟩ := hlo j x v hN es (.inr (.inl hk))
    refine ⟨u, ru, .inr ⟨.inl hr, c, (hsame.at (List.mem_of_getElem? ey)).trans hc, ?_⟩⟩
    rcases l with ⟨k1, _⟩ | ⟨_, c', hc', ⟨o, ho, hd⟩⟩
    · rw [hk] at k1; cases k1
    · have := hsub.at hc
      rw [hc'] at this
      cases this
      exact ⟨o, old _ o ho, hd⟩
  · rcases hck.mem x c e with q | q
    · obtain ⟨v, o, ho, hd⟩ := I.cell x c (hsub.at q)
      exact ⟨v, o, old _ o ho, hd⟩
    · exact ⟨_, q.2⟩
  · rcases hck.mem x c e with q | q
    · exact I.freeC x c (hsub.at q)
    · exact I.hok.fresh (Nat.le_trans hC (Nat.le_of_succ_le q.1))
  · show (capSt ts.length js σ).length = (ts ++ ys).length
    unfold capSt
    rw [List.length_append, List.length_append, List.length_replicate, List.length_map, hcap.len]
theorem comp_endK {ks : List Str} {pins pins' : List (Addr × Obj)} {σ σ' : St} {H2 H3 : Hp} {s2 s4 : Shared} {fp : List Addr} {C D : Addr} {N : List Str} {h' : Heap} {its : List Value} {xs : List V} {n : Nat} (I2 : Inv X pins σ H2 s2) (f2 : ∀ b ∈ fp, FpOk X pins H2 b)
    (I4 : Inv (X.compK scope cl ks N s2 H2 fp C) pins' σ' H3 s4) (hC : s2.heap.objs.size ≤ C) (hD : s2.heap.objs.size ≤ D) (hDC : D ≠ C) (hs' : Heap.SameBut C s4.heap h') (rv : Vals xs its) (hz : xs.length ≤ sizeLine) (e4 : s4.heap.get? D = some { cls := .type "list", data := .seq its.toArray n }) (hn : H3 D = none) :
    Inv X pins σ (upd H3 D (.lst xs)) { s4 with heap := h' } := by
  have ext := hs'.extBut
  have neC : ∀ b o, s2.heap.get? b = some o → b ≠ C := fun b o e => Nat.ne_of_lt (Nat.lt_of_lt_of_le (Heap.lt_size e) hC)
  have neD : ∀ b o, s2.heap.get? b = some o → b ≠ D := fun b o e => Nat.ne_of_lt (Nat.lt_of_lt_of_le (Heap.lt_size e) hD)
  have hok : HOk X.prog X.w (upd H3 D (.lst xs)) h' := by
    have h1 : HOk X.prog X.w H3 h' := HOk.but (C := C) I4.hok I4.free fun b o hb e => ext b o hb e
    exact HOk.track h1 hn ⟨hz, its, n, rv, ext D _ hDC e4⟩
  have B : Un (frs X.stack) fp H2 H3 s2.heap s4.heap := I4.base
  have u : Un (frs X.stack) fp H2 (upd H3 D (.lst xs)) s2.heap h' := by
    refine ⟨fun b o e q hb hx => ext b o (neC b o e) (B.keep b o e q hb hx), fun b o e q hb hx => ?_, fun b o e q hx => ?_, fun b o e hx => ?_, fun b ys q => ?_, fun b o ys q => ?_, fun b ps q => ?_⟩
    · obtain ⟨sl, e1⟩ := B.slot b o e q hb hx
      exact ⟨sl, ext b _ (neC b o e) e1⟩
    · rw [upd_ne (neD b o e)]; exact B.free b o e q hx
    · obtain ⟨o', e1⟩ := B.there b o e hx
      exact ⟨o', ext b _ (neC b o e) e1⟩
    · have := B.tups b ys q
      rw [upd_ne (ne_of_none this hn)]; exact this
    · have := B.frzs b o ys q
      rw [upd_ne (ne_of_none this hn)]; exact this
    · obtain ⟨m1, e1⟩ := B.tbls b ps q
      exact ⟨m1, by rw [upd_ne (ne_of_none e1 hn)]; exact e1⟩
  have os : s4.os = s2.os := I4.os
  have gb := I4.bare
  obtain ⟨hh, gg, dd, tt, os'⟩ := s4
  obtain rfl : os' = s2.os := os
  have fin := I2.call (h' := h') (g' := gg) (d' := dd) (t' := tt) (ch := fp) u hok gb fun b hb => ⟨(f2 b hb).2.2.2.1, (f2 b hb).2.1, (f2 b hb).2.2.2.2.1, (f2 b hb).2.2.2.2.2⟩
  exact fin

theorem pe_compK (ts ys ks : List Str) (js : List Nat) (hc : X.calm = true) (hi : PI X tg iter wi) (hclos : closureFor scope X.env = pure cl) (hsub : subCl X.env cl) (hcap : capt X scope cl ys js) (hsame : ∀ C, sameL cl (cellsFrom (C + 1) scope.names cl) ys) (hnew : ∀ C, newL (cellsFrom (C + 1) scope.names cl) C ks)
    (hg : ∀ s H fp C, PG (X.compK scope (cellsFrom (C + 1) scope.names cl) ks (ts ++ ys) s H fp C) tg g) (ht : ∀ s H fp C, PIf (X.compK scope (cellsFrom (C + 1) scope.names cl) ks (ts ++ ys) s H fp C) ifs tc) (he : ∀ s H fp C, PE (X.compK scope (cellsFrom (C + 1) scope.names cl) ks (ts ++ ys) s H fp C) elt te)
    (hkind : scope.kind = .function := by rfl)
    (hnames : (scope.names.all fun y => y.2 != .local || scope.names.lookup y.1 == some .local) = true := by rfl)
    (hhas : ((relabel scope X.env).names.all fun p => (p.2 != .cell && p.2 != .free) || (cl.lookup p.1).isSome || ks.contains p.1) = true := by rfl)
    (hs : ∀ x, foldedSetIterable iter X.env x = pure x := by intro _; rfl) : PE X (.ListComp elt [⟨tg, iter, ifs, 0⟩] scope pos) (tComp wi ts.length js g tc te) := by
  intro pins s σ H Q I h
  have hnames' : ∀ y ∈ scope.names, y.2 = .local → scope.names.lookup y.1 = some .local := fun y hy z => by
    have := List.all_eq_true.mp hnames y hy
    rw [z] at this
    simpa using this
  have hhas' : ∀ C, ∀ x, ((relabel scope X.env).names.lookup x = some .cell ∨ (relabel scope X.env).names.lookup x = some .free) → ∃ c, (cellsFrom (C + 1) scope.names cl).lookup x = some c := fun C x hx => by
    have key : (cl.lookup x).isSome = true ∨ x ∈ ks := by
      rcases hx with hx | hx
      · have := List.all_eq_true.mp hhas _ (PySem.mem_of_lookup hx)
        simpa using this
      · have := List.all_eq_true.mp hhas _ (PySem.mem_of_lookup hx)
        simpa using this
    rcases key with k | k
    · obtain ⟨c, hc⟩ := Option.isSome_iff_exists.mp k
      exact cellsFrom_has _ _ _ _ ⟨c, hc⟩
    · obtain ⟨c, hc, _⟩ := (hnew C).at k
      exact ⟨c, hc⟩
  rw [eval_ListComp]
  refine wpAny_comprehension_free (use := none) rfl hs hclos hkind hnames' (thn (hi pins s σ H _ I h) fun v s1 h1 => thn h1 fun itv s2 h2 => ?_)
  obtain ⟨it, fp, tn, J, H2, e, I2, T, st2, f2, W, ⟨m0, w0⟩, turn⟩ := h2
  subst e
  have fl : ∀ b ∈ fp, b < s2.heap.objs.size := fun b hb => by
    obtain ⟨o, e, _⟩ := T.obj _ _ st2 b hb
    exact Heap.lt_size e
  refine wpAny_newObj_type (newEnvK ?_)
  dsimp only
  generalize hHH : s2.heap.push { cls := .type "list", dict := none, data := .seq ([] : List Value).toArray } = HH
  have hC : HH.objs.size = s2.heap.objs.size + 1 := by rw [← hHH, Heap.size_push]
  have hclt : ∀ n c, cl.lookup n = some c → c < HH.objs.size + 1 := fun n c e => by
    obtain ⟨v, q⟩ := I2.cell n c (hsub.at e)
    rw [hC]
    exact Nat.lt_of_lt_of_le q.lt (by omega)
  have keepsP : ∀ b o, HH.get? b = some o → (pushCells (HH.push { cls := .type "dict", data := .dict #[] }) scope.names).get? b = some o := fun b o e => pushCells_keeps _ _ b o (Heap.get?_push_of_some _ e)
  have hns₁ : (pushCells (HH.push { cls := .type "dict", data := .dict #[] }) scope.names).Ns HH.objs.size (fun _ => none) := (Heap.Ns.new HH (.type "dict")).keeps (pushCells_keeps _ _)
  have hck := cellsFrom_ck (cl := cl) scope.names (HH.push { cls := .type "dict", data := .dict #[] }) (HH.objs.size + 1) cl ⟨fun n c e => .inl e, fun x y c e _ hl => absurd (Nat.lt_of_lt_of_le (hclt x c e) hl) (Nat.lt_irrefl _)⟩ (by rw [Heap.size_push]; exact Nat.le_refl _) (fun n c e => hclt n c e)
  rw [Heap.size_push] at hck
  generalize hh₁ : pushCells (HH.push { cls := .type "dict", data := .dict #[] }) scope.names = h₁ at keepsP hns₁ hck
  have hDC : s2.heap.objs.size ≠ HH.objs.size := by rw [hC]; exact Nat.ne_of_lt (Nat.lt_succ_self _)
  have hCle : s2.heap.objs.size ≤ HH.objs.size := by rw [hC]; exact Nat.le_succ _
  have old : ∀ b o, s2.heap.get? b = some o → h₁.get? b = some o := fun b o e => keepsP b o (hHH ▸ Heap.get?_push_of_some _ e)
  have hacc : h₁.get? s2.heap.objs.size = some { cls := .type "list", data := .seq ([] : List Value).toArray } := keepsP _ _ (hHH ▸ Heap.get?_push_size _ rfl)
  have nofs : ∀ b, s2.heap.objs.size ≤ b → b ∉ frs X.stack := fun b hb z => by
    rcases List.mem_cons.mp (I2.stkSub b z) with e | e
    · exact absurd (Nat.lt_of_lt_of_le I2.lt (e ▸ hb)) (Nat.lt_irrefl _)
    · exact I2.nofs hb e
  have nocell : ∀ x c, (cellsFrom (HH.objs.size + 1) scope.names cl).lookup x = some c → c ≠ s2.heap.objs.size := fun x c e z => by
    rcases hck.mem x c e with q | q
    · obtain ⟨v, q⟩ := I2.cell x c (hsub.at q)
      rw [z] at q
      exact absurd q.lt (Nat.lt_irrefl _)
    · rw [z, hC] at q
      exact absurd q.1 (by omega)
  have I' : Inv (X.compK scope (cellsFrom (HH.objs.size + 1) scope.names cl) ks (ts ++ ys) s2 H2 fp HH.objs.size) [] (capSt ts.length js σ) H2 { s2 with heap := h₁, toks := s2.toks } :=
    inv_compK I2 hsub hcap (hsame _) (hnew _) hkind (hhas' _) f2 fl hCle hns₁ old hck
  have addPin : ∀ {σ' : St} {H' : Hp} {s' : Shared} {o : Obj}, Inv (X.compK scope (cellsFrom (HH.objs.size + 1) scope.names cl) ks (ts ++ ys) s2 H2 fp HH.objs.size) [] σ' H' s' → s'.heap.get? s2.heap.objs.size = some o → H' s2.heap.objs.size = none → (∀ v, o.data ≠ .cell v) →
      Inv (X.compK scope (cellsFrom (HH.objs.size + 1) scope.names cl) ks (ts ++ ys) s2 H2 fp HH.objs.size) [(s2.heap.objs.size, o)] σ' H' s' := fun {σ' H' s' o} J e n d => J.pins_of fun p hp => by
    have e' : p = (s2.heap.objs.size, o) := by simpa using hp
    subst e'
    exact ⟨e, n, hDC, nofs _ (Nat.le_refl _), d⟩
  have stat : ∀ {pins' : List (Addr × Obj)} {H' : Hp}, (∀ p ∈ pins', p.1 = s2.heap.objs.size) → (∀ b ∈ fp, H' b = none) → ∀ b ∈ fp, FpOk (X.compK scope (cellsFrom (HH.objs.size + 1) scope.names cl) ks (ts ++ ys) s2 H2 fp HH.objs.size) pins' H' b := fun {pins' H'} hp hn b hb =>
    ⟨hn b hb, Nat.ne_of_lt (Nat.lt_of_lt_of_le (fl b hb) hCle), I'.ok.exfs b hb, .inl hb, (I'.ok.exf b hb).2, fun p hq z => by
      have hq' : p ∈ pins' := by simpa using hq
      exact absurd (fl b hb) (by rw [← z, hp p hq']; exact Nat.lt_irrefl _)⟩
  have tn1 : tn 0 h₁ := T.keep _ _ _ st2 fun b _ o e => old b o e
  have loop : ∀ s₃ : Shared, s₃ = { s2 with heap := h₁, toks := s2.toks } →
      codeAny (model X.prog X.w) X.A (.compLoop (.ListComp elt [⟨tg, iter, ifs, 0⟩] scope pos) 0 (.ref it) (.ref s2.heap.objs.size) (compEnvC scope (cellsFrom (HH.objs.size + 1) scope.names cl) HH.objs.size X.env))
        (compPost (model X.prog X.w) X.A X.xe none (EP X pins σ Q) (.ref s2.heap.objs.size) HH.objs.size) s₃ := by
    rintro s₃ rfl
    refine compLoop_gen (fun n s' => ∃ i σ' xs H' its nn, Inv (X.compK scope (cellsFrom (HH.objs.size + 1) scope.names cl) ks (ts ++ ys) s2 H2 fp HH.objs.size) [] σ' H' s' ∧ Vals xs its ∧ xs.length ≤ sizeLine ∧ s'.heap.get? s2.heap.objs.size = some { cls := .type "list", data := .seq its.toArray nn } ∧ H' s2.heap.objs.size = none ∧
      tn i s'.heap ∧ (∀ b ∈ fp, H' b = none) ∧ W i n σ' xs H') ?_ m0 ⟨0, _, [], H2, [], 0, I', .nil, Nat.zero_le _, hacc, I2.hok.fresh (Nat.le_refl _), tn1, fun b hb => (f2 b hb).1, w0⟩
    rintro n s3 ⟨i, σ3, xs, H3, its, nn, I3, rv, hz3, ac3, nD3, st3, fr3, w3⟩
    have nd : ∀ v, ({ cls := .type "list", data := .seq its.toArray nn } : Obj).data ≠ .cell v := fun v z => by
      have z' : Data.seq its.toArray nn = Data.cell v := z
      cases z'
    have I3p := addPin I3 ac3 nD3 nd
    have pinD : ∀ p ∈ [(s2.heap.objs.size, ({ cls := .type "list", data := .seq its.toArray nn } : Obj))], p.1 = s2.heap.objs.size := fun p hp => by
      rw [List.mem_singleton] at hp
      rw [hp]
    rcases turn i n σ3 xs H3 w3 with ⟨stop, qn⟩ | ⟨go, hz, N, hN, step⟩
    · refine thn (T.done (X.compK scope (cellsFrom (HH.objs.size + 1) scope.names cl) ks (ts ++ ys) s2 H2 fp HH.objs.size) rfl rfl rfl hc i _ s3 σ3 H3 (fun _ _ => False) I3p (stat pinD fr3) st3 stop) fun r s4 ⟨hr, I4⟩ => ?_
      subst hr
      obtain ⟨m, hn, _⟩ := I4.loc
      have ac4 := (I4.pin _ (List.mem_append_right _ (List.mem_singleton.mpr rfl))).1
      exact ⟨m, hn, fun h' hs' => ⟨.ref s2.heap.objs.size, _, comp_endK I2 f2 I4 hCle (Nat.le_refl _) hDC hs' rv hz3 ac4 nD3, rfl, qn _ nD3⟩⟩
    · refine thn (T.item (X.compK scope (cellsFrom (HH.objs.size + 1) scope.names cl) ks (ts ++ ys) s2 H2 fp HH.objs.size) rfl rfl rfl hc i _ s3 σ3 H3 (fun _ _ => False) I3p (stat pinD fr3) st3 go) fun r s4 ⟨u, hr, h4⟩ => ?_
      subst hr
      refine thn h4 fun _ s5 ⟨x, H5, I5, r5, y5, st5, fr5⟩ => ?_
      have I5' := I5.pinned (stat pinD fr5) (T.obj _ _ st5)
      refine thn (hg _ _ _ _ _ s5 σ3 H5 x u _ I5' r5 (step x H5 y5)) fun _ s6 ⟨σ6, H6, I6, q6⟩ => ?_
      refine thn (ht _ _ _ _ _ s6 σ6 H6 _ I6 q6) fun b s7 ⟨H7, I7, q7⟩ => ?_
      -- what stands of the pins
      have facts : ∀ {σ' : St} {H' : Hp} {s' : Shared}, Inv (X.compK scope (cellsFrom (HH.objs.size + 1) scope.names cl) ks (ts ++ ys) s2 H2 fp HH.objs.size) ([(s2.heap.objs.size, ({ cls := .type "list", data := .seq its.toArray nn } : Obj))] ++ pinsAt fp s5.heap) σ' H' s' →
          s'.heap.get? s2.heap.objs.size = some { cls := .type "list", data := .seq its.toArray nn } ∧ H' s2.heap.objs.size = none ∧ tn (i + 1) s'.heap ∧ (∀ b ∈ fp, H' b = none) := fun {σ' H' s'} J => by
        have p1 := J.pin (s2.heap.objs.size, ({ cls := .type "list", data := .seq its.toArray nn } : Obj)) (by simp)
        refine ⟨p1.1, p1.2.1, T.keep _ _ _ st5 fun b hb o e => (J.pin (b, o) (List.mem_append_right _ (List.mem_append_right _ (mem_pinsAt hb e)))).1, fun b hb => ?_⟩
        obtain ⟨o, e, d⟩ := T.obj _ _ st5 b hb
        exact (J.pin (b, o) (List.mem_append_right _ (List.mem_append_right _ (mem_pinsAt hb e)))).2.1
      have bare : ∀ {σ' : St} {H' : Hp} {s' : Shared}, Inv (X.compK scope (cellsFrom (HH.objs.size + 1) scope.names cl) ks (ts ++ ys) s2 H2 fp HH.objs.size) ([(s2.heap.objs.size, ({ cls := .type "list", data := .seq its.toArray nn } : Obj))] ++ pinsAt fp s5.heap) σ' H' s' →
          Inv (X.compK scope (cellsFrom (HH.objs.size + 1) scope.names cl) ks (ts ++ ys) s2 H2 fp HH.objs.size) [] σ' H' s' := fun J => J.pins_of fun p hp => absurd hp (by simp)
      cases b with
      | false =>
        have q7' : N σ6 xs H7 := by simpa using q7
        obtain ⟨m', hm, w7⟩ := hN _ _ _ q7'
        obtain ⟨a1, a2, a3, a4⟩ := facts I7
        show ∃ m, m < n ∧ _
        exact ⟨m', hm, i + 1, σ6, xs, H7, its, nn, bare I7, rv, hz3, a1, a2, a3, a4, w7⟩
      | true =>
        have q7' : te σ6 H7 fun v H5 => N σ6 (xs ++ [v]) H5 := by
          rw [if_pos rfl] at q7
          exact q7
        show wpAny _ _ (eval elt _) _ _ s7
        refine thn (he _ _ _ _ _ s7 σ6 H7 _ I7 q7') fun xv s8 ⟨v, H8, I8, r8, n8⟩ => ?_
        obtain ⟨m', hm, w8⟩ := hN _ _ _ n8
        obtain ⟨a1, a2, a3, a4⟩ := facts I8
        have hl := rv.length
        refine call_meets F.slot_list_append ⟨_, a1, rfl⟩ F.entry_list_append (F.args_list_append_2 _ _) (PySem.list_append s2.heap.objs.size its.toArray nn xv (by rw [List.size_toArray]; omega)) ⟨a1, ?_⟩
        obtain ⟨n9, q9⟩ : ∃ n9, (s8.heap.update s2.heap.objs.size (Obj.mapSeq fun a => a.push xv)).get? s2.heap.objs.size = some { cls := .type "list", data := .seq (its ++ [xv]).toArray n9 } :=
          ⟨_, by rw [show (its ++ [xv]).toArray = its.toArray.push xv by simp]; exact PySem.IsL.update a1 (fun a => a.push xv)⟩
        have I9 : Inv (X.compK scope (cellsFrom (HH.objs.size + 1) scope.names cl) ks (ts ++ ys) s2 H2 fp HH.objs.size) [] σ6 H8 { s8 with heap := s8.heap.update s2.heap.objs.size (Obj.mapSeq fun a => a.push xv), toks := s8.toks } :=
          (bare I8).turned (it := s2.heap.objs.size) (fun b o hb e => (Heap.get?_update_other s8.heap _ (Ne.symm hb)).trans e) a2 hDC (.inr (Nat.le_refl _)) nocell fun p hp => absurd (show p ∈ ([] : List (Addr × Obj)) from hp) (by simp)
        refine ⟨m', hm, i + 1, σ6, xs ++ [v], H8, its ++ [xv], n9, I9, rv.append (.cons r8 .nil), ?_, q9, a2, ?_, a4, w8⟩
        · rw [List.length_append, List.length_singleton]; omega
        · exact T.keep _ _ _ a3 fun b hb o e => (Heap.get?_update_other s8.heap _ (Ne.symm (Nat.ne_of_lt (fl b hb)))).trans e
  exact codeAny_compStart_list (loop _ rfl) (T.self _ 0 _ _ _ tn1 (loop _ rfl))
end
end L2

/-! del xs[i]; set(xs) of a list of ints and its len -/
namespace L2
open PySem PySem.Spec PyProof.Rows
section
variable {X : Cx}
/-- del o[i] of a list -/
def tDel (to ti : TE) : TS := fun D σ H => to σ H fun o H1 => ti σ H1 fun j H2 => ∃ (l : Addr) (xs : List V) (k : Nat), o = .ref l ∧ j = .int (k : Int) ∧ H2 l = some (.lst xs) ∧ k < xs.length ∧ D.nx σ (upd H2 l (.lst (xs.eraseIdx k)))
theorem ps_del {o i : Expr} {to ti : TE} {pos pos2 : Pos} (ho : PE X o to) (hi : PE X i ti) : PS X (.Delete [.Subscript o i pos] pos2) (tDel to ti) := by
  intro pins s σ H D I h
  refine wpAny_Delete (wpAny_deleteEach_cons (wpAny_delete_Subscript (thn (ho pins s σ H _ I h) fun ov s1 ⟨x, H1, I1, r1, q1⟩ => thn (hi pins s1 σ H1 _ I1 q1) fun iv s2 ⟨y, H2, I2, r2, q2⟩ => ?_)))
  obtain ⟨l, xs, k, rfl, rfl, hH, hk, q⟩ := q2
  cases r1
  obtain ⟨t, rfl⟩ := r2
  obtain ⟨z, _⟩ := I2.lstM hH
  have hz : xs.length < 2 ^ 63 := by rw [sizeLine_eq] at z; omega
  refine del_list I2 hH (by omega) (by omega) (k := k) ?_ fun s' I' => ?_
  · unfold seqIndex?
    simp
    omega
  · exact wpAny_deleteEach_nil ⟨σ, _, I', q⟩
/-- a set of n things -/
def SetN (a : Addr) (n : Nat) : HO := .ext fun h => ∃ o es ep t, h.get? a = some o ∧ o.ExactSet ∧ o.data = .set es ep t ∧ t.fits es.size = true ∧ es.size = n
/-- how many unlike ones -/
def unlike (ns : List Int) : Nat := (firstMet (fun i => ns.getD i 0) ns.length).length
theorem call_set (hc : X.calm = true) : CallR X (.type "set") (fun xs H Q => ∃ (a : Addr) (ns : List Int), xs = [.ref a] ∧ SqL X.K H a (ns.map V.int) ∧ ns.length < 4000 ∧ ∀ p, H p = none → Q (.ref p) (upd H p (SetN p (unlike ns)))) := by
  intro pins s σ H xs us Q I r h
  obtain ⟨a, ns, rfl, hS, hl, q⟩ := h
  obtain ⟨u, rfl, ru⟩ := r.one
  cases ru
  obtain ⟨its, rv, pl, _⟩ := I.list hS
  have hlen := rv.length
  rw [List.length_map] at hlen
  refine call_set_list (ns := ns) (I.ok.hd hc) pl.isList (by simpa using intsAre_of rv) (by rw [List.size_toArray]; show _ < 4096; omega) fun h' tk hset hk => ?_
  obtain ⟨o, es, ep, t, e1, hex, e2, _, _, _, hf, hn⟩ := hset
  have hn' : es.size = unlike ns := by rw [hn, List.size_toArray, ← hlen]; rfl
  refine ⟨.ref _, _, I.laid (a := s.heap.objs.size) (o := SetN s.heap.objs.size (unlike ns)) (t' := tk) (fun b o e => hk b o (Heap.lt_size e) e) (Nat.le_refl _) ?_, rfl, q _ (I.hok.fresh (Nat.le_refl _))⟩
  exact ⟨⟨o, es, ep, t, e1, hex, e2, hf, hn'⟩, ⟨o, e1⟩, fun _ _ ⟨o, es, ep, t, a1, b1⟩ k => ⟨o, es, ep, t, k _ a1, b1⟩⟩
theorem call_lenS : CallR X (.builtin "len") (fun xs H Q => ∃ (p : Addr) (n : Nat), xs = [.ref p] ∧ H p = some (SetN p n) ∧ n < 4096 ∧ Q (.int n) H) := by
  intro pins s σ H xs us Q I r h
  obtain ⟨p, n, rfl, hp, hn, q⟩ := h
  obtain ⟨u, rfl, ru⟩ := r.one
  cases ru
  obtain ⟨⟨o, es, ep, t, e1, hex, e2, hf, rfl⟩, _⟩ := I.hok p _ hp
  refine call_len_set e1 hex e2 hf (by omega) ?_
  exact ⟨.int es.size, H, I.tok _, ⟨_, rfl⟩, q⟩
end
end L2
namespace L2
open PySem
theorem Room.units1 {k : Nat} {A : Around} (r : Room k A) : A.units + 1 < cLine := by
  have := r.units
  omega
end L2
namespace L2
open PySem PySem.Spec PyProof.Rows
theorem call_lenK {X : Cx} {K : PySem.W.Frag} (h : X.K = K) : CallR X (.builtin "len") (fun xs H Q => ∃ p ys, xs = [.ref p] ∧ (SqL K H p ys ∨ SqT K H p ys) ∧ Q (.int ys.length) H) := h ▸ call_len_seq
theorem pi_listK {X : Cx} {tg l : Expr} {tl : TE} {K : PySem.W.Frag} (h : X.K = K) (hl : PE X l tl) : PI X tg l (iList K tl) := h ▸ pi_list hl
end L2

namespace M49
/-- the first of each -/
def firsts : List Int → List Int
  | [] => []
  | y :: ys => y :: (firsts ys).filter (fun z => decide (z ≠ y))
theorem fd_mem {x : Int} : ∀ {l : List Int}, x ∈ firsts l ↔ x ∈ l
  | [] => by simp [firsts]
  | y :: ys => by
    simp only [firsts, List.mem_cons, List.mem_filter, decide_eq_true_eq, fd_mem (l := ys)]
    constructor
    · rintro (h | h)
      · exact .inl h
      · exact .inr h.1
    · rintro (h | h)
      · exact .inl h
      · by_cases e : x = y
        · exact .inl e
        · exact .inr ⟨h, e⟩
theorem fd_nodup : ∀ l : List Int, (firsts l).Nodup
  | [] => List.nodup_nil
  | y :: ys => by
    refine List.nodup_cons.mpr ⟨fun h => ?_, (fd_nodup ys).filter _⟩
    simp at h
theorem fd_snoc (y : Int) : ∀ l : List Int, firsts (l ++ [y]) = if y ∈ firsts l then firsts l else firsts l ++ [y]
  | [] => by simp [firsts]
  | z :: l => by
    show z :: (firsts (l ++ [y])).filter _ = _
    rw [fd_snoc y l]
    by_cases h : y ∈ firsts l
    · rw [if_pos h]
      have : y ∈ firsts (z :: l) := fd_mem.mpr (List.mem_cons_of_mem _ (fd_mem.mp h))
      rw [if_pos this]; rfl
    · rw [if_neg h]
      by_cases e : y = z
      · have : y ∈ firsts (z :: l) := fd_mem.mpr (by rw [e]; exact List.mem_cons_self ..)
        rw [if_pos this]
        simp [firsts, List.filter_append, e]
      · have : ¬ y ∈ firsts (z :: l) := fun w => by
          rcases List.mem_cons.mp (fd_mem.mp w) with w | w
          · exact e w
          · exact h (fd_mem.mpr w)
        rw [if_neg this]
        simp [firsts, List.filter_append, e]
theorem fd_prefix : ∀ (m l : List Int), firsts l <+: firsts (l ++ m)
  | [], l => by rw [List.append_nil]; exact List.prefix_refl _
  | y :: m, l => by
    have h := fd_prefix m (l ++ [y])
    rw [List.append_assoc] at h
    refine List.IsPrefix.trans ?_ h
    rw [fd_snoc]
    split
    · exact List.prefix_refl _
    · exact List.prefix_append _ _
/-- the lines that a store of B has behind these touches, the last first -/
def held (pre : List Int) (B : Nat) : List Int := (firsts pre.reverse).take B
theorem held_len (pre : List Int) (B : Nat) : (held pre B).length ≤ B := by
  unfold held; rw [List.length_take]; exact Nat.min_le_left _ _
theorem held_nil (B : Nat) : held [] B = [] := by simp [held, firsts]
theorem take_in {x : Int} : ∀ {L : List Int} {B : Nat}, L.Nodup → x ∈ L.take B → (L.filter (fun z => decide (z ≠ x))).take (B - 1) = (L.take B).erase x
  | [], B, _, h => by simp at h
  | y :: L, 0, _, h => by simp at h
  | y :: L, b + 1, hn, h => by
    obtain ⟨h1, h2⟩ := List.nodup_cons.mp hn
    by_cases e : y = x
    · subst e
      have : L.filter (fun z => decide (z ≠ y)) = L := List.filter_eq_self.mpr fun z hz => decide_eq_true fun w => h1 (w ▸ hz)
      rw [List.filter_cons_of_neg (by simp), this]
      show L.take b = (y :: L.take b).erase y
      rw [List.erase_cons_head]
    · have h' : x ∈ L.take b := by
        rcases List.mem_cons.mp (show x ∈ y :: L.take b from h) with w | w
        · exact absurd w.symm e
        · exact w
      obtain ⟨c, rfl⟩ : ∃ c, b = c + 1 := by
        cases b with
        | zero => simp at h'
        | succ c => exact ⟨c, rfl⟩
      have ih := take_in (B := c + 1) h2 h'
      rw [List.filter_cons_of_pos (by simpa using e)]
      show y :: (L.filter _).take c = (y :: L.take (c + 1)).erase x
      rw [List.erase_cons_tail (by simpa using e), ← ih]; rfl
theorem take_out {x : Int} : ∀ {L : List Int} {B : Nat}, x ∉ L.take B → (L.filter (fun z => decide (z ≠ x))).take (B - 1) = L.take (B - 1)
  | [], B, _ => by simp
  | y :: L, 0, _ => by simp
  | y :: L, b + 1, h => by
    have h' : x ∉ y :: L.take b := h
    have e : y ≠ x := fun w => h' (by rw [w]; exact List.mem_cons_self ..)
    rw [List.filter_cons_of_pos (by simpa using e)]
    cases b with
    | zero => simp
    | succ c =>
      have ih := take_out (L := L) (B := c + 1) (fun w => h' (List.mem_cons_of_mem _ w))
      show y :: (L.filter _).take c = y :: L.take c
      rw [show c = c + 1 - 1 from rfl, ih]
/-- what a touch makes of the lines -/
def tchL (B : Nat) (hs : List Int) (x : Int) : List Int := if x ∈ hs then x :: hs.erase x else if hs.length = B then (x :: hs).dropLast else x :: hs
/-- the line that goes out -/
def outO (B : Nat) (hs : List Int) (x : Int) : Option Int := if x ∈ hs then none else if hs.length = B then hs.getLast? else none
theorem held_touch {pre : List Int} {x : Int} {B : Nat} (hB : 1 ≤ B) : tchL B (held pre B) x = held (pre ++ [x]) B := by
  obtain ⟨b, rfl⟩ : ∃ b, B = b + 1 := ⟨B - 1, by omega⟩
  have e : held (pre ++ [x]) (b + 1) = x :: ((firsts pre.reverse).filter (fun z => decide (z ≠ x))).take b := by
    unfold held; rw [List.reverse_append]; rfl
  rw [e]
  unfold tchL
  by_cases h : x ∈ held pre (b + 1)
  · rw [if_pos h]
    have := take_in (B := b + 1) (fd_nodup pre.reverse) h
    rw [show b = b + 1 - 1 from rfl, this]; rfl
  · rw [if_neg h]
    have := take_out (B := b + 1) h
    rw [show ((firsts pre.reverse).filter (fun z => decide (z ≠ x))).take b = (firsts pre.reverse).take b from this]
    by_cases h2 : (held pre (b + 1)).length = b + 1
    · rw [if_pos h2, List.dropLast_eq_take, List.length_cons, h2]
      show x :: (held pre (b + 1)).take b = _
      unfold held
      rw [List.take_take, Nat.min_eq_left (by omega)]
    · rw [if_neg h2]
      have h3 := held_len pre (b + 1)
      unfold held at h2 h3 ⊢
      rw [List.length_take] at h2 h3
      rw [List.take_of_length_le (by omega), List.take_of_length_le (by omega)]
abbrev Row := Int × Bool × Option Int
def row (B : Nat) (hs : List Int) (x : Int) : Row := (x, decide (x ∉ hs), outO B hs x)
def dueL (ns : List Int) (B i : Nat) : List Row := (List.range i).map fun k => row B (held (ns.take k) B) (ns.getD k 0)
end M49

namespace M50
open M49
/-- the lines by their last touch, the last first -/
abbrev rct (pre : List Int) : List Int := firsts pre.reverse
theorem rct_snoc (pre : List Int) (x : Int) : rct (pre ++ [x]) = x :: (rct pre).filter (fun z => decide (z ≠ x)) := by
  show firsts (pre ++ [x]).reverse = _
  rw [List.reverse_append]; rfl
theorem mem_rct {pre : List Int} {x : Int} : x ∈ rct pre ↔ x ∈ pre := by rw [fd_mem, List.mem_reverse]
/-- how far: none at first, else how many unlike ones since -/
def far (pre : List Int) (x : Int) : Option Int := if x ∈ rct pre then some (((rct pre).idxOf x + 1 : Nat) : Int) else none
def miss (B : Int) : Option Int → Bool
  | none => true
  | some f => decide (f > B)
theorem mem_take_ix {x : Int} : ∀ {L : List Int} {B : Nat}, x ∈ L → (x ∈ L.take B ↔ L.idxOf x < B)
  | [], _, h => by simp at h
  | y :: L, 0, _ => by simp
  | y :: L, B + 1, h => by
    rw [List.take_succ_cons, List.mem_cons, List.idxOf_cons]
    by_cases e : y = x
    · subst e; simp
    · have h' : x ∈ L := by
        rcases List.mem_cons.mp h with z | z
        · exact absurd z.symm e
        · exact z
      have ih := mem_take_ix (B := B) h'
      have e' : ¬ x = y := fun z => e z.symm
      have e2 : (y == x) = false := by simpa using e
      rw [ih, e2]
      simp [e']
theorem miss_held {pre : List Int} {x : Int} {B : Nat} : decide (x ∉ held pre B) = miss B (far pre x) := by
  unfold far
  by_cases h : x ∈ rct pre
  · rw [if_pos h]
    have := mem_take_ix (B := B) h
    show decide (x ∉ held pre B) = decide ((((rct pre).idxOf x + 1 : Nat) : Int) > (B : Int))
    rw [decide_eq_decide]
    show ¬ x ∈ (rct pre).take B ↔ _
    rw [this]
    omega
  · rw [if_neg h]
    show _ = true
    exact decide_eq_true fun z => h (List.mem_of_mem_take z)
theorem nodup_len : ∀ {a b : List Int}, a.Nodup → (∀ x ∈ a, x ∈ b) → a.length ≤ b.length
  | [], _, _, _ => Nat.zero_le _
  | x :: a, b, hn, hs => by
    obtain ⟨h1, h2⟩ := List.nodup_cons.mp hn
    have hx := hs x (List.mem_cons_self ..)
    have := nodup_len (b := b.erase x) h2 fun y hy => (List.mem_erase_of_ne (a := y) (b := x) (fun z => h1 (by rw [← z]; exact hy))).mpr (hs y (List.mem_cons_of_mem _ hy))
    rw [List.length_erase_of_mem hx] at this
    have : 0 < b.length := List.length_pos_of_mem hx
    rw [List.length_cons]; omega
theorem fd_len_rev (l : List Int) : (firsts l).length = (firsts l.reverse).length := by
  apply Nat.le_antisymm
  · exact nodup_len (fd_nodup _) fun x hx => by rw [fd_mem, List.mem_reverse]; exact fd_mem.mp hx
  · exact nodup_len (fd_nodup _) fun x hx => by
      have := fd_mem.mp hx
      rw [List.mem_reverse] at this
      exact fd_mem.mpr this
theorem fd_split {x : Int} {C D : List Int} (h : x ∉ C) : x ∈ firsts (C ++ x :: D) ∧ (firsts (C ++ x :: D)).idxOf x = (firsts C).length := by
  have h' : x ∉ firsts C := fun z => h (fd_mem.mp z)
  have e : firsts (C ++ [x]) = firsts C ++ [x] := by rw [fd_snoc, if_neg h']
  have p := fd_prefix D (C ++ [x])
  rw [e, List.append_assoc] at p
  obtain ⟨T, hT⟩ := p
  rw [show C ++ x :: D = C ++ ([x] ++ D) from rfl, ← hT]
  refine ⟨by simp, ?_⟩
  rw [List.append_assoc, List.idxOf_append, if_neg h']
  simp
theorem far_at {ns : List Int} {k a : Nat} {x : Int} (ha : a < k) (hk : k ≤ ns.length) (hax : ns[a]? = some x) (hno : ∀ j, a < j → j < k → ns[j]? ≠ some x) :
    far (ns.take k) x = some (((firsts ((ns.take k).drop a)).length : Nat) : Int) := by
  obtain ⟨B, hB⟩ : ∃ B, (ns.take k).drop a = x :: B := by
    have hl : a < (ns.take k).length := by rw [List.length_take]; omega
    have e : (ns.take k)[a] = x := by
      have := (List.getElem?_eq_some_iff.mp hax).2
      rw [List.getElem_take]; exact this
    exact ⟨_, by rw [List.drop_eq_getElem_cons hl, e]⟩
  have hxB : x ∉ B := fun z => by
    obtain ⟨n, hn, e⟩ := List.getElem_of_mem z
    have h1 : ((ns.take k).drop a)[n + 1]? = some x := by rw [hB, List.getElem?_cons_succ, List.getElem?_eq_getElem hn, e]
    rw [List.getElem?_drop, List.getElem?_take] at h1
    split at h1
    · exact hno _ (by omega) (by assumption) h1
    · cases h1
  have e2 : ns.take k = (ns.take k).take a ++ x :: B := by rw [← hB, List.take_append_drop]
  have hB' : x ∉ B.reverse := fun z => hxB (List.mem_reverse.mp z)
  have hs := fd_split (D := ((ns.take k).take a).reverse) hB'
  have er : (ns.take k).reverse = B.reverse ++ x :: ((ns.take k).take a).reverse := by
    conv => lhs; rw [e2]
    rw [List.reverse_append, List.reverse_cons, List.append_assoc]; rfl
  unfold far rct
  rw [er, if_pos hs.1, hs.2, hB]
  have : (firsts (x :: B)).length = (firsts B.reverse).length + 1 := by
    rw [fd_len_rev, List.reverse_cons, fd_snoc, if_neg (fun z => hB' (fd_mem.mp z)), List.length_append]; rfl
  rw [this]
theorem far_none {ns : List Int} {k : Nat} {x : Int} (hno : ∀ j, j < k → ns[j]? ≠ some x) : far (ns.take k) x = none := by
  unfold far
  rw [if_neg]
  intro z
  obtain ⟨n, hn, e⟩ := List.getElem_of_mem (mem_rct.mp z)
  rw [List.length_take] at hn
  refine hno n (by omega) ?_
  rw [List.getElem_take] at e
  rw [List.getElem?_eq_getElem (by omega), e]
/-- the list of each line's last touch -/
structure Lt (ns : List Int) (i : Nat) (L : List Nat) : Prop where
  inc : L.Pairwise (· < ·)
  lt : ∀ j ∈ L, j < i
  mp : L.map (fun j => ns.getD j 0) = (rct (ns.take i)).reverse
theorem Lt.nil {ns : List Int} : Lt ns 0 [] := ⟨List.Pairwise.nil, fun j h => by simp at h, by simp [rct, firsts]⟩
theorem take_snoc' {ns : List Int} {i : Nat} {x : Int} (h : ns[i]? = some x) : ns.take (i + 1) = ns.take i ++ [x] := by
  rw [List.take_add_one, h] <;> rfl
theorem getD_of {ns : List Int} {i : Nat} {x : Int} (h : ns[i]? = some x) : ns.getD i 0 = x := by
  rw [List.getD_eq_getElem?_getD, h]; rfl
theorem Lt.new {ns : List Int} {i : Nat} {L : List Nat} {x : Int} (h : Lt ns i L) (hx : ns[i]? = some x) (hn : x ∉ rct (ns.take i)) : Lt ns (i + 1) (L ++ [i]) := by
  refine ⟨List.pairwise_append.mpr ⟨h.inc, List.pairwise_singleton _ _, fun a ha b hb => by rw [List.mem_singleton.mp hb]; exact h.lt a ha⟩, fun j hj => ?_, ?_⟩
  · rcases List.mem_append.mp hj with z | z
    · exact Nat.lt_succ_of_lt (h.lt j z)
    · rw [List.mem_singleton.mp z]; exact Nat.lt_succ_self _
  · rw [List.map_append, h.mp, take_snoc' hx, rct_snoc, List.reverse_cons]
    have e : (rct (ns.take i)).filter (fun z => decide (z ≠ x)) = rct (ns.take i) := List.filter_eq_self.mpr fun z hz => decide_eq_true fun w => hn (w ▸ hz)
    rw [e]
    show _ ++ [ns.getD i 0] = _
    rw [getD_of hx]
theorem erase_filter {x : Int} : ∀ {M : List Int} {p : Nat}, M.Nodup → M[p]? = some x → M.eraseIdx p = M.filter (fun z => decide (z ≠ x))
  | [], _, _, h => by simp at h
  | y :: M, 0, hn, h => by
    simp at h; subst h
    obtain ⟨h1, _⟩ := List.nodup_cons.mp hn
    have : M.filter (fun z => decide (z ≠ y)) = M := List.filter_eq_self.mpr fun z hz => decide_eq_true fun w => h1 (by rw [← w]; exact hz)
    rw [List.filter_cons_of_neg (by simp), this]; rfl
  | y :: M, p + 1, hn, h => by
    obtain ⟨h1, h2⟩ := List.nodup_cons.mp hn
    have h' : M[p]? = some x := by simpa using h
    have ne : y ≠ x := fun z => h1 (z ▸ List.mem_of_getElem? h')
    rw [List.filter_cons_of_pos (by simpa using ne), ← erase_filter h2 h']; rfl
theorem map_erase {α : Type} {f : Nat → α} : ∀ (L : List Nat) (p : Nat), (L.eraseIdx p).map f = (L.map f).eraseIdx p
  | [], p => by simp
  | a :: L, 0 => rfl
  | a :: L, p + 1 => by
    show f a :: (L.eraseIdx p).map f = f a :: (L.map f).eraseIdx p
    rw [map_erase L p]
theorem Lt.old {ns : List Int} {i p j : Nat} {L : List Nat} {x : Int} (h : Lt ns i L) (hx : ns[i]? = some x) (hp : L[p]? = some j) (hj : ns.getD j 0 = x) : Lt ns (i + 1) (L.eraseIdx p ++ [i]) := by
  have sub : ∀ a ∈ L.eraseIdx p, a ∈ L := fun a ha => (List.eraseIdx_sublist L p).subset ha
  refine ⟨List.pairwise_append.mpr ⟨h.inc.sublist (List.eraseIdx_sublist L p), List.pairwise_singleton _ _, fun a ha b hb => by rw [List.mem_singleton.mp hb]; exact h.lt a (sub a ha)⟩, fun a ha => ?_, ?_⟩
  · rcases List.mem_append.mp ha with z | z
    · exact Nat.lt_succ_of_lt (h.lt a (sub a z))
    · rw [List.mem_singleton.mp z]; exact Nat.lt_succ_self _
  · have e1 : (L.eraseIdx p).map (fun j => ns.getD j 0) = (L.map fun j => ns.getD j 0).eraseIdx p := map_erase L p
    have nd : (rct (ns.take i)).reverse.Nodup := by
      unfold List.Nodup
      rw [List.pairwise_reverse]
      exact (fd_nodup _).imp fun h => Ne.symm h
    have at_ : ((rct (ns.take i)).reverse)[p]? = some x := by rw [← h.mp, List.getElem?_map, hp]; exact congrArg some hj
    rw [List.map_append, e1, h.mp, erase_filter nd at_, take_snoc' hx, rct_snoc, List.reverse_cons, List.filter_reverse]
    show _ ++ [ns.getD i 0] = _
    rw [getD_of hx]
theorem Lt.old_ne {ns : List Int} {i p j : Nat} {L : List Nat} {x : Int} (h : Lt ns i L) (hp : L[p]? = some j) (hj : ns.getD j 0 = x) : ∀ a ∈ L.eraseIdx p, ns.getD a 0 ≠ x := fun a ha => by
  have nd : (rct (ns.take i)).reverse.Nodup := by
    unfold List.Nodup
    rw [List.pairwise_reverse]
    exact (fd_nodup _).imp fun h => Ne.symm h
  have at_ : ((rct (ns.take i)).reverse)[p]? = some x := by rw [← h.mp, List.getElem?_map, hp]; exact congrArg some hj
  have e := map_erase (f := fun j => ns.getD j 0) L p
  rw [h.mp, erase_filter nd at_] at e
  have m : ns.getD a 0 ∈ (L.eraseIdx p).map (fun j => ns.getD j 0) := List.mem_map.mpr ⟨a, ha, rfl⟩
  rw [e] at m
  exact of_decide_eq_true (List.mem_filter.mp m).2
theorem Lt.new_ne {ns : List Int} {i : Nat} {L : List Nat} {x : Int} (h : Lt ns i L) (hn : x ∉ rct (ns.take i)) : ∀ a ∈ L, ns.getD a 0 ≠ x := fun a ha z => by
  have m : ns.getD a 0 ∈ L.map (fun j => ns.getD j 0) := List.mem_map.mpr ⟨a, ha, rfl⟩
  rw [h.mp, List.mem_reverse, z] at m
  exact hn m
theorem Lt.len {ns : List Int} {i : Nat} {L : List Nat} (h : Lt ns i L) : L.length = (rct (ns.take i)).length := by
  have := congrArg List.length h.mp
  rw [List.length_map, List.length_reverse] at this
  exact this
theorem Lt.len_le {ns : List Int} {i : Nat} {L : List Nat} (h : Lt ns i L) (hi : i ≤ ns.length) : L.length ≤ i := by
  rw [h.len]
  have : (rct (ns.take i)).length ≤ (ns.take i).length := nodup_len (fd_nodup (ns.take i).reverse) (b := ns.take i) fun x hx => mem_rct.mp hx
  rw [List.length_take] at this
  omega
theorem Lt.at {ns : List Int} {i : Nat} {L : List Nat} {x : Int} (h : Lt ns i L) (hx : x ∈ rct (ns.take i)) : ∃ p j, L[p]? = some j ∧ ns.getD j 0 = x ∧ far (ns.take i) x = some ((L.length - p : Nat) : Int) := by
  have q : (rct (ns.take i)).idxOf x < (rct (ns.take i)).length := List.idxOf_lt_length_of_mem hx
  have hl := h.len
  have at_ : ((rct (ns.take i)).reverse)[L.length - 1 - (rct (ns.take i)).idxOf x]? = some x := by
    rw [List.getElem?_reverse (by omega)]
    rw [show (rct (ns.take i)).length - 1 - (L.length - 1 - (rct (ns.take i)).idxOf x) = (rct (ns.take i)).idxOf x by omega]
    rw [List.getElem?_eq_getElem q, List.getElem_idxOf q]
  rw [← h.mp, List.getElem?_map] at at_
  cases e : L[L.length - 1 - (rct (ns.take i)).idxOf x]? with
  | none => rw [e] at at_; cases at_
  | some j =>
    rw [e] at at_
    refine ⟨_, j, e, Option.some.inj at_, ?_⟩
    unfold far
    rw [if_pos hx]
    congr 2
    omega
theorem Lt.uniq {ns : List Int} {i : Nat} {L : List Nat} (h : Lt ns i L) {p q : Nat} {a b : Nat} (hp : L[p]? = some a) (hq : L[q]? = some b) : (a < b ↔ p < q) := by
  have hp' := List.getElem?_eq_some_iff.mp hp
  have hq' := List.getElem?_eq_some_iff.mp hq
  obtain ⟨lp, ep⟩ := hp'
  obtain ⟨lq, eq⟩ := hq'
  have inc := List.pairwise_iff_getElem.mp h.inc
  constructor
  · intro hab
    rcases Nat.lt_trichotomy p q with z | z | z
    · exact z
    · subst z; rw [ep] at eq; omega
    · have := inc q p lq lp z; omega
  · intro z
    have := inc p q lp lq z
    omega
/-- the distances of the first i touches -/
def fars (ns : List Int) (i : Nat) : List (Option Int) := (List.range i).map fun k => far (ns.take k) (ns.getD k 0)
theorem fars_succ (ns : List Int) (i : Nat) : fars ns (i + 1) = fars ns i ++ [far (ns.take i) (ns.getD i 0)] := by
  unfold fars; rw [List.range_succ, List.map_append]; rfl
theorem fars_length (ns : List Int) (i : Nat) : (fars ns i).length = i := by unfold fars; rw [List.length_map, List.length_range]
theorem fars_get {ns : List Int} {n i : Nat} (h : i < n) : (fars ns n)[i]? = some (far (ns.take i) (ns.getD i 0)) := by
  unfold fars; rw [List.getElem?_map, List.getElem?_range h]; rfl
/-- how many fetches a store of B makes -/
def cnt (os : List (Option Int)) (B : Int) : Nat := (os.filter (miss B)).length
theorem cnt_snoc (os : List (Option Int)) (o : Option Int) (B : Int) : cnt (os ++ [o]) B = cnt os B + (if miss B o = true then 1 else 0) := by
  unfold cnt
  rw [List.filter_append, List.length_append]
  congr 1
  by_cases h : miss B o = true
  · rw [if_pos h, List.filter_cons_of_pos h]; rfl
  · rw [if_neg h, List.filter_cons_of_neg h]; rfl
theorem miss_mono {B C : Int} (h : B ≤ C) : ∀ o, miss C o = true → miss B o = true
  | none, _ => rfl
  | some f, z => by
    have : f > C := of_decide_eq_true z
    exact decide_eq_true (by omega)
theorem cnt_mono {B C : Int} (h : B ≤ C) : ∀ os : List (Option Int), cnt os C ≤ cnt os B
  | [] => Nat.le_refl _
  | o :: os => by
    have ih := cnt_mono h os
    unfold cnt at ih ⊢
    by_cases z : miss C o = true
    · rw [List.filter_cons_of_pos z, List.filter_cons_of_pos (miss_mono h o z), List.length_cons, List.length_cons]; omega
    · rw [List.filter_cons_of_neg z]
      by_cases y : miss B o = true
      · rw [List.filter_cons_of_pos y, List.length_cons]; omega
      · rw [List.filter_cons_of_neg y]; exact ih
end M50

namespace K50
open PySem L2 M49 M50
/-! the text by places -/
def top (i : Nat) : Stmt := PySem.Challenge.pw_roomslaid_k50_whole_distances.main.body.getD i (.Pass ⟨0, 0, 0, 0⟩)
def inClass : Stmt → Nat → Stmt
  | .ClassDef _ _ _ body _ _ _ _ _ _ _, j => body.getD j (.Pass ⟨0, 0, 0, 0⟩)
  | s, _ => s

theorem iteP {c A B : Prop} [Decidable c] (hc : c) (h : A) : if c then A else B := by rw [if_pos hc]; exact h
theorem iteN {c A B : Prop} [Decidable c] (hc : ¬ c) (h : B) : if c then A else B := by rw [if_neg hc]; exact h
/-- the built-in names are as they were -/
structure Blt (mg : Str → Option Value) : Prop where
  range : mg "range" = none
  len : mg "len" = none
  isinstance : mg "isinstance" = none
  int : mg "int" = none
  bool : mg "bool" = none
  list : mg "list" = none
  all : mg "all" = none
  max : mg "max" = none
  min : mg "min" = none
  reversed : mg "reversed" = none
  tuple : mg "tuple" = none
  divmod : mg "divmod" = none
  enumerate : mg "enumerate" = none
  set : mg "set" = none
/-- a def as its callers see it -/
structure Df (K : PySem.W.Frag) (mg : Str → Option Value) (x : Str) (f : Addr) (fd : FuncData) (ps : List Str) : Prop where
  m : mg x = some (.ref f)
  k : PySem.W.keepIn K (.ref f) = true
  b : Binds K fd ps []
/-- the state of the draws: a list of three ints -/
def St3 (H : Hp) (p : Addr) : Prop := ∃ a b c : Int, H p = some (.lst [.int a, .int b, .int c])
/-- the state at p has turned, new things may have come, all else is as it was -/
def Drawn (p : Addr) (H H' : Hp) : Prop := St3 H' p ∧ ∀ b o, b ≠ p → H b = some o → H' b = some o
theorem same_new {H : Hp} {p : Addr} (h : H p = none) (o : HO) : Same H (upd H p o) := fun b u q => by rw [upd_ne (ne_of_none q h)]; exact q
theorem small {n : Nat} (h : n ≤ 1000) : n ≤ sizeLine := Nat.le_of_lt (small1000 h)
theorem get_ints {ns : List Int} {i : Nat} {x : V} (h : (ns.map V.int)[i]? = some x) : ∃ c, ns[i]? = some c ∧ x = .int c := by
  rw [List.getElem?_map] at h
  cases e : ns[i]? with
  | none => rw [e] at h; cases h
  | some c => rw [e] at h; cases h; exact ⟨c, rfl, rfl⟩
theorem take_snoc {ns : List Int} {i : Nat} {c : Int} (h : ns[i]? = some c) : ns.take (i + 1) = ns.take i ++ [c] := by
  rw [List.take_add_one, h] <;> rfl
def spDraw : Sp := fun vs H Q _ => ∃ (p : Addr) (m : Int), vs = [.ref p, .int m] ∧ 0 < m ∧ m < 1073741824 ∧ St3 H p ∧ ∀ (v : Int) (H' : Hp), 0 ≤ v → v < m → Drawn p H H' → Q (.int v) H'
def spCell (K : PySem.W.Frag) : Sp := fun vs H Q _ => ∃ (a : Addr) (ns : List Int) (k : Int), vs = [.ref a, .int k] ∧ SqL K H a (ns.map V.int) ∧ 0 ≤ k ∧ k < 64 ∧ ∀ v : Int, Q (.int v) H
def spBegun : Sp := fun vs H Q _ => ∃ c : Int, vs = [.int c] ∧ ∀ (p : Addr) (H' : Hp), H p = none → Drawn p H H' → Q (.ref p) H'
def spWhole : Sp := fun vs H Q _ => ∃ i : Int, vs = [.int i] ∧ Q (.bl true) H
def spLaw (K : PySem.W.Frag) : Sp := fun vs H Q _ => ∃ (a : Addr) (ns : List Int), vs = [.ref a] ∧ SqL K H a (ns.map V.int) ∧ ns.length ≤ 63 ∧ ∀ H', Q (.bl true) H'
structure TCls (K : PySem.W.Frag) (mg : Str → Option Value) (x : Str) (C fI : Addr) (as : List Str) : Prop where
  m : mg x = some (.ref C)
  cl : Cls K C
  ma : Mk K C fI
  na : ∀ a ∈ as, NoAttr K C a
structure DfM (K : PySem.W.Frag) (C : Addr) (m : Str) (f : Addr) (fd : FuncData) (ps : List Str) : Prop where
  me : Meth K C m f
  b : Binds K fd ps []
structure DfI (K : PySem.W.Frag) (fd : FuncData) (ps : List Str) : Prop where
  b : Binds K fd ps []

/-- the module's constants -/
structure Cst (K : PySem.W.Frag) (mg : Str → Option Value) (t1 : Tok) : Prop where
  MOST_KEPT : mg "MOST_KEPT" = some (.int 32 t1)
/-- each number drawn is below its bound -/
def Below (vs ms : List Int) : Prop := vs.length = ms.length ∧ ∀ (i : Nat) (v m : Int), vs[i]? = some v → ms[i]? = some m → 0 ≤ v ∧ v < m
theorem Below.nil : Below [] [] := ⟨rfl, fun i v m h => by simp at h⟩
theorem Below.snoc {vs ms : List Int} {i : Nat} {v m : Int} (h : Below vs (ms.take i)) (hm : ms[i]? = some m) (h0 : 0 ≤ v) (h1 : v < m) : Below (vs ++ [v]) (ms.take (i + 1)) := by
  rw [take_snoc hm]
  refine ⟨by rw [List.length_append, List.length_append, h.1]; rfl, fun j x y hx hy => ?_⟩
  by_cases hj : j < vs.length
  · rw [List.getElem?_append_left hj] at hx
    rw [List.getElem?_append_left (by rw [← h.1]; exact hj)] at hy
    exact h.2 j x y hx hy
  · rw [List.getElem?_append_right (by omega)] at hx
    rw [List.getElem?_append_right (by rw [← h.1]; omega), ← h.1] at hy
    cases e : j - vs.length with
    | zero => rw [e] at hx hy; simp at hx hy; subst hx; subst hy; exact ⟨h0, h1⟩
    | succ n => rw [e] at hx; simp at hx
theorem Below.len {vs ms : List Int} {i : Nat} (h : Below vs (ms.take i)) : vs.length ≤ ms.length := by
  rw [h.1, List.length_take]; exact Nat.min_le_right _ _
theorem Below.all {vs ms : List Int} (h : Below vs (ms.take ms.length)) : Below vs ms := by rw [List.take_length] at h; exact h
theorem below2 {vs : List Int} {a b : Int} (h : Below vs [a, b]) : ∃ v0 v1, vs = [v0, v1] ∧ (0 ≤ v0 ∧ v0 < a) ∧ (0 ≤ v1 ∧ v1 < b) := by
  obtain ⟨hl, h⟩ := h
  match vs, hl with
  | [v0, v1], _ => exact ⟨v0, v1, rfl, h 0 _ _ rfl rfl, h 1 _ _ rfl rfl⟩
def spDrawn (K : PySem.W.Frag) : Sp := fun vs H Q _ => ∃ (c : Int) (l : Addr) (ms : List Int), vs = [.int c, .ref l] ∧ SqL K H l (ms.map V.int) ∧ (∀ m ∈ ms, 0 < m ∧ m < 2 ^ 128) ∧ ms.length ≤ 100 ∧
  ∀ (r : Addr) (ws : List Int), H r = none → Below ws ms → Q (.ref r) (upd H r (.lst (ws.map V.int)))

def spCount : Sp := fun vs H Q _ => ∃ x : Int, vs = [.int x] ∧ 0 ≤ x ∧ Q (.bl true) H
def spBtw : Sp := fun vs H Q _ => ∃ x lo hi : Int, vs = [.int x, .int lo, .int hi] ∧ lo ≤ x ∧ x ≤ hi ∧ Q (.bl true) H
def spNKeep : Sp := fun vs H Q _ => ∃ B : Nat, vs = [.int B] ∧ 1 ≤ B ∧ B ≤ 32 ∧ Q .non H
def spNLine : Sp := fun vs H Q _ => ∃ x : Int, vs = [.int x] ∧ 0 ≤ x ∧ Q .non H
def spNLines (K : PySem.W.Frag) : Sp := fun vs H Q _ => ∃ (a : Addr) (ns : List Int), vs = [.ref a] ∧ SqL K H a (ns.map V.int) ∧ (∀ n ∈ ns, 0 ≤ n) ∧ Q .non H
/-- a store of lines at a, its dict at dx, its list at l -/
def Kp (CK : Addr) (H : Hp) (a dx l : Addr) (B : Nat) : Prop := H a = some (.ins CK dx [("bound", .int B), ("held", .ref l)])
def spKInit (CK : Addr) : Sp := fun vs H Q _ => ∃ (a dx : Addr) (B : Nat), vs = [.ref a, .int B] ∧ H a = some (.ins CK dx []) ∧ 1 ≤ B ∧ B ≤ 32 ∧ ∀ l H', H l = none → (∀ b o, b ≠ a → H b = some o → H' b = some o) → Kp CK H' a dx l B → H' l = some (.lst []) → Q .non H'
def outV : Option Int → V
  | none => .non
  | some i => .int i
def spTouch (K : PySem.W.Frag) (CK : Addr) : Sp := fun vs H Q _ => ∃ (a dx l : Addr) (B : Nat) (hs : List Int) (x : Int), vs = [.ref a, .int x] ∧ Kp CK H a dx l B ∧ H l = some (.lst (hs.map V.int)) ∧ 0 ≤ x ∧ hs.length ≤ B ∧ 1 ≤ B ∧ B ≤ 32 ∧
  ∀ (t : Addr) (H' : Hp), But l H H' → H' l = some (.lst ((tchL B hs x).map V.int)) → SqT K H' t [.bl (decide (x ∉ hs)), outV (outO B hs x)] → Q (.ref t) H'
theorem made_kept {CK x dx l : Addr} {H' H2 : Hp} (hx : H' x = none) (hd : H' dx = none) (hl : upd (upd H' dx (.own x)) x (.ins CK dx []) l = none) (hk : ∀ b o, b ≠ x → upd (upd H' dx (.own x)) x (.ins CK dx []) b = some o → H2 b = some o) : Same H' H2 ∧ H' l = none := by
  refine ⟨fun b o q => ?_, ?_⟩
  · have n1 : b ≠ x := ne_of_none q hx
    have n2 : b ≠ dx := ne_of_none q hd
    exact hk b o n1 (by rw [upd_ne n1, upd_ne n2]; exact q)
  · have n1 : l ≠ x := fun z => by rw [z, upd_same] at hl; cases hl
    have n2 : l ≠ dx := fun z => by
      rw [upd_ne n1, z, upd_same] at hl; cases hl
    rw [upd_ne n1, upd_ne n2] at hl; exact hl
/-- a row of fetches, and where it lies -/
abbrev Rw := Addr × Row
def RwAll (K : PySem.W.Frag) (H : Hp) (ts : List Rw) : Prop := ∀ t ∈ ts, SqT K H t.1 [.int t.2.1, .bl t.2.2.1, outV t.2.2.2]
abbrev refs (ts : List Rw) : List V := ts.map fun t => V.ref t.1
def outD : Option Int → PyData
  | none => .none
  | some i => .int i
def rowD (r : Row) : PyData := .tuple [.int r.1, .bool r.2.1, outD r.2.2]
theorem dat_out {K : PySem.W.Frag} {H : Hp} : ∀ o : Option Int, Dat K H (outV o) (outD o)
  | none => .non
  | some i => .int i
theorem lay_out : ∀ o : Option Int, PyData.canLay0 (outD o) = true
  | none => rfl
  | some _ => rfl
/-- a list of rows -/
def RL (K : PySem.W.Frag) (H : Hp) (r : Addr) (rs : List Row) : Prop := ∃ ts : List Rw, H r = some (.lst (refs ts)) ∧ RwAll K H ts ∧ ts.map (·.2) = rs
def NumL (ns : List Int) : Prop := ns.length ≤ 80 ∧ ∀ n ∈ ns, 0 ≤ n
def spFetches (K : PySem.W.Frag) : Sp := fun vs H Q _ => ∃ (a : Addr) (ns : List Int) (B : Nat), vs = [.ref a, .int B] ∧ SqL K H a (ns.map V.int) ∧ NumL ns ∧ 1 ≤ B ∧ B ≤ 32 ∧
  ∀ (r : Addr) (H' : Hp), Same H H' → H r = none → RL K H' r (dueL ns B ns.length) → Q (.ref r) H'
def manyR (rs : List Row) : Nat := (rs.filter (·.2.1)).length
def spHow (K : PySem.W.Frag) : Sp := fun vs H Q _ => ∃ (a : Addr) (ns : List Int) (B : Nat), vs = [.ref a, .int B] ∧ SqL K H a (ns.map V.int) ∧ NumL ns ∧ 1 ≤ B ∧ B ≤ 32 ∧
  ∀ H', Same H H' → Q (.int (manyR (dueL ns B ns.length) : Nat)) H'
def spLinesL (K : PySem.W.Frag) : Sp := fun vs H Q _ => ∃ (a : Addr) (ns : List Int), vs = [.ref a] ∧ SqL K H a (ns.map V.int) ∧
  ∀ (r : Addr) (H' : Hp) (ms : List Int), Same H H' → H r = none → NumL ms → H' r = some (.lst (ms.map V.int)) → Q (.ref r) H'
def spLast (K : PySem.W.Frag) : Sp := fun vs H Q _ => ∃ (a : Addr) (ns : List Int) (B : Nat), vs = [.ref a, .int B] ∧ SqL K H a (ns.map V.int) ∧ ns.length ≤ 80 ∧ 1 ≤ B ∧ B ≤ 32 ∧
  ∀ (r : Addr) (H' : Hp), Same H H' → H r = none → H' r = some (.lst ((held ns B).map V.int)) → Q (.ref r) H'
def spDueK (K : PySem.W.Frag) : Sp := fun vs H Q _ => ∃ (a : Addr) (ns : List Int) (B : Nat), vs = [.ref a, .int B] ∧ SqL K H a (ns.map V.int) ∧ ns.length ≤ 80 ∧ 1 ≤ B ∧ B ≤ 32 ∧
  ∀ (r : Addr) (H' : Hp), Same H H' → H r = none → RL K H' r (dueL ns B ns.length) → Q (.ref r) H'
def spKinds (K : PySem.W.Frag) : Sp := fun vs H Q _ => ∃ (a : Addr) (rs : List Row), vs = [.ref a] ∧ RL K H a rs ∧ ∀ H', Same H H' → Q (.bl true) H'
theorem cut_first (xs : List V) (k : Nat) : cutV xs none (some (k : Int)) = xs.take k := by
  unfold cutV
  rw [HT.sIx_none, HT.sIx_nat, Nat.sub_zero, List.drop_zero]
  by_cases h : k ≤ xs.length
  · rw [Nat.min_eq_left h]
  · rw [Nat.min_eq_right (by omega), List.take_of_length_le (Nat.le_refl _), List.take_of_length_le (by omega)]
/-- a part of a list of ints -/
theorem cut_ints (ms : List Int) (f d : Nat) : ∃ ks : List Int, cutV (ms.map V.int) (some (f : Int)) (some (((f + d : Nat)) : Int)) = ks.map V.int ∧ ks.length ≤ d ∧ ∀ k ∈ ks, k ∈ ms := by
  unfold cutV
  rw [HT.sIx_nat, HT.sIx_nat, List.length_map]
  refine ⟨(ms.drop (min f ms.length)).take (min (f + d) ms.length - min f ms.length), by rw [List.map_take, List.map_drop], ?_, fun k hk => List.mem_of_mem_drop (List.mem_of_mem_take hk)⟩
  rw [List.length_take]
  omega
theorem getLast_map {hs : List Int} {y : Int} (h : hs.getLast? = some y) (x : Int) : (V.int x :: hs.map V.int)[(V.int x :: hs.map V.int).length - 1]? = some (.int y) := by
  rw [List.getLast?_eq_getElem?] at h
  have : 0 < hs.length := by
    rcases Nat.eq_zero_or_pos hs.length with z | z
    · rw [List.length_eq_zero_iff.mp z] at h; simp at h
    · exact z
  rw [List.length_cons, List.length_map, Nat.add_sub_cancel]
  obtain ⟨n, hn⟩ : ∃ n, hs.length = n + 1 := ⟨hs.length - 1, by omega⟩
  rw [hn, List.getElem?_cons_succ, List.getElem?_map]
  rw [hn, Nat.add_sub_cancel] at h
  rw [h]; rfl
theorem last_some {hs : List Int} {B : Nat} (h : hs.length = B) (hB : 1 ≤ B) : ∃ y, hs.getLast? = some y := by
  cases e : hs.getLast? with
  | none => rw [List.getLast?_eq_none_iff] at e; subst e; simp at h; omega
  | some y => exact ⟨y, rfl⟩
theorem below5 {vs : List Int} {a b c d e : Int} (h : Below vs [a, b, c, d, e]) : ∃ v0 v1 v2 v3 v4, vs = [v0, v1, v2, v3, v4] ∧ (0 ≤ v0 ∧ v0 < a) ∧ (0 ≤ v1 ∧ v1 < b) ∧ (0 ≤ v2 ∧ v2 < c) ∧ (0 ≤ v3 ∧ v3 < d) ∧ (0 ≤ v4 ∧ v4 < e) := by
  obtain ⟨hl, h⟩ := h
  match vs, hl with
  | [v0, v1, v2, v3, v4], _ => exact ⟨v0, v1, v2, v3, v4, rfl, h 0 _ _ rfl rfl, h 1 _ _ rfl rfl, h 2 _ _ rfl rfl, h 3 _ _ rfl rfl, h 4 _ _ rfl rfl⟩
/-- where each line was touched last -/
structure Dct (ns : List Int) (i : Nat) (kvs : List (Key × V)) (L : List Nat) : Prop where
  has : ∀ j ∈ L, valV kvs (.inl (ns.getD j 0)) = some (.int (j : Int))
  no : ∀ x, x ∉ rct (ns.take i) → valV kvs (.inl x) = none
  len : kvs.length ≤ i
theorem Dct.nil {ns : List Int} : Dct ns 0 [] [] := ⟨fun j h => by simp at h, fun _ _ => rfl, Nat.le_refl _⟩
theorem Dct.put {ns : List Int} {i : Nat} {kvs : List (Key × V)} {L L' : List Nat} {x : Int} (h : Dct ns i kvs L) (hx : ns[i]? = some x) (hl : ∀ j ∈ L', j ∈ L) (hn : ∀ j ∈ L', ns.getD j 0 ≠ x) : Dct ns (i + 1) (putK kvs (.inl x) (.int (i : Int))) (L' ++ [i]) := by
  refine ⟨fun j hj => ?_, fun y hy => ?_, ?_⟩
  · rw [valV_put]
    rcases List.mem_append.mp hj with z | z
    · rw [if_neg (fun w => hn j z (Sum.inl.inj w))]; exact h.has j (hl j z)
    · rw [List.mem_singleton.mp z, M50.getD_of hx, if_pos rfl]
  · rw [take_snoc' hx, rct_snoc] at hy
    have h1 : y ≠ x := fun w => hy (by rw [w]; exact List.mem_cons_self ..)
    have h2 : y ∉ rct (ns.take i) := fun w => hy (List.mem_cons_of_mem _ (List.mem_filter.mpr ⟨w, decide_eq_true h1⟩))
    rw [valV_put, if_neg (fun w => h1 (Sum.inl.inj w))]
    exact h.no y h2
  · have := length_putK kvs (.inl x) (.int (i : Int))
    have := h.len
    omega
theorem same_upd {H H1 : Hp} {a : Addr} {o : HO} (g : Same H H1) (ha : H a = none) : Same H (upd H1 a o) := fun b u q => by
  rw [upd_ne (ne_of_none q ha)]; exact g _ _ q
abbrev natV (L : List Nat) : List V := L.map fun n : Nat => V.int (n : Int)
def spPlaceI (K : PySem.W.Frag) : Sp := fun vs H Q _ => ∃ (a : Addr) (L : List Nat) (p j : Nat), vs = [.ref a, .int j] ∧ SqL K H a (natV L) ∧ L.length ≤ 100 ∧ L[p]? = some j ∧ (∀ q b, L[q]? = some b → (b < j ↔ q < p)) ∧ Q (.int p) H
def spDist (K : PySem.W.Frag) : Sp := fun vs H Q _ => ∃ (a : Addr) (ns : List Int), vs = [.ref a] ∧ SqL K H a (ns.map V.int) ∧ NumL ns ∧ ∀ r H', Same H H' → H r = none → H' r = some (.lst ((fars ns ns.length).map outV)) → Q (.ref r) H'
def cntsL (ns : List Int) (B : Nat) : List Int := (List.range B).map fun k : Nat => ((cnt (fars ns ns.length) ((k : Int) + 1) : Nat) : Int)
theorem cntsL_get {ns : List Int} {B k : Nat} (h : k < B) : ((cntsL ns B).map V.int)[k]? = some (.int ((cnt (fars ns ns.length) ((k : Int) + 1) : Nat) : Int)) := by
  unfold cntsL; rw [List.getElem?_map, List.getElem?_map, List.getElem?_range h]; rfl
theorem cntsL_length (ns : List Int) (B : Nat) : (cntsL ns B).length = B := by unfold cntsL; rw [List.length_map, List.length_range]
def spCounts (K : PySem.W.Frag) : Sp := fun vs H Q _ => ∃ (a : Addr) (ns : List Int) (B : Nat), vs = [.ref a, .int B] ∧ SqL K H a (ns.map V.int) ∧ NumL ns ∧ 1 ≤ B ∧ B ≤ 32 ∧ ∀ r H', Same H H' → H r = none → H' r = some (.lst ((cntsL ns B).map V.int)) → Q (.ref r) H'
def spFar (K : PySem.W.Frag) : Sp := fun vs H Q _ => ∃ (a : Addr) (ns : List Int) (k : Nat), vs = [.ref a, .int k] ∧ SqL K H a (ns.map V.int) ∧ k < ns.length ∧ ns.length ≤ 80 ∧ ∀ H', Same H H' → Q (outV (far (ns.take k) (ns.getD k 0))) H'
def spGone (K : PySem.W.Frag) : Sp := fun vs H Q _ => ∃ (a d : Addr) (ns : List Int) (B : Nat), vs = [.ref a, .int B, .ref d] ∧ SqL K H a (ns.map V.int) ∧ SqL K H d ((fars ns ns.length).map outV) ∧ NumL ns ∧ 1 ≤ B ∧ B ≤ 32 ∧ ∀ H', Same H H' → Q (.int (cnt (fars ns ns.length) B : Nat)) H'
def spCounted (K : PySem.W.Frag) : Sp := fun vs H Q _ => ∃ (a d t : Addr) (ns : List Int) (B : Nat), vs = [.ref a, .int B, .ref d, .ref t] ∧ SqL K H a (ns.map V.int) ∧ SqL K H d ((fars ns ns.length).map outV) ∧ SqL K H t ((cntsL ns B).map V.int) ∧ NumL ns ∧ 1 ≤ B ∧ B ≤ 32 ∧ ∀ H', Same H H' → Q (.bl true) H'
theorem cut_two (xs : List V) (f e : Nat) (h : f ≤ e) (he : e ≤ xs.length) : cutV xs (some (f : Int)) (some (e : Int)) = (xs.drop f).take (e - f) := by
  unfold cutV
  rw [HT.sIx_nat, HT.sIx_nat, Nat.min_eq_left he, Nat.min_eq_left (Nat.le_trans h he)]
theorem unlike_eq (ns : List Int) : unlike ns = (firsts ns).length := by
  have e : ∀ (l acc : List Int), l.foldl PyProof.Rows.step_dedup (firsts acc) = firsts (acc ++ l) := by
    intro l
    induction l with
    | nil => intro acc; rw [List.append_nil]; rfl
    | cons y l ih =>
      intro acc
      rw [List.foldl_cons]
      have : PyProof.Rows.step_dedup (firsts acc) y = firsts (acc ++ [y]) := by
        unfold PyProof.Rows.step_dedup
        rw [fd_snoc]
        by_cases h : y ∈ firsts acc
        · rw [if_pos h, if_pos]
          rw [List.any_eq_true]
          exact ⟨y, h, by simp⟩
        · rw [if_neg h, if_neg]
          intro z
          rw [List.any_eq_true] at z
          obtain ⟨w, hw, e⟩ := z
          exact h (by rw [← beq_iff_eq.mp e]; exact hw)
      rw [this, ih, List.append_assoc]; rfl
  unfold unlike PyProof.Rows.firstMet
  have m : (List.range ns.length).map (fun i => ns.getD i 0) = ns := by
    apply List.ext_getElem
    · rw [List.length_map, List.length_range]
    · intro n h1 h2
      rw [List.getElem_map, List.getElem_range, List.getD_eq_getElem?_getD, List.getElem?_eq_getElem h2]; rfl
  rw [m]
  have := e ns []
  rw [List.nil_append] at this
  exact congrArg List.length this
def cv (ns : List Int) (k : Nat) : V := .int ((cnt (fars ns ns.length) ((k : Int) + 1) : Nat) : Int)
theorem cnts_cv (ns : List Int) (B : Nat) : (cntsL ns B).map V.int = (List.range B).map (cv ns) := by unfold cntsL; rw [List.map_map]; rfl
theorem get_outs {os : List (Option Int)} {i : Nat} {x : V} (h : (os.map outV)[i]? = some x) : ∃ o, os[i]? = some o ∧ x = outV o := by
  rw [List.getElem?_map] at h
  cases e : os[i]? with
  | none => rw [e] at h; cases h
  | some c => rw [e] at h; cases h; exact ⟨c, rfl, rfl⟩
theorem filt_take {os : List (Option Int)} {i : Nat} {o : Option Int} (p : Option Int → Bool) (h : os[i]? = some o) : (os.take (i + 1)).filter p = (os.take i).filter p ++ (if p o = true then [o] else []) := by
  have e : os.take (i + 1) = os.take i ++ [o] := by rw [List.take_add_one, h] <;> rfl
  rw [e, List.filter_append]
  congr 1
  by_cases z : p o = true
  · rw [if_pos z]; simp [z]
  · rw [if_neg z]; simp [z]
theorem filt_pos {os : List (Option Int)} {i : Nat} {o : Option Int} {p : Option Int → Bool} (h : os[i]? = some o) (hp : p o = true) : ((os.take i).filter p).map outV ++ [outV o] = ((os.take (i + 1)).filter p).map outV := by
  rw [filt_take p h, if_pos hp, List.map_append]; rfl
theorem filt_neg {os : List (Option Int)} {i : Nat} {o : Option Int} {p : Option Int → Bool} (h : os[i]? = some o) (hp : ¬ p o = true) : ((os.take i).filter p).map outV = ((os.take (i + 1)).filter p).map outV := by
  rw [filt_take p h, if_neg hp, List.append_nil]
theorem dat_outs {K : PySem.W.Frag} {H : Hp} : ∀ os : List (Option Int), DatAll K H (os.map outV) (os.map outD)
  | [] => .nil
  | o :: os => .cons (dat_out o) (dat_outs os)
theorem lay_outs : ∀ os : List (Option Int), PyData.canLayAll0 (os.map outD) = true
  | [] => rfl
  | o :: os => by
    show (PyData.canLay0 (outD o) && PyData.canLayAll0 (os.map outD)) = true
    rw [lay_outs os, lay_out]; rfl
theorem depth_outs : ∀ os : List (Option Int), PyData.depthAll (os.map outD) ≤ 0
  | [] => Nat.le_refl _
  | o :: os => Nat.max_le.mpr ⟨by cases o <;> exact Nat.le_refl _, depth_outs os⟩
theorem shaped_outs (os : List (Option Int)) : SeqAt.shaped (.list (os.map outD)) = true := by
  unfold SeqAt.shaped
  rw [Bool.and_eq_true]
  refine ⟨lay_outs os, decide_eq_true ?_⟩
  have := depth_outs os
  show PyData.depthAll _ + 1 ≤ 64
  omega
theorem same_outs (os : List (Option Int)) : PyData.eqv (.list (os.map outD)) (.list (os.map outD)) = true := PySem.SeqAt.eqv_refl _ (SeqAt.canLay_of_shaped (shaped_outs os))
theorem cut_but1 (xs : List V) (y : V) : cutV (xs ++ [y]) none (some (-1)) = xs := by
  unfold cutV
  rw [HT.sIx_none, Nat.sub_zero, List.drop_zero]
  have : HT.sIx (xs ++ [y]).length (xs ++ [y]).length (some (-1)) = xs.length := by
    show (if (-1 : Int) < 0 then ((-1 : Int) + (((xs ++ [y]).length : Nat) : Int)).toNat else min (-1 : Int).toNat (xs ++ [y]).length) = _
    rw [if_pos (by decide), List.length_append, List.length_singleton]
    omega
  rw [this, List.take_left]
theorem cnts_nil (B : Nat) : cntsL [] B = List.replicate B 0 := by
  unfold cntsL
  have : (fun k : Nat => ((cnt (fars [] ([] : List Int).length) ((k : Int) + 1) : Nat) : Int)) = fun _ => 0 := by funext k; rfl
  rw [this]
  exact List.map_const' .. |>.trans (by rw [List.length_range])
theorem rep_ints (B : Nat) : (List.replicate ((B : Int)).toNat [V.int 0]).flatten = (List.replicate B (0 : Int)).map V.int := by
  rw [Int.toNat_natCast, List.map_replicate]
  exact List.flatten_replicate_singleton
end K50

namespace K50
open PySem L2 PyProof.Rows M49 M50
abbrev s_is_whole : Stmt := top 6
theorem sc_is_whole : FnScope ["thing"] ["thing"] (defScope s_is_whole) := ⟨rfl, rfl, rfl, by decide +kernel, rfl, by decide +kernel, by decide +kernel⟩
section
variable {P : Program} {w : World} {K : PySem.W.Frag} {mg : Str → Option Value} {base : Heap}
theorem ok_is_whole {k : Nat} {f : Addr} {fd : FuncData} (F : Fun K "is_whole" "is_whole" s_is_whole f fd) (M : Blt mg) {t1 : Tok} (C : Cst K mg t1) {C_Kept f_Kept_init : Addr} (T_Kept : TCls K mg "Kept" C_Kept f_Kept_init ["bound", "held"]) : FnOk P w K mg base CX0 (k + 2) f fd ["thing"] spWhole := by
  refine F.ok sc_is_whole (fun vs H Q E h => ?_) (fun cdv A outer s0 H vs Q E hr0 h => ?_)
  · obtain ⟨i, rfl, _⟩ := h; rfl
  obtain ⟨i, rfl, q⟩ := h
  have hr := hr0.mono (Nat.le_succ _)
  refine ⟨_, (pss_one (ps_ret (pe_and (pe_callB call_isi rfl M.isinstance boot_isinstance (pa_cons (pv 0) (pa_cons (pe_bltn (v := .ty "int") rfl M.int boot_int rfl) pa_nil))) (pe_one (pe_not (pe_callB call_isi rfl M.isinstance boot_isinstance (pa_cons (pv 0) (pa_cons (pe_bltn (v := .ty "bool") rfl M.bool boot_bool rfl) pa_nil)))))))), ?_⟩
  refine ⟨_, rfl, _, _, "int", rfl, by decide, rfl, _, rfl, iteP (by decide) ?_⟩
  refine ⟨_, rfl, _, _, "int", rfl, by decide, rfl, _, rfl, ?_⟩
  rw [show isa "int" "bool" = false by decide]
  exact q
end
end K50

namespace K50
open PySem L2 PyProof.Rows M49 M50
abbrev s_law_whole : Stmt := top 20
theorem sc_law_whole : FnScope ["_law_found"] ["_law_found"] (defScope s_law_whole) := ⟨rfl, rfl, rfl, by decide +kernel, rfl, by decide +kernel, by decide +kernel⟩
section
variable {P : Program} {w : World} {K : PySem.W.Frag} {mg : Str → Option Value} {base : Heap}
theorem ok_law_whole {k : Nat} {f : Addr} {fd : FuncData} (F : Fun K "_law_whole" "_law_whole" s_law_whole f fd) (M : Blt mg) {t1 : Tok} (C : Cst K mg t1) {C_Kept f_Kept_init : Addr} (T_Kept : TCls K mg "Kept" C_Kept f_Kept_init ["bound", "held"]) : FnOk P w K mg base CX0 (k + 2) f fd ["_law_found"] spWhole := by
  refine F.ok sc_law_whole (fun vs H Q E h => ?_) (fun cdv A outer s0 H vs Q E hr0 h => ?_)
  · obtain ⟨i, rfl, _⟩ := h; rfl
  obtain ⟨i, rfl, q⟩ := h
  have hr := hr0.mono (Nat.le_succ _)
  refine ⟨_, (pss_one (ps_ret (pe_and (pe_callB call_isi rfl M.isinstance boot_isinstance (pa_cons (pv 0) (pa_cons (pe_bltn (v := .ty "int") rfl M.int boot_int rfl) pa_nil))) (pe_one (pe_not (pe_callB call_isi rfl M.isinstance boot_isinstance (pa_cons (pv 0) (pa_cons (pe_bltn (v := .ty "bool") rfl M.bool boot_bool rfl) pa_nil)))))))), ?_⟩
  refine ⟨_, rfl, _, _, "int", rfl, by decide, rfl, _, rfl, iteP (by decide) ?_⟩
  refine ⟨_, rfl, _, _, "int", rfl, by decide, rfl, _, rfl, ?_⟩
  rw [show isa "int" "bool" = false by decide]
  exact q
end
end K50

namespace K50
open PySem L2 PyProof.Rows M49 M50
abbrev s_is_count : Stmt := top 7
theorem sc_is_count : FnScope ["thing"] ["thing"] (defScope s_is_count) := ⟨rfl, rfl, rfl, by decide +kernel, rfl, by decide +kernel, by decide +kernel⟩
section
variable {P : Program} {w : World} {K : PySem.W.Frag} {mg : Str → Option Value} {base : Heap}
theorem ok_is_count {k : Nat} {f : Addr} {fd : FuncData} (F : Fun K "is_count" "is_count" s_is_count f fd) (M : Blt mg) {t1 : Tok} (C : Cst K mg t1) {C_Kept f_Kept_init : Addr} (T_Kept : TCls K mg "Kept" C_Kept f_Kept_init ["bound", "held"]) {f_is_whole : Addr} {fd_is_whole : FuncData} (D_is_whole : Df K mg "is_whole" f_is_whole fd_is_whole ["thing"]) (G_is_whole : FnOk P w K mg base CX0 k f_is_whole fd_is_whole ["thing"] spWhole) : FnOk P w K mg base CX0 (k + 2) f fd ["thing"] spCount := by
  refine F.ok sc_is_count (fun vs H Q E h => ?_) (fun cdv A outer s0 H vs Q E hr0 h => ?_)
  · obtain ⟨x, rfl, _⟩ := h; rfl
  obtain ⟨x, rfl, hx, q⟩ := h
  have hr := hr0.mono (Nat.le_succ _)
  refine ⟨_, (pss_one (ps_ret (pe_and (pe_call G_is_whole hr rfl D_is_whole.m D_is_whole.k D_is_whole.b .nil pass0 (pa_cons (pv 0) pa_nil)) (pe_one (pe_cmpR op_ge (pv 0) pe_int (nomark _)))))), ?_⟩
  refine ⟨_, rfl, x, rfl, _, rfl, iteP (by decide) ⟨_, rfl, _, _, rfl, rfl, ?_⟩⟩
  exact (congrArg (fun b => Q (V.bl b) H) (decide_eq_true hx)).mpr q
end
end K50

namespace K50
open PySem L2 PyProof.Rows M49 M50
abbrev s_is_between : Stmt := top 8
theorem sc_is_between : FnScope ["thing", "low", "high"] ["thing", "low", "high"] (defScope s_is_between) := ⟨rfl, rfl, rfl, by decide +kernel, rfl, by decide +kernel, by decide +kernel⟩
section
variable {P : Program} {w : World} {K : PySem.W.Frag} {mg : Str → Option Value} {base : Heap}
theorem ok_is_between {k : Nat} {f : Addr} {fd : FuncData} (F : Fun K "is_between" "is_between" s_is_between f fd) (M : Blt mg) {t1 : Tok} (C : Cst K mg t1) {C_Kept f_Kept_init : Addr} (T_Kept : TCls K mg "Kept" C_Kept f_Kept_init ["bound", "held"]) {f_is_whole : Addr} {fd_is_whole : FuncData} (D_is_whole : Df K mg "is_whole" f_is_whole fd_is_whole ["thing"]) (G_is_whole : FnOk P w K mg base CX0 k f_is_whole fd_is_whole ["thing"] spWhole) : FnOk P w K mg base CX0 (k + 2) f fd ["thing", "low", "high"] spBtw := by
  refine F.ok sc_is_between (fun vs H Q E h => ?_) (fun cdv A outer s0 H vs Q E hr0 h => ?_)
  · obtain ⟨x, lo, hi, rfl, _⟩ := h; rfl
  obtain ⟨x, lo, hi, rfl, h1, h2, q⟩ := h
  have hr := hr0.mono (Nat.le_succ _)
  refine ⟨_, (pss_one (ps_ret (pe_and (pe_call G_is_whole hr rfl D_is_whole.m D_is_whole.k D_is_whole.b .nil pass0 (pa_cons (pv 0) pa_nil)) (pe_one (pe_chain op_le op_le (pv 1) (pv 0) (pv 2)))))), ?_⟩
  refine ⟨_, rfl, x, rfl, _, rfl, iteP (by decide) ⟨_, rfl, _, rfl, _, _, rfl, rfl, _, rfl, iteP (decide_eq_true h1) ⟨_, rfl, _, _, rfl, rfl, ?_⟩⟩⟩
  exact (congrArg (fun b => Q (V.bl b) H) (decide_eq_true h2)).mpr q
end
end K50

namespace K50
open PySem L2 PyProof.Rows M49 M50
abbrev s_need_keep : Stmt := top 12
theorem sc_need_keep : FnScope ["most"] ["most"] (defScope s_need_keep) := ⟨rfl, rfl, rfl, by decide +kernel, rfl, by decide +kernel, by decide +kernel⟩
section
variable {P : Program} {w : World} {K : PySem.W.Frag} {mg : Str → Option Value} {base : Heap}
theorem ok_need_keep {k : Nat} {f : Addr} {fd : FuncData} (F : Fun K "need_keep" "need_keep" s_need_keep f fd) (M : Blt mg) {t1 : Tok} (C : Cst K mg t1) {C_Kept f_Kept_init : Addr} (T_Kept : TCls K mg "Kept" C_Kept f_Kept_init ["bound", "held"]) {f_is_between : Addr} {fd_is_between : FuncData} (D_is_between : Df K mg "is_between" f_is_between fd_is_between ["thing", "low", "high"]) (G_is_between : FnOk P w K mg base CX0 k f_is_between fd_is_between ["thing", "low", "high"] spBtw) : FnOk P w K mg base CX0 (k + 2) f fd ["most"] spNKeep := by
  refine F.ok sc_need_keep (fun vs H Q E h => ?_) (fun cdv A outer s0 H vs Q E hr0 h => ?_)
  · obtain ⟨B, rfl, _⟩ := h; rfl
  obtain ⟨B, rfl, h1, h2, q⟩ := h
  have hr := hr0.mono (Nat.le_succ _)
  refine ⟨_, (pss_one (ps_if (pt_not (pt_val (pe_call G_is_between hr rfl D_is_between.m D_is_between.k D_is_between.b .nil pass0 (pa_cons (pv 0) (pa_cons pe_int (pa_cons (pe_glob (v := .int 32) rfl C.MOST_KEPT ⟨_, rfl⟩) pa_nil)))))) (pss_one ps_never) pss_nil)), ?_⟩
  exact ⟨_, rfl, _, 1, 32, rfl, by omega, by omega, _, rfl, iteN (by decide) q⟩
end
end K50

namespace K50
open PySem L2 PyProof.Rows M49 M50
abbrev s_need_line : Stmt := top 13
theorem sc_need_line : FnScope ["line"] ["line"] (defScope s_need_line) := ⟨rfl, rfl, rfl, by decide +kernel, rfl, by decide +kernel, by decide +kernel⟩
section
variable {P : Program} {w : World} {K : PySem.W.Frag} {mg : Str → Option Value} {base : Heap}
theorem ok_need_line {k : Nat} {f : Addr} {fd : FuncData} (F : Fun K "need_line" "need_line" s_need_line f fd) (M : Blt mg) {t1 : Tok} (C : Cst K mg t1) {C_Kept f_Kept_init : Addr} (T_Kept : TCls K mg "Kept" C_Kept f_Kept_init ["bound", "held"]) {f_is_count : Addr} {fd_is_count : FuncData} (D_is_count : Df K mg "is_count" f_is_count fd_is_count ["thing"]) (G_is_count : FnOk P w K mg base CX0 k f_is_count fd_is_count ["thing"] spCount) : FnOk P w K mg base CX0 (k + 2) f fd ["line"] spNLine := by
  refine F.ok sc_need_line (fun vs H Q E h => ?_) (fun cdv A outer s0 H vs Q E hr0 h => ?_)
  · obtain ⟨x, rfl, _⟩ := h; rfl
  obtain ⟨x, rfl, hx, q⟩ := h
  have hr := hr0.mono (Nat.le_succ _)
  refine ⟨_, (pss_one (ps_if (pt_not (pt_val (pe_call G_is_count hr rfl D_is_count.m D_is_count.k D_is_count.b .nil pass0 (pa_cons (pv 0) pa_nil)))) (pss_one ps_never) pss_nil)), ?_⟩
  exact ⟨_, rfl, _, rfl, hx, _, rfl, iteN (by decide) q⟩
end
end K50

namespace K50
open PySem L2 PyProof.Rows M49 M50
abbrev s_need_lines : Stmt := top 14
theorem sc_need_lines : FnScope ["lines", "line"] ["lines"] (defScope s_need_lines) := ⟨rfl, rfl, rfl, by decide +kernel, rfl, by decide +kernel, by decide +kernel⟩
section
variable {P : Program} {w : World} {K : PySem.W.Frag} {mg : Str → Option Value} {base : Heap}
theorem ok_need_lines {k : Nat} {f : Addr} {fd : FuncData} (F : Fun K "need_lines" "need_lines" s_need_lines f fd) (M : Blt mg) {t1 : Tok} (C : Cst K mg t1) {C_Kept f_Kept_init : Addr} (T_Kept : TCls K mg "Kept" C_Kept f_Kept_init ["bound", "held"]) {f_need_line : Addr} {fd_need_line : FuncData} (D_need_line : Df K mg "need_line" f_need_line fd_need_line ["line"]) (G_need_line : FnOk P w K mg base CX0 k f_need_line fd_need_line ["line"] spNLine) : FnOk P w K mg base CX0 (k + 2) f fd ["lines"] (spNLines K) := by
  refine F.ok sc_need_lines (fun vs H Q E h => ?_) (fun cdv A outer s0 H vs Q E hr0 h => ?_)
  · obtain ⟨a, ns, rfl, _⟩ := h; rfl
  obtain ⟨a, ns, rfl, hS, hp, q⟩ := h
  have hr := hr0.mono (Nat.le_succ _)
  refine ⟨_, (pss_one (ps_for PassesOwn.never rfl (pi_list (pv 0)) (pg_name (i := 1) sc_need_lines.nd rfl (Or.inl rfl)) (pss_one (ps_expr (pe_call G_need_line hr rfl D_need_line.m D_need_line.k D_need_line.b .nil pass0 (pa_cons (pv 1) pa_nil)))))), ?_⟩
  refine ⟨_, rfl, a, rfl, ⟨_, hS⟩, for_list (xs := ns.map V.int) (fun i σ H' => (∃ o1 : Option V, σ = [some (.ref a), o1]) ∧ H' = H) ⟨⟨none, rfl⟩, rfl⟩ (fun i σ H' _ z => z.2 ▸ hS) (fun i x σ H' hx z => ?_) (fun σ H' z => ?_)⟩
  · obtain ⟨⟨o1, rfl⟩, rfl⟩ := z
    obtain ⟨n, hn, rfl⟩ := get_ints hx
    exact ⟨_, rfl, n, rfl, hp n (List.mem_of_getElem? hn), ⟨_, rfl⟩, rfl⟩
  · obtain ⟨_, rfl⟩ := z
    exact q
end
end K50

namespace K50
open PySem L2 PyProof.Rows M49 M50
abbrev s_Kept_init : Stmt := inClass (top 11) 0
theorem sc_Kept_init : FnScope ["self", "most"] ["self", "most"] (defScope s_Kept_init) := ⟨rfl, rfl, rfl, by decide +kernel, rfl, by decide +kernel, by decide +kernel⟩
section
variable {P : Program} {w : World} {K : PySem.W.Frag} {mg : Str → Option Value} {base : Heap}
theorem ok_Kept_init {k : Nat} {f : Addr} {fd : FuncData} (F : Fun K "__init__" "Kept.__init__" s_Kept_init f fd) (M : Blt mg) {t1 : Tok} (C : Cst K mg t1) {C_Kept f_Kept_init : Addr} (T_Kept : TCls K mg "Kept" C_Kept f_Kept_init ["bound", "held"]) {f_need_keep : Addr} {fd_need_keep : FuncData} (D_need_keep : Df K mg "need_keep" f_need_keep fd_need_keep ["most"]) (G_need_keep : FnOk P w K mg base CX0 k f_need_keep fd_need_keep ["most"] spNKeep) : FnOk P w K mg base CX0 (k + 2) f fd ["self", "most"] (spKInit C_Kept) := by
  refine F.ok sc_Kept_init (fun vs H Q E h => ?_) (fun cdv A outer s0 H vs Q E hr0 h => ?_)
  · obtain ⟨a, dx, B, rfl, _⟩ := h; rfl
  obtain ⟨a, dx, B, rfl, hA, h1, h2, q⟩ := h
  have hr := hr0.mono (Nat.le_succ _)
  refine ⟨_, (pss_cons (ps_expr (pe_call G_need_keep hr rfl D_need_keep.m D_need_keep.k D_need_keep.b .nil pass0 (pa_cons (pv 1) pa_nil)))
      (pss_cons (ps_fld (pv 0) (pv 1) rfl)
      (pss_one (ps_fld (pv 0) (pe_lst pa_nil) rfl)))), ?_⟩
  refine ⟨_, rfl, B, rfl, h1, h2, _, rfl, _, rfl, a, C_Kept, dx, [], rfl, hA, T_Kept.cl, T_Kept.na _ (by decide), by decide, ?_⟩
  refine ⟨(by show 0 ≤ sizeLine; decide), fun l hl => ?_⟩
  have nal : a ≠ l := fun z => by rw [← z, upd_same] at hl; cases hl
  have hl0 : H l = none := by rw [upd_ne (Ne.symm nal)] at hl; exact hl
  refine ⟨_, rfl, a, C_Kept, dx, _, rfl, (by rw [upd_ne nal, upd_same]), T_Kept.cl, T_Kept.na _ (by decide), (by show 1 < 1000; decide), ?_⟩
  refine q l _ hl0 (fun b o nb q' => ?_) upd_same ?_
  · rw [upd_ne nb, upd_ne (ne_of_none q' hl0), upd_ne nb]; exact q'
  · rw [upd_ne (Ne.symm nal), upd_same]
end
end K50

namespace K50
open PySem L2 PyProof.Rows M49 M50
abbrev s_Kept_touch : Stmt := inClass (top 11) 1
theorem sc_Kept_touch : FnScope ["self", "line", "fetched", "out"] ["self", "line"] (defScope s_Kept_touch) := ⟨rfl, rfl, rfl, by decide +kernel, rfl, by decide +kernel, by decide +kernel⟩
section
variable {P : Program} {w : World} {K : PySem.W.Frag} {mg : Str → Option Value} {base : Heap}
theorem ok_Kept_touch {k : Nat} {f : Addr} {fd : FuncData} (F : Fun K "touch" "Kept.touch" s_Kept_touch f fd) (M : Blt mg) {t1 : Tok} (C : Cst K mg t1) {C_Kept f_Kept_init : Addr} (T_Kept : TCls K mg "Kept" C_Kept f_Kept_init ["bound", "held"]) {f_need_line : Addr} {fd_need_line : FuncData} (D_need_line : Df K mg "need_line" f_need_line fd_need_line ["line"]) (G_need_line : FnOk P w K mg base CX0 k f_need_line fd_need_line ["line"] spNLine) : FnOk P w K mg base CX0 (k + 2) f fd ["self", "line"] (spTouch K C_Kept) := by
  refine F.ok sc_Kept_touch (fun vs H Q E h => ?_) (fun cdv A outer s0 H vs Q E hr0 h => ?_)
  · obtain ⟨a, dx, l, B, hs, x, rfl, _⟩ := h; rfl
  obtain ⟨a, dx, l, B, hs, x, rfl, hA, hL, hx, hlen, hB1, hB2, q⟩ := h
  have hr := hr0.mono (Nat.le_succ _)
  refine ⟨_, (pss_cons (ps_expr (pe_call G_need_line hr rfl D_need_line.m D_need_line.k D_need_line.b .nil pass0 (pa_cons (pv 1) pa_nil)))
      (pss_cons (ps_set (i := 2) sc_Kept_touch.nd rfl (by first | exact Or.inl rfl | exact Or.inr rfl) (pe_cmpR op_notInI (pv 1) (pe_fld (pv 0) rfl) (by with_unfolding_all rfl)))
      (pss_cons (ps_if (pt_not (pt_val (pv 2))) (pss_one (ps_expr (pe_bm PySem.F.plainAttrs_list PySem.F.slot_list_remove PySem.F.type_list_remove mt_removeI (pe_fld (pv 0) rfl) (pa_cons (pv 1) pa_nil)))) pss_nil)
      (pss_cons (ps_expr (pe_bm PySem.F.plainAttrs_list PySem.F.slot_list_insert PySem.F.type_list_insert mt_insert0 (pe_fld (pv 0) rfl) (pa_cons pe_int (pa_cons (pv 1) pa_nil))))
      (pss_cons (ps_set (i := 3) sc_Kept_touch.nd rfl (by first | exact Or.inl rfl | exact Or.inr rfl) (pe_ifExp (pt_cmpR op_gt (pe_callB call_len_seq rfl M.len PySem.boot_len (pa_cons (pe_fld (pv 0) rfl) pa_nil)) (pe_fld (pv 0) rfl) (nomark _)) (pe_bm0 PySem.F.plainAttrs_list PySem.F.slot_list_pop PySem.F.type_list_pop mt_pop (pe_fld (pv 0) rfl)) pe_non))
      (pss_one (ps_ret (pe_tup (pa_cons (pv 2) (pa_cons (pv 3) pa_nil)))))))))), ?_⟩
  have nal : a ≠ l := fun z => by
    have h1 := hA
    unfold Kp at h1
    rw [z, hL] at h1; cases h1
  refine ⟨_, rfl, x, rfl, hx, _, rfl, _, rfl, a, C_Kept, dx, _, _, rfl, hA, T_Kept.cl, T_Kept.na _ (by decide), rfl, l, x, hs, rfl, rfl, SqL.of hL, _, rfl, _, rfl, ?_⟩
  by_cases hm : x ∈ hs
  · have e1 : outO B hs x = none := if_pos hm
    have e2 : tchL B hs x = x :: hs.erase x := if_pos hm
    have e3 : decide (x ∉ hs) = false := decide_eq_false fun z => z hm
    rw [e1, e2, e3] at q
    have le : (hs.erase x).length + 1 = hs.length := by
      have := List.length_erase_of_mem hm
      have := List.length_pos_of_mem hm
      omega
    refine iteP (by rw [e3]; rfl) ⟨_, rfl, a, C_Kept, dx, _, _, rfl, hA, T_Kept.cl, T_Kept.na _ (by decide), rfl, .inl ⟨rfl, _, SqL.of hL⟩, _, rfl, l, hs, x, rfl, rfl, hL, hm, ?_⟩
    have hA1 : Kp C_Kept (upd H l (.lst ((hs.erase x).map V.int))) a dx l B := by unfold Kp; rw [upd_ne nal]; exact hA
    have hL1 : upd H l (.lst ((hs.erase x).map V.int)) l = some (.lst ((hs.erase x).map V.int)) := upd_same
    have g1 : But l H (upd H l (.lst ((hs.erase x).map V.int))) := But.upd
    generalize upd H l (.lst ((hs.erase x).map V.int)) = H1 at hA1 hL1 g1 ⊢
    refine ⟨_, rfl, a, C_Kept, dx, _, _, rfl, hA1, T_Kept.cl, T_Kept.na _ (by decide), rfl, .inl ⟨rfl, _, SqL.of hL1⟩, _, rfl, l, _, _, rfl, rfl, hL1, (by rw [List.length_map]; exact small1000 (by omega)), ?_⟩
    have hA2 : Kp C_Kept (upd H1 l (.lst (.int x :: (hs.erase x).map V.int))) a dx l B := by unfold Kp; rw [upd_ne nal]; exact hA1
    have hL2 : upd H1 l (.lst (.int x :: (hs.erase x).map V.int)) l = some (.lst (.int x :: (hs.erase x).map V.int)) := upd_same
    have g2 : But l H (upd H1 l (.lst (.int x :: (hs.erase x).map V.int))) := g1.trans But.upd
    generalize upd H1 l (.lst (.int x :: (hs.erase x).map V.int)) = H2 at hA2 hL2 g2 ⊢
    refine ⟨_, rfl, a, C_Kept, dx, _, _, rfl, hA2, T_Kept.cl, T_Kept.na _ (by decide), rfl, l, _, rfl, .inl (SqL.of hL2), _, rfl, a, C_Kept, dx, _, _, rfl, hA2, T_Kept.cl, T_Kept.na _ (by decide), rfl, _, _, rfl, rfl, _, rfl, ite2 (fun c => ?_) (fun c => ?_)⟩
    · have c' : (((.int x :: (hs.erase x).map V.int : List V).length : Nat) : Int) > (B : Int) := of_decide_eq_true c
      rw [List.length_cons, List.length_map] at c'
      omega
    · refine ⟨_, rfl, _, rfl, (by show 2 ≤ sizeLine; decide), fun t ht => ?_⟩
      rw [e3]
      exact q t _ (g2.trans (But.of (same_new ht _))) (by rw [upd_ne (ne_of_none hL2 ht)]; exact hL2) (SqT.of upd_same)
  · have e3 : decide (x ∉ hs) = true := decide_eq_true hm
    rw [e3] at q
    refine iteN (by rw [e3]; decide) ⟨_, rfl, a, C_Kept, dx, _, _, rfl, hA, T_Kept.cl, T_Kept.na _ (by decide), rfl, .inl ⟨rfl, _, SqL.of hL⟩, _, rfl, l, _, _, rfl, rfl, hL, (by rw [List.length_map]; exact small1000 (by omega)), ?_⟩
    have hA2 : Kp C_Kept (upd H l (.lst (.int x :: hs.map V.int))) a dx l B := by unfold Kp; rw [upd_ne nal]; exact hA
    have hL2 : upd H l (.lst (.int x :: hs.map V.int)) l = some (.lst (.int x :: hs.map V.int)) := upd_same
    have g2 : But l H (upd H l (.lst (.int x :: hs.map V.int))) := But.upd
    generalize upd H l (.lst (.int x :: hs.map V.int)) = H2 at hA2 hL2 g2 ⊢
    refine ⟨_, rfl, a, C_Kept, dx, _, _, rfl, hA2, T_Kept.cl, T_Kept.na _ (by decide), rfl, l, _, rfl, .inl (SqL.of hL2), _, rfl, a, C_Kept, dx, _, _, rfl, hA2, T_Kept.cl, T_Kept.na _ (by decide), rfl, _, _, rfl, rfl, _, rfl, ite2 (fun c => ?_) (fun c => ?_)⟩
    · have c' : (((.int x :: hs.map V.int : List V).length : Nat) : Int) > (B : Int) := of_decide_eq_true c
      rw [List.length_cons, List.length_map] at c'
      have hlB : hs.length = B := by omega
      have e1 : outO B hs x = hs.getLast? := by unfold outO; rw [if_neg hm, if_pos hlB]
      have e2 : tchL B hs x = (x :: hs).dropLast := by unfold tchL; rw [if_neg hm, if_pos hlB]
      obtain ⟨y, hy⟩ := last_some hlB hB1
      rw [e1, e2, hy] at q
      refine ⟨_, rfl, a, C_Kept, dx, _, _, rfl, hA2, T_Kept.cl, T_Kept.na _ (by decide), rfl, .inl ⟨rfl, _, SqL.of hL2⟩, l, _, .int y, rfl, rfl, hL2, getLast_map hy x, ?_⟩
      have g3 : But l H (upd H2 l (.lst (V.int x :: hs.map V.int).dropLast)) := g2.trans But.upd
      have hL3 : upd H2 l (.lst (V.int x :: hs.map V.int).dropLast) l = some (.lst (((x :: hs).dropLast).map V.int)) := by
        rw [upd_same, List.map_dropLast]; rfl
      generalize upd H2 l (.lst (V.int x :: hs.map V.int).dropLast) = H3 at g3 hL3 ⊢
      refine ⟨_, rfl, _, rfl, (by show 2 ≤ sizeLine; decide), fun t ht => ?_⟩
      rw [e3]
      exact q t _ (g3.trans (But.of (same_new ht _))) (by rw [upd_ne (ne_of_none hL3 ht)]; exact hL3) (SqT.of upd_same)
    · have c' : ¬ (((.int x :: hs.map V.int : List V).length : Nat) : Int) > (B : Int) := fun z => c (decide_eq_true z)
      rw [List.length_cons, List.length_map] at c'
      have hlB : ¬ hs.length = B := by omega
      have e1 : outO B hs x = none := by unfold outO; rw [if_neg hm, if_neg hlB]
      have e2 : tchL B hs x = x :: hs := by unfold tchL; rw [if_neg hm, if_neg hlB]
      rw [e1, e2] at q
      refine ⟨_, rfl, _, rfl, (by show 2 ≤ sizeLine; decide), fun t ht => ?_⟩
      rw [e3]
      exact q t _ (g2.trans (But.of (same_new ht _))) (by rw [upd_ne (ne_of_none hL2 ht)]; exact hL2) (SqT.of upd_same)
end
end K50

namespace K50
open PySem L2 PyProof.Rows M49 M50
abbrev s_law_drawn : Stmt := top 19
theorem sc_law_drawn : FnScope ["_law_cell", "_law_sizes", "_law_found", "_law_many", "_law_one", "_law_other"] ["_law_cell", "_law_sizes"] (defScope s_law_drawn) := ⟨rfl, rfl, rfl, by decide +kernel, rfl, by decide +kernel, by decide +kernel⟩
section
variable {P : Program} {w : World} {K : PySem.W.Frag} {mg : Str → Option Value} {base : Heap}
theorem ok_law_drawn {k : Nat} {f : Addr} {fd : FuncData} (F : Fun K "_law_drawn" "_law_drawn" s_law_drawn f fd) (M : Blt mg) {t1 : Tok} (C : Cst K mg t1) {C_Kept f_Kept_init : Addr} (T_Kept : TCls K mg "Kept" C_Kept f_Kept_init ["bound", "held"]) : FnOk P w K mg base CX0 (k + 2) f fd ["_law_cell", "_law_sizes"] (spDrawn K) := by
  refine F.ok sc_law_drawn (fun vs H Q E h => ?_) (fun cdv A outer s0 H vs Q E hr0 h => ?_)
  · obtain ⟨c, l, ms, rfl, _⟩ := h; rfl
  obtain ⟨c, l, ms, rfl, hS, hm, hl, q⟩ := h
  have hr := hr0.mono (Nat.le_succ _)
  refine ⟨_, (pss_cons (ps_set (i := 2) sc_law_drawn.nd rfl (by first | exact Or.inl rfl | exact Or.inr rfl) (pe_lst pa_nil))
      (pss_cons (ps_if (pt_cmpR op_ge (pv 0) (pe_op op_pow pe_int pe_int) (nomark _)) (pss_cons (ps_for PassesOwn.never rfl (pi_list (pv 1)) (pg_name (i := 3) sc_law_drawn.nd rfl (Or.inl rfl)) (pss_cons (ps_expr (pe_bm PySem.F.plainAttrs_list PySem.F.slot_list_append PySem.F.type_list_append mt_append (pv 2) (pa_cons (pe_op op_mod (pv 0) (pv 3)) pa_nil)))
      (pss_one (ps_set (i := 0) sc_law_drawn.nd rfl (by first | exact Or.inl rfl | exact Or.inr rfl) (pe_op op_fdivL (pv 0) (pv 3))))))
      (pss_one (ps_ret (pv 2)))) pss_nil)
      (pss_cons (ps_set (i := 4) sc_law_drawn.nd rfl (by first | exact Or.inl rfl | exact Or.inr rfl) (pe_op op_mod (pe_op op_add (pe_op op_mul (pv 0) pe_int) pe_int) pe_int))
      (pss_cons (ps_set (i := 5) sc_law_drawn.nd rfl (by first | exact Or.inl rfl | exact Or.inr rfl) (pe_op op_mod (pe_op op_add (pe_op op_mul (pv 0) pe_int) pe_int) pe_int))
      (pss_cons (ps_set (i := 4) sc_law_drawn.nd rfl (by first | exact Or.inl rfl | exact Or.inr rfl) (pe_op op_mod (pe_op op_add (pe_op op_add (pe_op op_mul (pv 4) (pv 4)) (pe_op op_mul pe_int (pv 4))) pe_int) pe_int))
      (pss_cons (ps_for PassesOwn.never rfl (pi_list (pv 1)) (pg_name (i := 3) sc_law_drawn.nd rfl (Or.inl rfl)) (pss_cons (ps_set (i := 4) sc_law_drawn.nd rfl (by first | exact Or.inl rfl | exact Or.inr rfl) (pe_op op_mod (pe_op op_add (pe_op op_add (pe_op op_mul (pv 4) (pv 4)) (pe_op op_mul pe_int (pv 4))) pe_int) pe_int))
      (pss_cons (ps_set (i := 5) sc_law_drawn.nd rfl (by first | exact Or.inl rfl | exact Or.inr rfl) (pe_op op_mod (pe_op op_add (pe_op op_add (pe_op op_mul (pv 5) pe_int) (pe_op op_mul pe_int (pe_op op_mod (pv 4) pe_int))) pe_int) pe_int))
      (pss_one (ps_expr (pe_bm PySem.F.plainAttrs_list PySem.F.slot_list_append PySem.F.type_list_append mt_append (pv 2) (pa_cons (pe_op op_mod (pe_op op_add (pe_op op_mul (pv 4) pe_int) (pv 5)) (pv 3)) pa_nil)))))))
      (pss_one (ps_ret (pv 2))))))))), ?_⟩
  refine ⟨(by show 0 ≤ sizeLine; decide), fun r hr0 => ?_⟩
  have zl : (ms.map V.int).length = ms.length := List.length_map _
  have hS1 : ∀ o, SqL K (upd H r o) l (ms.map V.int) := fun o => (same_new hr0 o).seq hS
  refine ⟨_, rfl, _, _, rfl, rfl, ⟨by decide, by decide, by decide⟩, _, _, rfl, rfl, _, rfl, ite2 (fun _ => ?_) (fun _ => ?_)⟩
  · refine ⟨_, rfl, l, rfl, ⟨_, hS1 _⟩, for_list (xs := ms.map V.int) (fun i σ H' => ∃ (cc : Int) (ws : List Int) (o3 o4 o5 : Option V), σ = [some (.int cc), some (.ref l), some (.ref r), o3, o4, o5] ∧ H' = upd H r (.lst (ws.map V.int)) ∧ Below ws (ms.take i)) ⟨c, [], _, _, _, rfl, rfl, by rw [List.take_zero]; exact Below.nil⟩ (fun i σ H' _ z => ?_) (fun i x σ H' hx z => ?_) (fun σ H' z => ?_)⟩
    · obtain ⟨cc, ws, o3, o4, o5, rfl, rfl, _⟩ := z; exact hS1 _
    · obtain ⟨cc, ws, o3, o4, o5, rfl, rfl, hb⟩ := z
      obtain ⟨m, hmi, rfl⟩ := get_ints hx
      have hm' := hm m (List.mem_of_getElem? hmi)
      have k : upd H r (.lst (ws.map V.int)) r = some (.lst (ws.map V.int)) := upd_same
      refine ⟨_, rfl, .inl ⟨rfl, _, SqL.of k⟩, _, rfl, _, rfl, _, _, rfl, rfl, hm'.1, r, _, _, rfl, rfl, k, ?_, ?_⟩
      · rw [List.length_map]; exact small1000 (by have := hb.len; omega)
      refine ⟨_, rfl, _, rfl, _, _, rfl, rfl, hm', _, ws ++ [cc % m], _, _, _, rfl, ?_, hb.snoc hmi (Int.emod_nonneg _ (by omega)) (Int.emod_lt_of_pos _ hm'.1)⟩
      rw [upd_upd, List.map_append]; rfl
    · obtain ⟨cc, ws, o3, o4, o5, rfl, rfl, hb⟩ := z
      rw [zl] at hb
      exact ⟨_, rfl, q r ws hr0 hb.all⟩
  · refine ⟨_, rfl, _, _, rfl, rfl, .inr ⟨by omega, by omega⟩, _, _, rfl, rfl, _, _, rfl, rfl, (by show (0 : Int) < _; decide), ?_⟩
    refine ⟨_, rfl, _, _, rfl, rfl, .inr ⟨by omega, by omega⟩, _, _, rfl, rfl, _, _, rfl, rfl, (by show (0 : Int) < _; decide), ?_⟩
    refine ⟨_, rfl, _, rfl, _, _, rfl, rfl, .inl ⟨by omega, by omega⟩, _, rfl, _, _, rfl, rfl, .inl ⟨by omega, by omega⟩, _, _, rfl, rfl, _, _, rfl, rfl, _, _, rfl, rfl, (by show (0 : Int) < _; decide), ?_⟩
    refine ⟨_, rfl, l, rfl, ⟨_, hS1 _⟩, for_list (xs := ms.map V.int) (fun i σ H' => ∃ (one oth : Int) (ws : List Int) (o3 : Option V), (0 ≤ one ∧ one < 2147483647) ∧ (0 ≤ oth ∧ oth < 998244353) ∧ σ = [some (.int c), some (.ref l), some (.ref r), o3, some (.int one), some (.int oth)] ∧ H' = upd H r (.lst (ws.map V.int)) ∧ Below ws (ms.take i)) ⟨_, _, [], _, ⟨by omega, by omega⟩, ⟨by omega, by omega⟩, rfl, rfl, by rw [List.take_zero]; exact Below.nil⟩ (fun i σ H' _ z => ?_) (fun i x σ H' hx z => ?_) (fun σ H' z => ?_)⟩
    · obtain ⟨one, oth, ws, o3, _, _, rfl, rfl, _⟩ := z; exact hS1 _
    · obtain ⟨one, oth, ws, o3, ho, hh, rfl, rfl, hb⟩ := z
      obtain ⟨m, hmi, rfl⟩ := get_ints hx
      have hm' := hm m (List.mem_of_getElem? hmi)
      have k : upd H r (.lst (ws.map V.int)) r = some (.lst (ws.map V.int)) := upd_same
      refine ⟨_, rfl, _, rfl, _, _, rfl, rfl, .inl ⟨by omega, by omega⟩, _, rfl, _, _, rfl, rfl, .inl ⟨by omega, by omega⟩, _, _, rfl, rfl, _, _, rfl, rfl, _, _, rfl, rfl, (by show (0 : Int) < _; decide), ?_⟩
      refine ⟨_, rfl, _, _, rfl, rfl, .inr ⟨by omega, by omega⟩, _, rfl, _, _, rfl, rfl, (by show (0 : Int) < _; decide), _, _, rfl, rfl, .inl ⟨by omega, by omega⟩, _, _, rfl, rfl, _, _, rfl, rfl, _, _, rfl, rfl, (by show (0 : Int) < _; decide), ?_⟩
      refine ⟨_, rfl, .inl ⟨rfl, _, SqL.of k⟩, _, rfl, _, _, rfl, rfl, .inr ⟨by omega, by omega⟩, _, rfl, _, _, rfl, rfl, _, rfl, _, _, rfl, rfl, hm'.1, r, _, _, rfl, rfl, k, ?_, ?_⟩
      · rw [List.length_map]; exact small1000 (by have := hb.len; omega)
      refine ⟨_, _, ws ++ [((one * one + 48271 * one + 13) % 2147483647 * 998244353 + (oth * 16807 + 48611 * ((one * one + 48271 * one + 13) % 2147483647 % 65536) + 5) % 998244353) % m], _, ⟨by omega, by omega⟩, ⟨by omega, by omega⟩, rfl, ?_, hb.snoc hmi (Int.emod_nonneg _ (by omega)) (Int.emod_lt_of_pos _ hm'.1)⟩
      rw [upd_upd, List.map_append]; rfl
    · obtain ⟨one, oth, ws, o3, _, _, rfl, rfl, hb⟩ := z
      rw [zl] at hb
      exact ⟨_, rfl, q r ws hr0 hb.all⟩
end
end K50

namespace K50
open PySem L2 PyProof.Rows M49 M50
abbrev s_law_lines : Stmt := top 21
theorem sc_law_lines : FnScope ["_law_script", "_law_found", "_law_cell", "_law_draws"] ["_law_script"] (defScope s_law_lines) := ⟨rfl, rfl, rfl, by decide +kernel, rfl, by decide +kernel, by decide +kernel⟩
section
variable {P : Program} {w : World} {K : PySem.W.Frag} {mg : Str → Option Value} {base : Heap}
theorem ok_law_lines {k : Nat} {f : Addr} {fd : FuncData} (F : Fun K "_law_lines" "_law_lines" s_law_lines f fd) (M : Blt mg) {t1 : Tok} (C : Cst K mg t1) {C_Kept f_Kept_init : Addr} (T_Kept : TCls K mg "Kept" C_Kept f_Kept_init ["bound", "held"]) {f_law_drawn : Addr} {fd_law_drawn : FuncData} (D_law_drawn : Df K mg "_law_drawn" f_law_drawn fd_law_drawn ["_law_cell", "_law_sizes"]) (G_law_drawn : FnOk P w K mg base CX0 k f_law_drawn fd_law_drawn ["_law_cell", "_law_sizes"] (spDrawn K)) : FnOk P w K mg base CX0 (k + 2) f fd ["_law_script"] (spLinesL K) := by
  refine F.ok sc_law_lines (fun vs H Q E h => ?_) (fun cdv A outer s0 H vs Q E hr0 h => ?_)
  · obtain ⟨a, ns, rfl, _⟩ := h; rfl
  obtain ⟨a, ns, rfl, hS, q⟩ := h
  have hr := hr0.mono (Nat.le_succ _)
  refine ⟨_, (pss_cons (ps_set (i := 1) sc_law_lines.nd rfl (by first | exact Or.inl rfl | exact Or.inr rfl) (pe_lst pa_nil))
      (pss_cons (ps_for PassesOwn.never rfl (pi_list (pe_op op_cat (pe_slice sl_list (pv 0) po_none (po_some pe_int)) (pe_lst (pa_cons (pe_callB call_len_seq rfl M.len PySem.boot_len (pa_cons (pv 0) pa_nil)) pa_nil)))) (pg_name (i := 2) sc_law_lines.nd rfl (Or.inl rfl)) (pss_cons (ps_set (i := 3) sc_law_lines.nd rfl (by first | exact Or.inl rfl | exact Or.inr rfl) (pe_call G_law_drawn hr rfl D_law_drawn.m D_law_drawn.k D_law_drawn.b .nil pass0 (pa_cons (pv 2) (pa_cons (pe_lst (pa_cons pe_int (pa_cons pe_int (pa_cons pe_int (pa_cons pe_int (pa_cons (pe_op op_pow pe_int pe_int) pa_nil) se_const) se_const) se_const) se_const)) pa_nil))))
      (pss_one (ps_if (pt_cmpR op_lt (pe_ix ix_list (pv 3) pe_int (fun _ _ => rfl)) pe_int (nomark _)) (pss_one (ps_expr (pe_bm PySem.F.plainAttrs_list PySem.F.slot_list_append PySem.F.type_list_append mt_append (pv 1) (pa_cons (pe_ix ix_list (pv 3) pe_int (fun _ _ => rfl)) pa_nil)))) (pss_one (ps_if (pt_cmpR op_eq (pe_ix ix_list (pv 3) pe_int (fun _ _ => rfl)) pe_int (nomark _)) (pss_one (ps_expr (pe_bm PySem.F.plainAttrs_list PySem.F.slot_list_extend PySem.F.type_list_extend mt_extend (pv 1) (pa_cons (pe_comp ["_law_k"] ["_law_draws"] [3] rfl (pi_range1 rfl M.range (pa_cons (pe_ix ix_list (pv 3) pe_int (fun _ _ => rfl)) pa_nil)) rfl ⟨rfl, trivial⟩ ⟨⟨rfl, rfl, rfl, _, rfl⟩, trivial⟩ (fun _ _ _ _ => (pg_name (i := 0) (show List.Nodup (["_law_k", "_law_draws"] : List Str) from by decide +kernel) rfl (Or.inl rfl))) (fun _ _ _ _ => pif_nil) (fun _ _ _ _ => (pe_op op_add (pe_ix (ix_listK K rfl) (pv 1) pe_int (fun _ _ => rfl)) (pv 0)))) pa_nil)))) (pss_one (ps_if (pt_cmpR op_eq (pe_ix ix_list (pv 3) pe_int (fun _ _ => rfl)) pe_int (nomark _)) (pss_one (ps_expr (pe_bm PySem.F.plainAttrs_list PySem.F.slot_list_extend PySem.F.type_list_extend mt_extend (pv 1) (pa_cons (pe_slice sl_list (pv 1) (po_some (pe_ix ix_list (pv 3) pe_int (fun _ _ => rfl))) (po_some (pe_op op_add (pe_ix ix_list (pv 3) pe_int (fun _ _ => rfl)) (pe_ix ix_list (pv 3) pe_int (fun _ _ => rfl))))) pa_nil)))) (pss_one (ps_if (pt_cmpR op_eq (pe_ix ix_list (pv 3) pe_int (fun _ _ => rfl)) pe_int (nomark _)) (pss_one (ps_expr (pe_bm PySem.F.plainAttrs_list PySem.F.slot_list_extend PySem.F.type_list_extend mt_extend (pv 1) (pa_cons (pe_lst (pa_cons (pe_op op_add (pe_ix ix_list (pv 3) pe_int (fun _ _ => rfl)) (pe_ix ix_list (pv 3) pe_int (fun _ _ => rfl))) (pa_cons (pe_ix ix_list (pv 3) pe_int (fun _ _ => rfl)) pa_nil))) pa_nil)))) (pss_one (ps_expr (pe_bm PySem.F.plainAttrs_list PySem.F.slot_list_extend PySem.F.type_list_extend mt_extend (pv 1) (pa_cons (pe_comp ["_law_k"] [] [] rfl (pi_range1 rfl M.range (pa_cons (pe_ix ix_list (pv 3) pe_int (fun _ _ => rfl)) pa_nil)) rfl trivial trivial (fun _ _ _ _ => (pg_name (i := 0) (show List.Nodup (["_law_k"] : List Str) from by decide +kernel) rfl (Or.inl rfl))) (fun _ _ _ _ => pif_nil) (fun _ _ _ _ => (pv 0))) pa_nil))))))))))))))
      (pss_one (ps_ret (pe_slice sl_list (pv 1) po_none (po_some pe_int)))))), ?_⟩
  refine ⟨(by show 0 ≤ sizeLine; decide), fun r hr0 => ?_⟩
  have g0 := same_new hr0 (.lst [])
  have k0 : upd H r (.lst []) r = some (.lst (([] : List Int).map V.int)) := upd_same
  generalize upd H r (.lst []) = H0 at g0 k0 ⊢
  refine ⟨_, rfl, _, rfl, a, _, rfl, g0.seq hS, fun p1 hp1 => ?_⟩
  have cut : cutV (ns.map V.int) none (some 14) = (ns.take 14).map V.int := by
    rw [List.map_take]; exact cut_first _ 14
  rw [cut]
  have g1 := same_new hp1 (.lst ((ns.take 14).map V.int))
  have k1 : upd H0 p1 (.lst ((ns.take 14).map V.int)) p1 = some (.lst ((ns.take 14).map V.int)) := upd_same
  generalize upd H0 p1 (.lst ((ns.take 14).map V.int)) = H1 at g1 k1 ⊢
  refine ⟨_, rfl, a, _, rfl, .inl ((g0.trans g1).seq hS), (by show 1 ≤ sizeLine; decide), fun p2 hp2 => ?_⟩
  have g2 := same_new hp2 (.lst [.int ((ns.map V.int).length : Nat)])
  have k2 : upd H1 p2 (.lst [.int ((ns.map V.int).length : Nat)]) p2 = some (.lst [.int ((ns.map V.int).length : Nat)]) := upd_same
  generalize upd H1 p2 (.lst [.int ((ns.map V.int).length : Nat)]) = H2 at g2 k2 ⊢
  have l14 : (ns.take 14).length ≤ 14 := by rw [List.length_take]; exact Nat.min_le_left _ _
  refine ⟨p1, p2, _, _, rfl, rfl, g2 _ _ k1, k2, (by rw [List.length_map]; exact small (by simp only [List.length_singleton]; omega)), fun p3 hp3 => ?_⟩
  obtain ⟨xs, ex, hxs⟩ : ∃ xs : List Int, (ns.take 14).map V.int ++ [V.int ((ns.map V.int).length : Nat)] = xs.map V.int ∧ xs.length ≤ 15 := by
    refine ⟨ns.take 14 ++ [(((ns.map V.int).length : Nat) : Int)], by rw [List.map_append]; rfl, ?_⟩
    rw [List.length_append, List.length_singleton]; omega
  rw [ex]
  have g3 := same_new hp3 (.lst (xs.map V.int))
  have k3 : upd H2 p3 (.lst (xs.map V.int)) p3 = some (.lst (xs.map V.int)) := upd_same
  have nr3 : r ≠ p3 := ne_of_none (g2 _ _ (g1 _ _ k0)) hp3
  have gA : Same H (upd H2 p3 (.lst (xs.map V.int))) := ((g0.trans g1).trans g2).trans g3
  have kr := g3 _ _ (g2 _ _ (g1 _ _ k0))
  generalize upd H2 p3 (.lst (xs.map V.int)) = H3 at k3 gA kr ⊢
  have zl : (xs.map V.int).length = xs.length := List.length_map _
  refine ⟨p3, rfl, ⟨_, SqL.of k3⟩, for_list (xs := xs.map V.int) (fun i σ H' => ∃ (ms : List Int) (o2 o3 : Option V), σ = [some (.ref a), some (.ref r), o2, o3] ∧ But r H3 H' ∧ H' r = some (.lst (ms.map V.int)) ∧ ms.length ≤ 41 * i ∧ ∀ n ∈ ms, 0 ≤ n) ⟨[], _, _, rfl, But.refl, kr, Nat.zero_le _, fun n hn => by simp at hn⟩ (fun i σ H' _ z => ?_) (fun i x σ H' hx z => ?_) (fun σ H' z => ?_)⟩
  · obtain ⟨ms, o2, o3, rfl, g, _⟩ := z; exact SqL.of (g _ _ (Ne.symm nr3) k3)
  · obtain ⟨ms, o2, o3, rfl, g, k, hlen, hpos⟩ := z
    have hi : i < xs.length := by
      have := (List.getElem?_eq_some_iff.mp hx).1
      rwa [zl] at this
    obtain ⟨c, _, rfl⟩ := get_ints hx
    refine ⟨_, rfl, _, _, rfl, rfl, ⟨by decide, by decide, by decide⟩, (by show 5 ≤ sizeLine; decide), fun l hl0 => ?_⟩
    have h1 := same_new hl0 (.lst [.int 6, .int 9, .int 12, .int 41, .int (10 ^ (29 : Int).toNat)])
    have j1 : upd H' l (.lst [.int 6, .int 9, .int 12, .int 41, .int (10 ^ (29 : Int).toNat)]) l = some (.lst (([6, 9, 12, 41, 10 ^ (29 : Int).toNat] : List Int).map V.int)) := upd_same
    generalize upd H' l (.lst [.int 6, .int 9, .int 12, .int 41, .int (10 ^ (29 : Int).toNat)]) = H4 at h1 j1 ⊢
    refine ⟨c, l, _, rfl, SqL.of j1, ?_, (by decide), fun d ws hd0 hB => ?_⟩
    · intro m hm
      simp only [List.mem_cons, List.not_mem_nil, or_false] at hm
      rcases hm with rfl | rfl | rfl | rfl | rfl
      · exact ⟨by decide, by decide⟩
      · exact ⟨by decide, by decide⟩
      · exact ⟨by decide, by decide⟩
      · exact ⟨by decide, by decide⟩
      · exact ⟨by decide, by decide⟩
    obtain ⟨v0, v1, v2, v3, v4, rfl, b0, b1, b2, b3, b4⟩ := below5 hB
    have h2 := h1.trans (same_new hd0 (.lst ([v0, v1, v2, v3, v4].map V.int)))
    have j2 : upd H4 d (.lst ([v0, v1, v2, v3, v4].map V.int)) d = some (.lst [.int v0, .int v1, .int v2, .int v3, .int v4]) := upd_same
    generalize upd H4 d (.lst ([v0, v1, v2, v3, v4].map V.int)) = H5 at h2 j2 ⊢
    have k5 := h2 _ _ k
    have g5 : But r H3 H5 := g.trans (But.of h2)
    have DR : ∀ {H6 : Hp}, Same H5 H6 → SqL K H6 d [.int v0, .int v1, .int v2, .int v3, .int v4] := fun g6 => SqL.of (g6 _ _ j2)
    -- a list ks laid at p is put behind
    have fin : ∀ (H6 : Hp) (ks : List Int), Same H5 H6 → ks.length ≤ 41 → (∀ n ∈ ks, 0 ≤ n) → ∃ (ms2 : List Int) (o2 o3 : Option V), [some (V.ref a), some (V.ref r), some (V.int c), some (V.ref d)] = [some (V.ref a), some (V.ref r), o2, o3] ∧ But r H3 (upd H6 r (.lst (ms.map V.int ++ ks.map V.int))) ∧ upd H6 r (.lst (ms.map V.int ++ ks.map V.int)) r = some (.lst (ms2.map V.int)) ∧ ms2.length ≤ 41 * (i + 1) ∧ ∀ n ∈ ms2, 0 ≤ n := fun H6 ks g6 hk hp => by
      refine ⟨ms ++ ks, _, _, rfl, (g5.trans (But.of g6)).trans But.upd, by rw [upd_same, List.map_append], by rw [List.length_append]; omega, fun n hn => ?_⟩
      rcases List.mem_append.mp hn with z | z
      · exact hpos n z
      · exact hp n z
    refine ⟨_, rfl, d, _, _, _, rfl, rfl, DR (Same.refl _), rfl, _, _, rfl, rfl, _, rfl, ite2 (fun _ => ?_) (fun _ => ?_)⟩
    · refine ⟨_, rfl, .inl ⟨rfl, _, SqL.of k5⟩, _, rfl, d, _, _, _, rfl, rfl, DR (Same.refl _), rfl, r, _, _, rfl, rfl, k5, (by rw [List.length_map]; exact small1000 (by omega)), ?_⟩
      exact fin H5 [v1] (Same.refl _) (by simp) (fun n hn => by rw [List.mem_singleton.mp hn]; exact b1.1)
    · refine ⟨_, rfl, d, _, _, _, rfl, rfl, DR (Same.refl _), rfl, rfl, _, rfl, ite2 (fun _ => ?_) (fun _ => ?_)⟩
      · refine ⟨_, rfl, .inl ⟨rfl, _, SqL.of k5⟩, _, rfl, d, _, _, _, rfl, rfl, DR (Same.refl _), rfl, _, rfl, by omega, by omega, comp_range (fun j ys H6 => H6 = H5 ∧ ys = (rangeL v1 j).map V.int) ⟨rfl, rfl⟩ (fun j ys H6 _ z => by rw [z.2, List.length_map, rangeL_length]; exact Nat.le_refl _) (by exact small1000 (by omega)) (fun j ys H6 hj z => ?_) (fun ys H6 z p hp => ?_)⟩
        · obtain ⟨rfl, rfl⟩ := z
          refine ⟨_, rfl, d, _, _, _, rfl, rfl, DR (Same.refl _), rfl, _, rfl, _, _, rfl, rfl, ⟨rfl, ?_⟩, _, rfl⟩
          rw [rangeL_succ, List.map_append, Int.zero_add]; rfl
        · obtain ⟨rfl, rfl⟩ := z
          have g6 := same_new hp (.lst ((rangeL v1 v2.toNat).map V.int))
          refine ⟨r, p, _, _, rfl, rfl, g6 _ _ k5, upd_same, (by rw [List.length_map, List.length_map, rangeL_length]; exact small (by omega)), ?_⟩
          refine fin _ (rangeL v1 v2.toNat) g6 (by rw [rangeL_length]; omega) (fun n hn => ?_)
          simp only [rangeL, List.mem_map, List.mem_range] at hn
          obtain ⟨j, _, rfl⟩ := hn
          omega
      · refine ⟨_, rfl, d, _, _, _, rfl, rfl, DR (Same.refl _), rfl, rfl, _, rfl, ite2 (fun _ => ?_) (fun _ => ?_)⟩
        · refine ⟨_, rfl, .inl ⟨rfl, _, SqL.of k5⟩, _, rfl, _, rfl, d, _, _, _, rfl, rfl, DR (Same.refl _), rfl, _, rfl, _, rfl, d, _, _, _, rfl, rfl, DR (Same.refl _), rfl, _, rfl, d, _, _, _, rfl, rfl, DR (Same.refl _), rfl, _, _, rfl, rfl, _, rfl, r, _, rfl, SqL.of k5, fun p hp => ?_⟩
          obtain ⟨n1, rfl⟩ := Int.eq_ofNat_of_zero_le b1.1
          obtain ⟨n2, rfl⟩ := Int.eq_ofNat_of_zero_le b2.1
          obtain ⟨ks, e1, e2, e3⟩ := cut_ints ms n1 n2
          have e1' : cutV (ms.map V.int) (some (n1 : Int)) (some ((n1 : Int) + (n2 : Int))) = ks.map V.int := by rw [← e1]; congr 2
          rw [e1']
          have g6 := same_new hp (.lst (ks.map V.int))
          refine ⟨r, p, _, _, rfl, rfl, g6 _ _ k5, upd_same, (by rw [List.length_map, List.length_map]; exact small (by omega)), ?_⟩
          exact fin _ ks g6 (by omega) (fun n hn => hpos n (e3 n hn))
        · refine ⟨_, rfl, d, _, _, _, rfl, rfl, DR (Same.refl _), rfl, rfl, _, rfl, ite2 (fun _ => ?_) (fun _ => ?_)⟩
          · refine ⟨_, rfl, .inl ⟨rfl, _, SqL.of k5⟩, _, rfl, d, _, _, _, rfl, rfl, DR (Same.refl _), rfl, _, rfl, d, _, _, _, rfl, rfl, DR (Same.refl _), rfl, _, _, rfl, rfl, _, rfl, d, _, _, _, rfl, rfl, DR (Same.refl _), rfl, (by show 2 ≤ sizeLine; decide), fun p hp => ?_⟩
            have g6 := same_new hp (.lst [.int (v4 + v1), .int v4])
            refine ⟨r, p, _, _, rfl, rfl, g6 _ _ k5, upd_same, (by rw [List.length_map]; exact small (by simp only [List.length_cons, List.length_nil]; omega)), ?_⟩
            refine fin _ [v4 + v1, v4] g6 (by simp) (fun n hn => ?_)
            simp only [List.mem_cons, List.not_mem_nil, or_false] at hn
            rcases hn with rfl | rfl <;> omega
          · refine ⟨_, rfl, .inl ⟨rfl, _, SqL.of k5⟩, _, rfl, d, _, _, _, rfl, rfl, DR (Same.refl _), rfl, _, rfl, by omega, by omega, comp_range (fun j ys H6 => H6 = H5 ∧ ys = (rangeL 0 j).map V.int) ⟨rfl, rfl⟩ (fun j ys H6 _ z => by rw [z.2, List.length_map, rangeL_length]; exact Nat.le_refl _) (by exact small1000 (by omega)) (fun j ys H6 hj z => ?_) (fun ys H6 z p hp => ?_)⟩
            · obtain ⟨rfl, rfl⟩ := z
              refine ⟨_, rfl, ⟨rfl, ?_⟩, _, rfl⟩
              rw [rangeL_succ, List.map_append]; rfl
            · obtain ⟨rfl, rfl⟩ := z
              have g6 := same_new hp (.lst ((rangeL 0 v3.toNat).map V.int))
              refine ⟨r, p, _, _, rfl, rfl, g6 _ _ k5, upd_same, (by rw [List.length_map, List.length_map, rangeL_length]; exact small (by omega)), ?_⟩
              refine fin _ (rangeL 0 v3.toNat) g6 (by rw [rangeL_length]; omega) (fun n hn => ?_)
              simp only [rangeL, List.mem_map, List.mem_range] at hn
              obtain ⟨j, _, rfl⟩ := hn
              omega
  · obtain ⟨ms, o2, o3, rfl, g, k, hlen, hpos⟩ := z
    refine ⟨_, rfl, _, rfl, r, _, rfl, SqL.of k, fun p hp => ?_⟩
    have cut2 : cutV (ms.map V.int) none (some 80) = (ms.take 80).map V.int := by
      rw [List.map_take]; exact cut_first _ 80
    rw [cut2]
    have gH : Same H H' := fun b o e => g b o (ne_of_none e hr0) (gA _ _ e)
    exact q p _ _ (gH.trans (same_new hp _)) (gH.free hp) ⟨by rw [List.length_take]; exact Nat.min_le_left _ _, fun n hn => hpos n (List.mem_of_mem_take hn)⟩ upd_same
end
end K50

namespace K50
open PySem L2 PyProof.Rows M49 M50
abbrev s_place_in : Stmt := top 16
theorem sc_place_in : FnScope ["numbers", "number", "low", "high", "middle"] ["numbers", "number"] (defScope s_place_in) := ⟨rfl, rfl, rfl, by decide +kernel, rfl, by decide +kernel, by decide +kernel⟩
section
variable {P : Program} {w : World} {K : PySem.W.Frag} {mg : Str → Option Value} {base : Heap}
theorem ok_place_in {k : Nat} {f : Addr} {fd : FuncData} (F : Fun K "place_in" "place_in" s_place_in f fd) (M : Blt mg) {t1 : Tok} (C : Cst K mg t1) {C_Kept f_Kept_init : Addr} (T_Kept : TCls K mg "Kept" C_Kept f_Kept_init ["bound", "held"]) : FnOk P w K mg base CX0 (k + 2) f fd ["numbers", "number"] (spPlaceI K) := by
  refine F.ok sc_place_in (fun vs H Q E h => ?_) (fun cdv A outer s0 H vs Q E hr0 h => ?_)
  · obtain ⟨a, L, p, j, rfl, _⟩ := h; rfl
  obtain ⟨a, L, p, j, rfl, hS, h100, hp, hq, q⟩ := h
  have hr := hr0.mono (Nat.le_succ _)
  refine ⟨_, (pss_cons (ps_par (i := 2) (j := 3) rfl sc_place_in.nd rfl rfl (by decide) rfl rfl (pa_cons pe_int (pa_cons (pe_op op_sub (pe_callB call_len_seq rfl M.len PySem.boot_len (pa_cons (pv 0) pa_nil)) pe_int) pa_nil)) rfl)
      (pss_cons (ps_while PassesOwn.never (pt_cmpR op_lt (pv 2) (pv 3) (nomark _)) (pss_cons (ps_set (i := 4) sc_place_in.nd rfl (by first | exact Or.inl rfl | exact Or.inr rfl) (pe_op op_fdiv (pe_op op_add (pv 2) (pv 3)) pe_int))
      (pss_one (ps_if (pt_cmpR op_lt (pe_ix ix_list (pv 0) (pv 4) (fun _ _ => rfl)) (pv 1) (nomark _)) (pss_one (ps_set (i := 2) sc_place_in.nd rfl (by first | exact Or.inl rfl | exact Or.inr rfl) (pe_op op_add (pv 4) pe_int))) (pss_one (ps_set (i := 3) sc_place_in.nd rfl (by first | exact Or.inl rfl | exact Or.inr rfl) (pv 4)))))))
      (pss_one (ps_ret (pv 2))))), ?_⟩
  have hl : (natV L).length = L.length := List.length_map _
  have lp := (List.getElem?_eq_some_iff.mp hp).1
  refine ⟨_, rfl, a, _, rfl, .inl hS, _, _, rfl, rfl, _, _, rfl, ?_⟩
  have e1 : (((natV L).length : Nat) : Int) - 1 = ((L.length - 1 : Nat) : Int) := by rw [hl]; omega
  dsimp only
  rw [e1]
  refine ⟨fun m σ H' => ∃ (lo hi : Nat) (o : Option V), m = hi - lo ∧ σ = [some (.ref a), some (.int j), some (.int lo), some (.int hi), o] ∧ H' = H ∧ lo ≤ p ∧ p ≤ hi ∧ hi < L.length, ⟨_, 0, L.length - 1, none, rfl, rfl, rfl, Nat.zero_le _, by omega, by omega⟩, ?_⟩
  rintro m σ H' ⟨lo, hi, o, rfl, rfl, hH, h1, h2, h3⟩
  subst hH
  refine ⟨_, rfl, _, rfl, _, _, rfl, rfl, _, rfl, ite2 (fun c => ?_) (fun c => ?_)⟩
  · have c' : (lo : Int) < hi := of_decide_eq_true c
    refine ⟨fun σ' H'' => ∃ (lo' hi' : Nat) (o : Option V), hi' - lo' < hi - lo ∧ σ' = [some (.ref a), some (.int j), some (.int lo'), some (.int hi'), o] ∧ H'' = H' ∧ lo' ≤ p ∧ p ≤ hi' ∧ hi' < L.length, fun σ' H'' z => ?_, ?_⟩
    · obtain ⟨lo', hi', o', hm, e2, e3, z⟩ := z
      exact ⟨_, hm, lo', hi', o', rfl, e2, e3, z⟩
    refine ⟨_, rfl, _, rfl, _, _, rfl, rfl, _, _, rfl, rfl, ⟨by decide, by decide⟩, ?_⟩
    have em : ((lo : Int) + hi) / 2 = (((lo + hi) / 2 : Nat) : Int) := by omega
    dsimp only
    rw [em]
    have hmid : (lo + hi) / 2 < L.length := by omega
    have hg := List.getElem?_eq_getElem hmid
    have hat : atI (natV L) (((lo + hi) / 2 : Nat) : Int) = some (.int ((L[(lo + hi) / 2] : Nat) : Int)) := atI_nat (by rw [List.getElem?_map, hg]; rfl)
    have hu := hq _ _ hg
    refine ⟨_, rfl, _, rfl, a, _, _, _, rfl, rfl, hS, hat, _, rfl, _, _, rfl, rfl, _, rfl, ite2 (fun c2 => ?_) (fun c2 => ?_)⟩
    · have c3 : ((L[(lo + hi) / 2] : Nat) : Int) < j := of_decide_eq_true c2
      have c4 := hu.mp (by omega)
      exact ⟨_, rfl, _, _, rfl, rfl, (lo + hi) / 2 + 1, hi, _, by omega, rfl, rfl, c4, h2, h3⟩
    · have c4 : ¬ (lo + hi) / 2 < p := fun z => c2 (decide_eq_true (by have := hu.mpr z; omega))
      exact ⟨_, rfl, lo, (lo + hi) / 2, _, by omega, rfl, rfl, h1, by omega, by omega⟩
  · have c' : ¬ (lo : Int) < hi := fun z => c (decide_eq_true z)
    have : lo = p := by omega
    subst this
    exact ⟨_, rfl, q⟩
end
end K50

namespace K50
open PySem L2 PyProof.Rows M49 M50
abbrev s_distances : Stmt := top 15
theorem sc_distances : FnScope ["lines", "found", "last", "latest", "number", "line", "at"] ["lines"] (defScope s_distances) := ⟨rfl, rfl, rfl, by decide +kernel, rfl, by decide +kernel, by decide +kernel⟩
section
variable {P : Program} {w : World} {K : PySem.W.Frag} {mg : Str → Option Value} {base : Heap}
theorem ok_distances {k : Nat} {f : Addr} {fd : FuncData} (F : Fun K "distances" "distances" s_distances f fd) (M : Blt mg) {t1 : Tok} (C : Cst K mg t1) {C_Kept f_Kept_init : Addr} (T_Kept : TCls K mg "Kept" C_Kept f_Kept_init ["bound", "held"]) {f_need_lines : Addr} {fd_need_lines : FuncData} (D_need_lines : Df K mg "need_lines" f_need_lines fd_need_lines ["lines"]) (G_need_lines : FnOk P w K mg base CX0 k f_need_lines fd_need_lines ["lines"] (spNLines K)) {f_place_in : Addr} {fd_place_in : FuncData} (D_place_in : Df K mg "place_in" f_place_in fd_place_in ["numbers", "number"]) (G_place_in : FnOk P w K mg base CX0 k f_place_in fd_place_in ["numbers", "number"] (spPlaceI K)) : FnOk P w K mg base CX0 (k + 2) f fd ["lines"] (spDist K) := by
  refine F.ok sc_distances (fun vs H Q E h => ?_) (fun cdv A outer s0 H vs Q E hr0 h => ?_)
  · obtain ⟨a, ns, rfl, _⟩ := h; rfl
  obtain ⟨a, ns, rfl, hS, hN, q⟩ := h
  have hr := hr0.mono (Nat.le_succ _)
  refine ⟨_, (pss_cons (ps_expr (pe_call G_need_lines hr rfl D_need_lines.m D_need_lines.k D_need_lines.b .nil pass0 (pa_cons (pv 0) pa_nil)))
      (pss_cons (ps_set (i := 1) sc_distances.nd rfl (by first | exact Or.inl rfl | exact Or.inr rfl) (pe_lst pa_nil))
      (pss_cons (ps_set (i := 2) sc_distances.nd rfl (by first | exact Or.inl rfl | exact Or.inr rfl) pe_dnewK)
      (pss_cons (ps_set (i := 3) sc_distances.nd rfl (by first | exact Or.inl rfl | exact Or.inr rfl) (pe_lst pa_nil))
      (pss_cons (ps_for PassesOwn.never rfl (pi_enum rfl M.enumerate (pa_cons (pv 0) pa_nil)) (pg_tup rfl (pgs_cons (pg_name (i := 4) sc_distances.nd rfl (Or.inl rfl)) (pgs_cons (pg_name (i := 5) sc_distances.nd rfl (Or.inl rfl)) pgs_nil))) (pss_cons (ps_if (pt_cmp (pc_din hr.units1 (pv 5) (pv 2))) (pss_cons (ps_set (i := 6) sc_distances.nd rfl (by first | exact Or.inl rfl | exact Or.inr rfl) (pe_call G_place_in hr rfl D_place_in.m D_place_in.k D_place_in.b .nil pass0 (pa_cons (pv 3) (pa_cons (pe_dget hr.units1 (pv 2) (pv 5) (fun _ _ => rfl)) pa_nil))))
      (pss_cons (ps_expr (pe_bm PySem.F.plainAttrs_list PySem.F.slot_list_append PySem.F.type_list_append mt_append (pv 1) (pa_cons (pe_op op_sub (pe_callB call_len_seq rfl M.len PySem.boot_len (pa_cons (pv 3) pa_nil)) (pv 6)) pa_nil)))
      (pss_one (ps_del (pv 3) (pv 6))))) (pss_one (ps_expr (pe_bm PySem.F.plainAttrs_list PySem.F.slot_list_append PySem.F.type_list_append mt_append (pv 1) (pa_cons pe_non pa_nil)))))
      (pss_cons (ps_dput hr.units1 (pv 2) (pv 5) (pv 4) rfl)
      (pss_one (ps_expr (pe_bm PySem.F.plainAttrs_list PySem.F.slot_list_append PySem.F.type_list_append mt_append (pv 3) (pa_cons (pv 4) pa_nil)))))))
      (pss_one (ps_ret (pv 1)))))))), ?_⟩
  have h80 := hN.1
  refine ⟨_, rfl, a, ns, rfl, hS, hN.2, ?_⟩
  refine ⟨(by show 0 ≤ sizeLine; decide), fun f hf0 => ?_⟩
  have g1 := same_new hf0 (.lst [])
  have k1 : upd H f (.lst []) f = some (.lst []) := upd_same
  generalize upd H f (.lst []) = H1 at g1 k1 ⊢
  refine fun dd hdd => ?_
  have g2 := same_new hdd (.dK [])
  have k2 : upd H1 dd (.dK []) dd = some (.dK []) := upd_same
  have hdd0 : H dd = none := g1.free hdd
  have nfd : f ≠ dd := ne_of_none k1 hdd
  generalize upd H1 dd (.dK []) = H2 at g2 k2 ⊢
  refine ⟨(by show 0 ≤ sizeLine; decide), fun lt hlt => ?_⟩
  have g3 := same_new hlt (.lst [])
  have k3 : upd H2 lt (.lst []) lt = some (.lst []) := upd_same
  have hlt0 : H lt = none := (g1.trans g2).free hlt
  have nfl : f ≠ lt := ne_of_none (g2 _ _ k1) hlt
  have ndl : dd ≠ lt := ne_of_none k2 hlt
  generalize upd H2 lt (.lst []) = H3 at g3 k3 ⊢
  have gH : Same H H3 := g1.trans (g2.trans g3)
  have zl : (ns.map V.int).length = ns.length := List.length_map _
  refine ⟨_, rfl, a, _, rfl, gH.seq hS, for_enum (xs := ns.map V.int) (fun i σ H' => ∃ (kvs : List (Key × V)) (L : List Nat) (o4 o5 o6 : Option V), σ = [some (.ref a), some (.ref f), some (.ref dd), some (.ref lt), o4, o5, o6] ∧ Same H H' ∧ H' f = some (.lst ((fars ns i).map outV)) ∧ H' dd = some (.dK kvs) ∧ H' lt = some (.lst (natV L)) ∧ Lt ns i L ∧ Dct ns i kvs L) ⟨[], [], _, _, _, rfl, gH, g3 _ _ (g2 _ _ k1), g3 _ _ k2, k3, Lt.nil, Dct.nil⟩ (fun i σ H' _ z => ?_) (fun i x σ H' p hxv z hp => ?_) (fun σ H' z => ?_)⟩
  · obtain ⟨kvs, L, o4, o5, o6, rfl, gs, _⟩ := z
    exact gs.seq hS
  · obtain ⟨kvs, L, o4, o5, o6, rfl, gs, kf, kd, kl, hL, hD⟩ := z
    obtain ⟨x, hx, rfl⟩ := get_ints hxv
    have hi : i < ns.length := (List.getElem?_eq_some_iff.mp hx).1
    have hLl := hL.len_le (by omega)
    have gp := same_new hp (.tup [.int (i : Int), .int x])
    have kp : upd H' p (.tup [.int (i : Int), .int x]) p = some (.tup [.int (i : Int), .int x]) := upd_same
    have g4 := gs.trans gp
    have kf4 := gp _ _ kf
    have kd4 := gp _ _ kd
    have kl4 := gp _ _ kl
    generalize upd H' p (.tup [.int (i : Int), .int x]) = H4 at gp kp g4 kf4 kd4 kl4 ⊢
    refine ⟨p, _, rfl, SqT.of kp, rfl, _, _, rfl, _, _, rfl, rfl, ?_⟩
    refine ⟨_, rfl, _, rfl, dd, _, rfl, DGet.k (k := .inl x) kd4, _, rfl, ?_⟩
    by_cases hin : x ∈ rct (ns.take i)
    case' pos =>
      obtain ⟨pp, j, hpj, hj, hfar⟩ := hL.at hin
      have hv : valV kvs (.inl x) = some (.int (j : Int)) := by
        have := hD.has j (List.mem_of_getElem? hpj)
        rw [hj] at this
        exact this
      have lp : pp < L.length := (List.getElem?_eq_some_iff.mp hpj).1
      refine iteP (by rw [hv]; rfl) ?_
      refine ⟨_, rfl, _, rfl, _, rfl, dd, .int (j : Int), rfl, hv ▸ DGet.k (k := .inl x) kd4, lt, L, pp, j, rfl, SqL.of kl4, by omega, hpj, fun q b hb => hL.uniq hb hpj, ?_⟩
      refine ⟨_, rfl, .inl ⟨rfl, _, SqL.of kf4⟩, _, rfl, lt, _, rfl, .inl (SqL.of kl4), _, rfl, _, _, rfl, rfl, f, _, _, rfl, rfl, kf4, (by rw [List.length_map, fars_length]; exact small1000 (by omega)), ?_⟩
      have ef : (fars ns i).map outV ++ [V.int (((natV L).length : Nat) - (pp : Int))] = (fars ns (i + 1)).map outV := by
        rw [fars_succ, List.map_append, M50.getD_of hx, hfar, List.length_map]
        show _ ++ [V.int _] = _ ++ [V.int _]
        rw [show ((L.length : Nat) : Int) - (pp : Int) = ((L.length - pp : Nat) : Int) by omega]
      dsimp only
      rw [ef]
      have kf5 : upd H4 f (.lst ((fars ns (i + 1)).map outV)) f = some (.lst ((fars ns (i + 1)).map outV)) := upd_same
      have kl5 : upd H4 f (.lst ((fars ns (i + 1)).map outV)) lt = _ := (upd_ne (Ne.symm nfl)).trans kl4
      have kd5 : upd H4 f (.lst ((fars ns (i + 1)).map outV)) dd = _ := (upd_ne (Ne.symm nfd)).trans kd4
      have g5 : Same H (upd H4 f (.lst ((fars ns (i + 1)).map outV))) := same_upd g4 hf0
      generalize upd H4 f (.lst ((fars ns (i + 1)).map outV)) = H5 at kf5 kl5 kd5 g5 ⊢
      refine ⟨_, rfl, _, rfl, lt, _, pp, rfl, rfl, kl5, (by rw [List.length_map]; exact lp), ?_⟩
      rw [show (natV L).eraseIdx pp = natV (L.eraseIdx pp) from (map_erase L pp).symm]
      have kf6 : upd H5 lt (.lst (natV (L.eraseIdx pp))) f = _ := (upd_ne nfl).trans kf5
      have kl6 : upd H5 lt (.lst (natV (L.eraseIdx pp))) lt = some (.lst (natV (L.eraseIdx pp))) := upd_same
      have kd6 : upd H5 lt (.lst (natV (L.eraseIdx pp))) dd = _ := (upd_ne ndl).trans kd5
      have g6 : Same H (upd H5 lt (.lst (natV (L.eraseIdx pp)))) := same_upd g5 hlt0
      generalize upd H5 lt (.lst (natV (L.eraseIdx pp))) = H6 at kf6 kl6 kd6 g6 ⊢
      have hel : (L.eraseIdx pp).length ≤ L.length := List.length_eraseIdx_le _ _
      refine ⟨_, rfl, _, rfl, _, rfl, dd, _, rfl, DPut.k (k := .inl x) kd6 (Nat.lt_of_le_of_lt hD.len (small1000 (by omega))), ?_⟩
      have kf7 : upd H6 dd (.dK (putK kvs (.inl x) (.int (i : Int)))) f = _ := (upd_ne nfd).trans kf6
      have kl7 : upd H6 dd (.dK (putK kvs (.inl x) (.int (i : Int)))) lt = _ := (upd_ne (Ne.symm ndl)).trans kl6
      have kd7 : upd H6 dd (.dK (putK kvs (.inl x) (.int (i : Int)))) dd = some (.dK (putK kvs (.inl x) (.int (i : Int)))) := upd_same
      have g7 : Same H (upd H6 dd (.dK (putK kvs (.inl x) (.int (i : Int))))) := same_upd g6 hdd0
      generalize upd H6 dd (.dK (putK kvs (.inl x) (.int (i : Int)))) = H7 at kf7 kl7 kd7 g7 ⊢
      refine ⟨_, rfl, .inl ⟨rfl, _, SqL.of kl7⟩, _, rfl, lt, _, _, rfl, rfl, kl7, (by rw [List.length_map]; exact small1000 (by omega)), ?_⟩
      exact ⟨_, L.eraseIdx pp ++ [i], _, _, _, rfl, same_upd g7 hlt0, (upd_ne nfl).trans kf7, (upd_ne ndl).trans kd7, (by rw [upd_same, show natV (L.eraseIdx pp ++ [i]) = natV (L.eraseIdx pp) ++ [.int (i : Int)] from List.map_append]), hL.old hx hpj hj, hD.put hx (fun a ha => (List.eraseIdx_sublist L pp).subset ha) (hL.old_ne hpj hj)⟩
    have hv : valV kvs (.inl x) = none := hD.no x hin
    refine iteN (by rw [hv]; decide) ?_
    refine ⟨_, rfl, .inl ⟨rfl, _, SqL.of kf4⟩, f, _, _, rfl, rfl, kf4, (by rw [List.length_map, fars_length]; exact small1000 (by omega)), ?_⟩
    have ef : (fars ns i).map outV ++ [V.non] = (fars ns (i + 1)).map outV := by
      rw [fars_succ, List.map_append, M50.getD_of hx]
      unfold far
      rw [if_neg hin]; rfl
    rw [ef]
    have kf6 : upd H4 f (.lst ((fars ns (i + 1)).map outV)) f = some (.lst ((fars ns (i + 1)).map outV)) := upd_same
    have kl6 : upd H4 f (.lst ((fars ns (i + 1)).map outV)) lt = _ := (upd_ne (Ne.symm nfl)).trans kl4
    have kd6 : upd H4 f (.lst ((fars ns (i + 1)).map outV)) dd = _ := (upd_ne (Ne.symm nfd)).trans kd4
    have g6 : Same H (upd H4 f (.lst ((fars ns (i + 1)).map outV))) := same_upd g4 hf0
    generalize upd H4 f (.lst ((fars ns (i + 1)).map outV)) = H6 at kf6 kl6 kd6 g6 ⊢
    refine ⟨_, rfl, _, rfl, _, rfl, dd, _, rfl, DPut.k (k := .inl x) kd6 (Nat.lt_of_le_of_lt hD.len (small1000 (by omega))), ?_⟩
    have kf7 : upd H6 dd (.dK (putK kvs (.inl x) (.int (i : Int)))) f = _ := (upd_ne nfd).trans kf6
    have kl7 : upd H6 dd (.dK (putK kvs (.inl x) (.int (i : Int)))) lt = _ := (upd_ne (Ne.symm ndl)).trans kl6
    have kd7 : upd H6 dd (.dK (putK kvs (.inl x) (.int (i : Int)))) dd = some (.dK (putK kvs (.inl x) (.int (i : Int)))) := upd_same
    have g7 : Same H (upd H6 dd (.dK (putK kvs (.inl x) (.int (i : Int))))) := same_upd g6 hdd0
    generalize upd H6 dd (.dK (putK kvs (.inl x) (.int (i : Int)))) = H7 at kf7 kl7 kd7 g7 ⊢
    refine ⟨_, rfl, .inl ⟨rfl, _, SqL.of kl7⟩, _, rfl, lt, _, _, rfl, rfl, kl7, (by rw [List.length_map]; exact small1000 (by omega)), ?_⟩
    exact ⟨_, L ++ [i], _, _, _, rfl, same_upd g7 hlt0, (upd_ne nfl).trans kf7, (upd_ne ndl).trans kd7, (by rw [upd_same, show natV (L ++ [i]) = natV (L) ++ [.int (i : Int)] from List.map_append]), hL.new hx hin, hD.put hx (fun a ha => ha) (hL.new_ne hin)⟩
  · obtain ⟨kvs, L, o4, o5, o6, rfl, gs, kf, _⟩ := z
    rw [zl] at kf
    exact ⟨_, rfl, q f H' gs hf0 kf⟩
end
end K50

namespace K50
open PySem L2 PyProof.Rows M49 M50
abbrev s_law_far : Stmt := top 22
theorem sc_law_far : FnScope ["_law_lines_here", "_law_k", "_law_at"] ["_law_lines_here", "_law_k"] (defScope s_law_far) := ⟨rfl, rfl, rfl, by decide +kernel, rfl, by decide +kernel, by decide +kernel⟩
section
variable {P : Program} {w : World} {K : PySem.W.Frag} {mg : Str → Option Value} {base : Heap}
theorem ok_law_far {k : Nat} {f : Addr} {fd : FuncData} (F : Fun K "_law_far" "_law_far" s_law_far f fd) (M : Blt mg) {t1 : Tok} (C : Cst K mg t1) {C_Kept f_Kept_init : Addr} (T_Kept : TCls K mg "Kept" C_Kept f_Kept_init ["bound", "held"]) : FnOk P w K mg base CX0 (k + 2) f fd ["_law_lines_here", "_law_k"] (spFar K) := by
  refine F.ok sc_law_far (fun vs H Q E h => ?_) (fun cdv A outer s0 H vs Q E hr0 h => ?_)
  · obtain ⟨a, ns, k, rfl, _⟩ := h; rfl
  obtain ⟨a, ns, k, rfl, hS, hk, h80, q⟩ := h
  have hr := hr0.mono (Nat.le_succ _)
  refine ⟨_, (pss_cons (ps_set (i := 2) sc_law_far.nd rfl (by first | exact Or.inl rfl | exact Or.inr rfl) (pe_op op_sub (pv 1) pe_int))
      (pss_cons (ps_while PassesOwn.never (PW.pt (pw_and (pt_cmpR op_ge (pv 2) pe_int (nomark _)) (pw_and1 (pt_cmpR op_ne (pe_ix ix_list (pv 0) (pv 2) (fun _ _ => rfl)) (pe_ix ix_list (pv 0) (pv 1) (fun _ _ => rfl)) (nomark _))))) (pss_one (ps_aug (i := 2) sc_law_far.nd rfl (by first | exact Or.inl rfl | exact Or.inr rfl) pe_int ip_sub)))
      (pss_cons (ps_if (pt_cmpR op_lt (pv 2) pe_int (nomark _)) (pss_one (ps_ret pe_non)) pss_nil)
      (pss_one (ps_ret (pe_callB call_lenS rfl M.len PySem.boot_len (pa_cons (pe_callTy (call_set rfl) rfl M.set (show bootBuiltins "set" = some (.type "set") from by decide +kernel) (pa_cons (pe_slice sl_list (pv 0) (po_some (pv 2)) (po_some (pv 1))) pa_nil)) pa_nil))))))), ?_⟩
  have zl : (ns.map V.int).length = ns.length := List.length_map _
  have hgk := List.getElem?_eq_getElem hk
  have hatk : atI (ns.map V.int) (k : Int) = some (.int ns[k]) := atI_nat (by rw [List.getElem?_map, hgk]; rfl)
  rw [M50.getD_of hgk] at q
  refine ⟨_, rfl, _, _, rfl, rfl, ?_⟩
  refine ⟨fun m σ H' => ∃ at' : Int, m = (at' + 1).toNat ∧ σ = [some (.ref a), some (.int k), some (.int at')] ∧ H' = H ∧ -1 ≤ at' ∧ at' < k ∧ ∀ j : Nat, at' < j → j < k → ns[j]? ≠ some ns[k], ⟨_, (k : Int) - 1, rfl, rfl, rfl, by omega, by omega, fun j h1 h2 => by omega⟩, ?_⟩
  rintro m σ H' ⟨at', rfl, rfl, hH, h1, h2, h3⟩
  subst hH
  refine ⟨_, rfl, _, _, rfl, rfl, _, rfl, ite2 (fun c => ?_) (fun c => ?_)⟩
  · have c' : 0 ≤ at' := of_decide_eq_true c
    obtain ⟨b, rfl⟩ := Int.eq_ofNat_of_zero_le c'
    have hb : b < ns.length := by omega
    have hgb := List.getElem?_eq_getElem hb
    have hatb : atI (ns.map V.int) (b : Int) = some (.int ns[b]) := atI_nat (by rw [List.getElem?_map, hgb]; rfl)
    refine ⟨_, rfl, _, rfl, a, _, _, _, rfl, rfl, hS, hatb, _, rfl, _, rfl, a, _, _, _, rfl, rfl, hS, hatk, rfl, _, rfl, ite2 (fun c2 => ?_) (fun c2 => ?_)⟩
    · refine ⟨fun σ' H'' => σ' = [some (.ref a), some (.int k), some (.int ((b : Int) - 1))] ∧ H'' = H', fun σ' H'' z => ⟨_, ?_, (b : Int) - 1, rfl, z.1, z.2, by omega, by omega, fun j j1 j2 => ?_⟩, ?_⟩
      · omega
      · by_cases hj : j = b
        · subst hj
          rw [hgb]
          intro e
          rw [Option.some.inj e] at c2
          simp at c2
        · exact h3 j (by omega) j2
      · exact ⟨_, rfl, _, _, rfl, rfl, rfl, rfl⟩
    · have e : ns[b] = ns[k] := by
        have c3 : decide (V.int ns[b] = V.int ns[k]) = true := by simpa using c2
        exact V.int.inj (of_decide_eq_true c3)
      refine ⟨_, rfl, _, _, rfl, rfl, _, rfl, iteN (fun z => absurd (of_decide_eq_true z) (by omega)) ?_⟩
      have hf := far_at (ns := ns) (k := k) (a := b) (x := ns[k]) (by omega) (by omega) (by rw [hgb, e]) (fun j j1 j2 => h3 j (by omega) j2)
      have cut : cutV (ns.map V.int) (some (b : Int)) (some (k : Int)) = ((ns.take k).drop b).map V.int := by
        rw [cut_two _ _ _ (by omega) (by rw [zl]; omega), List.map_drop, List.map_take, List.drop_take]
      refine ⟨_, rfl, _, rfl, _, rfl, _, rfl, _, rfl, a, _, rfl, hS, fun p hp => ?_⟩
      rw [cut]
      have g1 := same_new hp (.lst (((ns.take k).drop b).map V.int))
      have k1 : upd H' p (.lst (((ns.take k).drop b).map V.int)) p = some (.lst (((ns.take k).drop b).map V.int)) := upd_same
      generalize upd H' p (.lst (((ns.take k).drop b).map V.int)) = H1 at g1 k1 ⊢
      have hz : ((ns.take k).drop b).length ≤ 80 := by rw [List.length_drop, List.length_take]; omega
      refine ⟨p, _, rfl, SqL.of k1, by omega, fun p2 hp2 => ⟨p2, _, rfl, upd_same, ?_, ?_⟩⟩
      · have := nodup_len (fd_nodup ((ns.take k).drop b)) (b := (ns.take k).drop b) fun x hx => fd_mem.mp hx
        rw [unlike_eq]; omega
      · have qq := q _ (g1.trans (same_new hp2 (SetN p2 (unlike ((ns.take k).drop b)))))
        rw [hf] at qq
        rw [unlike_eq] at qq ⊢
        exact qq
  · have c' : at' = -1 := by
      have : ¬ 0 ≤ at' := fun z => c (decide_eq_true z)
      omega
    subst c'
    refine ⟨_, rfl, _, _, rfl, rfl, _, rfl, iteP (by decide) ?_⟩
    have hf := far_none (ns := ns) (k := k) (x := ns[k]) (fun j j2 => h3 j (by omega) j2)
    have qq := q _ (Same.refl _)
    rw [hf] at qq
    exact qq
end
end K50

namespace K50
open PySem L2 PyProof.Rows M49 M50
abbrev s_counts : Stmt := top 17
theorem sc_counts : FnScope ["lines", "most", "found"] ["lines", "most"] (defScope s_counts) := ⟨rfl, rfl, rfl, by decide +kernel, rfl, by decide +kernel, by decide +kernel⟩
section
variable {P : Program} {w : World} {K : PySem.W.Frag} {mg : Str → Option Value} {base : Heap}
theorem ok_counts {k : Nat} {f : Addr} {fd : FuncData} (F : Fun K "counts" "counts" s_counts f fd) (M : Blt mg) {t1 : Tok} (C : Cst K mg t1) {C_Kept f_Kept_init : Addr} (T_Kept : TCls K mg "Kept" C_Kept f_Kept_init ["bound", "held"]) {f_distances : Addr} {fd_distances : FuncData} (D_distances : Df K mg "distances" f_distances fd_distances ["lines"]) (G_distances : FnOk P w K mg base CX0 k f_distances fd_distances ["lines"] (spDist K)) {f_need_keep : Addr} {fd_need_keep : FuncData} (D_need_keep : Df K mg "need_keep" f_need_keep fd_need_keep ["most"]) (G_need_keep : FnOk P w K mg base CX0 k f_need_keep fd_need_keep ["most"] spNKeep) : FnOk P w K mg base CX0 (k + 2) f fd ["lines", "most"] (spCounts K) := by
  refine F.ok sc_counts (fun vs H Q E h => ?_) (fun cdv A outer s0 H vs Q E hr0 h => ?_)
  · obtain ⟨a, ns, B, rfl, _⟩ := h; rfl
  obtain ⟨a, ns, B, rfl, hS, hN, hB1, hB2, q⟩ := h
  have hr := hr0.mono (Nat.le_succ _)
  refine ⟨_, (pss_cons (ps_set (i := 2) sc_counts.nd rfl (by first | exact Or.inl rfl | exact Or.inr rfl) (pe_call G_distances hr rfl D_distances.m D_distances.k D_distances.b .nil pass0 (pa_cons (pv 0) pa_nil)))
      (pss_cons (ps_expr (pe_call G_need_keep hr rfl D_need_keep.m D_need_keep.k D_need_keep.b .nil pass0 (pa_cons (pv 1) pa_nil)))
      (pss_one (ps_ret (pe_compK ["keep"] ["found"] ["keep"] [2] rfl (pi_range2 rfl M.range (pa_cons pe_int (pa_cons (pe_op op_add (pv 1) pe_int) pa_nil))) rfl ⟨rfl, trivial⟩ ⟨⟨rfl, rfl, rfl, _, rfl⟩, trivial⟩ (by intro _; exact ⟨rfl, trivial⟩) (by intro _; exact ⟨⟨_, rfl, Nat.lt_succ_self _⟩, trivial⟩) (fun _ _ _ _ => (pg_name (i := 0) (show List.Nodup (["keep", "found"] : List Str) from by decide +kernel) rfl (Or.inr rfl))) (fun _ _ _ _ => pif_nil) (by intro _ _ _ _; exact (pe_callB (call_lenK (K := K) rfl) rfl M.len PySem.boot_len (pa_cons (pe_comp ["far"] ["keep"] [0] rfl (pi_listK (K := K) rfl (pv 1)) rfl ⟨rfl, trivial⟩ ⟨⟨rfl, rfl, rfl, _, rfl⟩, trivial⟩ (fun _ _ _ _ => (pg_name (i := 0) (show List.Nodup (["far", "keep"] : List Str) from by decide +kernel) rfl (Or.inl rfl))) (fun _ _ _ _ => (pif_one (PW.pt (pw_or (pt_cmpR op_isN (pv 0) pe_non (nomark _)) (pw_or1 (pt_cmpR op_gt (pv 0) (pv 1) (nomark _))))))) (fun _ _ _ _ => (pv 0))) pa_nil)))))))), ?_⟩
  have h80 := hN.1
  refine ⟨_, rfl, a, ns, rfl, hS, hN, fun f1 H1 g1 hf0 kf => ?_⟩
  refine ⟨_, rfl, B, rfl, hB1, hB2, ?_⟩
  have en : ((B : Int) + 1 - 1).toNat = B := by omega
  refine ⟨_, rfl, _, _, rfl, rfl, _, _, rfl, ⟨by omega, by omega, by omega, by omega⟩, ?_⟩
  dsimp only
  rw [en]
  refine comp_range (fun i ys H' => Same H1 H' ∧ ys = (List.range i).map (cv ns)) ⟨Same.refl _, rfl⟩ (fun i ys H' _ z => by rw [z.2, List.length_map, List.length_range]; exact Nat.le_refl _) (small1000 (by omega)) (fun i ys H' hi z => ?_) (fun ys H' z p hp => ?_)
  · obtain ⟨g, rfl⟩ := z
    refine ⟨_, rfl, f1, rfl, ⟨_, SqL.of (g _ _ kf)⟩, comp_list (xs := (fars ns ns.length).map outV) (fun i2 ys2 H2 => H2 = H' ∧ ys2 = (((fars ns ns.length).take i2).filter (miss (1 + (i : Int)))).map outV) ⟨rfl, rfl⟩ (fun i2 ys2 H2 _ z => ?_) (by rw [List.length_map, fars_length]; exact small1000 (by omega)) (fun i2 x2 ys2 H2 hx2 z => ?_) (fun ys2 H2 z p2 hp2 => ?_)⟩
    · obtain ⟨rfl, rfl⟩ := z
      refine ⟨SqL.of (g _ _ kf), ?_⟩
      rw [List.length_map]
      have h1 := List.length_filter_le (miss (1 + (i : Int))) ((fars ns ns.length).take i2)
      have h2 : ((fars ns ns.length).take i2).length ≤ i2 := by rw [List.length_take]; exact Nat.min_le_left _ _
      omega
    · obtain ⟨rfl, rfl⟩ := z
      obtain ⟨o, ho, rfl⟩ := get_outs hx2
      refine ⟨_, rfl, rfl, _, rfl, ?_⟩
      cases o with
      | none => exact iteP (by decide) ⟨_, rfl, ⟨rfl, filt_pos ho rfl⟩, _, rfl⟩
      | some v =>
        refine iteN (by simp [outV]) ⟨_, rfl, _, rfl, _, _, rfl, rfl, _, rfl, ite2 (fun c => ?_) (fun c => ?_)⟩
        · exact ⟨_, rfl, ⟨rfl, filt_pos ho c⟩, _, rfl⟩
        · exact ⟨⟨rfl, filt_neg ho c⟩, _, rfl⟩
    obtain ⟨rfl, rfl⟩ := z
    rw [show ((fars ns ns.length).map outV).length = (fars ns ns.length).length from List.length_map _, List.take_length]
    refine ⟨p2, _, rfl, .inl (SqL.of upd_same), ?_⟩
    rw [List.length_map]
    refine ⟨⟨g.trans (same_new hp2 _), ?_⟩, _, rfl⟩
    rw [List.range_succ, List.map_append]
    show _ ++ [V.int _] = _ ++ [V.int _]
    rw [Int.add_comm 1 (i : Int)]; rfl
  · obtain ⟨g, rfl⟩ := z
    exact q p _ ((g1.trans g).trans (same_new hp _)) ((g1.trans g).free hp) (by rw [upd_same, cnts_cv])
end
end K50

namespace K50
open PySem L2 PyProof.Rows M49 M50
abbrev s_law_gone_through : Stmt := top 23
theorem sc_law_gone_through : FnScope ["_law_lines_here", "_law_most", "_law_due", "_law_store", "_law_many", "_law_k", "_law_fetched"] ["_law_lines_here", "_law_most", "_law_due"] (defScope s_law_gone_through) := ⟨rfl, rfl, rfl, by decide +kernel, rfl, by decide +kernel, by decide +kernel⟩
section
variable {P : Program} {w : World} {K : PySem.W.Frag} {mg : Str → Option Value} {base : Heap}
theorem ok_law_gone_through {k : Nat} {f : Addr} {fd : FuncData} (F : Fun K "_law_gone_through" "_law_gone_through" s_law_gone_through f fd) (M : Blt mg) {t1 : Tok} (C : Cst K mg t1) {C_Kept f_Kept_init : Addr} (T_Kept : TCls K mg "Kept" C_Kept f_Kept_init ["bound", "held"]) {fd_Kept_init : FuncData} (D_Kept_init : DfI K fd_Kept_init ["self", "most"]) (G_Kept_init : FnOk P w K mg base CX0 k f_Kept_init fd_Kept_init ["self", "most"] (spKInit C_Kept)) {f_Kept_touch : Addr} {fd_Kept_touch : FuncData} (D_Kept_touch : DfM K C_Kept "touch" f_Kept_touch fd_Kept_touch ["self", "line"]) (G_Kept_touch : FnOk P w K mg base CX0 k f_Kept_touch fd_Kept_touch ["self", "line"] (spTouch K C_Kept)) : FnOk P w K mg base CX0 (k + 2) f fd ["_law_lines_here", "_law_most", "_law_due"] (spGone K) := by
  refine F.ok sc_law_gone_through (fun vs H Q E h => ?_) (fun cdv A outer s0 H vs Q E hr0 h => ?_)
  · obtain ⟨a, d, ns, B, rfl, _⟩ := h; rfl
  obtain ⟨a, d, ns, B, rfl, hS, hF, hN, hB1, hB2, q⟩ := h
  have hr := hr0.mono (Nat.le_succ _)
  refine ⟨_, (pss_cons (ps_set (i := 3) sc_law_gone_through.nd rfl (by first | exact Or.inl rfl | exact Or.inr rfl) (pe_make T_Kept.ma G_Kept_init hr0 rfl T_Kept.m D_Kept_init.b .nil pass0 (pa_cons (pv 1) pa_nil)))
      (pss_cons (ps_set (i := 4) sc_law_gone_through.nd rfl (by first | exact Or.inl rfl | exact Or.inr rfl) pe_int)
      (pss_cons (ps_for PassesOwn.never rfl (pi_range1 rfl M.range (pa_cons (pe_callB call_len_seq rfl M.len PySem.boot_len (pa_cons (pv 0) pa_nil)) pa_nil)) (pg_name (i := 5) sc_law_gone_through.nd rfl (Or.inl rfl)) (pss_cons (ps_set (i := 6) sc_law_gone_through.nd rfl (by first | exact Or.inl rfl | exact Or.inr rfl) (pe_ix ix_tup (pe_meth (pv 3) T_Kept.cl D_Kept_touch.me G_Kept_touch hr D_Kept_touch.b .nil pass0 (pa_cons (pe_ix ix_list (pv 0) (pv 5) (fun _ _ => rfl)) pa_nil)) pe_int (fun _ _ => rfl)))
      (pss_cons (ps_if (pt_cmpR op_ne (pv 6) (pe_or (pe_cmpR op_isN (pe_ix ix_list (pv 2) (pv 5) (fun _ _ => rfl)) pe_non (nomark _)) (pe_one (pe_cmpR op_gt (pe_ix ix_list (pv 2) (pv 5) (fun _ _ => rfl)) (pv 1) (nomark _)))) (nomark _)) (pss_one (ps_ret pe_non)) pss_nil)
      (pss_one (ps_aug (i := 4) sc_law_gone_through.nd rfl (by first | exact Or.inl rfl | exact Or.inr rfl) (pe_callTy call_int1 rfl M.int boot_int (pa_cons (pv 6) pa_nil)) ip_add)))))
      (pss_one (ps_ret (pv 4)))))), ?_⟩
  have h80 := hN.1
  have zl : (ns.map V.int).length = ns.length := List.length_map _
  refine ⟨_, rfl, fun st dx hx hd _ => ⟨st, dx, B, rfl, upd_same, hB1, hB2, fun l H1 hl hk hA hL => ⟨rfl, ?_⟩⟩⟩
  obtain ⟨g1, hl0⟩ := made_kept hx hd hl hk
  have nsl : st ≠ l := ne_of hA hL (by intro z; cases z)
  refine ⟨_, rfl, a, _, rfl, .inl (g1.seq hS), _, rfl, by rw [zl]; omega, by rw [zl]; omega, ?_⟩
  rw [Int.toNat_natCast, zl]
  refine for_range (fun i σ H' => ∃ o5 o6 : Option V, σ = [some (.ref a), some (.int B), some (.ref d), some (.ref st), some (.int ((cnt (fars ns i) B : Nat) : Int)), o5, o6] ∧ Same H H' ∧ Kp C_Kept H' st dx l B ∧ H' l = some (.lst ((held (ns.take i) B).map V.int))) ⟨_, _, rfl, g1, hA, (by rw [List.take_zero, held_nil]; exact hL)⟩ (fun i σ H' hi z => ?_) (fun σ H' z => ?_)
  · obtain ⟨o5, o6, rfl, g, hA', hL'⟩ := z
    rw [Int.zero_add]
    have hgi := List.getElem?_eq_getElem hi
    have hat : atI (ns.map V.int) (i : Int) = some (.int ns[i]) := atI_nat (by rw [List.getElem?_map, hgi]; rfl)
    have hfar : atI ((fars ns ns.length).map outV) (i : Int) = some (outV (far (ns.take i) ns[i])) := atI_nat (by rw [List.getElem?_map, fars_get hi, M50.getD_of hgi]; rfl)
    refine ⟨_, rfl, st, dx, _, rfl, hA', rfl, _, rfl, _, rfl, a, _, _, _, rfl, rfl, g.seq hS, hat, st, dx, l, B, _, ns[i], rfl, hA', hL', hN.2 _ (List.getElem_mem hi), held_len _ _, hB1, hB2, fun t H2 b2 kl2 hT => ?_⟩
    refine ⟨t, _, _, _, rfl, rfl, hT, rfl, ?_⟩
    rw [miss_held]
    have g2 : Same H H2 := fun b o e => b2 b o (ne_of_none e hl0) (g b o e)
    have hA2 : Kp C_Kept H2 st dx l B := b2 _ _ nsl hA'
    rw [held_touch hB1, ← take_snoc' hgi] at kl2
    have cs : cnt (fars ns (i + 1)) B = cnt (fars ns i) B + (if miss B (far (ns.take i) ns[i]) = true then 1 else 0) := by rw [fars_succ, M50.getD_of hgi, cnt_snoc]
    have fin : ((cnt (fars ns i) B : Nat) : Int) + (if miss B (far (ns.take i) ns[i]) = true then 1 else 0) = ((cnt (fars ns (i + 1)) B : Nat) : Int) := by
      rw [cs]; split <;> omega
    have hF2 := g2.seq hF
    refine ⟨_, rfl, _, rfl, _, rfl, d, _, _, _, rfl, rfl, hF2, hfar, rfl, _, rfl, ?_⟩
    generalize far (ns.take i) ns[i] = fv at fin hfar ⊢
    cases fv with
    | none =>
      refine iteP (by decide) ⟨rfl, _, rfl, iteN (by simp [miss]) ?_⟩
      refine ⟨_, rfl, _, rfl, .inr ⟨_, rfl, _, _, rfl, rfl, some (.int (i : Int)), some (.bl (miss (B : Int) none)), ?_, g2, hA2, kl2⟩⟩
      rw [← fin]; rfl
    | some v =>
      refine iteN (by simp [outV]) ⟨_, rfl, _, rfl, d, _, _, _, rfl, rfl, hF2, hfar, _, rfl, _, _, rfl, rfl, rfl, _, rfl, iteN (by simp [miss]) ?_⟩
      refine ⟨_, rfl, _, rfl, .inr ⟨_, rfl, _, _, rfl, rfl, some (.int (i : Int)), some (.bl (miss (B : Int) (some v))), ?_, g2, hA2, kl2⟩⟩
      rw [← fin]; rfl
  · obtain ⟨o5, o6, rfl, g, _⟩ := z
    exact ⟨_, rfl, q H' g⟩
end
end K50

namespace K50
open PySem L2 PyProof.Rows M49 M50
abbrev s_law_counted : Stmt := top 24
theorem sc_law_counted : FnScope ["_law_lines_here", "_law_most", "_law_due", "_law_told", "_law_k", "_law_many", "_law_bound"] ["_law_lines_here", "_law_most", "_law_due", "_law_told"] (defScope s_law_counted) := ⟨rfl, rfl, rfl, by decide +kernel, rfl, by decide +kernel, by decide +kernel⟩
section
variable {P : Program} {w : World} {K : PySem.W.Frag} {mg : Str → Option Value} {base : Heap}
theorem ok_law_counted {k : Nat} {f : Addr} {fd : FuncData} (F : Fun K "_law_counted" "_law_counted" s_law_counted f fd) (M : Blt mg) {t1 : Tok} (C : Cst K mg t1) {C_Kept f_Kept_init : Addr} (T_Kept : TCls K mg "Kept" C_Kept f_Kept_init ["bound", "held"]) {f_law_whole : Addr} {fd_law_whole : FuncData} (D_law_whole : Df K mg "_law_whole" f_law_whole fd_law_whole ["_law_found"]) (G_law_whole : FnOk P w K mg base CX0 k f_law_whole fd_law_whole ["_law_found"] spWhole) {f_law_gone_through : Addr} {fd_law_gone_through : FuncData} (D_law_gone_through : Df K mg "_law_gone_through" f_law_gone_through fd_law_gone_through ["_law_lines_here", "_law_most", "_law_due"]) (G_law_gone_through : FnOk P w K mg base CX0 k f_law_gone_through fd_law_gone_through ["_law_lines_here", "_law_most", "_law_due"] (spGone K)) : FnOk P w K mg base CX0 (k + 2) f fd ["_law_lines_here", "_law_most", "_law_due", "_law_told"] (spCounted K) := by
  refine F.ok sc_law_counted (fun vs H Q E h => ?_) (fun cdv A outer s0 H vs Q E hr0 h => ?_)
  · obtain ⟨a, d, t, ns, B, rfl, _⟩ := h; rfl
  obtain ⟨a, d, t, ns, B, rfl, hS, hF, hT, hN, hB1, hB2, q⟩ := h
  have hr := hr0.mono (Nat.le_succ _)
  refine ⟨_, (pss_cons (ps_if (PW.pt (pw_or (pt_not (pt_val (pe_callB call_isi rfl M.isinstance boot_isinstance (pa_cons (pv 3) (pa_cons (pe_bltn (v := .ty "list") rfl M.list boot_list rfl) pa_nil))))) (pw_or1 (pt_cmpR op_ne (pe_callB call_len_seq rfl M.len PySem.boot_len (pa_cons (pv 3) pa_nil)) (pv 1) (nomark _))))) (pss_one (ps_ret pe_bl)) pss_nil)
      (pss_cons (ps_for PassesOwn.never rfl (pi_range1 rfl M.range (pa_cons (pv 1) pa_nil)) (pg_name (i := 4) sc_law_counted.nd rfl (Or.inr rfl)) (pss_cons (ps_set (i := 5) sc_law_counted.nd rfl (by first | exact Or.inl rfl | exact Or.inr rfl) (pe_callB call_len_seq rfl M.len PySem.boot_len (pa_cons (pe_comp ["_law_far_here"] ["_law_k"] [4] rfl (pi_list (pv 2)) rfl ⟨rfl, trivial⟩ ⟨⟨rfl, rfl, rfl, _, rfl⟩, trivial⟩ (fun _ _ _ _ => (pg_name (i := 0) (show List.Nodup (["_law_far_here", "_law_k"] : List Str) from by decide +kernel) rfl (Or.inl rfl))) (fun _ _ _ _ => (pif_one (PW.pt (pw_or (pt_cmpR op_isN (pv 0) pe_non (nomark _)) (pw_or1 (pt_cmpR op_gt (pv 0) (pe_op op_add (pv 1) pe_int) (nomark _))))))) (fun _ _ _ _ => (pv 0))) pa_nil)))
      (pss_cons (ps_if (PW.pt (pw_or (pt_not (pt_val (pe_call G_law_whole hr rfl D_law_whole.m D_law_whole.k D_law_whole.b .nil pass0 (pa_cons (pe_ix ix_list (pv 3) (pv 4) (fun _ _ => rfl)) pa_nil)))) (pw_or1 (pt_cmpR op_ne (pe_ix ix_list (pv 3) (pv 4) (fun _ _ => rfl)) (pv 5) (nomark _))))) (pss_one (ps_ret pe_bl)) pss_nil)
      (pss_one (ps_if (PW.pt (pw_and (pt_cmpR op_gt (pv 4) pe_int (nomark _)) (pw_and1 (pt_cmpR op_gt (pe_ix ix_list (pv 3) (pv 4) (fun _ _ => rfl)) (pe_ix ix_list (pv 3) (pe_op op_sub (pv 4) pe_int) (fun _ _ => rfl)) (nomark _))))) (pss_one (ps_ret pe_bl)) pss_nil)))))
      (pss_cons (ps_for PassesOwn.never rfl (pi_list (pe_lst (pa_cons pe_int (pa_cons (pv 1) (pa_cons (pe_op op_fdiv (pe_op op_add (pv 1) pe_int) pe_int) pa_nil))))) (pg_name (i := 6) sc_law_counted.nd rfl (Or.inl rfl)) (pss_one (ps_if (pt_cmpR op_ne (pe_call G_law_gone_through hr rfl D_law_gone_through.m D_law_gone_through.k D_law_gone_through.b .nil pass0 (pa_cons (pv 0) (pa_cons (pv 6) (pa_cons (pv 2) pa_nil)))) (pe_ix ix_list (pv 3) (pe_op op_sub (pv 6) pe_int) (fun _ _ => rfl)) (nomark _)) (pss_one (ps_ret pe_bl)) pss_nil)))
      (pss_one (ps_ret pe_bl))))), ?_⟩
  have h80 := hN.1
  have zt : ((cntsL ns B).map V.int).length = B := by rw [List.length_map, cntsL_length]
  refine ⟨_, rfl, _, _, "list", rfl, by decide, .inl ⟨rfl, _, hT⟩, _, rfl, iteN (by decide) ⟨_, rfl, t, _, rfl, .inl hT, _, rfl, rfl, _, rfl, iteN (by rw [zt]; simp) ?_⟩⟩
  refine ⟨_, rfl, _, rfl, by omega, by omega, ?_⟩
  rw [Int.toNat_natCast]
  refine for_range (fun i σ H' => (∃ o4 o5 : Option V, σ = [some (.ref a), some (.int B), some (.ref d), some (.ref t), o4, o5, none]) ∧ Same H H') ⟨⟨_, _, rfl⟩, Same.refl _⟩ (fun i σ H' hi z => ?_) (fun σ H' z => ?_)
  · obtain ⟨⟨o4, o5, rfl⟩, g⟩ := z
    rw [Int.zero_add]
    refine ⟨_, rfl, d, rfl, ⟨_, g.seq hF⟩, comp_list (xs := (fars ns ns.length).map outV) (fun i2 ys2 H2 => H2 = H' ∧ ys2 = (((fars ns ns.length).take i2).filter (miss ((i : Int) + 1))).map outV) ⟨rfl, rfl⟩ (fun i2 ys2 H2 _ z => ?_) (by rw [List.length_map, fars_length]; exact small1000 (by omega)) (fun i2 x2 ys2 H2 hx2 z => ?_) (fun ys2 H2 z p2 hp2 => ?_)⟩
    · obtain ⟨rfl, rfl⟩ := z
      refine ⟨g.seq hF, ?_⟩
      rw [List.length_map]
      have h1 := List.length_filter_le (miss ((i : Int) + 1)) ((fars ns ns.length).take i2)
      have h2 : ((fars ns ns.length).take i2).length ≤ i2 := by rw [List.length_take]; exact Nat.min_le_left _ _
      omega
    · obtain ⟨rfl, rfl⟩ := z
      obtain ⟨o, ho, rfl⟩ := get_outs hx2
      refine ⟨_, rfl, rfl, _, rfl, ?_⟩
      cases o with
      | none => exact iteP (by decide) ⟨_, rfl, ⟨rfl, filt_pos ho rfl⟩, _, rfl⟩
      | some v =>
        refine iteN (by simp [outV]) ⟨_, rfl, _, rfl, _, _, rfl, rfl, _, _, rfl, rfl, _, rfl, ite2 (fun c => ?_) (fun c => ?_)⟩
        · exact ⟨_, rfl, ⟨rfl, filt_pos ho c⟩, _, rfl⟩
        · exact ⟨⟨rfl, filt_neg ho c⟩, _, rfl⟩
    obtain ⟨rfl, rfl⟩ := z
    rw [show ((fars ns ns.length).map outV).length = (fars ns ns.length).length from List.length_map _, List.take_length]
    refine ⟨p2, _, rfl, .inl (SqL.of upd_same), ?_⟩
    rw [List.length_map]
    have g2 := g.trans (same_new hp2 (.lst (((fars ns ns.length).filter (miss ((i : Int) + 1))).map outV)))
    generalize upd H2 p2 (.lst (((fars ns ns.length).filter (miss ((i : Int) + 1))).map outV)) = H3 at g2 ⊢
    have hat : atI ((cntsL ns B).map V.int) (i : Int) = some (cv ns i) := atI_nat (cntsL_get hi)
    have hT3 := g2.seq hT
    refine ⟨_, rfl, _, rfl, t, _, _, _, rfl, rfl, hT3, hat, _, rfl, _, rfl, iteN (by decide) ?_⟩
    refine ⟨_, rfl, _, rfl, t, _, _, _, rfl, rfl, hT3, hat, _, rfl, rfl, _, rfl, iteN (by simp [cv, M50.cnt]) ?_⟩
    refine ⟨_, rfl, _, _, rfl, rfl, _, rfl, ite2 (fun c => ?_) (fun c => iteN (by decide) ⟨⟨_, _, rfl⟩, g2⟩)⟩
    have c' : (0 : Int) < i := of_decide_eq_true c
    have hat2 : atI ((cntsL ns B).map V.int) ((i : Int) - 1) = some (cv ns (i - 1)) := by
      rw [show (i : Int) - 1 = ((i - 1 : Nat) : Int) by omega]
      exact atI_nat (cntsL_get (by omega))
    refine ⟨_, rfl, _, rfl, t, _, _, _, rfl, rfl, hT3, hat, _, rfl, _, rfl, _, _, rfl, rfl, t, _, _, _, rfl, rfl, hT3, hat2, _, _, rfl, rfl, _, rfl, iteN ?_ ⟨⟨_, _, rfl⟩, g2⟩⟩
    have hm := cnt_mono (B := ((i - 1 : Nat) : Int) + 1) (C := (i : Int) + 1) (by omega) (fars ns ns.length)
    intro z
    have := of_decide_eq_true z
    omega
  · obtain ⟨⟨o4, o5, rfl⟩, g⟩ := z
    refine ⟨_, rfl, _, rfl, _, _, rfl, rfl, _, _, rfl, rfl, ⟨by decide, by decide⟩, (by show 3 ≤ sizeLine; decide), fun lb hlb => ?_⟩
    have g2 := g.trans (same_new hlb (.lst [.int 1, .int B, .int (((B : Int) + 1) / 2)]))
    have kb : upd H' lb (.lst [.int 1, .int B, .int (((B : Int) + 1) / 2)]) lb = some (.lst [.int 1, .int B, .int (((B : Int) + 1) / 2)]) := upd_same
    generalize upd H' lb (.lst [.int 1, .int B, .int (((B : Int) + 1) / 2)]) = H2 at g2 kb ⊢
    refine ⟨lb, rfl, ⟨_, SqL.of kb⟩, for_list (xs := [.int 1, .int B, .int (((B : Int) + 1) / 2)]) (fun i σ H' => (∃ o4 o5 o6 : Option V, σ = [some (.ref a), some (.int B), some (.ref d), some (.ref t), o4, o5, o6]) ∧ Same H2 H') ⟨⟨_, _, _, rfl⟩, Same.refl _⟩ (fun i σ H' _ z => SqL.of (z.2 _ _ kb)) (fun i x σ H' hx z => ?_) (fun σ H' z => ?_)⟩
    · obtain ⟨⟨o4, o5, o6, rfl⟩, g3⟩ := z
      have g4 := g2.trans g3
      obtain ⟨b, rfl, b1, b2⟩ : ∃ b : Nat, x = .int b ∧ 1 ≤ b ∧ b ≤ B := by
        match i, hx with
        | 0, e => cases e; exact ⟨1, rfl, by omega, by omega⟩
        | 1, e => cases e; exact ⟨B, rfl, by omega, by omega⟩
        | 2, e => cases e; exact ⟨(B + 1) / 2, by rw [show ((B : Int) + 1) / 2 = (((B + 1) / 2 : Nat) : Int) by omega], by omega, by omega⟩
        | n + 3, e => simp at e
      have hat : atI ((cntsL ns B).map V.int) ((b : Int) - 1) = some (cv ns (b - 1)) := by
        rw [show (b : Int) - 1 = ((b - 1 : Nat) : Int) by omega]
        exact atI_nat (cntsL_get (by omega))
      refine ⟨_, rfl, _, rfl, _, rfl, a, d, ns, b, rfl, g4.seq hS, g4.seq hF, hN, b1, by omega, fun H5 g5 => ?_⟩
      refine ⟨_, rfl, _, rfl, _, _, rfl, rfl, t, _, _, _, rfl, rfl, (g4.trans g5).seq hT, hat, rfl, _, rfl, iteN ?_ ⟨⟨_, _, _, rfl⟩, g3.trans g5⟩⟩
      have : ((b - 1 : Nat) : Int) + 1 = (b : Int) := by omega
      unfold cv
      rw [this]
      simp
    · obtain ⟨⟨o4, o5, o6, rfl⟩, g3⟩ := z
      exact q _ (g2.trans g3)
end
end K50

namespace K50
open PySem L2 PyProof.Rows M49 M50
abbrev s_law : Stmt := top 25
theorem sc_law : FnScope ["_law_script", "_law_lines_here", "_law_most", "_law_due", "_law_handed", "_law_told", "_law_found"] ["_law_script"] (defScope s_law) := ⟨rfl, rfl, rfl, by decide +kernel, rfl, by decide +kernel, by decide +kernel⟩
section
variable {P : Program} {w : World} {K : PySem.W.Frag} {mg : Str → Option Value} {base : Heap}
theorem ok_law {k : Nat} {f : Addr} {fd : FuncData} (F : Fun K "law" "law" s_law f fd) (M : Blt mg) {t1 : Tok} (C : Cst K mg t1) {C_Kept f_Kept_init : Addr} (T_Kept : TCls K mg "Kept" C_Kept f_Kept_init ["bound", "held"]) {f_law_lines : Addr} {fd_law_lines : FuncData} (D_law_lines : Df K mg "_law_lines" f_law_lines fd_law_lines ["_law_script"]) (G_law_lines : FnOk P w K mg base CX0 k f_law_lines fd_law_lines ["_law_script"] (spLinesL K)) {f_law_drawn : Addr} {fd_law_drawn : FuncData} (D_law_drawn : Df K mg "_law_drawn" f_law_drawn fd_law_drawn ["_law_cell", "_law_sizes"]) (G_law_drawn : FnOk P w K mg base CX0 k f_law_drawn fd_law_drawn ["_law_cell", "_law_sizes"] (spDrawn K)) {f_law_far : Addr} {fd_law_far : FuncData} (D_law_far : Df K mg "_law_far" f_law_far fd_law_far ["_law_lines_here", "_law_k"]) (G_law_far : FnOk P w K mg base CX0 k f_law_far fd_law_far ["_law_lines_here", "_law_k"] (spFar K)) {f_distances : Addr} {fd_distances : FuncData} (D_distances : Df K mg "distances" f_distances fd_distances ["lines"]) (G_distances : FnOk P w K mg base CX0 k f_distances fd_distances ["lines"] (spDist K)) {f_law_whole : Addr} {fd_law_whole : FuncData} (D_law_whole : Df K mg "_law_whole" f_law_whole fd_law_whole ["_law_found"]) (G_law_whole : FnOk P w K mg base CX0 k f_law_whole fd_law_whole ["_law_found"] spWhole) {f_counts : Addr} {fd_counts : FuncData} (D_counts : Df K mg "counts" f_counts fd_counts ["lines", "most"]) (G_counts : FnOk P w K mg base CX0 k f_counts fd_counts ["lines", "most"] (spCounts K)) {f_law_counted : Addr} {fd_law_counted : FuncData} (D_law_counted : Df K mg "_law_counted" f_law_counted fd_law_counted ["_law_lines_here", "_law_most", "_law_due", "_law_told"]) (G_law_counted : FnOk P w K mg base CX0 k f_law_counted fd_law_counted ["_law_lines_here", "_law_most", "_law_due", "_law_told"] (spCounted K)) : FnOk P w K mg base CX0 (k + 2) f fd ["_law_script"] (spLaw K) := by
  refine F.ok sc_law (fun vs H Q E h => ?_) (fun cdv A outer s0 H vs Q E hr0 h => ?_)
  · obtain ⟨a, ns, rfl, _⟩ := h; rfl
  obtain ⟨a, ns, rfl, hS, h63, q⟩ := h
  have hr := hr0.mono (Nat.le_succ _)
  refine ⟨_, (pss_cons (ps_set (i := 1) sc_law.nd rfl (by first | exact Or.inl rfl | exact Or.inr rfl) (pe_call G_law_lines hr rfl D_law_lines.m D_law_lines.k D_law_lines.b .nil pass0 (pa_cons (pv 0) pa_nil)))
      (pss_cons (ps_set (i := 2) sc_law.nd rfl (by first | exact Or.inl rfl | exact Or.inr rfl) (pe_op op_add pe_int (pe_ix ix_list (pe_call G_law_drawn hr rfl D_law_drawn.m D_law_drawn.k D_law_drawn.b .nil pass0 (pa_cons (pe_op op_add (pe_ix ix_list (pe_op op_catS (pv 0) (pe_lst (pa_cons pe_int pa_nil))) pe_int (fun _ _ => rfl)) pe_int) (pa_cons (pe_lst (pa_cons pe_int (pa_cons pe_int pa_nil))) pa_nil))) pe_int (fun _ _ => rfl))))
      (pss_cons (ps_setC (i := 3) ["_law_k"] ["_law_lines_here"] [1] sc_law.nd rfl rfl rfl (pi_range1 rfl M.range (pa_cons (pe_callB call_len_seq rfl M.len PySem.boot_len (pa_cons (pv 1) pa_nil)) pa_nil)) rfl ⟨rfl, trivial⟩ ⟨⟨rfl, rfl, rfl, _, rfl⟩, trivial⟩ (fun _ _ _ _ => (pg_name (i := 0) (show List.Nodup (["_law_k", "_law_lines_here"] : List Str) from by decide +kernel) rfl (Or.inl rfl))) (fun _ _ _ _ => pif_nil) (fun _ _ _ _ => (pe_call G_law_far hr rfl D_law_far.m D_law_far.k D_law_far.b .nil pass0 (pa_cons (pv 1) (pa_cons (pv 0) pa_nil)))))
      (pss_cons (ps_set (i := 4) sc_law.nd rfl (by first | exact Or.inl rfl | exact Or.inr rfl) (pe_callTy call_list_of rfl M.list boot_list (pa_cons (pv 1) pa_nil)))
      (pss_cons (ps_set (i := 5) sc_law.nd rfl (by first | exact Or.inl rfl | exact Or.inr rfl) (pe_call G_distances hr rfl D_distances.m D_distances.k D_distances.b .nil pass0 (pa_cons (pv 4) pa_nil)))
      (pss_cons (ps_if (PW.pt (pw_or (pt_not (pt_val (pe_callB call_isi rfl M.isinstance boot_isinstance (pa_cons (pv 5) (pa_cons (pe_bltn (v := .ty "list") rfl M.list boot_list rfl) pa_nil))))) (pw_or1 (pt_cmpR (op_neD hr.units) (pv 5) (pv 3) (nomark _))))) (pss_one (ps_ret pe_bl)) pss_nil)
      (pss_cons (ps_if (pt_cmpR (op_neI hr.units) (pe_comp ["_law_far_here"] [] [] rfl (pi_list (pv 5)) rfl trivial trivial (fun _ _ _ _ => (pg_name (i := 0) (show List.Nodup (["_law_far_here"] : List Str) from by decide +kernel) rfl (Or.inl rfl))) (fun _ _ _ _ => (pif_one (PW.pt (pw_and (pt_cmpR op_notN (pv 0) pe_non (nomark _)) (pw_and1 (pt_not (pt_val (pe_call G_law_whole hr rfl D_law_whole.m D_law_whole.k D_law_whole.b .nil pass0 (pa_cons (pv 0) pa_nil))))))))) (fun _ _ _ _ => (pv 0))) (pe_lst pa_nil) (nomark _)) (pss_one (ps_ret pe_bl)) pss_nil)
      (pss_cons (ps_expr (pe_bm PySem.F.plainAttrs_list PySem.F.slot_list_append PySem.F.type_list_append mt_append (pv 5) (pa_cons pe_non pa_nil)))
      (pss_cons (ps_set (i := 6) sc_law.nd rfl (by first | exact Or.inl rfl | exact Or.inr rfl) (pe_call G_counts hr rfl D_counts.m D_counts.k D_counts.b .nil pass0 (pa_cons (pv 4) (pa_cons (pv 2) pa_nil))))
      (pss_cons (ps_if (pt_not (pt_val (pe_call G_law_counted hr rfl D_law_counted.m D_law_counted.k D_law_counted.b .nil pass0 (pa_cons (pv 1) (pa_cons (pv 2) (pa_cons (pv 3) (pa_cons (pv 6) pa_nil))))))) (pss_one (ps_ret pe_bl)) pss_nil)
      (pss_cons (ps_expr (pe_bm PySem.F.plainAttrs_list PySem.F.slot_list_append PySem.F.type_list_append mt_append (pv 6) (pa_cons pe_int pa_nil)))
      (pss_cons (ps_if (PW.pt (pw_or (pt_cmpR (op_neI hr.units) (pe_call G_counts hr rfl D_counts.m D_counts.k D_counts.b .nil pass0 (pa_cons (pv 4) (pa_cons (pv 2) pa_nil))) (pe_slice sl_list (pv 6) po_none (po_some (pe_un un_neg pe_int))) (nomark _)) (pw_or1 (pt_cmpR (op_neD hr.units) (pe_call G_distances hr rfl D_distances.m D_distances.k D_distances.b .nil pass0 (pa_cons (pv 4) pa_nil)) (pv 3) (nomark _))))) (pss_one (ps_ret pe_bl)) pss_nil)
      (pss_one (ps_ret (pe_and (pe_cmpR (op_eqI hr.units) (pv 4) (pv 1) (nomark _)) (pe_and (pe_cmpR (op_eqD hr.units) (pe_call G_distances hr rfl D_distances.m D_distances.k D_distances.b .nil pass0 (pa_cons (pe_lst pa_nil) pa_nil)) (pe_lst pa_nil) (nomark _)) (pe_one (pe_cmpR (op_eqI hr.units) (pe_call G_counts hr rfl D_counts.m D_counts.k D_counts.b .nil pass0 (pa_cons (pe_lst pa_nil) (pa_cons (pv 2) pa_nil))) (pe_op op_rep (pe_lst (pa_cons pe_int pa_nil)) (pv 2)) (nomark _))))))))))))))))))), ?_⟩
  refine ⟨_, rfl, a, ns, rfl, hS, fun la H1 ms g1 hla hN k1 => ?_⟩
  have h80 := hN.1
  have zl : (ms.map V.int).length = ms.length := List.length_map _
  refine ⟨_, rfl, (by show 1 ≤ sizeLine; decide), fun p1 hp1 => ?_⟩
  have g2 := same_new hp1 (.lst [.int 2])
  have k2 : upd H1 p1 (.lst [.int 2]) p1 = some (.lst [.int 2]) := upd_same
  generalize upd H1 p1 (.lst [.int 2]) = H2 at g2 k2 ⊢
  refine ⟨a, p1, _, _, rfl, rfl, (g1.trans g2).seq hS, SqL.of k2, (by rw [List.length_map]; exact small (by simp only [List.length_singleton]; omega)), fun p2 hp2 => ?_⟩
  have g3 := same_new hp2 (.lst (ns.map V.int ++ [.int 2]))
  have k3 : upd H2 p2 (.lst (ns.map V.int ++ [.int 2])) p2 = some (.lst (ns.map V.int ++ [.int 2])) := upd_same
  generalize upd H2 p2 (.lst (ns.map V.int ++ [.int 2])) = H3 at g3 k3 ⊢
  obtain ⟨c, hc⟩ : ∃ c, atI (ns.map V.int ++ [V.int 2]) 0 = some (.int c) := by
    cases ns with
    | nil => exact ⟨2, rfl⟩
    | cons n ns => exact ⟨n, atI_nat (j := 0) rfl⟩
  refine ⟨p2, _, _, _, rfl, rfl, SqL.of k3, hc, _, _, rfl, rfl, (by show 2 ≤ sizeLine; decide), fun p3 hp3 => ?_⟩
  have g4 := same_new hp3 (.lst [.int 3, .int 32])
  have k4 : upd H3 p3 (.lst [.int 3, .int 32]) p3 = some (.lst (([3, 32] : List Int).map V.int)) := upd_same
  generalize upd H3 p3 (.lst [.int 3, .int 32]) = H4 at g4 k4 ⊢
  refine ⟨_, p3, _, rfl, SqL.of k4, ?_, (by decide), fun d ws hd0 hB => ?_⟩
  · intro m hm
    simp only [List.mem_cons, List.not_mem_nil, or_false] at hm
    rcases hm with rfl | rfl
    · exact ⟨by decide, by decide⟩
    · exact ⟨by decide, by decide⟩
  obtain ⟨v0, v1, rfl, b0, b1⟩ := below2 hB
  have g5 : Same H1 (upd H4 d (.lst ([v0, v1].map V.int))) := ((g2.trans g3).trans g4).trans (same_new hd0 _)
  have k5 : upd H4 d (.lst ([v0, v1].map V.int)) d = some (.lst [.int v0, .int v1]) := upd_same
  generalize upd H4 d (.lst ([v0, v1].map V.int)) = H5 at g5 k5 ⊢
  have kl := g5 _ _ k1
  obtain ⟨B, hv, hB1, hB2⟩ : ∃ B : Nat, 1 + v1 = B ∧ 1 ≤ B ∧ B ≤ 32 := ⟨(1 + v1).toNat, by omega, by omega, by omega⟩
  refine ⟨d, _, _, _, rfl, rfl, SqL.of k5, rfl, _, _, rfl, rfl, ?_⟩
  dsimp only
  rw [hv]
  refine ⟨_, rfl, la, _, rfl, .inl (SqL.of kl), _, rfl, by rw [zl]; omega, by rw [zl]; omega, ?_⟩
  rw [Int.toNat_natCast, zl]
  refine comp_range (fun i ys H' => Same H5 H' ∧ ys = (fars ms i).map outV) ⟨Same.refl _, rfl⟩ (fun i ys H' _ z => by rw [z.2, List.length_map, fars_length]; exact Nat.le_refl _) (small1000 (by omega)) (fun i ys H' hi z => ?_) (fun ys H' z du hdu => ?_)
  · obtain ⟨g, rfl⟩ := z
    rw [Int.zero_add]
    refine ⟨_, rfl, _, rfl, la, ms, i, rfl, SqL.of (g _ _ kl), hi, h80, fun H6 g6 => ⟨⟨g.trans g6, ?_⟩, _, rfl⟩⟩
    rw [fars_succ, List.map_append]; rfl
  obtain ⟨g6, rfl⟩ := z
  have g7 := same_new hdu (.lst ((fars ms ms.length).map outV))
  have kd : upd H' du (.lst ((fars ms ms.length).map outV)) du = some (.lst ((fars ms ms.length).map outV)) := upd_same
  have kl7 := g7 _ _ (g6 _ _ kl)
  generalize upd H' du (.lst ((fars ms ms.length).map outV)) = H7 at g7 kd kl7 ⊢
  refine ⟨_, rfl, la, _, rfl, .inl (SqL.of kl7), fun hd hhd => ?_⟩
  have g8 := same_new hhd (.lst (ms.map V.int))
  have kh : upd H7 hd (.lst (ms.map V.int)) hd = some (.lst (ms.map V.int)) := upd_same
  have kl8 := g8 _ _ kl7
  have kd8 := g8 _ _ kd
  generalize upd H7 hd (.lst (ms.map V.int)) = H8 at g8 kh kl8 kd8 ⊢
  refine ⟨_, rfl, hd, ms, rfl, SqL.of kh, hN, fun tl H9 g9 htl kt => ?_⟩
  have kh9 := g9 _ _ kh
  have kl9 := g9 _ _ kl8
  have kd9 := g9 _ _ kd8
  have nht : hd ≠ tl := ne_of_none kh htl
  have nlt : la ≠ tl := ne_of_none kl8 htl
  have ndt : du ≠ tl := ne_of_none kd8 htl
  refine ⟨_, rfl, _, _, "list", rfl, by decide, .inl ⟨rfl, _, SqL.of kt⟩, _, rfl, iteN (by decide) ⟨_, rfl, _, rfl, _, _, .lst (SqL.of kt) (dat_outs _), .lst (SqL.of kd9) (dat_outs _), shaped_outs _, shaped_outs _, _, rfl, iteN (by rw [same_outs]; decide) ?_⟩⟩
  refine ⟨_, rfl, tl, rfl, ⟨_, SqL.of kt⟩, comp_list (xs := (fars ms ms.length).map outV) (fun i ys H' => H' = H9 ∧ ys = []) ⟨rfl, rfl⟩ (fun i ys H' _ z => ?_) (by rw [List.length_map, fars_length]; exact small1000 (by omega)) (fun i x ys H' hx z => ?_) (fun ys H' z p hp => ?_)⟩
  · obtain ⟨rfl, rfl⟩ := z
    exact ⟨SqL.of kt, Nat.zero_le _⟩
  · obtain ⟨rfl, rfl⟩ := z
    obtain ⟨o, ho, rfl⟩ := get_outs hx
    refine ⟨_, rfl, rfl, _, rfl, ?_⟩
    cases o with
    | none => exact iteN (by decide) ⟨⟨rfl, rfl⟩, _, rfl⟩
    | some v => exact iteP (by simp [outV]) ⟨_, rfl, v, rfl, _, rfl, ⟨⟨rfl, rfl⟩, _, rfl⟩⟩
  obtain ⟨rfl, rfl⟩ := z
  have gA := same_new hp (.lst [])
  have kA : upd H' p (.lst []) p = some (.lst (([] : List Int).map V.int)) := upd_same
  have ktA := gA _ _ kt
  have khA := gA _ _ kh9
  have klA := gA _ _ kl9
  have kdA := gA _ _ kd9
  generalize upd H' p (.lst []) = HA at gA kA ktA khA klA kdA ⊢
  refine ⟨(by show 0 ≤ sizeLine; decide), fun e1 he1 => ?_⟩
  have gB := same_new he1 (.lst [])
  have kB : upd HA e1 (.lst []) e1 = some (.lst (([] : List Int).map V.int)) := upd_same
  have kAB := gB _ _ kA
  have ktB := gB _ _ ktA
  have khB := gB _ _ khA
  have klB := gB _ _ klA
  have kdB := gB _ _ kdA
  generalize upd HA e1 (.lst []) = HB at gB kB kAB ktB khB klB kdB ⊢
  refine ⟨p, e1, [], [], rfl, rfl, SqL.of kAB, SqL.of kB, _, rfl, iteN (by decide) ?_⟩
  refine ⟨_, rfl, .inl ⟨rfl, _, SqL.of ktB⟩, tl, _, _, rfl, rfl, ktB, (by rw [List.length_map, fars_length]; exact small1000 (by omega)), ?_⟩
  have khC : upd HB tl (.lst ((fars ms ms.length).map outV ++ [.non])) hd = _ := (upd_ne nht).trans khB
  have klC : upd HB tl (.lst ((fars ms ms.length).map outV ++ [.non])) la = _ := (upd_ne nlt).trans klB
  have kdC : upd HB tl (.lst ((fars ms ms.length).map outV ++ [.non])) du = _ := (upd_ne ndt).trans kdB
  generalize upd HB tl (.lst ((fars ms ms.length).map outV ++ [.non])) = HC at khC klC kdC ⊢
  refine ⟨_, rfl, _, rfl, hd, ms, B, rfl, SqL.of khC, hN, hB1, hB2, fun fo HD gD hfo kfo => ?_⟩
  have khD := gD _ _ khC
  have klD := gD _ _ klC
  have kdD := gD _ _ kdC
  have nhf : hd ≠ fo := ne_of_none khC hfo
  have nlf : la ≠ fo := ne_of_none klC hfo
  have ndf : du ≠ fo := ne_of_none kdC hfo
  refine ⟨_, rfl, _, rfl, _, rfl, _, rfl, la, du, fo, ms, B, rfl, SqL.of klD, SqL.of kdD, SqL.of kfo, hN, hB1, hB2, fun HE gE => ⟨_, rfl, iteN (by decide) ?_⟩⟩
  have kfE := gE _ _ kfo
  refine ⟨_, rfl, .inl ⟨rfl, _, SqL.of kfE⟩, fo, _, _, rfl, rfl, kfE, (by rw [List.length_map, cntsL_length]; exact small1000 (by omega)), ?_⟩
  have khF : upd HE fo (.lst ((cntsL ms B).map V.int ++ [.int 0])) hd = _ := (upd_ne nhf).trans (gE _ _ khD)
  have klF : upd HE fo (.lst ((cntsL ms B).map V.int ++ [.int 0])) la = _ := (upd_ne nlf).trans (gE _ _ klD)
  have kdF : upd HE fo (.lst ((cntsL ms B).map V.int ++ [.int 0])) du = _ := (upd_ne ndf).trans (gE _ _ kdD)
  have kfF : upd HE fo (.lst ((cntsL ms B).map V.int ++ [.int 0])) fo = some (.lst ((cntsL ms B).map V.int ++ [.int 0])) := upd_same
  generalize upd HE fo (.lst ((cntsL ms B).map V.int ++ [.int 0])) = HF at khF klF kdF kfF ⊢
  refine ⟨_, rfl, _, rfl, hd, ms, B, rfl, SqL.of khF, hN, hB1, hB2, fun r1 HG gG hr1 kr1 => ?_⟩
  refine ⟨_, rfl, _, rfl, _, rfl, fo, _, rfl, SqL.of (gG _ _ kfF), fun p4 hp4 => ?_⟩
  rw [cut_but1]
  have gH := same_new hp4 (.lst ((cntsL ms B).map V.int))
  have kH : upd HG p4 (.lst ((cntsL ms B).map V.int)) p4 = some (.lst ((cntsL ms B).map V.int)) := upd_same
  generalize upd HG p4 (.lst ((cntsL ms B).map V.int)) = HH at gH kH ⊢
  refine ⟨r1, p4, _, _, rfl, rfl, SqL.of (gH _ _ kr1), SqL.of kH, _, rfl, iteN (by simp) ?_⟩
  have gFH := gG.trans gH
  refine ⟨_, rfl, hd, ms, rfl, SqL.of (gFH _ _ khF), hN, fun r2 HI gI hr2 kr2 => ?_⟩
  have gFI := gFH.trans gI
  refine ⟨_, rfl, _, _, .lst (SqL.of kr2) (dat_outs _), .lst (SqL.of (gFI _ _ kdF)) (dat_outs _), shaped_outs _, shaped_outs _, _, rfl, iteN (by rw [same_outs]; decide) ?_⟩
  refine ⟨_, rfl, _, rfl, hd, la, ms, ms, rfl, rfl, SqL.of (gFI _ _ khF), SqL.of (gFI _ _ klF), _, rfl, iteP (decide_eq_true rfl) ?_⟩
  refine ⟨(by show 0 ≤ sizeLine; decide), fun e2 he2 => ⟨e2, [], rfl, SqL.of (xs := ([] : List Int).map V.int) upd_same, ⟨by decide, fun n hn => by simp at hn⟩, fun r3 HJ gJ hr3 kr3 => ?_⟩⟩
  refine ⟨(by show 0 ≤ sizeLine; decide), fun e3 he3 => ?_⟩
  refine ⟨.list (([] : List (Option Int)).map outD), .list (([] : List (Option Int)).map outD), .lst (SqL.of (same_new he3 _ _ _ kr3)) .nil, .lst (SqL.of upd_same) .nil, shaped_outs _, shaped_outs _, _, rfl, iteP (by rfl) ?_⟩
  refine ⟨(by show 0 ≤ sizeLine; decide), fun e4 he4 => ⟨_, rfl, e4, [], B, rfl, SqL.of (xs := ([] : List Int).map V.int) upd_same, ⟨by decide, fun n hn => by simp at hn⟩, hB1, hB2, fun r4 HK gK hr4 kr4 => ?_⟩⟩
  refine ⟨(by show 1 ≤ sizeLine; decide), fun e5 he5 => ⟨_, rfl, e5, _, _, rfl, rfl, upd_same, by omega, by omega, (by show 1 * ((B : Int)).toNat ≤ sizeLine; rw [sizeLine_eq]; omega), fun e6 he6 => ?_⟩⟩
  rw [rep_ints]
  refine ⟨r4, e6, cntsL [] B, List.replicate B 0, rfl, rfl, SqL.of (same_new he6 _ _ _ (same_new he5 _ _ _ kr4)), SqL.of upd_same, ?_⟩
  rw [cnts_nil, decide_eq_true rfl]
  exact q _
end
end K50

namespace K50
open PySem L2 PyProof.Rows M49 M50
theorem all_mk {l : PySem.W.OpenLaw} {w : World} {K : PySem.W.Frag} {h : Heap} {mg : Str → Option Value} {fa f0 f1 f2 f3 f4 f5 f6 f7 f8 f9 f10 f11 f12 f13 f14 f15 f16 f17 C_Kept : Addr} (X : K.In h) (G : h.Ns mainGlobals mg) (hfa : mg "law" = some (.ref fa))
    {od0 an0 od1 an1 od2 an2 od3 an3 od4 an4 od5 an5 od6 an6 od7 an7 od8 an8 od9 an9 od10 an10 od11 an11 od12 an12 od13 an13 od14 an14 od15 an15 od16 an16 od17 an17 : Option Addr} {sl0 sl1 sl2 sl3 sl4 sl5 sl6 sl7 sl8 sl9 sl10 sl11 sl12 sl13 sl14 sl15 sl16 sl17 : Array (Option Value)} {oc0 kV0 dc0 pm0 cd0 ct0 oc1 kV1 dc1 pm1 cd1 ct1 oc2 kV2 dc2 pm2 cd2 ct2 oc3 kV3 dc3 pm3 cd3 ct3 oc4 kV4 dc4 pm4 cd4 ct4 oc5 kV5 dc5 pm5 cd5 ct5 oc6 kV6 dc6 pm6 cd6 ct6 oc7 kV7 dc7 pm7 cd7 ct7 oc8 kV8 dc8 pm8 cd8 ct8 oc9 kV9 dc9 pm9 cd9 ct9 oc10 kV10 dc10 pm10 cd10 ct10 oc11 kV11 dc11 pm11 cd11 ct11 oc12 kV12 dc12 pm12 cd12 ct12 oc13 kV13 dc13 pm13 cd13 ct13 oc14 kV14 dc14 pm14 cd14 ct14 oc15 kV15 dc15 pm15 cd15 ct15 oc16 kV16 dc16 pm16 cd16 ct16 oc17 kV17 dc17 pm17 cd17 ct17 : Value} {t1 : Tok}
    (g_Kept : PySem.W.nsIn K mainGlobals "Kept" = some (some (.ref C_Kept)))
    (a0 : PySem.W.nsIn K mainGlobals "is_whole" = some (some (.ref f0)))
    (l0 : K.lookup f0 = some ⟨oc0, od0, .func (PySem.W.fnOf "is_whole" "is_whole" (defArgs s_is_whole) (defBody s_is_whole) (defScope s_is_whole) .none kV0 dc0 pm0 an0 cd0 ct0), sl0⟩)
    (c0 : PySem.W.codeIn K cd0 "is_whole" = true)
    (k0 : PySem.W.keepIn K (.ref f0) = true)
    (a1 : PySem.W.nsIn K mainGlobals "is_count" = some (some (.ref f1)))
    (l1 : K.lookup f1 = some ⟨oc1, od1, .func (PySem.W.fnOf "is_count" "is_count" (defArgs s_is_count) (defBody s_is_count) (defScope s_is_count) .none kV1 dc1 pm1 an1 cd1 ct1), sl1⟩)
    (c1 : PySem.W.codeIn K cd1 "is_count" = true)
    (k1 : PySem.W.keepIn K (.ref f1) = true)
    (a2 : PySem.W.nsIn K mainGlobals "is_between" = some (some (.ref f2)))
    (l2 : K.lookup f2 = some ⟨oc2, od2, .func (PySem.W.fnOf "is_between" "is_between" (defArgs s_is_between) (defBody s_is_between) (defScope s_is_between) .none kV2 dc2 pm2 an2 cd2 ct2), sl2⟩)
    (c2 : PySem.W.codeIn K cd2 "is_between" = true)
    (k2 : PySem.W.keepIn K (.ref f2) = true)
    (a3 : PySem.W.findIn K (.ref C_Kept) "__init__" = some (some (.ref f3)))
    (i3 : PySem.W.isFn K (.ref f3) = true)
    (l3 : K.lookup f3 = some ⟨oc3, od3, .func (PySem.W.fnOf "__init__" "Kept.__init__" (defArgs s_Kept_init) (defBody s_Kept_init) (defScope s_Kept_init) .none kV3 dc3 pm3 an3 cd3 ct3), sl3⟩)
    (c3 : PySem.W.codeIn K cd3 "Kept.__init__" = true)
    (k3 : PySem.W.keepIn K (.ref f3) = true)
    (a4 : PySem.W.findIn K (.ref C_Kept) "touch" = some (some (.ref f4)))
    (i4 : PySem.W.isFn K (.ref f4) = true)
    (l4 : K.lookup f4 = some ⟨oc4, od4, .func (PySem.W.fnOf "touch" "Kept.touch" (defArgs s_Kept_touch) (defBody s_Kept_touch) (defScope s_Kept_touch) .none kV4 dc4 pm4 an4 cd4 ct4), sl4⟩)
    (c4 : PySem.W.codeIn K cd4 "Kept.touch" = true)
    (k4 : PySem.W.keepIn K (.ref f4) = true)
    (a5 : PySem.W.nsIn K mainGlobals "need_keep" = some (some (.ref f5)))
    (l5 : K.lookup f5 = some ⟨oc5, od5, .func (PySem.W.fnOf "need_keep" "need_keep" (defArgs s_need_keep) (defBody s_need_keep) (defScope s_need_keep) .none kV5 dc5 pm5 an5 cd5 ct5), sl5⟩)
    (c5 : PySem.W.codeIn K cd5 "need_keep" = true)
    (k5 : PySem.W.keepIn K (.ref f5) = true)
    (a6 : PySem.W.nsIn K mainGlobals "need_line" = some (some (.ref f6)))
    (l6 : K.lookup f6 = some ⟨oc6, od6, .func (PySem.W.fnOf "need_line" "need_line" (defArgs s_need_line) (defBody s_need_line) (defScope s_need_line) .none kV6 dc6 pm6 an6 cd6 ct6), sl6⟩)
    (c6 : PySem.W.codeIn K cd6 "need_line" = true)
    (k6 : PySem.W.keepIn K (.ref f6) = true)
    (a7 : PySem.W.nsIn K mainGlobals "need_lines" = some (some (.ref f7)))
    (l7 : K.lookup f7 = some ⟨oc7, od7, .func (PySem.W.fnOf "need_lines" "need_lines" (defArgs s_need_lines) (defBody s_need_lines) (defScope s_need_lines) .none kV7 dc7 pm7 an7 cd7 ct7), sl7⟩)
    (c7 : PySem.W.codeIn K cd7 "need_lines" = true)
    (k7 : PySem.W.keepIn K (.ref f7) = true)
    (a8 : PySem.W.nsIn K mainGlobals "distances" = some (some (.ref f8)))
    (l8 : K.lookup f8 = some ⟨oc8, od8, .func (PySem.W.fnOf "distances" "distances" (defArgs s_distances) (defBody s_distances) (defScope s_distances) .none kV8 dc8 pm8 an8 cd8 ct8), sl8⟩)
    (c8 : PySem.W.codeIn K cd8 "distances" = true)
    (k8 : PySem.W.keepIn K (.ref f8) = true)
    (a9 : PySem.W.nsIn K mainGlobals "place_in" = some (some (.ref f9)))
    (l9 : K.lookup f9 = some ⟨oc9, od9, .func (PySem.W.fnOf "place_in" "place_in" (defArgs s_place_in) (defBody s_place_in) (defScope s_place_in) .none kV9 dc9 pm9 an9 cd9 ct9), sl9⟩)
    (c9 : PySem.W.codeIn K cd9 "place_in" = true)
    (k9 : PySem.W.keepIn K (.ref f9) = true)
    (a10 : PySem.W.nsIn K mainGlobals "counts" = some (some (.ref f10)))
    (l10 : K.lookup f10 = some ⟨oc10, od10, .func (PySem.W.fnOf "counts" "counts" (defArgs s_counts) (defBody s_counts) (defScope s_counts) .none kV10 dc10 pm10 an10 cd10 ct10), sl10⟩)
    (c10 : PySem.W.codeIn K cd10 "counts" = true)
    (k10 : PySem.W.keepIn K (.ref f10) = true)
    (a11 : PySem.W.nsIn K mainGlobals "_law_drawn" = some (some (.ref f11)))
    (l11 : K.lookup f11 = some ⟨oc11, od11, .func (PySem.W.fnOf "_law_drawn" "_law_drawn" (defArgs s_law_drawn) (defBody s_law_drawn) (defScope s_law_drawn) .none kV11 dc11 pm11 an11 cd11 ct11), sl11⟩)
    (c11 : PySem.W.codeIn K cd11 "_law_drawn" = true)
    (k11 : PySem.W.keepIn K (.ref f11) = true)
    (a12 : PySem.W.nsIn K mainGlobals "_law_whole" = some (some (.ref f12)))
    (l12 : K.lookup f12 = some ⟨oc12, od12, .func (PySem.W.fnOf "_law_whole" "_law_whole" (defArgs s_law_whole) (defBody s_law_whole) (defScope s_law_whole) .none kV12 dc12 pm12 an12 cd12 ct12), sl12⟩)
    (c12 : PySem.W.codeIn K cd12 "_law_whole" = true)
    (k12 : PySem.W.keepIn K (.ref f12) = true)
    (a13 : PySem.W.nsIn K mainGlobals "_law_lines" = some (some (.ref f13)))
    (l13 : K.lookup f13 = some ⟨oc13, od13, .func (PySem.W.fnOf "_law_lines" "_law_lines" (defArgs s_law_lines) (defBody s_law_lines) (defScope s_law_lines) .none kV13 dc13 pm13 an13 cd13 ct13), sl13⟩)
    (c13 : PySem.W.codeIn K cd13 "_law_lines" = true)
    (k13 : PySem.W.keepIn K (.ref f13) = true)
    (a14 : PySem.W.nsIn K mainGlobals "_law_far" = some (some (.ref f14)))
    (l14 : K.lookup f14 = some ⟨oc14, od14, .func (PySem.W.fnOf "_law_far" "_law_far" (defArgs s_law_far) (defBody s_law_far) (defScope s_law_far) .none kV14 dc14 pm14 an14 cd14 ct14), sl14⟩)
    (c14 : PySem.W.codeIn K cd14 "_law_far" = true)
    (k14 : PySem.W.keepIn K (.ref f14) = true)
    (a15 : PySem.W.nsIn K mainGlobals "_law_gone_through" = some (some (.ref f15)))
    (l15 : K.lookup f15 = some ⟨oc15, od15, .func (PySem.W.fnOf "_law_gone_through" "_law_gone_through" (defArgs s_law_gone_through) (defBody s_law_gone_through) (defScope s_law_gone_through) .none kV15 dc15 pm15 an15 cd15 ct15), sl15⟩)
    (c15 : PySem.W.codeIn K cd15 "_law_gone_through" = true)
    (k15 : PySem.W.keepIn K (.ref f15) = true)
    (a16 : PySem.W.nsIn K mainGlobals "_law_counted" = some (some (.ref f16)))
    (l16 : K.lookup f16 = some ⟨oc16, od16, .func (PySem.W.fnOf "_law_counted" "_law_counted" (defArgs s_law_counted) (defBody s_law_counted) (defScope s_law_counted) .none kV16 dc16 pm16 an16 cd16 ct16), sl16⟩)
    (c16 : PySem.W.codeIn K cd16 "_law_counted" = true)
    (k16 : PySem.W.keepIn K (.ref f16) = true)
    (a17 : PySem.W.nsIn K mainGlobals "law" = some (some (.ref f17)))
    (l17 : K.lookup f17 = some ⟨oc17, od17, .func (PySem.W.fnOf "law" "law" (defArgs s_law) (defBody s_law) (defScope s_law) .none kV17 dc17 pm17 an17 cd17 ct17), sl17⟩)
    (c17 : PySem.W.codeIn K cd17 "law" = true)
    (k17 : PySem.W.keepIn K (.ref f17) = true)
    (pg_Kept : PySem.W.plainGet K C_Kept Str.empty = true)
    (hd_Kept : PySem.W.hasDictIn K C_Kept = true)
    (po_Kept : PySem.W.plainOver K C_Kept = true)
    (sa_Kept : PySem.W.findIn K (.ref C_Kept) "__setattr__" = some (some (.builtin "object.__setattr__")))
    (mk_Kept : PySem.W.makesIn K C_Kept = true)
    (kc_Kept : PySem.W.keepIn K (.ref C_Kept) = true)
    (n_Kept_bound : PySem.W.findIn K (.ref C_Kept) "bound" = some none)
    (n_Kept_held : PySem.W.findIn K (.ref C_Kept) "held" = some none)
    (z0 : PySem.W.nsIn K mainGlobals "range" = some none)
    (z1 : PySem.W.nsIn K mainGlobals "len" = some none)
    (z2 : PySem.W.nsIn K mainGlobals "isinstance" = some none)
    (z3 : PySem.W.nsIn K mainGlobals "int" = some none)
    (z4 : PySem.W.nsIn K mainGlobals "bool" = some none)
    (z5 : PySem.W.nsIn K mainGlobals "list" = some none)
    (z6 : PySem.W.nsIn K mainGlobals "all" = some none)
    (z7 : PySem.W.nsIn K mainGlobals "max" = some none)
    (z8 : PySem.W.nsIn K mainGlobals "min" = some none)
    (z9 : PySem.W.nsIn K mainGlobals "reversed" = some none)
    (z10 : PySem.W.nsIn K mainGlobals "tuple" = some none)
    (z11 : PySem.W.nsIn K mainGlobals "divmod" = some none)
    (z12 : PySem.W.nsIn K mainGlobals "enumerate" = some none)
    (z13 : PySem.W.nsIn K mainGlobals "set" = some none)
    (v1 : PySem.W.nsIn K mainGlobals "MOST_KEPT" = some (some (.int 32 t1))) :
    ∃ fd : FuncData, (∀ (s : Shared) (v : Value), BindsTo s fd ⟨[v], []⟩ [("_law_script", v)]) ∧ ∀ base : Heap, K.In base → base.Ns mainGlobals mg → FnOk l.prog w K mg base CX0 14 fa fd ["_law_script"] (spLaw K) := by
  have e := hfa.symm.trans (PySem.W.mg_of X G a17)
  cases e
  have F0 := fun_mk (st := s_is_whole) l0 c0 k0
  have D0 : Df K mg "is_whole" f0 _ ["thing"] := ⟨PySem.W.mg_of X G a0, k0, F0.binds (ps := ["thing"]) fun _ _ _ _ _ _ us hl => match us, hl with | [_], _ => rfl⟩
  have F1 := fun_mk (st := s_is_count) l1 c1 k1
  have D1 : Df K mg "is_count" f1 _ ["thing"] := ⟨PySem.W.mg_of X G a1, k1, F1.binds (ps := ["thing"]) fun _ _ _ _ _ _ us hl => match us, hl with | [_], _ => rfl⟩
  have F2 := fun_mk (st := s_is_between) l2 c2 k2
  have D2 : Df K mg "is_between" f2 _ ["thing", "low", "high"] := ⟨PySem.W.mg_of X G a2, k2, F2.binds (ps := ["thing", "low", "high"]) fun _ _ _ _ _ _ us hl => match us, hl with | [_, _, _], _ => rfl⟩
  have F3 := fun_mk (st := s_Kept_init) l3 c3 k3
  have D3 : DfI K _ ["self", "most"] := ⟨F3.binds (ps := ["self", "most"]) fun _ _ _ _ _ _ us hl => match us, hl with | [_, _], _ => rfl⟩
  have F4 := fun_mk (st := s_Kept_touch) l4 c4 k4
  have D4 : DfM K C_Kept "touch" f4 _ ["self", "line"] := ⟨⟨a4, i4, k4⟩, F4.binds (ps := ["self", "line"]) fun _ _ _ _ _ _ us hl => match us, hl with | [_, _], _ => rfl⟩
  have F5 := fun_mk (st := s_need_keep) l5 c5 k5
  have D5 : Df K mg "need_keep" f5 _ ["most"] := ⟨PySem.W.mg_of X G a5, k5, F5.binds (ps := ["most"]) fun _ _ _ _ _ _ us hl => match us, hl with | [_], _ => rfl⟩
  have F6 := fun_mk (st := s_need_line) l6 c6 k6
  have D6 : Df K mg "need_line" f6 _ ["line"] := ⟨PySem.W.mg_of X G a6, k6, F6.binds (ps := ["line"]) fun _ _ _ _ _ _ us hl => match us, hl with | [_], _ => rfl⟩
  have F7 := fun_mk (st := s_need_lines) l7 c7 k7
  have D7 : Df K mg "need_lines" f7 _ ["lines"] := ⟨PySem.W.mg_of X G a7, k7, F7.binds (ps := ["lines"]) fun _ _ _ _ _ _ us hl => match us, hl with | [_], _ => rfl⟩
  have F8 := fun_mk (st := s_distances) l8 c8 k8
  have D8 : Df K mg "distances" f8 _ ["lines"] := ⟨PySem.W.mg_of X G a8, k8, F8.binds (ps := ["lines"]) fun _ _ _ _ _ _ us hl => match us, hl with | [_], _ => rfl⟩
  have F9 := fun_mk (st := s_place_in) l9 c9 k9
  have D9 : Df K mg "place_in" f9 _ ["numbers", "number"] := ⟨PySem.W.mg_of X G a9, k9, F9.binds (ps := ["numbers", "number"]) fun _ _ _ _ _ _ us hl => match us, hl with | [_, _], _ => rfl⟩
  have F10 := fun_mk (st := s_counts) l10 c10 k10
  have D10 : Df K mg "counts" f10 _ ["lines", "most"] := ⟨PySem.W.mg_of X G a10, k10, F10.binds (ps := ["lines", "most"]) fun _ _ _ _ _ _ us hl => match us, hl with | [_, _], _ => rfl⟩
  have F11 := fun_mk (st := s_law_drawn) l11 c11 k11
  have D11 : Df K mg "_law_drawn" f11 _ ["_law_cell", "_law_sizes"] := ⟨PySem.W.mg_of X G a11, k11, F11.binds (ps := ["_law_cell", "_law_sizes"]) fun _ _ _ _ _ _ us hl => match us, hl with | [_, _], _ => rfl⟩
  have F12 := fun_mk (st := s_law_whole) l12 c12 k12
  have D12 : Df K mg "_law_whole" f12 _ ["_law_found"] := ⟨PySem.W.mg_of X G a12, k12, F12.binds (ps := ["_law_found"]) fun _ _ _ _ _ _ us hl => match us, hl with | [_], _ => rfl⟩
  have F13 := fun_mk (st := s_law_lines) l13 c13 k13
  have D13 : Df K mg "_law_lines" f13 _ ["_law_script"] := ⟨PySem.W.mg_of X G a13, k13, F13.binds (ps := ["_law_script"]) fun _ _ _ _ _ _ us hl => match us, hl with | [_], _ => rfl⟩
  have F14 := fun_mk (st := s_law_far) l14 c14 k14
  have D14 : Df K mg "_law_far" f14 _ ["_law_lines_here", "_law_k"] := ⟨PySem.W.mg_of X G a14, k14, F14.binds (ps := ["_law_lines_here", "_law_k"]) fun _ _ _ _ _ _ us hl => match us, hl with | [_, _], _ => rfl⟩
  have F15 := fun_mk (st := s_law_gone_through) l15 c15 k15
  have D15 : Df K mg "_law_gone_through" f15 _ ["_law_lines_here", "_law_most", "_law_due"] := ⟨PySem.W.mg_of X G a15, k15, F15.binds (ps := ["_law_lines_here", "_law_most", "_law_due"]) fun _ _ _ _ _ _ us hl => match us, hl with | [_, _, _], _ => rfl⟩
  have F16 := fun_mk (st := s_law_counted) l16 c16 k16
  have D16 : Df K mg "_law_counted" f16 _ ["_law_lines_here", "_law_most", "_law_due", "_law_told"] := ⟨PySem.W.mg_of X G a16, k16, F16.binds (ps := ["_law_lines_here", "_law_most", "_law_due", "_law_told"]) fun _ _ _ _ _ _ us hl => match us, hl with | [_, _, _, _], _ => rfl⟩
  have F17 := fun_mk (st := s_law) l17 c17 k17
  have T_Kept : TCls K mg "Kept" C_Kept f3 ["bound", "held"] := ⟨PySem.W.mg_of X G g_Kept, ⟨pg_Kept, hd_Kept, po_Kept, sa_Kept⟩, ⟨mk_Kept, a3, i3, kc_Kept⟩, fun a ha => by
      simp only [List.mem_cons, List.not_mem_nil, or_false] at ha
      rcases ha with rfl | rfl
      · exact n_Kept_bound
      · exact n_Kept_held⟩
  have M : Blt mg := ⟨PySem.W.mg_none_of X G z0, PySem.W.mg_none_of X G z1, PySem.W.mg_none_of X G z2, PySem.W.mg_none_of X G z3, PySem.W.mg_none_of X G z4, PySem.W.mg_none_of X G z5, PySem.W.mg_none_of X G z6, PySem.W.mg_none_of X G z7, PySem.W.mg_none_of X G z8, PySem.W.mg_none_of X G z9, PySem.W.mg_none_of X G z10, PySem.W.mg_none_of X G z11, PySem.W.mg_none_of X G z12, PySem.W.mg_none_of X G z13⟩
  have C : Cst K mg t1 := ⟨PySem.W.mg_of X G v1⟩
  refine ⟨PySem.W.fnOf "law" "law" (defArgs s_law) (defBody s_law) (defScope s_law) .none kV17 dc17 pm17 an17 cd17 ct17, fun s v => .of_eq rfl, fun base _ _ => ?_⟩
  have G0 := ok_is_whole (P := l.prog) (w := w) (base := base) (k := 0) F0 M C T_Kept 
  have G9 := ok_place_in (P := l.prog) (w := w) (base := base) (k := 0) F9 M C T_Kept 
  have G11 := ok_law_drawn (P := l.prog) (w := w) (base := base) (k := 0) F11 M C T_Kept 
  have G12 := ok_law_whole (P := l.prog) (w := w) (base := base) (k := 0) F12 M C T_Kept 
  have G14 := ok_law_far (P := l.prog) (w := w) (base := base) (k := 0) F14 M C T_Kept 
  have G1 := ok_is_count (P := l.prog) (w := w) (base := base) (k := 2) F1 M C T_Kept D0 (G0.mono (by decide))
  have G2 := ok_is_between (P := l.prog) (w := w) (base := base) (k := 2) F2 M C T_Kept D0 (G0.mono (by decide))
  have G13 := ok_law_lines (P := l.prog) (w := w) (base := base) (k := 2) F13 M C T_Kept D11 (G11.mono (by decide))
  have G5 := ok_need_keep (P := l.prog) (w := w) (base := base) (k := 4) F5 M C T_Kept D2 (G2.mono (by decide))
  have G6 := ok_need_line (P := l.prog) (w := w) (base := base) (k := 4) F6 M C T_Kept D1 (G1.mono (by decide))
  have G3 := ok_Kept_init (P := l.prog) (w := w) (base := base) (k := 6) F3 M C T_Kept D5 (G5.mono (by decide))
  have G4 := ok_Kept_touch (P := l.prog) (w := w) (base := base) (k := 6) F4 M C T_Kept D6 (G6.mono (by decide))
  have G7 := ok_need_lines (P := l.prog) (w := w) (base := base) (k := 6) F7 M C T_Kept D6 (G6.mono (by decide))
  have G8 := ok_distances (P := l.prog) (w := w) (base := base) (k := 8) F8 M C T_Kept D7 (G7.mono (by decide)) D9 (G9.mono (by decide))
  have G15 := ok_law_gone_through (P := l.prog) (w := w) (base := base) (k := 8) F15 M C T_Kept D3 (G3.mono (by decide)) D4 (G4.mono (by decide))
  have G10 := ok_counts (P := l.prog) (w := w) (base := base) (k := 10) F10 M C T_Kept D8 (G8.mono (by decide)) D5 (G5.mono (by decide))
  have G16 := ok_law_counted (P := l.prog) (w := w) (base := base) (k := 10) F16 M C T_Kept D12 (G12.mono (by decide)) D15 (G15.mono (by decide))
  have G17 := ok_law (P := l.prog) (w := w) (base := base) (k := 12) F17 M C T_Kept D13 (G13.mono (by decide)) D11 (G11.mono (by decide)) D14 (G14.mono (by decide)) D8 (G8.mono (by decide)) D12 (G12.mono (by decide)) D10 (G10.mono (by decide)) D16 (G16.mono (by decide))
  exact G17
theorem walk {l : PySem.W.OpenLaw} {q : Program} {loose : List Str} {XP : (Str → Option Value) → Heap → Prop} {YP : World → Heap → Prop} {d : DefRec} {K : Params → PySem.W.Frag} (hn : l.most = some 63) (hdf : d.params.defaults = [])
    (hY : ∀ (w : World) (h : Heap), YP w h → (K w.params).In h)
    (F : ∀ (w : World) (mg : Str → Option Value) (fa : Addr) (h : Heap), (K w.params).In h → h.Ns mainGlobals mg → mg d.name = some (.ref fa) →
      ∃ fd : FuncData, (∀ (s : Shared) (u : Value), BindsTo s fd ⟨[u], []⟩ [("_law_script", u)]) ∧ ∀ base : Heap, (K w.params).In base → base.Ns mainGlobals mg → FnOk l.prog w (K w.params) mg base CX0 14 fa fd ["_law_script"] (spLaw (K w.params))) :
    PySem.W.WalkO q loose XP YP l.row.toRowW d [] (fun f vs => PySem.call f vs) :=
  L2.walk_of (n := 63) (k := 14) (x := "_law_script") (CX := fun _ => CX0) (sp := fun w => spLaw (K w.params)) hn (by decide) hdf ⟨rfl, by decide, by decide, rfl⟩ hY F (fun _ _ a ns hl _ hS => ⟨a, ns, rfl, hS, hl, fun _ => rfl⟩) fun _ _ _ _ _ z => z
end K50
open PySem PySem.W PyProof.Rows
set_option maxRecDepth 100000 in
set_option maxHeartbeats 0 in
theorem PySem.Challenge.cw_roomslaid_k50_whole_distances_holds : PySem.Challenge.rw_roomslaid_k50_whole_distances.Holds := by
  w_on; o_law; k_head; (case hw => w_witness2)
  k_fill
  refine K50.walk (l := PySem.Challenge.rw_roomslaid_k50_whole_distances) rfl rfl (fun w h Y => PySem.W.kIn_of Y) ?F
  case F =>
    intro w mg fa h KX G hmg
    refine' K50.all_mk KX G hmg ?g_Kept ?a0 ?l0 ?c0 ?k0 ?a1 ?l1 ?c1 ?k1 ?a2 ?l2 ?c2 ?k2 ?a3 ?i3 ?l3 ?c3 ?k3 ?a4 ?i4 ?l4 ?c4 ?k4 ?a5 ?l5 ?c5 ?k5 ?a6 ?l6 ?c6 ?k6 ?a7 ?l7 ?c7 ?k7 ?a8 ?l8 ?c8 ?k8 ?a9 ?l9 ?c9 ?k9 ?a10 ?l10 ?c10 ?k10 ?a11 ?l11 ?c11 ?k11 ?a12 ?l12 ?c12 ?k12 ?a13 ?l13 ?c13 ?k13 ?a14 ?l14 ?c14 ?k14 ?a15 ?l15 ?c15 ?k15 ?a16 ?l16 ?c16 ?k16 ?a17 ?l17 ?c17 ?k17 ?pg_Kept ?hd_Kept ?po_Kept ?sa_Kept ?mk_Kept ?kc_Kept ?n_Kept_bound ?n_Kept_held ?z0 ?z1 ?z2 ?z3 ?z4 ?z5 ?z6 ?z7 ?z8 ?z9 ?z10 ?z11 ?z12 ?z13 ?v1
    (case g_Kept => k_is)
    (case a0 => k_is)
    (case l0 => k_is)
    (case c0 => k_is)
    (case k0 => k_is)
    (case a1 => k_is)
    (case l1 => k_is)
    (case c1 => k_is)
    (case k1 => k_is)
    (case a2 => k_is)
    (case l2 => k_is)
    (case c2 => k_is)
    (case k2 => k_is)
    (case a3 => k_is)
    (case i3 => k_is)
    (case l3 => k_is)
    (case c3 => k_is)
    (case k3 => k_is)
    (case a4 => k_is)
    (case i4 => k_is)
    (case l4 => k_is)
    (case c4 => k_is)
    (case k4 => k_is)
    (case a5 => k_is)
    (case l5 => k_is)
    (case c5 => k_is)
    (case k5 => k_is)
    (case a6 => k_is)
    (case l6 => k_is)
    (case c6 => k_is)
    (case k6 => k_is)
    (case a7 => k_is)
    (case l7 => k_is)
    (case c7 => k_is)
    (case k7 => k_is)
    (case a8 => k_is)
    (case l8 => k_is)
    (case c8 => k_is)
    (case k8 => k_is)
    (case a9 => k_is)
    (case l9 => k_is)
    (case c9 => k_is)
    (case k9 => k_is)
    (case a10 => k_is)
    (case l10 => k_is)
    (case c10 => k_is)
    (case k10 => k_is)
    (case a11 => k_is)
    (case l11 => k_is)
    (case c11 => k_is)
    (case k11 => k_is)
    (case a12 => k_is)
    (case l12 => k_is)
    (case c12 => k_is)
    (case k12 => k_is)
    (case a13 => k_is)
    (case l13 => k_is)
    (case c13 => k_is)
    (case k13 => k_is)
    (case a14 => k_is)
    (case l14 => k_is)
    (case c14 => k_is)
    (case k14 => k_is)
    (case a15 => k_is)
    (case l15 => k_is)
    (case c15 => k_is)
    (case k15 => k_is)
    (case a16 => k_is)
    (case l16 => k_is)
    (case c16 => k_is)
    (case k16 => k_is)
    (case a17 => k_is)
    (case l17 => k_is)
    (case c17 => k_is)
    (case k17 => k_is)
    (case pg_Kept => k_is)
    (case hd_Kept => k_is)
    (case po_Kept => k_is)
    (case sa_Kept => k_is)
    (case mk_Kept => k_is)
    (case kc_Kept => k_is)
    (case n_Kept_bound => k_is)
    (case n_Kept_held => k_is)
    (case z0 => k_is)
    (case z1 => k_is)
    (case z2 => k_is)
    (case z3 => k_is)
    (case z4 => k_is)
    (case z5 => k_is)
    (case z6 => k_is)
    (case z7 => k_is)
    (case z8 => k_is)
    (case z9 => k_is)
    (case z10 => k_is)
    (case z11 => k_is)
    (case z12 => k_is)
    (case z13 => k_is)
    (case v1 => k_is)

